/- life.Free, and Contains of the reference. -/
import Derived.Test.YtdnonnehglhjbaaLifeStep
import Derived.Test.YtdnonnehglhjbaaLifeRun
namespace Go.Proofs.Ytdnonnehglhjbaa
open Go.RowKit Go.Sort
set_option maxHeartbeats 4000000

theorem info_i (P : Program) (h : P = Try.prog) : (P.info? 3).map (fun i => (i.zero, i.size, i.bytes)) = some (some (.int .i64 0), 1, 8) := by subst h; kernel_rfl

/-- The numbers from 1 to k that are so. -/
def freeL (f : Int → Bool) : Nat → List Int
  | 0 => []
  | k + 1 => freeL f k ++ (if f ((k + 1 : Nat) : Int) then [((k + 1 : Nat) : Int)] else [])
theorem freeL_len (f : Int → Bool) : ∀ k, (freeL f k).length ≤ k
  | 0 => Nat.le_refl _
  | k + 1 => by
    have := freeL_len f k
    simp only [freeL, List.length_append]
    split <;> simp <;> omega
theorem freeL_mem (f : Int → Bool) (x : Int) : ∀ k : Nat, x ∈ freeL f k ↔ 1 ≤ x ∧ x ≤ k ∧ f x = true
  | 0 => by simp [freeL]; omega
  | k + 1 => by
    simp only [freeL, List.mem_append, freeL_mem f x k]
    by_cases h : f ((k + 1 : Nat) : Int) = true
    · rw [if_pos h]
      simp only [List.mem_singleton]
      constructor
      · rintro (⟨h1, h2, h3⟩ | rfl)
        · exact ⟨h1, by omega, h3⟩
        · exact ⟨by omega, by omega, h⟩
      · rintro ⟨h1, h2, h3⟩
        by_cases hx : x = ((k + 1 : Nat) : Int)
        · exact Or.inr hx
        · exact Or.inl ⟨h1, by omega, h3⟩
    · rw [if_neg h]
      constructor
      · rintro (⟨h1, h2, h3⟩ | h4)
        · exact ⟨h1, by omega, h3⟩
        · simp at h4
      · rintro ⟨h1, h2, h3⟩
        refine Or.inl ⟨h1, ?_, h3⟩
        have : x ≠ ((k + 1 : Nat) : Int) := fun e => h (e ▸ h3)
        omega
def FreeRel (w0 : World) (g b : Nat) (V : MV) (t n : Int) (q : Nat) (m : Nat) (i v : Value) (w : World) : Prop :=
  ∃ j : Nat, j ≤ m ∧ i = .int .i64 ((j : Int) + 1) ∧ w.ownsRow w0.heap.size 3 1 v (freeL (evenB V n) j).length ((freeL (evenB V n) j).map (Value.int .i64)) ∧ Below w0.heap.size w0 w ∧ MemAt w g b V ∧ Blk w q 26 #[.int .i64 t, .int .i64 n]

theorem free_any (g b : Nat) (V : MV) (t n : Int) (h : layR t n) (w : World) (hM : MemAt w g b V) (hV : V.okL n) :
    Calls Try.prog 17 #[.pointer (some ⟨g, 0, none⟩), .agg #[.int .i64 t, .int .i64 n]] w fun e w' => ∃ v, e = .returned v ∧ w'.ownsRow w.heap.size 3 1 v (freeL (evenB V n) n.toNat).length ((freeL (evenB V n) n.toNat).map (Value.int .i64)) ∧ Below w.heap.size w w' := by
  have hf := fun W => count_any t n h W
  obtain ⟨l1, l2, l3, l4⟩ := id h
  obtain ⟨m, hm⟩ : ∃ m : Nat, n = (m : Int) := ⟨n.toNat, by omega⟩
  have htk := fun (j : Nat) W hM (hj : j < m) => taken_any g b V t n ((j : Int) + 1) h (by unfold i64s; omega) W hM hV
  have hev : ∀ j : Nat, j < m → decide (1 ≤ (j : Int) + 1 ∧ (j : Int) + 1 ≤ n ∧ V.at (lifeA n ((j : Int) + 1)) % 2 = 1) = !(evenB V n ((j : Int) + 1)) := fun j hj => by
    unfold evenB
    rw [← decide_not]
    refine decide_eq_decide.2 ⟨fun h => by omega, fun h => ⟨by omega, by omega, ?_⟩⟩
    omega
  have hnm : n.toNat = m := by omega
  have hm2 : m ≤ 200 := by omega
  rw [hnm]
  have hgl := hM.mem.lt
  have hbl := hM.words.lt
  have hB : Blk (w.alloc (.cells #[.int .i64 t, .int .i64 n] 26)) w.heap.size 26 #[.int .i64 t, .int .i64 n] := Blk.new w 26 #[.int .i64 t, .int .i64 n]
  have hb0 := (Below.refl w.heap.size w).alloc (Nat.le_refl _) (.cells #[.int .i64 t, .int .i64 n] 26)
  have hM0 := hM.alloc (.cells #[.int .i64 t, .int .i64 n] 26)
  obtain ⟨i0, hi, hz0, hz1, hz2⟩ := info_parts (info_i _ rfl)
  have HM := hid hm
  have HF := hid hf
  have HT := hid htk
  have HE := hid hev
  clear hm hf htk hev hV hM hnm h
  go_enter Try.func17, Try.ntmps17
  go_wp2
  go_loopw [6, 5] (fun i v wr => FreeRel w g b V t n w.heap.size m i v wr) (fun i _ _ => m + 1 - (intOf i).toNat)
  case atStart => exact ⟨0, Nat.zero_le _, rfl, World.ownsRow_nil _ _ _ _, hb0, hM0, hB⟩
  case round =>
    clear hb0 hM0 hB
    obtain ⟨j, hj, rfl, hown, hbw, hM, hB⟩ := hrel
    have hsz := hbw.size
    obtain ⟨c0, c1, cf⟩ := hB.two
    go_wp2_with fail
    refine (HF.out _).mono ?_
    rintro e w1 ⟨rfl, hb1⟩
    replace hbw := hbw.trans (hb1.mono hsz)
    replace hB := hB.below hb1 hB.lt
    replace hM := hM.below_ hb1
    replace hown := row_below hown hb1
    replace hsz := hbw.size
    clear c0 c1 cf
    obtain ⟨c0, c1, cf⟩ := hB.two
    by_cases hlt : j < m
    · have g1 : decide ((j : Int) + 1 ≤ n) = true := decide_eq_true (by have := HM.out; omega)
      have htk := HT.out j w1 hM hlt
      rw [HE.out j hlt] at htk
      go_wp2_with fail
      refine htk.mono ?_
      rintro e w2 ⟨rfl, hb2⟩
      replace hbw := hbw.trans (hb2.mono hsz)
      replace hB := hB.below hb2 hB.lt
      replace hM := hM.below_ hb2
      replace hown := row_below hown hb2
      replace hsz := hbw.size
      have hll := freeL_len (evenB V n) j
      clear htk hb1 hb2 c0 c1 cf
      cases hv : evenB V n ((j : Int) + 1)
      · have hfl : freeL (evenB V n) (j + 1) = freeL (evenB V n) j := by
          have : evenB V n ((j + 1 : Nat) : Int) = false := by rw [← hv]; rfl
          simp only [freeL, this]; simp
        rw [← hfl] at hown
        have HV := hid hv
        clear hv hfl
        go_wp2
        go_roundw
        case rel => exact ⟨j + 1, by omega, by go_num, hown, hbw, hM, hB⟩
        case measure => simp [intOf]; omega
      · have hfl : freeL (evenB V n) (j + 1) = freeL (evenB V n) j ++ [(j : Int) + 1] := by
          have : evenB V n ((j + 1 : Nat) : Int) = true := by rw [← hv]; rfl
          simp only [freeL, this]; simp
        have HL := hid hfl
        clear hfl hv
        generalize freeL (evenB V n) j = L at *
        go_wp2_with (at_builtin; refine wpList_append_own _ rfl _ _ 42 rfl w.heap.size 3 i0 (.int .i64 0) 1 8 Try.underlying42 hi hz0 hz1 hz2 rfl (by decide) _ _ _ rfl (hown.alloc _) ⟨w2.heap.size, 0, none⟩ 1 1 [.int .i64 ((j : Int) + 1)] rfl rfl ?c1 ?c2 ?c3 ?c4 ?c5 ?_)
        try (case c1 => exact cell_one_new _ _ _)
        case c2 => simp [Value.oneCell']
        case c3 => unfold maxLen; omega
        case c4 => omega
        case c5 => first | omega | (simp; omega)
        intro v' w' hown' hgrow _
        have hown2 := hown.alloc (.cells #[.int .i64 ((j : Int) + 1)] 3)
        have hM2 := hM.alloc (.cells #[.int .i64 ((j : Int) + 1)] 3)
        have hB2 := hB.alloc (.cells #[.int .i64 ((j : Int) + 1)] 3)
        have hM' : MemAt w' g b V := ⟨hM2.mem.grown hgrow (hM2.mem.own_ne hown2 (by decide)), hM2.words.grown hgrow (hM2.words.own_ne hown2 (by decide)), hM.ne⟩
        have hB' := hB2.grown hgrow (hB2.own_ne hown2 (by decide))
        have hbw' := (hbw.alloc hsz (.cells #[.int .i64 ((j : Int) + 1)] 3)).grown hgrow (by simp; omega) (fun k hk => ownsRow_ge hown hk)
        clear hown hown2 hgrow hbw hM hB hM2 hB2
        have hmap : L.map (Value.int .i64) ++ [.int .i64 ((j : Int) + 1)] = (L ++ [(j : Int) + 1]).map (Value.int .i64) := by simp
        have hlen : L.length + 1 = (L ++ [(j : Int) + 1]).length := by simp
        rw [hmap, hlen, ← HL.out] at hown'
        clear hmap hlen
        go_wp2
        go_roundw
        case rel => exact ⟨j + 1, by omega, by go_num, hown', hbw', hM', hB'⟩
        case measure => simp [intOf]; omega
    · obtain rfl : j = m := by omega
      have g1 : decide ((j : Int) + 1 ≤ n) = false := decide_eq_false (by have := HM.out; omega)
      go_wp2
      go_ret
      exact ⟨_, rfl, hown, hbw⟩

def ContRel (w0 : World) (l : List Int) (x : Int) (i : Value) (w : World) : Prop :=
  ∃ j : Nat, j ≤ l.length ∧ i = .int .i64 j ∧ x ∉ l.take j ∧ Below w0.heap.size w0 w

theorem contains_any (A : Option Addr) (l : List Int) (c : Nat) (x : Int) (w : World) (hl : l.length ≤ 1000000) (hA : RdI w .i64 A l) :
    Calls Try.prog 16 #[.slice A l.length c, .int .i64 x] w fun e w' => e = .returned (.bool (decide (x ∈ l))) ∧ Below w.heap.size w w' := by
  have HA := hid hA
  clear hA
  obtain ⟨r, hr⟩ : ∃ r, r = decide (x ∈ l) := ⟨_, rfl⟩
  rw [← hr]
  have HR := hid hr
  clear hr
  go_enter Try.func16, Try.ntmps16
  go_wp2
  go_loopw [5] (fun i wr => ContRel w l x i wr) (fun i _ => l.length - (intOf i).toNat)
  case atStart => exact ⟨0, Nat.zero_le _, rfl, by simp, Below.refl _ _⟩
  case round =>
    obtain ⟨j, hj, rfl, ht, hbw⟩ := hrel
    have HT := hid ht
    clear ht
    by_cases hlt : j < l.length
    · obtain ⟨b1, o1, rfl, hb1, hc1⟩ := HA.out.resolve_left (fun h => by subst h; simp at hlt)
      have x1 := hc1 j hlt
      rw [← hbw.cell (p := ⟨b1, o1 + j, none⟩) hb1] at x1
      clear hc1
      by_cases he : l.getD j 0 = x
      · have hq : (l.getD j 0 == x) = true := beq_iff_eq.2 he
        have hin : decide (x ∈ l) = true := decide_eq_true (by rw [← he, List.getD_eq_getElem?_getD, List.getElem?_eq_getElem hlt]; exact List.getElem_mem hlt)
        obtain rfl : r = true := by rw [HR.out, hin]
        clear he hin
        generalize l.getD j 0 = y at *
        go_wp2
        go_ret
        exact ⟨rfl, hbw⟩
      · have hq : (l.getD j 0 == x) = false := beq_eq_false_iff_ne.2 he
        have HN := hid (show x ∉ l.take (j + 1) from by
          rw [List.take_succ_eq_append_getElem hlt, List.mem_append]
          rintro (h | h)
          · exact HT.out h
          · simp at h
            exact he (by simp [List.getD, hlt, h]))
        clear he
        generalize l.getD j 0 = y at *
        go_wp2
        go_roundw
        case rel => exact ⟨j + 1, by omega, by go_num, HN.out, hbw⟩
        case measure => simp [intOf]; omega
    · have hin : decide (x ∈ l) = false := decide_eq_false (by have := HT.out; rwa [List.take_of_length_le (by omega)] at this)
      obtain rfl : r = false := by rw [HR.out, hin]
      clear hin
      go_wp2
      go_ret
      exact ⟨rfl, hbw⟩
end Go.Proofs.Ytdnonnehglhjbaa
