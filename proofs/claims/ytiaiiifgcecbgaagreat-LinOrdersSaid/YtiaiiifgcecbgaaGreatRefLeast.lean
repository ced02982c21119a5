/- The reference of layer 9: Legal, Least. -/
import Derived.Test.YtiaiiifgcecbgaaGreatRefFits
import Derived.Test.YtiaiiifgcecbgaaGreatGD
set_option linter.all false
namespace Go.Proofs.YtiaiiifgcecbgaaGreat
open Go.RowKit Go.Sort
set_option maxHeartbeats 4000000
set_option maxRecDepth 100000
theorem least_first {K : Int} {cs : List Cl} {o l : List Int} {f i : Nat} (hn : ¬ wholeM cs o) (hi : i < cs.length) (hfit : fitM K cs o (i : Int)) (hl : leastM K cs f (o ++ [(i : Int)]) = some l)
    (hlt : ∀ k : Nat, k < i → ¬ (fitM K cs o (k : Int) ∧ leastM K cs f (o ++ [(k : Int)]) ≠ none)) : leastM K cs (f + 1) o = some l := by
  conv => lhs; unfold leastM
  rw [if_neg hn, List.findSome?_eq_some_iff]
  refine ⟨List.range i, i, List.range' (i + 1) (cs.length - i - 1), ?_, by rw [if_pos hfit, hl], fun j hj => ?_⟩
  · apply List.ext_getElem?
    intro k
    by_cases h1 : k < i
    · rw [List.getElem?_append_left (by simpa using h1)]
      simp [h1, show k < cs.length by omega]
    · rw [List.getElem?_append_right (by simpa using h1)]
      by_cases h2 : k = i
      · subst h2; simp [hi]
      · rw [show k - (List.range i).length = (k - i - 1) + 1 by simp; omega, List.getElem?_cons_succ]
        by_cases h3 : k < cs.length
        · rw [List.getElem?_range' (by omega)]
          simp [h3]
          omega
        · rw [List.getElem?_eq_none (by simp; omega), List.getElem?_eq_none (by simp; omega)]
  · have hji := List.mem_range.1 hj
    by_cases hfj : fitM K cs o (j : Int)
    · rw [if_pos hfj]
      apply Classical.byContradiction
      intro hne
      exact hlt j hji ⟨hfj, hne⟩
    · rw [if_neg hfj]
theorem least_never {K : Int} {cs : List Cl} {o : List Int} {f : Nat} (hn : ¬ wholeM cs o) (hlt : ∀ k : Nat, k < cs.length → ¬ (fitM K cs o (k : Int) ∧ leastM K cs f (o ++ [(k : Int)]) ≠ none)) : leastM K cs (f + 1) o = none := by
  conv => lhs; unfold leastM
  rw [if_neg hn, List.findSome?_eq_none_iff]
  intro j hj
  have hji := List.mem_range.1 hj
  by_cases hfj : fitM K cs o (j : Int)
  · rw [if_pos hfj]
    apply Classical.byContradiction
    intro hne
    exact hlt j hji ⟨hfj, hne⟩
  · rw [if_neg hfj]
theorem least_whole {K : Int} {cs : List Cl} {o : List Int} (f : Nat) (h : wholeM cs o) : leastM K cs (f + 1) o = some o := by unfold leastM; rw [if_pos h]
theorem fits_take {K : Int} {cs : List Cl} {o : List Int} (h : fitsAll K cs o) (j : Nat) : fitsAll K cs (o.take j) := fun i x hx => by
  have hl := (List.getElem?_eq_some_iff.1 hx).1
  rw [List.length_take] at hl
  rw [List.getElem?_take_of_lt (by omega)] at hx
  rw [List.take_take, Nat.min_eq_left (by omega)]
  exact h i x hx
theorem rlegal_any (w : World) (B : Nat) (vc : Value) (K : Int) (cs : List Cl) (A : Option Addr) (o : List Int) (cap : Nat) (hC : RefCalls w B vc cs) (hn : cs.length ≤ 1000) (hrd : RdI w .i64 A o) (hcap : o.length ≤ cap) (ho : o.length ≤ 900) (hK : 1 ≤ K ∧ K ≤ 4) :
    Calls Tryz.prog 13 #[.int .i64 K, vc, .slice A o.length cap] w (BoolPost w (legalM K cs o)) := by
  have d1 : decide (K < 1) = false := decide_eq_false (by omega)
  have d2 : decide (K > 4) = false := decide_eq_false (by omega)
  have d2' : decide (4 < K) = false := decide_eq_false (by omega)
  have hwh := fun w3 (hb : Below w.heap.size w w3) => rwhole_any w3 B vc cs A o cap (hC.below hb) hn (rdi_below hrd hb) (by omega)
  have HWH := hid hwh
  have HC := hid hC
  have HR := hid hrd
  clear hC hrd hwh hK
  generalize hq : o.length = m at *
  have HM := hid hq
  clear hq
  go_enter Tryz.func13, Tryz.ntmps13
  go_wp2
  clear d1 d2 d2'
  go_loopw [7] (fun v7 wr => ∃ i : Nat, v7 = .int .i64 i ∧ 1 ≤ i ∧ i ≤ m + 1 ∧ fitsAll K cs (o.take (i - 1)) ∧ Bel w wr) (fun v7 _ => m + 1 - (intOf v7).toNat)
  case atStart => exact ⟨1, rfl, by omega, by omega, by simpa using fitsAll_nil K cs, Below.refl _ _⟩
  case round =>
    obtain ⟨i, rfl, hi1, hi2, hfit, hb⟩ := hrel
    by_cases hlt : i ≤ m
    · have htl : (o.take (i - 1)).length + 1 = i := by rw [List.length_take, HM.out]; omega
      have hsn : o.take i = o.take (i - 1) ++ [o.getD (i - 1) 0] := by
        have := take_snocI (o := o) (j := i - 1) (by rw [HM.out]; omega)
        rwa [show i - 1 + 1 = i by omega] at this
      have hrd : RdI wr .i64 A (o.take (i - 1) ++ [o.getD (i - 1) 0]) := by
        rw [← hsn]
        have h1 := rdi_below HR.out hb
        rw [← List.take_append_drop i o] at h1
        exact rdi_pre h1
      have hf := rfits_any wr B vc K cs A (o.take (i - 1)) (o.getD (i - 1) 0) cap (HC.out.below hb) hn hrd (by rw [htl]; omega) (by omega) hfit
      rw [htl] at hf
      have him : (i : Int) ≤ (m : Int) := by omega
      have hic : (i : Int) ≤ (cap : Int) := by omega
      have hic2 : i ≤ cap := by omega
      have HSN := hid hsn
      have HFIT := hid hfit
      have HB : Hid (Bel w wr) := hb
      by_cases hfx : fitM K cs (o.take (i - 1)) (o.getD (i - 1) 0)
      · have HFX := hid hfx
        have hf2 := hf.mono (fun e w' hp => hp.is true ⟨fun _ => HFX.out, fun _ => rfl⟩)
        clear hf hfx hsn hfit hb hrd htl
        go_wp2_with (go_at_call 27; (with_reducible refine hf2.mono ?_); rintro e w5 ⟨rfl, hb5⟩)
        go_roundw
        case rel => exact ⟨i + 1, by go_num, by omega, by omega, by rw [show i + 1 - 1 = i by omega, HSN.out]; exact fitsAll_snoc.2 ⟨HFIT.out, HFX.out⟩, HB.out.trans hb5⟩
        case measure => simp [intOf]; omega
      · have HFX := hid hfx
        have hf2 := hf.mono (fun e w' hp => hp.is false ⟨fun h => by simp at h, fun h => absurd h HFX.out⟩)
        clear hf hfx hsn hfit hb hrd htl
        go_wp2_with (go_at_call 27; (with_reducible refine hf2.mono ?_); rintro e w5 ⟨rfl, hb5⟩)
        go_ret
        exact .no rfl (fun h => HFX.out (by
          have h2 := fits_take h.1 i
          rw [HSN.out] at h2
          exact (fitsAll_snoc.1 h2).2)) (HB.out.trans hb5)
    · obtain rfl : i = m + 1 := by omega
      have him : ¬ ((m + 1 : Nat) : Int) ≤ (m : Int) := by omega
      have hd : decide ((m : Int) + 1 ≤ (m : Int)) = false := decide_eq_false (by omega)
      have htk : o.take (m + 1 - 1) = o := by rw [show m + 1 - 1 = m by omega, ← HM.out]; exact List.take_length
      rw [htk] at hfit
      have HFIT := hid hfit
      have HB : Hid (Bel w wr) := hb
      have hw := HWH.out wr hb
      clear hfit hb htk
      go_wp2_with (go_at_call 26; (with_reducible refine hw.mono ?_); rintro e w5 ⟨b5, rfl, hb5, hbb5⟩)
      go_ret
      exact ⟨b5, rfl, hb5.trans ⟨fun h => ⟨HFIT.out, h⟩, fun h => h.2⟩, HB.out.trans hbb5⟩
theorem rlegal_shape (w : World) (vc vo : Value) (K : Int) (hK : ¬ (1 ≤ K ∧ K ≤ 4)) :
    Calls Tryz.prog 13 #[.int .i64 K, vc, vo] w fun e w' => e = .returned (.bool false) ∧ w' = w := by
  by_cases h1 : K < 1
  · have d1 : decide (K < 1) = true := decide_eq_true h1
    clear hK
    go_enter Tryz.func13, Tryz.ntmps13
    go_wp2
    go_ret
    exact ⟨rfl, rfl⟩
  · have d1 : decide (K < 1) = false := decide_eq_false h1
    have d2 : decide (K > 4) = true := decide_eq_true (by omega)
    have d2' : decide (4 < K) = true := decide_eq_true (by omega)
    clear hK
    go_enter Tryz.func13, Tryz.ntmps13
    go_wp2
    go_ret
    exact ⟨rfl, rfl⟩
def RLeastPost (w : World) (K : Int) (cs : List Cl) (f : Nat) (o : List Int) (a : Nat) (e : Ending) (w' : World) : Prop :=
  ∃ (u : Value) (b : Bool), e = .returned (.tuple #[u, .bool b]) ∧ Below w.heap.size w w' ∧ ((b = true ∧ ∃ l, leastM K cs f o = some l ∧ RowO w' a u l) ∨ (b = false ∧ u = .slice none 0 0 ∧ leastM K cs f o = none))
def RLeastOk (K : Int) (cs : List Cl) (f : Nat) : Prop := ∀ (w : World) (B a : Nat) (vc v : Value) (o : List Int), RefCalls w B vc cs → RowO w a v o → a ≤ w.heap.size → fitsAll K cs o → cs.length < f + o.length →
  Calls Tryz.prog 10 #[.int .i64 K, vc, v] w (RLeastPost w K cs f o a)
theorem rleast_of (K : Int) (cs : List Cl) (hn : cs.length ≤ 900) (f : Nat) (ih : RLeastOk K cs f) : RLeastOk K cs (f + 1) := by
  intro w B a vc v o hC hR ha hfit hf
  have hol := fitsAll_len hfit
  obtain ⟨A, cap, rfl, hrd⟩ := hR.rdi
  obtain ⟨A0, cap0, hvc, _⟩ := hC.out (fun _ => rfl)
  have hwh := rwhole_any w B vc cs A o cap hC (by omega) hrd (by omega)
  subst hvc
  have HC := hid hC
  have HR := hid hR
  have HF := hid hfit
  have HIH := hid ih
  clear hC hR hrd hfit ih
  generalize hnn : cs.length = n at *
  have HN := hid hnn
  clear hnn
  generalize hq : o.length = m at *
  have HM := hid hq
  clear hq
  by_cases hw : wholeM cs o
  · have HW := hid hw
    have hwh2 := hwh.mono (fun e w' hp => hp.is true ⟨fun _ => HW.out, fun _ => rfl⟩)
    clear hw hwh
    go_enter Tryz.func10, Tryz.ntmps10
    go_wp2_with (go_at_call 26; (with_reducible refine hwh2.mono ?_); rintro e w1 ⟨rfl, hb1⟩)
    refine bodyPost_ret (v := .tuple #[.slice A m cap, .bool true]) (by simp [results, Tryz.results10, go_sem]) rfl ?_
    exact ⟨_, true, rfl, hb1, Or.inl ⟨rfl, o, least_whole f HW.out, HR.out.below hb1⟩⟩
  · have HW := hid hw
    have hwh2 := hwh.mono (fun e w' hp => hp.is false ⟨fun h => by simp at h, fun h => absurd h HW.out⟩)
    clear hw hwh
    go_enter Tryz.func10, Tryz.ntmps10
    go_wp2_with (go_at_call 26; (with_reducible refine hwh2.mono ?_); rintro e w1 ⟨rfl, hb1⟩)
    have HB1 : Hid (Bel w w1) := hb1
    clear hb1 hwh2
    go_loopw [8] (fun v8 wr => ∃ i : Nat, v8 = .int .i64 i ∧ i ≤ n ∧ (∀ k : Nat, k < i → ¬ (fitM K cs o (k : Int) ∧ leastM K cs f (o ++ [(k : Int)]) ≠ none)) ∧ Bel w wr) (fun v8 _ => n - (intOf v8).toNat)
    case atStart => exact ⟨0, rfl, by omega, fun k hk => absurd hk (by omega), HB1.out⟩
    case round =>
      clear HB1
      obtain ⟨i, rfl, hi, hno, hb⟩ := hrel
      by_cases hlt : i < n
      · have hRr : RowO wr a (.slice A m cap) o := HR.out.below hb
        have HNO := hid hno
        have HB : Hid (Bel w wr) := hb
        have hin : (i : Int) < (n : Int) := by omega
        have hsz : a ≤ wr.heap.size := Nat.le_trans ha (Below.size hb)
        have hm1 : m ≤ 1000000 := by omega
        clear hno hb
        go_upto_region 8 with (at_builtin; refine wpList_appO rfl _ _ rfl wr.heap.size a (.slice none 0 0) (.slice A m cap) [] o rfl rfl (RowO.none _ _) hRr (by simp) (by rw [HM.out]; exact hm1) (Nat.le_refl _) ?_; intro v3 w3 hR3 hT3 _)
        have hb3 : Below wr.heap.size wr w3 := hT3.below (B := wr.heap.size) (fun k hk => by simp [Value.ownBlock] at hk) (Nat.le_refl _)
        rw [List.nil_append] at hR3
        have hb4 : Below w3.heap.size w3 (w3.alloc (.cells #[.int .i64 i] 3)) := (Below.refl _ _).alloc (Nat.le_refl _) _
        have hR4 : RowO (w3.alloc (.cells #[.int .i64 i] 3)) wr.heap.size v3 o := hR3.below hb4
        have hN4 := Blk.new w3 3 #[.int .i64 i]
        have hS4 : RowO (w3.alloc (.cells #[.int .i64 i] 3)) w3.heap.size (.slice (some ⟨w3.heap.size, 0, none⟩) 1 1) [(i : Int)] := rowO_mkN (l := [(i : Int)]) rfl (Nat.le_refl _) hN4 (Nat.le_refl _) (by unfold maxLen; omega) rfl rfl
        have HB3 := hid (HB.out.trans hb3)
        have HB4 := hid ((HB.out.trans hb3).trans hb4)
        have hsz4 : wr.heap.size ≤ (w3.alloc (.cells #[.int .i64 i] 3)).heap.size := Nat.le_trans hb3.size hb4.size
        clear hRr hR3 hT3 hb3 hb4 hN4
        go_upto_region 9 with (at_builtin; refine wpList_appO rfl _ _ rfl wr.heap.size w3.heap.size v3 (.slice (some ⟨w3.heap.size, 0, none⟩) 1 1) o [(i : Int)] rfl rfl hR4 hS4 (by rw [HM.out]; exact hm1) (by simp) hsz4 ?_; intro v5 w5 hR5 hT5 _)
        have hb5 : Below wr.heap.size (w3.alloc (.cells #[.int .i64 i] 3)) w5 := hT5.below (B := wr.heap.size) (fun k hk => (hR4.ge k hk).1) hsz4
        have HB5 : Hid (Bel w w5) := Below.trans HB4.out (hb5.mono (Below.size HB.out))
        obtain ⟨A5, c5, rfl, hrd5⟩ := hR5.rdi
        obtain ⟨_, hc5⟩ := hR5.le
        have hml : (o ++ [(i : Int)]).length = m + 1 := by rw [List.length_append, HM.out]; rfl
        have HR5 := hid hR5
        have hf5 := rfits_any w5 B _ K cs A5 o (i : Int) c5 (HC.out.below HB5.out) (by rw [HN.out]; omega) hrd5 (by rw [HM.out]; omega) (by rw [HM.out]; omega) HF.out
        rw [HM.out] at hf5
        rw [hml]
        have hsz5 : a ≤ w5.heap.size := Nat.le_trans ha (Below.size HB5.out)
        have hwsz : wr.heap.size ≤ w5.heap.size := Nat.le_trans hsz4 hT5.size
        clear hR4 hS4 hR5 hT5 hb5 hrd5 HB3 HB4 hsz4
        by_cases hfx : fitM K cs o (i : Int)
        · have HFX := hid hfx
          have hf6 := hf5.mono (fun e w' hp => hp.is true ⟨fun _ => HFX.out, fun _ => rfl⟩)
          clear hf5 hfx
          go_upto_region 10 with (go_at_call 27; (with_reducible refine hf6.mono ?_); rintro e w6 ⟨rfl, hb6⟩)
          have HB6 : Hid (Bel w w6) := HB5.out.trans hb6
          have hrec := HIH.out w6 B wr.heap.size _ _ (o ++ [(i : Int)]) (HC.out.below HB6.out) (HR5.out.below hb6) (Nat.le_trans hwsz hb6.size) (fitsAll_snoc.2 ⟨HF.out, HFX.out⟩) (by rw [hml, HN.out]; omega)
          rw [hml] at hrec
          unfold RLeastPost at hrec
          cases hl : leastM K cs f (o ++ [(i : Int)]) with
          | none =>
            rw [hl] at hrec
            have HL := hid hl
            clear hl hf6 hb6
            go_wp2_with (go_at_call 10; (with_reducible refine hrec.mono ?_); rintro e w7 ⟨u7, b7, rfl, hb7, hc7⟩; obtain ⟨rfl, rfl, _⟩ := hc7.resolve_left (fun h => by obtain ⟨_, l, h2, _⟩ := h; simp at h2))
            go_roundw
            case rel =>
              refine ⟨i + 1, by go_num, by omega, fun k hk => ?_, HB6.out.trans hb7⟩
              by_cases e : k = i
              · subst e; exact fun h => h.2 HL.out
              · exact HNO.out k (by omega)
            case measure => simp [intOf]; omega
          | some l =>
            rw [hl] at hrec
            have HL := hid hl
            clear hl hf6 hb6
            go_wp2_with (go_at_call 10; (with_reducible refine hrec.mono ?_); rintro e w7 ⟨u7, b7, rfl, hb7, hc7⟩; obtain ⟨rfl, l', hl', hR7⟩ := hc7.resolve_right (fun h => by simp at h); obtain rfl : l = l' := by simpa using hl')
            refine bodyPost_ret (v := .tuple #[u7, .bool true]) (by simp [results, Tryz.results10, go_sem]) rfl ?_
            exact ⟨u7, true, rfl, HB6.out.trans hb7, Or.inl ⟨rfl, l, least_first HW.out (by rw [HN.out]; exact hlt) HFX.out HL.out HNO.out, hR7.mono hsz⟩⟩
        · have HFX := hid hfx
          have hf6 := hf5.mono (fun e w' hp => hp.is false ⟨fun h => by simp at h, fun h => absurd h HFX.out⟩)
          clear hf5 hfx
          go_wp2_with (go_at_call 27; (with_reducible refine hf6.mono ?_); rintro e w6 ⟨rfl, hb6⟩)
          go_roundw
          case rel =>
            refine ⟨i + 1, by go_num, by omega, fun k hk => ?_, HB5.out.trans hb6⟩
            by_cases e : k = i
            · subst e; exact fun h => HFX.out h.1
            · exact HNO.out k (by omega)
          case measure => simp [intOf]; omega
      · obtain rfl : i = n := by omega
        have HNO := hid hno
        have HB : Hid (Bel w wr) := hb
        clear hno hb
        go_wp2
        refine bodyPost_ret (v := .tuple #[.slice none 0 0, .bool false]) (by simp [results, Tryz.results10, go_sem]) rfl ?_
        exact ⟨_, false, rfl, HB.out, Or.inr ⟨rfl, rfl, least_never HW.out (fun k hk => HNO.out k (by rw [← HN.out]; exact hk))⟩⟩
theorem rleast_all (K : Int) (cs : List Cl) (hn : cs.length ≤ 900) : ∀ f : Nat, RLeastOk K cs f
  | 0 => fun w B a vc v o _ _ _ hfit hf => by
    have := fitsAll_len hfit
    omega
  | f + 1 => rleast_of K cs hn f (rleast_all K cs hn f)
end Go.Proofs.YtiaiiifgcecbgaaGreat
