/- Who gives nodes back: its step, and mem.Run of it. -/
import Derived.Test.YtcfoinophfakhaaCloneInt
import Derived.Test.YtcfoinophfakhaaLifeRun
namespace Go.Proofs.Ytcfoinophfakhaa
open Go.RowKit Go.Sort
set_option maxHeartbeats 4000000

theorem gstep_any (g b p nb : Nat) (L : Array Value) (V : MV) (t n x : Int) (r : List Int) (w : World) (h : layR t n) (hx : smallI x) (hM : MemAt w g b V) (ha : actsOk V) (hG : GiveAt w p nb L t n (x :: r) false) (hr : r.length ≤ 1000000) (h1 : p ≠ g) (h2 : p ≠ b) (h3 : nb ≠ g) (h4 : nb ≠ b) (h5 : nb ≠ p) :
    Calls Try.prog 47 #[.pointer (some ⟨p, 0, none⟩), .pointer (some ⟨g, 0, none⟩)] w fun e w' => e = .returned (.bool (decide (r.length = 0))) ∧ MemAt w' g b (V.add (lifeA n x) 1) ∧ GiveAt w' p nb L t n r (decide (r.length = 0)) ∧ Touch (three g b p) w w' := by
  obtain ⟨l1, l2, l3, l4⟩ := id h
  obtain ⟨hN, off, cap, hcap, hB, hcs⟩ := hG
  simp only [List.length_cons] at hcap hcs hB
  have hlf := fun W => life_any t n x ⟨by omega, by omega⟩ ⟨by omega, by omega⟩ hx W
  have had := fun W hM => add_any g b V (lifeA n x) 1 W hM ha
  unfold lifeA at *
  have hx0 := hcs 0 (by omega)
  have hx0c : w.cell? ⟨nb, off, none⟩ = some (.int .i64 x) := by rw [hN.cell]; simpa using hx0
  have HCS := hid hcs
  clear hcs hx0
  have hpl := hB.lt
  have hnl := hN.lt
  obtain ⟨c0, c1, c2, c3, cf⟩ := hB.four_
  have hz : (((r.length + 1 : Nat) : Int) == 0) = false := beq_eq_false_iff_ne.2 (by omega)
  generalize V.add (4 + n + x) 1 = V2 at *
  have hq : decide (r.length = 0) = ((r.length : Int) == 0) := by by_cases h : r.length = 0 <;> simp [h]
  rw [hq]
  clear hq
  go_enter Try.func47, Try.ntmps47
  go_wp2
  go_region_held3 (fun w' => w'.cell? ⟨p, 0, none⟩ = some (.int .i64 t) ∧ w'.cell? ⟨p, 1, none⟩ = some (.int .i64 n) ∧ w'.cell? ⟨p, 2, none⟩ = some (.slice (some ⟨nb, off, none⟩) (r.length + 1) cap) ∧ w'.cell? ⟨nb, off, none⟩ = some (.int .i64 x))
    (first | go_keep | exact ⟨d0, d1, d2, d4⟩ | exact ⟨e0, e1, e2, e4⟩)
    (first | (go_at_call 15; (with_reducible refine (hlf _).mono ?_); rintro e w1 ⟨rfl, hb1⟩; have hM1 : MemAt w1 g b V := (hM.drewN 1).below_ hb1; have hB1 : Blk w1 p 86 #[.int .i64 t, .int .i64 n, .slice (some ⟨nb, off, none⟩) (r.length + 1) cap, .bool false] := (hB.drewN 1).below hb1 hpl; have hN1 : Blk w1 nb 3 L := (hN.drewN 1).below hb1 hnl; obtain ⟨d0, d1, d2, d3, df⟩ := hB1.four_; have d4 : w1.cell? ⟨nb, off, none⟩ = some (.int .i64 x) := by rw [hN1.cell, ← hN.cell]; exact hx0c)
           | (go_at_call 14; (with_reducible refine (had _ hM1).mono ?_); rintro e w2 ⟨rfl, hM2, hT2⟩; have hB2 := hB1.touch hT2 (not_two h1 h2); have hN2 := hN1.touch hT2 (not_two h3 h4); obtain ⟨e0, e1, e2, e3, ef⟩ := hB2.four_; have e4 : w2.cell? ⟨nb, off, none⟩ = some (.int .i64 x) := by rw [hN2.cell, ← hN1.cell]; exact d4))
  rename_i hheld
  have hw1 : Below w.heap.size w w1 := ⟨hb1.os, hb1.tape, hb1.output, hb1.size, hb1.block⟩
  have hT3 : Touch (three g b p) w w2 := ((Touch.of_below (S := three g b p) hw1).trans (hT2.mono (fun _ _ h => Or.inl h)))
  clear hheld c0 c1 c2 c3 cf d0 d1 d2 d3 d4 df hlf had hb1 hM1 hB1 hN1 hT2 hw1 hM hB hN hx0c e4
  by_cases hc1 : cap = 1
  · subst hc1
    obtain rfl : r = [] := List.length_eq_zero_iff.1 (by omega)
    simp only [List.length_nil] at *
    have hB3 := (hB2.set_ 2 (.slice (some ⟨nb, off, none⟩) 0 0)).set_ 3 (.bool true)
    simp only [List.setIfInBounds_toArray, List.set_cons_zero, List.set_cons_succ] at hB3
    have hT4 := (hT3.setCell (p := ⟨p, 2, none⟩) (fun _ => Or.inr rfl) (.slice (some ⟨nb, off, none⟩) 0 0)).setCell (p := ⟨p, 3, none⟩) (fun _ => Or.inr rfl) (.bool true)
    have hM4 : MemAt ((w2.setCell ⟨p, 2, none⟩ (.slice (some ⟨nb, off, none⟩) 0 0)).setCell ⟨p, 3, none⟩ (.bool true)) g b V2 := ⟨(hM2.mem.far (Ne.symm h1) _).far (Ne.symm h1) _, (hM2.words.far (Ne.symm h2) _).far (Ne.symm h2) _, hM2.ne⟩
    have hN4 := (hN2.far (p := ⟨p, 2, none⟩) h5 (.slice (some ⟨nb, off, none⟩) 0 0)).far (p := ⟨p, 3, none⟩) h5 (.bool true)
    clear hB2 hN2 hM2 hT3
    go_wp2
    go_ret
    exact ⟨rfl, hM4, ⟨hN4, off, 0, Nat.le_refl _, hB3, fun i hi => absurd hi (by simp)⟩, hT4⟩
  · have hB3 := (hB2.set_ 2 (.slice (some ⟨nb, off + 1, none⟩) r.length (cap - 1))).set_ 3 (.bool (((r.length : Nat) : Int) == 0))
    simp only [List.setIfInBounds_toArray, List.set_cons_zero, List.set_cons_succ] at hB3
    have hT4 := (hT3.setCell (p := ⟨p, 2, none⟩) (fun _ => Or.inr rfl) (.slice (some ⟨nb, off + 1, none⟩) r.length (cap - 1))).setCell (p := ⟨p, 3, none⟩) (fun _ => Or.inr rfl) (.bool (((r.length : Nat) : Int) == 0))
    have hM4 : MemAt ((w2.setCell ⟨p, 2, none⟩ (.slice (some ⟨nb, off + 1, none⟩) r.length (cap - 1))).setCell ⟨p, 3, none⟩ (.bool (((r.length : Nat) : Int) == 0))) g b V2 := ⟨(hM2.mem.far (Ne.symm h1) _).far (Ne.symm h1) _, (hM2.words.far (Ne.symm h2) _).far (Ne.symm h2) _, hM2.ne⟩
    have hN4 := (hN2.far (p := ⟨p, 2, none⟩) h5 (.slice (some ⟨nb, off + 1, none⟩) r.length (cap - 1))).far (p := ⟨p, 3, none⟩) h5 (.bool (((r.length : Nat) : Int) == 0))
    clear hB2 hN2 hM2 hT3
    go_wp2
    go_ret
    refine ⟨rfl, hM4, ⟨hN4, off + 1, cap - 1, by omega, hB3, fun i hi => ?_⟩, hT4⟩
    have := HCS.out (i + 1) (by omega)
    rw [show off + 1 + i = off + (i + 1) by omega, this]
    simp [List.getD]

theorem gstep_nil (g b p : Nat) (V : MV) (t n : Int) (w : World) (hM : MemAt w g b V) (ha : actsOk V) (hB : Blk w p 86 #[.int .i64 t, .int .i64 n, .slice none 0 0, .bool false]) (h1 : p ≠ g) (h2 : p ≠ b) :
    Calls Try.prog 47 #[.pointer (some ⟨p, 0, none⟩), .pointer (some ⟨g, 0, none⟩)] w fun e w' => e = .returned (.bool true) ∧ MemAt w' g b (V.load 0) ∧ Blk w' p 86 #[.int .i64 t, .int .i64 n, .slice none 0 0, .bool true] ∧ Touch (three g b p) w w' := by
  have hld := load_any g b V 0 w hM ha
  have hpl := hB.lt
  obtain ⟨c0, c1, c2, c3, cf⟩ := hB.four_
  generalize V.load 0 = V2 at *
  clear ha
  go_enter Try.func47, Try.ntmps47
  go_wp2_with fail
  refine hld.mono ?_
  rintro e w2 ⟨rfl, hM2, hT2⟩
  have hB2 := hB.touch hT2 (not_two h1 h2)
  have hT3 : Touch (three g b p) w (w2.setCell ⟨p, 3, none⟩ (.bool true)) := (hT2.mono (T := three g b p) (fun _ _ h => Or.inl h)).setCell (p := ⟨p, 3, none⟩) (fun _ => Or.inr rfl) (.bool true)
  have hM3 : MemAt (w2.setCell ⟨p, 3, none⟩ (.bool true)) g b V2 := ⟨hM2.mem.far (Ne.symm h1) _, hM2.words.far (Ne.symm h2) _, hM2.ne⟩
  have hB3 := hB2.set_ 3 (.bool true)
  simp only [List.setIfInBounds_toArray, List.set_cons_zero, List.set_cons_succ] at hB3
  clear c0 c1 c2 c3 cf hld hM hB hT2 hM2
  obtain ⟨c0, c1, c2, c3, cf⟩ := hB2.four_
  clear hB2
  go_wp2
  go_ret
  exact ⟨rfl, hM3, hB3, hT3⟩

/-- Memory when these are given back. -/
def giveAll (n : Int) : MV → List Int → MV
  | V, [] => V
  | V, x :: r => giveAll n (V.add (lifeA n x) 1) r
theorem giveAll_facts (n : Int) : ∀ (l : List Int) (V : MV), (giveAll n V l).ws.length = V.ws.length ∧ (giveAll n V l).a = V.a + l.length ∧ (∀ i, lifeA n i ∉ l.map (lifeA n) → (giveAll n V l).at (lifeA n i) = V.at (lifeA n i)) ∧
    (l.Nodup → ∀ i ∈ l, V.has (lifeA n i) → (giveAll n V l).at (lifeA n i) = (V.at (lifeA n i) + 1) % 18446744073709551616)
  | [], V => ⟨rfl, by simp [giveAll], fun _ _ => rfl, fun _ i hi => by simp at hi⟩
  | x :: r, V => by
    obtain ⟨h1, h2, h3, h4⟩ := giveAll_facts n r (V.add (lifeA n x) 1)
    refine ⟨by simp only [giveAll]; rw [h1, MV.add_len], by simp only [giveAll]; rw [h2, MV.add_a]; simp; omega, fun i hi => ?_, fun hd i hi hh => ?_⟩
    · simp only [giveAll]
      simp only [List.map_cons, List.mem_cons, not_or] at hi
      rw [h3 i hi.2, MV.add_at, if_neg (fun h => hi.1 h.2)]
    · simp only [giveAll]
      rw [List.nodup_cons] at hd
      rcases List.mem_cons.1 hi with rfl | hir
      · rw [h3 i (fun hc => by
          obtain ⟨y, hy, hyi⟩ := List.mem_map.1 hc
          have : y = i := by unfold lifeA at hyi; omega
          exact hd.1 (this ▸ hy)), MV.add_at, if_pos ⟨hh, rfl⟩]
      · have hne : i ≠ x := fun e => hd.1 (e ▸ hir)
        rw [h4 hd.2 i hir ((MV.has_of_len (MV.add_len ..)).2 hh), MV.add_at, if_neg (fun h => hne (by unfold lifeA at h; omega))]

theorem gstep_ended (g p : Nat) (v : Value) (t n : Int) (w : World) (hB : Blk w p 86 #[.int .i64 t, .int .i64 n, v, .bool true]) :
    Calls Try.prog 47 #[.pointer (some ⟨p, 0, none⟩), .pointer (some ⟨g, 0, none⟩)] w fun e w' => e = .returned (.bool true) ∧ w' = w := by
  obtain ⟨c0, c1, c2, c3, cf⟩ := hB.four_
  go_enter Try.func47, Try.ntmps47
  go_wp2
  go_ret
  exact ⟨rfl, rfl⟩

/-- Its step, as Run sees it. -/
def gstepF (n : Int) (_ : Nat) (s : MV × List Int) : (MV × List Int) × Bool :=
  match s.2 with
  | [] => (s, true)
  | x :: r => ((s.1.add (lifeA n x) 1, r), decide (r.length = 0))

theorem give_runs (n most : Int) : ∀ (r : List Int) (V : MV) (q : Int), 0 < r.length → q + r.length ≤ most → RunsTo (gstepF n) 1 most (giveAll n V r, []) (q + r.length) true 0 (V, r) q
  | [], _, _, h, _ => absurd h (by simp)
  | [x], V, q, _, h => by
    simp at h
    refine .last (by omega) (by omega) rfl ?_
    exact .done (by omega) (by simp) rfl
  | x :: y :: r, V, q, _, h => by
    simp at h
    have ih := give_runs n most (y :: r) (V.add (lifeA n x) 1) (q + 1) (by simp) (by simp; omega)
    refine .more (by omega) (by omega) (by simp [gstepF]) ?_
    have e : q + ((x :: y :: r).length : Int) = q + 1 + ((y :: r).length : Int) := by simp; omega
    rw [e]
    exact ih

/-- What holds between two steps of who gives. -/
structure GiveInv (g b p nb : Nat) (L : Array Value) (t n : Int) (a0 : Int) (q : Int) (s : MV × List Int) (w : World) : Prop where
  mem : MemAt w g b s.1
  give : GiveAt w p nb L t n s.2 (decide (s.2.length = 0))
  lo : a0 ≤ s.1.a
  hi : s.1.a ≤ a0 + q
  small : ∀ x ∈ s.2, smallI x
  len : s.2.length ≤ 1000

theorem give_step (g b p nb : Nat) (L : Array Value) (t n a0 : Int) (h : layR t n) (ha : 0 ≤ a0 ∧ a0 ≤ 1000000000) (h1 : p ≠ g) (h2 : p ≠ b) (h3 : nb ≠ g) (h4 : nb ≠ b) (h5 : nb ≠ p) (q : Int) (hq : 0 ≤ q ∧ q ≤ 1000000) (s : MV × List Int) (w : World) (hI : GiveInv g b p nb L t n a0 q s w) :
    Calls Try.prog 47 #[.pointer (some ⟨p, 0, none⟩), .pointer (some ⟨g, 0, none⟩)] w fun e w' => e = .returned (.bool (gstepF n 0 s).2) ∧ GiveInv g b p nb L t n a0 (q + 1) (gstepF n 0 s).1 w' ∧ Touch (three g b p) w w' := by
  obtain ⟨V, r⟩ := s
  obtain ⟨i1, i2, i3, i4, i5, i6⟩ := hI
  simp only at i1 i2 i3 i4 i5 i6
  match r, i2, i5, i6 with
  | [], i2, i5, i6 =>
    obtain ⟨_, off, cp, _, hB, _⟩ := id i2
    refine (gstep_ended g p (.slice (some ⟨nb, off, none⟩) 0 cp) t n w (by simpa using hB)).mono ?_
    rintro e w' ⟨rfl, rfl⟩
    exact ⟨rfl, ⟨i1, i2, i3, by show V.a ≤ _; omega, i5, i6⟩, Touch.refl _ _⟩
  | x :: r, i2, i5, i6 =>
    refine (gstep_any g b p nb L V t n x r w h (i5 x (by simp)) i1 (by unfold actsOk; omega) (by simpa using i2) (by simp at i6; omega) h1 h2 h3 h4 h5).mono ?_
    rintro e w' ⟨rfl, m1, m2, m3⟩
    exact ⟨rfl, ⟨m1, m2, by show a0 ≤ (V.add _ _).a; rw [MV.add_a]; omega, by show (V.add _ _).a ≤ _; rw [MV.add_a]; omega, fun y hy => i5 y (List.mem_cons_of_mem _ hy), by simp at i6; show r.length ≤ 1000; omega⟩, m3⟩

theorem run_give (g b p nb rb : Nat) (L : Array Value) (V : MV) (t n most : Int) (l : List Int) (cap : Nat) (w : World) (h : layR t n) (hl : 0 < l.length) (hl2 : l.length ≤ 1000) (hx : ∀ x ∈ l, smallI x) (hM : MemAt w g b V) (hG : GiveAt w p nb L t n l false) (hR : Blk w rb 74 #[.iface 47 (.pointer (some ⟨p, 0, none⟩))])
    (ha : 0 ≤ V.a ∧ V.a ≤ 1000000000) (h1 : most ≤ 1000000) (h2 : l.length ≤ most) :
    Calls Try.prog 17 #[.pointer (some ⟨g, 0, none⟩), .int .i64 most, .slice (some ⟨rb, 0, none⟩) 1 cap] w fun e w' =>
      e = .returned (.tuple #[.int .i64 l.length, .bool true]) ∧ MemAt w' g b (giveAll n V l) ∧ Touch (three g b p) w w' := by
  have hrun := give_runs n most l V 0 hl (by omega)
  rw [Int.zero_add] at hrun
  have hpg : p ≠ g := by obtain ⟨hN, off, cp, hcap, hB, hcs⟩ := id hG; exact hB.ne hM.mem (by decide)
  have hpb : p ≠ b := by obtain ⟨hN, off, cp, hcap, hB, hcs⟩ := id hG; exact hB.ne hM.words (by decide)
  have hng : nb ≠ g := hG.1.ne hM.mem (by decide)
  have hnb : nb ≠ b := hG.1.ne hM.words (by decide)
  have hnp : nb ≠ p := by obtain ⟨hN, off, cp, hcap, hB, hcs⟩ := id hG; exact hN.ne hB (by decide)
  have hrg : rb ≠ g := hR.ne hM.mem (by decide)
  have hrb : rb ≠ b := hR.ne hM.words (by decide)
  have hrp : rb ≠ p := by obtain ⟨hN, off, cp, hcap, hB, hcs⟩ := id hG; exact hR.ne hB (by decide)
  have hI0 : GiveInv g b p nb L t n V.a 0 (V, l) w := ⟨hM, by rw [decide_eq_false (by show ¬ l.length = 0; omega)]; exact hG, Int.le_refl _, by show V.a ≤ V.a + 0; omega, hx, hl2⟩
  have hstep : ∀ (i : Nat) (q : Int) (s : MV × List Int) (w' : World), i < 1 → 0 ≤ q → q < most → GiveInv g b p nb L t n V.a q s w' → Touch (three g b p) w w' →
      Calls Try.prog 47 #[.pointer (some ⟨[p].getD i 0, 0, none⟩), .pointer (some ⟨g, 0, none⟩)] w' fun e w'' => e = .returned (.bool (gstepF n i s).2) ∧ GiveInv g b p nb L t n V.a (q + 1) (gstepF n i s).1 w'' ∧ Touch (three g b p) w' w'' := fun i q s w' hi hq0 hq1 hI _ => by
    obtain rfl : i = 0 := by omega
    exact give_step g b p nb L t n V.a h ha hpg hpb hng hnb hnp q ⟨hq0, by omega⟩ s w' hI
  have hfin := run_any (GiveInv g b p nb L t n V.a) (three g b p) (gstepF n) 1 most (giveAll n V l, []) l.length true w 47 47 [p] rfl (.pointer (some ⟨g, 0, none⟩)) (some ⟨rb, 0, none⟩) rb cap (by omega) (by omega) (V, l)
    (fun N a w => by kernel_rfl) (fun _ _ => enters_f Try.func47 (by kernel_rfl) rfl _ _) (Or.inr rfl)
    (fun k hk => by
      obtain rfl : k = 0 := by omega
      rw [hR.cell]; rfl)
    (fun _ => hR.lt) (fun _ hc => by
      rcases hc with (h | h) | h
      · exact hrg h
      · exact hrb h
      · exact hrp h) hstep hI0 hrun
  refine hfin.mono ?_
  rintro e w' ⟨rfl, hI, hT⟩
  exact ⟨rfl, hI.mem, hT⟩

theorem run_give0 (g b p rb : Nat) (V : MV) (t n most : Int) (cap : Nat) (w : World) (hM : MemAt w g b V) (hB : Blk w p 86 #[.int .i64 t, .int .i64 n, .slice none 0 0, .bool false]) (hR : Blk w rb 74 #[.iface 47 (.pointer (some ⟨p, 0, none⟩))])
    (ha : 0 ≤ V.a ∧ V.a ≤ 1000000000) (h1 : 1 ≤ most ∧ most ≤ 1000000) :
    Calls Try.prog 17 #[.pointer (some ⟨g, 0, none⟩), .int .i64 most, .slice (some ⟨rb, 0, none⟩) 1 cap] w fun e w' =>
      e = .returned (.tuple #[.int .i64 1, .bool true]) ∧ MemAt w' g b (V.load 0) ∧ Touch (three g b p) w w' := by
  have hpg : p ≠ g := hB.ne hM.mem (by decide)
  have hpb : p ≠ b := hB.ne hM.words (by decide)
  have hrg : rb ≠ g := hR.ne hM.mem (by decide)
  have hrb : rb ≠ b := hR.ne hM.words (by decide)
  have hrp : rb ≠ p := hR.ne hB (by decide)
  have hrun : RunsTo (fun (_ : Nat) (s : MV × Bool) => (if s.2 then s else (s.1.load 0, true), true)) 1 most (V.load 0, true) 1 true 0 (V, false) 0 :=
    .last (by omega) (by omega) rfl (.done (by omega) rfl rfl)
  have hfin := run_any (fun _ (s : MV × Bool) w' => MemAt w' g b s.1 ∧ actsOk V ∧ (s.2 = false → s.1 = V) ∧ Blk w' p 86 #[.int .i64 t, .int .i64 n, .slice none 0 0, .bool s.2]) (three g b p) (fun (_ : Nat) (s : MV × Bool) => (if s.2 then s else (s.1.load 0, true), true)) 1 most (V.load 0, true) 1 true w 47 47 [p] rfl (.pointer (some ⟨g, 0, none⟩)) (some ⟨rb, 0, none⟩) rb cap (by omega) (by omega) (V, false)
    (fun N a w => by kernel_rfl) (fun _ _ => enters_f Try.func47 (by kernel_rfl) rfl _ _) (Or.inr rfl)
    (fun k hk => by
      obtain rfl : k = 0 := by omega
      rw [hR.cell]; rfl)
    (fun _ => hR.lt) (fun _ hc => by
      rcases hc with (h | h) | h
      · exact hrg h
      · exact hrb h
      · exact hrp h)
    (fun i q s w' hi hq0 hq1 hI _ => by
      obtain rfl : i = 0 := by omega
      obtain ⟨X, d⟩ := s
      obtain ⟨i1, i2, i3, i4⟩ := hI
      cases d
      · obtain rfl : X = V := i3 rfl
        refine (gstep_nil g b p X t n w' i1 i2 i4 hpg hpb).mono ?_
        rintro e w'' ⟨rfl, m1, m2, m3⟩
        exact ⟨rfl, ⟨m1, i2, fun h => by simp at h, m2⟩, m3⟩
      · refine (gstep_ended g p _ t n w' i4).mono ?_
        rintro e w'' ⟨rfl, rfl⟩
        exact ⟨rfl, ⟨i1, i2, fun h => by simp at h, i4⟩, Touch.refl _ _⟩)
    ⟨hM, by unfold actsOk; omega, fun _ => rfl, hB⟩ hrun
  refine hfin.mono ?_
  rintro e w' ⟨rfl, hI, hT⟩
  exact ⟨rfl, hI.1, hT⟩
end Go.Proofs.Ytcfoinophfakhaa
