/- lin: Order, Linear. -/
import Derived.Test.YtiaiiifgcecbgaaGreatGU
import Derived.Test.YtiaiiifgcecbgaaGreatSrchLeast
import Derived.Test.YtiaiiifgcecbgaaGreatGB
import Derived.Test.YtiaiiifgcecbgaaGreatGV
import Derived.Test.YtiaiiifgcecbgaaGreatGH
set_option linter.all false
namespace Go.Proofs.YtiaiiifgcecbgaaGreat
open Go.RowKit Go.Sort
set_option maxHeartbeats 4000000
set_option maxRecDepth 100000
theorem cAt_mem {cs : List Cl} {i : Nat} (h : i < cs.length) : cAt cs i ∈ cs := List.mem_of_getElem? (callAt_get h)
/-- What a history's calls are. -/
theorem hok_wf {l : List Ev} : wfP (callsL l) := fun _ hi he => callsL_gt l _ (cAt_mem hi) he
theorem hok_sm {l : List Ev} (h : Hok l) (hl : l.length ≤ 900) : ∀ i, i < (callsL l).length → (cAt (callsL l) i).b < 1000 ∧ -1 ≤ (cAt (callsL l) i).e ∧ (cAt (callsL l) i).e < 1000 := fun i hi => by
  obtain ⟨h1, h2, h3, _⟩ := h.cb _ (cAt_mem hi)
  refine ⟨by omega, ?_, by omega⟩
  by_cases he : (cAt (callsL l) i).e < 0
  · have := (h3 he).1; omega
  · omega
theorem hok_id {l : List Ev} (h : Hok l) : ∀ i, i < (callsL l).length → (cAt (callsL l) i).i = i := fun i hi => h.num i _ (callAt_get hi)
theorem good_zero (K : Int) (cs : List Cl) : Good K cs 0 [] := ⟨by simp, by simp; exact leftN_len _ _, by simp, by simp⟩
def OrdPost (w : World) (K : Int) (cs : List Cl) (e : Ending) (w' : World) : Prop :=
  ∃ (v : Value) (b : Bool), e = .returned (.tuple #[v, .bool b, .int .i64 0]) ∧ Below w.heap.size w w' ∧ ((b = true ∧ ∃ o, leastM K cs (cs.length + 1) [] = some o ∧ RowO w' w.heap.size v o) ∨ (b = false ∧ v = .slice none 0 0 ∧ leastM K cs (cs.length + 1) [] = none))
theorem order_any (w : World) (B h : Nat) (v : Value) (l : List Ev) (K : Int) (hA : HistAt w B h v l) (hk : Hok l) (hl : l.length ≤ 900) (hK : 1 ≤ K ∧ K ≤ 4) (hn : (callsL l).length ≤ 24)
    (hhb : K = 4 → ∀ S, (hopsM K (callsL l) S).length ≤ 8589934592 ∧ (hopM K (callsL l) S).length ≤ 8589934592) :
    Calls Tryz.prog 8 #[.int .i64 K, .pointer (some ⟨h, 0, none⟩)] w (OrdPost w K (callsL l)) := by
  have hnew := snew_yes K w hK
  have HA := hid hA
  have HK := hid hK
  have HHB := hid hhb
  clear hA hK hhb
  go_enter Tryz.func8, Tryz.ntmps8
  go_upto_region 4 with (go_at_call 22; (with_reducible refine hnew.mono ?_); rintro e w1 ⟨s, rfl, hS1, hb1⟩)
  have hA1 := HA.out.below hb1
  have hcalls := hcalls_any w1 B h v l hA1 (by omega)
  have HS1 := hid hS1
  have HB1 := hid hb1
  clear hA1 hS1 hb1 hnew
  go_upto_region 5 with (go_at_call 23; (with_reducible refine hcalls.mono ?_); rintro e w2 ⟨u, rfl, hU, hb2⟩; obtain ⟨A, cap, rfl, _⟩ := hU.out (fun _ => rfl))
  have HB2 := hid (HB1.out.trans (hb2.mono HB1.out.size))
  have hS2 : SpecAt w2 w.heap.size s K (.slice none 0 0) [] := HS1.out.below hb2
  have hU2 : CallRow w2 w.heap.size (.slice A (callsL l).length cap) (callsL l) := hU.mono HB1.out.size
  have hnsr := newsearch_any w2 w.heap.size K (callsL l) s (.slice none 0 0) _ hS2 hU2 hn HB2.out.size HK.out hok_wf (hok_sm hk hl) (hok_id hk) HHB.out
  clear hS2 hU2 hU hb2 hcalls HS1
  generalize hcs : callsL l = cs at *
  generalize hnn : cs.length = n at *
  have HNN := hid hnn
  clear hnn
  have hgt : decide ((n : Int) > 24) = false := decide_eq_false (by omega)
  have HN24 := hid hn
  go_upto_region 7 with (fail)
  go_wp2_with (first
    | (go_at_call 24; (with_reducible refine hnsr.mono ?_); rintro e w3 ⟨R, rfl, hs3, hnb, hX, hd, hhp, hb3⟩
       have hm3 : Mean w3 w.heap.size K s (itemsM K cs []) := ⟨R.vn, by have := hs3.spec; rw [hnb] at this; exact this⟩
       have hle := least_all w.heap.size K cs (n + 1) R w3 0 s w.heap.size (.slice none 0 0) [] hs3 (good_zero K cs) hm3 (Nat.le_trans HB2.out.size hb3.size) (fun x hx => (hX x hx).elim) (by rw [setOf_zero, memP_nil]) (fitsAll_nil K cs) (clo_nil cs) (by rw [HNN.out]; simp) (RowO.none _ _) (Nat.le_trans HB2.out.size hb3.size)
       rw [show ((0 : Nat) : Int) = 0 by rfl] at hle
       unfold LeastPost at hle
       have HB3 := hid (HB2.out.trans (hb3.mono HB2.out.size))
       have HD := hid (And.intro (Nat.le_trans HB2.out.size hd) (Nat.le_trans HB2.out.size hhp)))
    | (go_at_call 25; (with_reducible refine hle.mono ?_); rintro e w4 ⟨v4, b4, rfl, hs4, hg4, hc4⟩))
  refine bodyPost_ret (v := .tuple #[v4, .bool b4, .int .i64 0]) (by simp [results, Tryz.results8, go_sem]) rfl ?_
  refine ⟨v4, b4, rfl, HB3.out.trans (hg4.touch.below2 HD.out.1 HD.out.2 HB3.out.size), ?_⟩
  rw [HNN.out]
  rcases hc4 with ⟨h1, o, h2, h3⟩ | h1
  · exact Or.inl ⟨h1, o, h2, h3⟩
  · exact Or.inr h1
/-- Whether there is one. -/
def LinPost (w : World) (K : Int) (cs : List Cl) (e : Ending) (w' : World) : Prop :=
  ∃ b : Bool, e = .returned (.bool b) ∧ Below w.heap.size w w' ∧ (b = true ↔ leastM K cs (cs.length + 1) [] ≠ none)
theorem linear_any (w : World) (B h : Nat) (v : Value) (l : List Ev) (K : Int) (hA : HistAt w B h v l) (hk : Hok l) (hl : l.length ≤ 900) (hK : 1 ≤ K ∧ K ≤ 4) (hn : (callsL l).length ≤ 24)
    (hhb : K = 4 → ∀ S, (hopsM K (callsL l) S).length ≤ 8589934592 ∧ (hopM K (callsL l) S).length ≤ 8589934592) :
    Calls Tryz.prog 9 #[.int .i64 K, .pointer (some ⟨h, 0, none⟩)] w (LinPost w K (callsL l)) := by
  have hord := order_any w B h v l K hA hk hl hK hn hhb
  unfold OrdPost at hord
  clear hA hk hl hK hn hhb
  go_enter Tryz.func9, Tryz.ntmps9
  go_wp2_with (go_at_call 8; (with_reducible refine hord.mono ?_); rintro e w4 ⟨v4, b4, rfl, hb4, hc4⟩)
  go_ret
  refine ⟨b4, rfl, hb4, ?_⟩
  rcases hc4 with ⟨rfl, o, h2, _⟩ | ⟨rfl, _, h2⟩
  · exact ⟨fun _ => by rw [h2]; simp, fun _ => rfl⟩
  · exact ⟨fun h => by simp at h, fun h => absurd h2 h⟩
theorem order_shape (w : World) (p : Value) (hp : (∃ a, p = .pointer (some a)) ∨ p = .pointer none) (K : Int) (hK : ¬ (1 ≤ K ∧ K ≤ 4)) :
    Calls Tryz.prog 8 #[.int .i64 K, p] w fun e w' => e = .returned (.tuple #[.slice none 0 0, .bool false, .int .i64 1]) ∧ Below w.heap.size w w' := by
  have hnew := snew_not K w hK
  clear hK
  rcases hp with ⟨a, rfl⟩ | rfl
  all_goals
    go_enter Tryz.func8, Tryz.ntmps8
    go_wp2_with (go_at_call 22; (with_reducible refine hnew.mono ?_); rintro e w1 ⟨rfl, hb1⟩)
    refine bodyPost_ret (v := .tuple #[.slice none 0 0, .bool false, .int .i64 1]) (by simp [results, Tryz.results8, go_sem]) rfl ?_
    exact ⟨rfl, hb1⟩
theorem order_nil (w : World) (K : Int) :
    Calls Tryz.prog 8 #[.int .i64 K, .pointer none] w fun e w' => e = .returned (.tuple #[.slice none 0 0, .bool false, .int .i64 1]) ∧ Below w.heap.size w w' := by
  by_cases hK : 1 ≤ K ∧ K ≤ 4
  · have hnew := snew_yes K w hK
    clear hK
    go_enter Tryz.func8, Tryz.ntmps8
    go_wp2_with (go_at_call 22; (with_reducible refine hnew.mono ?_); rintro e w1 ⟨s, rfl, -, hb1⟩)
    refine bodyPost_ret (v := .tuple #[.slice none 0 0, .bool false, .int .i64 1]) (by simp [results, Tryz.results8, go_sem]) rfl ?_
    exact ⟨rfl, hb1⟩
  · exact order_shape w _ (Or.inr rfl) K hK
theorem order_long (w : World) (B h : Nat) (v : Value) (l : List Ev) (K : Int) (hA : HistAt w B h v l) (hl : (callsL l).length ≤ 1000000) (hK : 1 ≤ K ∧ K ≤ 4) (hn : 24 < (callsL l).length) :
    Calls Tryz.prog 8 #[.int .i64 K, .pointer (some ⟨h, 0, none⟩)] w fun e w' => e = .returned (.tuple #[.slice none 0 0, .bool false, .int .i64 6]) ∧ Below w.heap.size w w' := by
  have hnew := snew_yes K w hK
  have HA := hid hA
  clear hA hK
  go_enter Tryz.func8, Tryz.ntmps8
  go_upto_region 4 with (go_at_call 22; (with_reducible refine hnew.mono ?_); rintro e w1 ⟨s, rfl, hS1, hb1⟩)
  have hcalls := hcalls_any w1 B h v l (HA.out.below hb1) hl
  have HB1 := hid hb1
  clear hS1 hb1 hnew
  go_upto_region 5 with (go_at_call 23; (with_reducible refine hcalls.mono ?_); rintro e w2 ⟨u, rfl, hU, hb2⟩; obtain ⟨A, cap, rfl, _⟩ := hU.out (fun _ => rfl))
  have HB2 := hid (HB1.out.trans (hb2.mono HB1.out.size))
  clear hU hb2 hcalls
  generalize (callsL l).length = n at *
  have hgt : decide ((24 : Int) < (n : Int)) = true := decide_eq_true (by omega)
  have hgt2 : decide ((n : Int) > 24) = true := decide_eq_true (by omega)
  go_wp2
  refine bodyPost_ret (v := .tuple #[.slice none 0 0, .bool false, .int .i64 6]) (by simp [results, Tryz.results8, go_sem]) rfl ?_
  exact ⟨rfl, HB2.out⟩
theorem linear_of {w : World} {args : Array Value} (K : Int) (p : Value) (c : Int) (ha : args = #[.int .i64 K, p]) (h : Calls Tryz.prog 8 #[.int .i64 K, p] w fun e w' => e = .returned (.tuple #[.slice none 0 0, .bool false, .int .i64 c]) ∧ Below w.heap.size w w') :
    Calls Tryz.prog 9 args w fun e w' => e = .returned (.bool false) ∧ Below w.heap.size w w' := by
  subst ha
  go_enter Tryz.func9, Tryz.ntmps9
  go_wp2_with (go_at_call 8; (with_reducible refine h.mono ?_); rintro e w4 ⟨rfl, hb4⟩)
  go_ret
  exact ⟨rfl, hb4⟩
end Go.Proofs.YtiaiiifgcecbgaaGreat

/- The document's example (law 9's awake). -/
namespace Go.Proofs.YtiaiiifgcecbgaaGreat
open Go.RowKit Go.Sort
set_option maxHeartbeats 4000000
set_option maxRecDepth 100000
instance fitM_dec (K : Int) (cs : List Cl) (o : List Int) (id : Int) : Decidable (fitM K cs o id) := by unfold fitM bef; infer_instance
def linA (z : Int) : List Ev := [⟨0, false, 4, 1, 0, false, 0⟩, ⟨1, false, 5, 0, 0, false, 0⟩, ⟨1, true, 0, 0, 0, true, z⟩]
def linC (z : Int) : List Cl := [⟨0, -1, 0, 0, 4, 1, 0, false, 0⟩, ⟨1, 2, 1, 1, 5, 0, 0, true, z⟩]
theorem linA_calls (z : Int) : callsL (linA z) = linC z := rfl
theorem linA_of1 : ofL [] (linA 1) = (0, linA 1) := by decide
theorem linA_of2 : ofL [] (linA 2) = (0, linA 2) := by decide
theorem linC_not (z : Int) (o : List Int) (h : (1 : Int) ∉ o) : ¬ wholeM (linC z) o := fun hw => h (hw 1 _ rfl (by show (0 : Int) ≤ 2; omega) rfl)
theorem linC_whole (z : Int) (o : List Int) (h : (1 : Int) ∈ o) : wholeM (linC z) o := by
  intro i c hc h1 _
  match i, hc with
  | 0, hc => simp [linC] at hc; subst hc; simp at h1
  | 1, _ => exact h
  | n + 2, hc => simp [linC] at hc
theorem linA_least1 : leastM 3 (linC 1) ((linC 1).length + 1) [] = some [0, 1] := by
  have f0 : fitM 3 (linC 1) [] ((0 : Nat) : Int) := by decide
  have f1 : ¬ fitM 3 (linC 1) ([] ++ [((0 : Nat) : Int)]) ((0 : Nat) : Int) := by decide
  have f2 : fitM 3 (linC 1) ([] ++ [((0 : Nat) : Int)]) ((1 : Nat) : Int) := by decide
  have hr : List.range (linC 1).length = [0, 1] := rfl
  show leastM 3 (linC 1) 3 [] = _
  unfold leastM
  rw [if_neg (linC_not 1 _ (by decide)), hr, List.findSome?_cons, if_pos f0]
  have h2 : leastM 3 (linC 1) 2 ([] ++ [((0 : Nat) : Int)]) = some [0, 1] := by
    unfold leastM
    rw [if_neg (linC_not 1 _ (by decide)), hr, List.findSome?_cons, if_neg f1, List.findSome?_cons, if_pos f2]
    have h3 : leastM 3 (linC 1) 1 ([] ++ [((0 : Nat) : Int)] ++ [((1 : Nat) : Int)]) = some [0, 1] := by
      unfold leastM
      rw [if_pos (linC_whole 1 _ (by decide))]
      rfl
    rw [h3]
  rw [h2]
theorem linA_least2 : leastM 3 (linC 2) ((linC 2).length + 1) [] = none := by
  have f0 : fitM 3 (linC 2) [] ((0 : Nat) : Int) := by decide
  have f1 : ¬ fitM 3 (linC 2) ([] ++ [((0 : Nat) : Int)]) ((0 : Nat) : Int) := by decide
  have f2 : ¬ fitM 3 (linC 2) ([] ++ [((0 : Nat) : Int)]) ((1 : Nat) : Int) := by decide
  have f3 : ¬ fitM 3 (linC 2) [] ((1 : Nat) : Int) := by decide
  have hr : List.range (linC 2).length = [0, 1] := rfl
  show leastM 3 (linC 2) 3 [] = _
  unfold leastM
  rw [if_neg (linC_not 2 _ (by decide)), hr, List.findSome?_cons, if_pos f0]
  have h2 : leastM 3 (linC 2) 2 ([] ++ [((0 : Nat) : Int)]) = none := by
    unfold leastM
    rw [if_neg (linC_not 2 _ (by decide)), hr, List.findSome?_cons, if_neg f1, List.findSome?_cons, if_neg f2]
    rfl
  rw [h2, List.findSome?_cons, if_neg f3]
  rfl
theorem hof_ok {w : World} {B : Nat} {u : Value} {l : List Ev} (hU : EvRow w B u l) (hl : l.length ≤ 100000) (h0 : ofL [] l = (0, l)) :
    Calls Tryz.prog 17 #[u] w fun e w' => ∃ h v, e = .returned (.tuple #[.pointer (some ⟨h, 0, none⟩), .int .i64 0]) ∧ HistAt w' w.heap.size h v l ∧ Hok l ∧ Below w.heap.size w w' := by
  refine (hof_any w B u l hU hl).mono ?_
  rintro e w' ⟨h1, hb⟩
  rw [h0] at h1
  rcases h1 with ⟨_, hk, _, h, v, rfl, hA⟩ | ⟨h1, _⟩
  · exact ⟨h, v, rfl, hA, hk, hb⟩
  · exact absurd rfl h1
/-- The example's events, written out. -/
theorem linA_row (w : World) (z : Int) : EvRow (w.alloc (.cells #[.int .i64 0, .bool false, .int .i64 4, .int .i64 1, .int .i64 0, .bool false, .int .i64 0, .int .i64 1, .bool false, .int .i64 5, .int .i64 0, .int .i64 0, .bool false, .int .i64 0, .int .i64 1, .bool true, .int .i64 0, .int .i64 0, .int .i64 0, .bool true, .int .i64 z] 52)) w.heap.size (.slice (some ⟨w.heap.size, 0, none⟩) 3 3) (linA z) :=
  ⟨⟨rfl, Or.inr ⟨w.heap.size, 3, _, rfl, Nat.le_refl _, Blk.new w _ _, Nat.le_refl _, by unfold maxLen; omega, rfl, rfl⟩⟩, fun h => by simp [linA] at h⟩
theorem l9awake_any (w : World) : Calls Tryz.prog 5 #[] w fun e w' => e = .returned (.bool true) ∧ Below w.heap.size w w' := by
  have hr1 := linA_row w 1
  have b1 : Below w.heap.size w (w.alloc (.cells #[.int .i64 0, .bool false, .int .i64 4, .int .i64 1, .int .i64 0, .bool false, .int .i64 0, .int .i64 1, .bool false, .int .i64 5, .int .i64 0, .int .i64 0, .bool false, .int .i64 0, .int .i64 1, .bool true, .int .i64 0, .int .i64 0, .int .i64 0, .bool true, .int .i64 1] 52)) := (Below.refl _ _).alloc (Nat.le_refl _) _
  have hof1 := hof_ok hr1 (by decide) linA_of1
  have HB1 := hid b1
  clear hr1 b1
  go_enter Tryz.func5, Tryz.ntmps5
  go_upto_region 2 with (go_at_call 17; (with_reducible refine hof1.mono ?_); rintro e w2 ⟨h1, v1, rfl, hA2, hk1, hb2⟩)
  have HB2 := hid (HB1.out.trans (hb2.mono HB1.out.size))
  have hord := order_any w2 _ h1 v1 (linA 1) 3 hA2 hk1 (by decide) (by decide) (by rw [linA_calls]; decide) (fun h => absurd h (by decide))
  have HA2 := hid hA2
  have HK1 := hid hk1
  unfold OrdPost at hord
  rw [linA_calls, linA_least1] at hord
  clear hof1 hb2 hA2 HB1 hk1
  go_upto_region 5 with (go_at_call 8; (with_reducible refine hord.mono ?_); rintro e w3 ⟨v3, b3, rfl, hb3, hc3⟩; obtain ⟨rfl, o, ho, hR3⟩ := hc3.resolve_right (fun h => by simp at h); obtain rfl : [0, 1] = o := by simpa using ho)
  have HB3 := hid (HB2.out.trans (hb3.mono HB2.out.size))
  have HA3 := hid (HA2.out.below hb3)
  have HR3 := hid hR3
  have hof2 := hof_ok (linA_row w3 2) (by decide) linA_of2
  have HB4 : Hid (Below w3.heap.size w3 (w3.alloc (.cells #[.int .i64 0, .bool false, .int .i64 4, .int .i64 1, .int .i64 0, .bool false, .int .i64 0, .int .i64 1, .bool false, .int .i64 5, .int .i64 0, .int .i64 0, .bool false, .int .i64 0, .int .i64 1, .bool true, .int .i64 0, .int .i64 0, .int .i64 0, .bool true, .int .i64 2] 52))) := (Below.refl _ _).alloc (Nat.le_refl _) _
  clear hord hb3 hR3 ho hc3 HA2 HB2
  go_upto_region 6 with (go_at_call 17; (with_reducible refine hof2.mono ?_); rintro e w5 ⟨h2, v2, rfl, hA5, hk2, hb5⟩)
  have hb5' : Below w3.heap.size w3 w5 := HB4.out.trans (hb5.mono HB4.out.size)
  have HB5 := hid (HB3.out.trans (hb5'.mono HB3.out.size))
  have hR5 : RowO w5 w2.heap.size v3 [0, 1] := HR3.out.below hb5'
  have hA5' := HA3.out.below hb5'
  obtain ⟨A, cap, rfl, hrd⟩ := hR5.rdi
  have b6 : Below w5.heap.size w5 (w5.alloc (.cells #[.int .i64 0, .int .i64 1] 3)) := (Below.refl _ _).alloc (Nat.le_refl _) _
  have hR6 : RowO (w5.alloc (.cells #[.int .i64 0, .int .i64 1] 3)) w2.heap.size (.slice A 2 cap) [0, 1] := hR5.below b6
  obtain ⟨A', cap', hv', hrd6⟩ := hR6.rdi
  simp only [Value.slice.injEq] at hv'
  obtain ⟨rfl, _, rfl⟩ := hv'
  have hlit : RdI (w5.alloc (.cells #[.int .i64 0, .int .i64 1] 3)) .i64 (some ⟨w5.heap.size, 0, none⟩) [0, 1] := by
    have hN := Blk.new w5 3 #[.int .i64 0, .int .i64 1]
    refine Or.inr ⟨_, 0, rfl, hN.lt, fun i hi => ?_⟩
    rw [hN.cell]
    match i, hi with
    | 0, _ => rfl
    | 1, _ => rfl
    | n + 2, hi => exact absurd hi (by show ¬ n + 2 < 2; omega)
  have hin := ints_any A (some ⟨w5.heap.size, 0, none⟩) [0, 1] [0, 1] cap 2 _ (by decide) (by decide) hrd6 hlit
  rw [show decide (([0, 1] : List Int) = [0, 1]) = true by decide] at hin
  simp only [List.length_cons, List.length_nil, Nat.zero_add, Nat.reduceAdd] at hin
  have HA5 := hid hA5
  have HA5' := hid hA5'
  have HB6 := hid b6
  have HK2 := hid hk2
  clear hA5 hA5' b6 hb5 hb5' hR5 hR6 hrd hrd6 hlit hof2 HR3 HB4 hk2 HA3
  simp only [List.length_cons, List.length_nil, Nat.zero_add, Nat.reduceAdd]
  go_wp2_with (first
    | (go_at_call 11; (with_reducible refine hin.mono ?_); rintro e w7 ⟨rfl, hb7⟩
       have hb57 : Below w5.heap.size w5 w7 := HB6.out.trans (hb7.mono HB6.out.size)
       have HB7 := hid (HB5.out.trans (hb57.mono HB5.out.size))
       have hl2 := linear_any w7 _ h2 v2 (linA 2) 3 (HA5.out.below hb57) HK2.out (by decide) (by decide) (by rw [linA_calls]; decide) (fun h => absurd h (by decide))
       have HA7 := hid (HA5'.out.below hb57)
       unfold LinPost at hl2
       rw [linA_calls, linA_least2] at hl2)
    | (go_at_call 9; (with_reducible refine hl2.mono ?_); rintro e w8 ⟨b8, rfl, hb8, hc8⟩; obtain rfl : b8 = false := by { cases b8; rfl; exact absurd rfl (hc8.1 rfl) }
       have HB8 := hid (HB7.out.trans (hb8.mono HB7.out.size))
       have hl1 := linear_any w8 _ h1 v1 (linA 1) 3 (HA7.out.below hb8) HK1.out (by decide) (by decide) (by rw [linA_calls]; decide) (fun h => absurd h (by decide))
       unfold LinPost at hl1
       rw [linA_calls, linA_least1] at hl1)
    | (go_at_call 9; (with_reducible refine hl1.mono ?_); rintro e w9 ⟨b9, rfl, hb9, hc9⟩; obtain rfl : b9 = true := hc9.2 (by simp)
       have HB9 := hid (HB8.out.trans (hb9.mono HB8.out.size))))
  go_ret
  exact ⟨rfl, HB9.out⟩
end Go.Proofs.YtiaiiifgcecbgaaGreat
