/- Package hist: add, Of. -/
import Derived.Test.YtlhfpmhbhaicmaaHistDo
import Derived.Test.YtlhfpmhbhaicmaaHistEvents
namespace Go.Proofs.Ytlhfpmhbhaicmaa
open Go.RowKit
set_option maxHeartbeats 4000000

def evV (v : Ev) : Value := .agg #[.int .i64 v.t, .bool v.e, .int .i64 v.k, .int .i64 v.y, .int .i64 v.c, .bool v.o, .int .i64 v.z]

theorem hadd_any (w : World) (B h : Nat) (u : Value) (l : List Ev) (v : Ev) (hA : HistAt w B h u l) (hk : Hok l) (hl : l.length ≤ 100000) :
    Calls Try.prog 28 #[.pointer (some ⟨h, 0, none⟩), evV v] w fun e w' => e = .returned (.int .i64 (errL l v)) ∧ (errL l v = 0 → ∃ u', HistAt w' B h u' (l ++ [v.bare]) ∧ HStep h u u' w w') ∧ (errL l v ≠ 0 → Below w.heap.size w w') := by
  obtain ⟨t, e, k, y, c, o, z⟩ := v
  have hN := Blk.new w 42 #[.int .i64 t, .bool e, .int .i64 k, .int .i64 y, .int .i64 c, .bool o, .int .i64 z]
  have hb := (Below.refl _ w).alloc (Nat.le_refl _) (.cells #[.int .i64 t, .bool e, .int .i64 k, .int .i64 y, .int .i64 c, .bool o, .int .i64 z] 42)
  replace hA := hA.alloc (.cells #[.int .i64 t, .bool e, .int .i64 k, .int .i64 y, .int .i64 c, .bool o, .int .i64 z] 42)
  obtain ⟨c0, c1, c2, c3, c4, c5, c6, _⟩ := hN.seven
  unfold evV
  dsimp only
  cases e
  · have hbe : errL l ⟨t, false, k, y, c, o, z⟩ = errL l ⟨t, false, k, y, 0, false, 0⟩ := by rw [← errL_bare]; rfl
    have hbv : (⟨t, false, k, y, c, o, z⟩ : Ev).bare = ⟨t, false, k, y, 0, false, 0⟩ := rfl
    rw [hbe, hbv]
    by_cases he : errL l ⟨t, false, k, y, 0, false, 0⟩ = 0
    · have hc := hbegin_ok _ B h u l t k y hA hk hl he
      rw [he]
      clear hA hN he hbe hbv
      go_enter Try.func28, Try.ntmps28
      go_wp2_with fail
      refine hc.mono ?_
      rintro e w1 ⟨rfl, u', hA', hs⟩
      go_wp2
      go_ret
      exact ⟨rfl, fun _ => ⟨u', hA', hs.ahead hb⟩, fun h => absurd rfl h⟩
    · have hc := hbegin_not _ B h u l t k y hA hk he
      have HE := hid he
      generalize errL l ⟨t, false, k, y, 0, false, 0⟩ = E at *
      clear hA hN he hbe hbv
      go_enter Try.func28, Try.ntmps28
      go_wp2_with fail
      refine hc.mono ?_
      rintro e w1 ⟨rfl, hb1⟩
      go_wp2
      go_ret
      exact ⟨rfl, fun h => absurd h HE.out, fun _ => hb.trans (hb1.mono hb.size)⟩
  · have hbe : errL l ⟨t, true, k, y, c, o, z⟩ = errL l ⟨t, true, 0, 0, c, o, z⟩ := by rw [← errL_bare]; rfl
    have hbv : (⟨t, true, k, y, c, o, z⟩ : Ev).bare = ⟨t, true, 0, 0, c, o, z⟩ := rfl
    rw [hbe, hbv]
    by_cases he : errL l ⟨t, true, 0, 0, c, o, z⟩ = 0
    · have hc := hend_ok _ B h u l t c z o hA hk hl he
      rw [he]
      clear hA hN he hbe hbv
      go_enter Try.func28, Try.ntmps28
      go_wp2_with fail
      refine hc.mono ?_
      rintro e w1 ⟨rfl, u', hA', hs⟩
      go_wp2
      go_ret
      exact ⟨rfl, fun _ => ⟨u', hA', hs.ahead hb⟩, fun h => absurd rfl h⟩
    · have hc := hend_not _ B h u l t c z o hA hk he
      have HE := hid he
      generalize errL l ⟨t, true, 0, 0, c, o, z⟩ = E at *
      clear hA hN he hbe hbv
      go_enter Try.func28, Try.ntmps28
      go_wp2_with fail
      refine hc.mono ?_
      rintro e w1 ⟨rfl, hb1⟩
      go_wp2
      go_ret
      exact ⟨rfl, fun h => absurd h HE.out, fun _ => hb.trans (hb1.mono hb.size)⟩

/-- Events one by one: the first error (0: none), and what was taken. -/
def ofL (acc : List Ev) : List Ev → Int × List Ev
  | [] => (0, acc)
  | v :: l => if errL acc v = 0 then ofL (acc ++ [v.bare]) l else (errL acc v, acc)

theorem ofL_drop {acc l : List Ev} {j : Nat} {v : Ev} (hj : l[j]? = some v) : ofL acc (l.drop j) = if errL acc v = 0 then ofL (acc ++ [v.bare]) (l.drop (j + 1)) else (errL acc v, acc) := by
  obtain ⟨h1, h2⟩ := List.getElem?_eq_some_iff.1 hj
  rw [List.drop_eq_getElem_cons h1, h2]
  rfl

def OfRel (w0 : World) (h : Nat) (l : List Ev) (i : Value) (w : World) : Prop :=
  ∃ (j : Nat) (v : Value) (acc : List Ev), j ≤ l.length ∧ i = .int .i64 j ∧ acc.length = j ∧ Hok acc ∧ ofL acc (l.drop j) = ofL [] l ∧ HistAt w w0.heap.size h v acc ∧ Below w0.heap.size w0 w

/-- What Of answers. -/
def OfPost (w0 : World) (l : List Ev) (e : Ending) (w : World) : Prop :=
  (((ofL [] l).1 = 0 ∧ Hok (ofL [] l).2 ∧ (ofL [] l).2.length = l.length ∧ ∃ h v, e = .returned (.tuple #[.pointer (some ⟨h, 0, none⟩), .int .i64 0]) ∧ HistAt w w0.heap.size h v (ofL [] l).2) ∨
   ((ofL [] l).1 ≠ 0 ∧ e = .returned (.tuple #[.pointer none, .int .i64 (ofL [] l).1]))) ∧ Below w0.heap.size w0 w

theorem hof_any (w : World) (B : Nat) (u : Value) (l : List Ev) (hU : EvRow w B u l) (hl : l.length ≤ 100000) :
    Calls Try.prog 18 #[u] w (OfPost w l) := by
  obtain ⟨A, cap, rfl, _⟩ := hU.out (fun _ => rfl)
  have HU := hid hU
  have hnew := hnew_any w
  clear hU
  go_enter Try.func18, Try.ntmps18
  go_wp2_with fail
  refine hnew.mono ?_
  rintro e w1 ⟨h, rfl, hN, hb1⟩
  clear hnew
  go_wp2
  go_loopw [11] (fun i wr => OfRel w h l i wr) (fun i _ => l.length - (intOf i).toNat)
  case atStart => exact ⟨0, _, [], Nat.zero_le _, rfl, rfl, Hok.nil, rfl, hN, hb1⟩
  case round =>
    obtain ⟨j, v, acc, hj, rfl, hacc, hok, hof, hA, hbw⟩ := hrel
    clear hN hb1
    have hsz := hbw.size
    by_cases hlt : j < l.length
    · have hU := HU.out.below hbw
      obtain ⟨g, hv⟩ : ∃ g, A = some ⟨g, 0, none⟩ := by
        obtain ⟨A', cap', hv, _, hcs⟩ := hU.out (fun _ => rfl)
        obtain ⟨g, hg, _⟩ := hcs (fun h => by subst h; simp at hlt)
        simp only [Value.slice.injEq] at hv
        exact ⟨g, hv.1.trans hg⟩
      subst hv
      obtain ⟨x0, x1, x2, x3, x4, x5, x6, -⟩ := EvRow.cells hU rfl hlt
      have hget : l[j]? = some (l.getD j ev0) := by simp [List.getD, hlt]
      have hdr := ofL_drop (acc := acc) hget
      rw [hof] at hdr
      generalize l.getD j ev0 = V at *
      have hN := Blk.new wr 42 #[.int .i64 V.t, .bool V.e, .int .i64 V.k, .int .i64 V.y, .int .i64 V.c, .bool V.o, .int .i64 V.z]
      have hbo := hbw.alloc hsz (.cells #[.int .i64 V.t, .bool V.e, .int .i64 V.k, .int .i64 V.y, .int .i64 V.c, .bool V.o, .int .i64 V.z] 42)
      have hAo := hA.alloc (.cells #[.int .i64 V.t, .bool V.e, .int .i64 V.k, .int .i64 V.y, .int .i64 V.c, .bool V.o, .int .i64 V.z] 42)
      obtain ⟨c0, c1, c2, c3, c4, c5, c6, -⟩ := hN.seven
      have hadd := hadd_any _ w.heap.size h v acc V hAo hok (by omega)
      unfold evV at hadd
      have HF := hid (And.intro hdr (And.intro hok (And.intro hbo (And.intro hAo hacc))))
      clear hU hget hdr hN hbo hAo hA hbw hok hof hacc
      by_cases he : errL acc V = 0
      · rw [he] at hadd
        have HE := hid he
        clear he
        go_wp2_with fail
        refine hadd.mono ?_
        rintro e w2 ⟨rfl, h1, -⟩
        obtain ⟨v', hA', hs⟩ := h1 (by simp)
        clear hadd c0 c1 c2 c3 c4 c5 c6 x0 x1 x2 x3 x4 x5 x6 h1
        go_wp2
        go_roundw
        case rel =>
          obtain ⟨hdr, hok, hbo, hAo, hacc⟩ := HF.out
          rw [if_pos HE.out] at hdr
          exact ⟨j + 1, v', acc ++ [V.bare], by omega, by go_num, by simp [hacc], hok.snoc HE.out, hdr.symm, hA', hbo.trans (hs.below hAo)⟩
        case measure => simp [intOf]; omega
      · have HE := hid he
        have hq : (errL acc V != 0) = true := by simpa using he
        obtain ⟨E, hE⟩ : ∃ E, E = errL acc V := ⟨_, rfl⟩
        rw [← hE] at hadd hq
        have HEE := hid hE
        clear he hE
        go_wp2_with fail
        refine hadd.mono ?_
        rintro e w2 ⟨rfl, -, h1⟩
        have hb2 := h1 (by rw [HEE.out]; exact HE.out)
        clear hadd c0 c1 c2 c3 c4 c5 c6 x0 x1 x2 x3 x4 x5 x6 h1
        go_wp2
        obtain ⟨hdr, hok, hbo, hAo, hacc⟩ := HF.out
        rw [if_neg HE.out] at hdr
        exact bodyPost_ret (v := .tuple #[.pointer none, .int .i64 E]) (by simp [results, Try.results18, go_sem]) rfl ⟨Or.inr ⟨by rw [hdr]; exact HE.out, by rw [hdr, HEE.out]⟩, hbo.trans (hb2.mono hbo.size)⟩
    · obtain rfl : j = l.length := by omega
      rw [List.drop_length] at hof
      have HF := hid (And.intro hof (And.intro hok (And.intro hacc (And.intro hA hbw))))
      clear hof hok hacc hA hbw
      go_wp2
      obtain ⟨hof, hok, hacc, hA, hbw⟩ := HF.out
      simp only [ofL] at hof
      exact bodyPost_ret (v := .tuple #[.pointer (some ⟨h, 0, none⟩), .int .i64 0]) (by simp [results, Try.results18, go_sem]) rfl ⟨Or.inl ⟨by rw [← hof], by rw [← hof]; exact hok, by rw [← hof]; exact hacc, h, v, rfl, by rw [← hof]; exact hA⟩, hbw⟩
end Go.Proofs.Ytlhfpmhbhaicmaa
