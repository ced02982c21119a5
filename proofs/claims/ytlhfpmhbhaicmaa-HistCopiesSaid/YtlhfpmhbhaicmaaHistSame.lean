/- Are these a history's events? (law 8) -/
import Derived.Test.YtlhfpmhbhaicmaaHistLaw
namespace Go.Proofs.Ytlhfpmhbhaicmaa
open Go.RowKit Go.Sort
set_option maxHeartbeats 4000000

theorem same_any (w : World) (B h : Nat) (u : Value) (l : List Ev) (A : Option Addr) (cap : Nat) (hA : HistAt w B h u l) (hk : Hok l) (hl : l.length ≤ 100000) (hrd : RdE w A l) :
    Calls Try.prog 16 #[.pointer (some ⟨h, 0, none⟩), .slice A l.length cap] w fun e w' => e = .returned (.bool true) ∧ Below w.heap.size w w' := by
  have hev := hevents_any w B h u l hA hk hl
  have HR := hid hrd
  have HA := hid hA
  clear hrd hk hA
  go_enter Try.func16, Try.ntmps16
  go_wp2_with fail
  refine hev.mono ?_
  rintro e w1 ⟨u1, rfl, hE, hb1⟩
  have hlen := hlen_any w1 B h u l (HA.out.below hb1)
  obtain ⟨A1, cap1, rfl, hn1, hn2⟩ := hE.out (fun _ => rfl)
  clear hev hn1 hn2
  have hq : (((l.length : Nat) : Int) != (l.length : Int)) = false := by simp
  go_wp2_with fail
  refine hlen.mono ?_
  rintro e w2 ⟨rfl, hb2⟩
  have hE2 := hE.below hb2
  have hb3 := hb1.trans (hb2.mono hb1.size)
  have HE := hid (And.intro hE2 hb3)
  clear hlen hE hb1 hb2 hE2 hb3
  go_wp2
  clear hq
  go_loopw [25] (fun i wr => ∃ j : Nat, j ≤ l.length ∧ i = .int .i64 j ∧ Below w2.heap.size w2 wr) (fun i _ => l.length - (intOf i).toNat)
  case atStart => exact ⟨0, Nat.zero_le _, rfl, Below.refl _ _⟩
  case round =>
    obtain ⟨j, hj, rfl, hbx⟩ := hrel
    have hsx := hbx.size
    by_cases hlt : j < l.length
    · obtain ⟨hE2, hb3⟩ := HE.out
      have hbw := hb3.trans (hbx.mono hb3.size)
      obtain ⟨b1, o1, rfl, hb1, hc1⟩ := (HR.out.below hbw (Nat.le_refl _)).resolve_left (fun h => by subst h; simp at hlt)
      have hget : l[j]? = some (l.getD j ev0) := by simp [List.getD, hlt]
      obtain ⟨x0, x1, x2, x3, x4, x5, x6⟩ := hc1 j _ hget
      have hE3 := hE2.below hbx
      obtain ⟨g, hv⟩ : ∃ g, A1 = some ⟨g, 0, none⟩ := by
        obtain ⟨A', cap', hv, _, hcs⟩ := hE3.out (fun _ => rfl)
        obtain ⟨g, hg, _⟩ := hcs (fun h => by subst h; simp at hlt)
        simp only [Value.slice.injEq] at hv
        exact ⟨g, hv.1.trans hg⟩
      subst hv
      obtain ⟨y0, y1, y2, y3, y4, y5, y6, -⟩ := EvRow.cells hE3 rfl hlt
      clear hc1 hget hE2 hE3 hb3
      generalize l.getD j ev0 = V at *
      have hN := (Blk.new wr 32 #[.int .i64 V.t, .bool V.e, .int .i64 V.k, .int .i64 V.y, .int .i64 V.c, .bool V.o, .int .i64 V.z]).alloc (.cells #[.int .i64 V.t, .bool V.e, .int .i64 V.k, .int .i64 V.y, .int .i64 V.c, .bool V.o, .int .i64 V.z] 42)
      have hM := Blk.new1 wr (.cells #[.int .i64 V.t, .bool V.e, .int .i64 V.k, .int .i64 V.y, .int .i64 V.c, .bool V.o, .int .i64 V.z] 32) 42 #[.int .i64 V.t, .bool V.e, .int .i64 V.k, .int .i64 V.y, .int .i64 V.c, .bool V.o, .int .i64 V.z]
      have hby := (hbx.alloc hsx (.cells #[.int .i64 V.t, .bool V.e, .int .i64 V.k, .int .i64 V.y, .int .i64 V.c, .bool V.o, .int .i64 V.z] 32)).alloc (by simp; omega) (.cells #[.int .i64 V.t, .bool V.e, .int .i64 V.k, .int .i64 V.y, .int .i64 V.c, .bool V.o, .int .i64 V.z] 42)
      obtain ⟨c0, c1, c2, c3, c4, c5, c6, -⟩ := hN.seven
      obtain ⟨d0, d1, d2, d3, d4, d5, d6, -⟩ := hM.seven
      have y0 := cell_alloc_keep y0 (.cells #[.int .i64 V.t, .bool V.e, .int .i64 V.k, .int .i64 V.y, .int .i64 V.c, .bool V.o, .int .i64 V.z] 32)
      have y1 := cell_alloc_keep y1 (.cells #[.int .i64 V.t, .bool V.e, .int .i64 V.k, .int .i64 V.y, .int .i64 V.c, .bool V.o, .int .i64 V.z] 32)
      have y2 := cell_alloc_keep y2 (.cells #[.int .i64 V.t, .bool V.e, .int .i64 V.k, .int .i64 V.y, .int .i64 V.c, .bool V.o, .int .i64 V.z] 32)
      have y3 := cell_alloc_keep y3 (.cells #[.int .i64 V.t, .bool V.e, .int .i64 V.k, .int .i64 V.y, .int .i64 V.c, .bool V.o, .int .i64 V.z] 32)
      have y4 := cell_alloc_keep y4 (.cells #[.int .i64 V.t, .bool V.e, .int .i64 V.k, .int .i64 V.y, .int .i64 V.c, .bool V.o, .int .i64 V.z] 32)
      have y5 := cell_alloc_keep y5 (.cells #[.int .i64 V.t, .bool V.e, .int .i64 V.k, .int .i64 V.y, .int .i64 V.c, .bool V.o, .int .i64 V.z] 32)
      have y6 := cell_alloc_keep y6 (.cells #[.int .i64 V.t, .bool V.e, .int .i64 V.k, .int .i64 V.y, .int .i64 V.c, .bool V.o, .int .i64 V.z] 32)
      have w1_ := op_same V.k V.y
      have w2_ := res_same3 V.c V.o V.z
      clear hN hM hbx
      go_wp2
      go_roundw
      case rel => exact ⟨j + 1, by omega, by go_num, hby⟩
      case measure => first | (simp [intOf]; done) | (simp [intOf]; omega)
    · have hb := HE.out.2.trans (hbx.mono HE.out.2.size)
      go_wp2
      go_ret
      exact ⟨rfl, hb⟩
end Go.Proofs.Ytlhfpmhbhaicmaa
