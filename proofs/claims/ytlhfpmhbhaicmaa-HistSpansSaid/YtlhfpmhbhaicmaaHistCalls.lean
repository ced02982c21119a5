/- Are these a history's calls? (law 8; by bin/gen_hcalls.py) -/
import Derived.Test.YtlhfpmhbhaicmaaHistLaw
namespace Go.Proofs.Ytlhfpmhbhaicmaa
open Go.RowKit Go.Sort
set_option maxHeartbeats 8000000
set_option maxRecDepth 100000

/-- The cells of one of the reference's calls of a list. -/
theorem RefCalls.cells {w : World} {B q : Nat} {v : Value} {l : List Cl} {C : Cl} (h : RefCalls w B v l) (hq : l[q]? = some C) :
    ∃ g cap, v = .slice (some ⟨g, 0, none⟩) l.length cap ∧ B ≤ g ∧ g < w.heap.size ∧ w.cell? ⟨g, q * 8, none⟩ = some (.int .i64 C.t) ∧ w.cell? ⟨g, q * 8 + 1, none⟩ = some (.int .i64 C.b) ∧ w.cell? ⟨g, q * 8 + 2, none⟩ = some (.int .i64 C.e) ∧ w.cell? ⟨g, q * 8 + 3, none⟩ = some (.int .i64 C.k) ∧ w.cell? ⟨g, q * 8 + 4, none⟩ = some (.int .i64 C.y) ∧ w.cell? ⟨g, q * 8 + 5, none⟩ = some (.int .i64 C.c) ∧ w.cell? ⟨g, q * 8 + 6, none⟩ = some (.bool C.o) ∧ w.cell? ⟨g, q * 8 + 7, none⟩ = some (.int .i64 C.z) := by
  obtain ⟨A, c, hv, _, hcs⟩ := h.out (fun _ => rfl)
  obtain ⟨g, h1, hB, hg, hf, hc⟩ := hcs (fun h => by subst h; simp at hq)
  subst h1
  have hh := fun j hj => hc q _ hq j hj
  exact ⟨g, c, hv, hB, hg, hh 0 (by omega), hh 1 (by omega), hh 2 (by omega), hh 3 (by omega), hh 4 (by omega), hh 5 (by omega), hh 6 (by omega), hh 7 (by omega)⟩
theorem Blk.nine {w : World} {g : Nat} {t : TypeId} {a b c d e f h i j : Value} (hB : Blk w g t #[a, b, c, d, e, f, h, i, j]) :
    w.cell? ⟨g, 0, none⟩ = some a ∧ w.cell? ⟨g, 1, none⟩ = some b ∧ w.cell? ⟨g, 2, none⟩ = some c ∧ w.cell? ⟨g, 3, none⟩ = some d ∧ w.cell? ⟨g, 4, none⟩ = some e ∧ w.cell? ⟨g, 5, none⟩ = some f ∧ w.cell? ⟨g, 6, none⟩ = some h ∧ w.cell? ⟨g, 7, none⟩ = some i ∧ w.cell? ⟨g, 8, none⟩ = some j ∧ (∀ i, w.frozen? ⟨g, i, none⟩ = false) :=
  ⟨hB.cell 0, hB.cell 1, hB.cell 2, hB.cell 3, hB.cell 4, hB.cell 5, hB.cell 6, hB.cell 7, hB.cell 8, hB.frozen⟩
theorem bool_same (b : Bool) : (b != b) = false := by cases b <;> rfl

theorem calls_any (w : World) (B h : Nat) (u : Value) (l : List Ev) (A : Option Addr) (cap : Nat) (hA : HistAt w B h u l) (hk : Hok l) (hl : l.length ≤ 100000) (hrd : RdE w A l) :
    Calls Try.prog 17 #[.pointer (some ⟨h, 0, none⟩), .slice A l.length cap] w fun e w' => e = .returned (.bool true) ∧ Below w.heap.size w w' := by
  have hrc := rcalls_any A l cap w hl hrd
  have hcl := hk.clen
  have HA := hid hA
  have HK := hid hk
  clear hrd hk hA
  go_enter Try.func17, Try.ntmps17
  go_wp2_with fail
  refine hrc.mono ?_
  rintro e w1 ⟨uW, rfl, hW, hb1⟩
  have hhc := hcalls_any w1 B h u l (HA.out.below hb1) (by omega)
  obtain ⟨AW, cW, rfl, -⟩ := hW.out (fun _ => rfl)
  clear hrc
  go_wp2_with fail
  refine hhc.mono ?_
  rintro e w2 ⟨uG, rfl, hG, hb2⟩
  obtain ⟨AG, cG, rfl, -⟩ := hG.out (fun _ => rfl)
  have HF := hid (And.intro (hW.below hb2) (And.intro hG (hb1.trans (hb2.mono hb1.size))))
  clear hhc hW hG hb1 hb2
  generalize hcs : callsL l = cs at *
  have HC := hid hcs
  have hn : cs.length ≤ 100000 := by omega
  clear hcs hcl
  have hq : (((cs.length : Nat) : Int) != (cs.length : Int)) = false := by simp
  go_wp2
  clear hq
  go_loopw [23] (fun i wr => ∃ j : Nat, j ≤ cs.length ∧ i = .int .i64 j ∧ Below w2.heap.size w2 wr) (fun i _ => cs.length - (intOf i).toNat)
  case atStart => exact ⟨0, Nat.zero_le _, rfl, Below.refl _ _⟩
  case round =>
    obtain ⟨j, hj, rfl, hbx⟩ := hrel
    have hsx := hbx.size
    by_cases hlt : j < cs.length
    · obtain ⟨hW, hG, hb⟩ := HF.out
      obtain ⟨C, hC⟩ : ∃ C, cs[j]? = some C := ⟨_, List.getElem?_eq_getElem hlt⟩
      have hnum : C.i = j := HK.out.num j C (by rw [HC.out]; exact hC)
      obtain ⟨gW, cW', hv, -, -, x0, x1, x2, x3, x4, x5, x6, x7⟩ := RefCalls.cells (hW.below hbx) hC
      simp only [Value.slice.injEq] at hv
      obtain ⟨rfl, -, rfl⟩ := hv
      obtain ⟨gG, cG', hv, -, -, y0, y1, y2, y3, y4, y5, y6, y7, y8⟩ := CallRow.cells (hG.below hbx) hC
      simp only [Value.slice.injEq] at hv
      obtain ⟨rfl, -, rfl⟩ := hv
      obtain ⟨cb, ce, ci, ct, ck, cy, cc, co, cz⟩ := C
      dsimp only at x0 x1 x2 x3 x4 x5 x6 x7 y0 y1 y2 y3 y4 y5 y6 y7 y8 hnum
      subst hnum
      have hN := (Blk.new wr 65 #[.int .i64 ct, .int .i64 (cb : Int), .int .i64 ce, .int .i64 ck, .int .i64 cy, .int .i64 cc, .bool co, .int .i64 cz]).alloc (.cells #[.int .i64 (cb : Int), .int .i64 ce, .int .i64 (ci : Int), .int .i64 ct, .int .i64 ck, .int .i64 cy, .int .i64 cc, .bool co, .int .i64 cz] 51)
      have hM := Blk.new1 wr (.cells #[.int .i64 ct, .int .i64 (cb : Int), .int .i64 ce, .int .i64 ck, .int .i64 cy, .int .i64 cc, .bool co, .int .i64 cz] 65) 51 #[.int .i64 (cb : Int), .int .i64 ce, .int .i64 (ci : Int), .int .i64 ct, .int .i64 ck, .int .i64 cy, .int .i64 cc, .bool co, .int .i64 cz]
      have hby := (hbx.alloc hsx (.cells #[.int .i64 ct, .int .i64 (cb : Int), .int .i64 ce, .int .i64 ck, .int .i64 cy, .int .i64 cc, .bool co, .int .i64 cz] 65)).alloc (by simp; omega) (.cells #[.int .i64 (cb : Int), .int .i64 ce, .int .i64 (ci : Int), .int .i64 ct, .int .i64 ck, .int .i64 cy, .int .i64 cc, .bool co, .int .i64 cz] 51)
      have y0 := cell_alloc_keep y0 (.cells #[.int .i64 ct, .int .i64 (cb : Int), .int .i64 ce, .int .i64 ck, .int .i64 cy, .int .i64 cc, .bool co, .int .i64 cz] 65)
      have y1 := cell_alloc_keep y1 (.cells #[.int .i64 ct, .int .i64 (cb : Int), .int .i64 ce, .int .i64 ck, .int .i64 cy, .int .i64 cc, .bool co, .int .i64 cz] 65)
      have y2 := cell_alloc_keep y2 (.cells #[.int .i64 ct, .int .i64 (cb : Int), .int .i64 ce, .int .i64 ck, .int .i64 cy, .int .i64 cc, .bool co, .int .i64 cz] 65)
      have y3 := cell_alloc_keep y3 (.cells #[.int .i64 ct, .int .i64 (cb : Int), .int .i64 ce, .int .i64 ck, .int .i64 cy, .int .i64 cc, .bool co, .int .i64 cz] 65)
      have y4 := cell_alloc_keep y4 (.cells #[.int .i64 ct, .int .i64 (cb : Int), .int .i64 ce, .int .i64 ck, .int .i64 cy, .int .i64 cc, .bool co, .int .i64 cz] 65)
      have y5 := cell_alloc_keep y5 (.cells #[.int .i64 ct, .int .i64 (cb : Int), .int .i64 ce, .int .i64 ck, .int .i64 cy, .int .i64 cc, .bool co, .int .i64 cz] 65)
      have y6 := cell_alloc_keep y6 (.cells #[.int .i64 ct, .int .i64 (cb : Int), .int .i64 ce, .int .i64 ck, .int .i64 cy, .int .i64 cc, .bool co, .int .i64 cz] 65)
      have y7 := cell_alloc_keep y7 (.cells #[.int .i64 ct, .int .i64 (cb : Int), .int .i64 ce, .int .i64 ck, .int .i64 cy, .int .i64 cc, .bool co, .int .i64 cz] 65)
      have y8 := cell_alloc_keep y8 (.cells #[.int .i64 ct, .int .i64 (cb : Int), .int .i64 ce, .int .i64 ck, .int .i64 cy, .int .i64 cc, .bool co, .int .i64 cz] 65)
      clear hC hW hG hb
      go_upto_region 9 with (fail)
      clear x0 x1 x2 x3 x4 x5 x6 x7 y0 y1 y2 y3 y4 y5 y6 y7 y8
      generalize (wr.alloc (.cells #[.int .i64 ct, .int .i64 (cb : Int), .int .i64 ce, .int .i64 ck, .int .i64 cy, .int .i64 cc, .bool co, .int .i64 cz] 65)).alloc (.cells #[.int .i64 (cb : Int), .int .i64 ce, .int .i64 (ci : Int), .int .i64 ct, .int .i64 ck, .int .i64 cy, .int .i64 cc, .bool co, .int .i64 cz] 51) = w3 at *
      generalize wr.heap.size + 1 = q1 at *
      generalize wr.heap.size = q0 at *
      obtain ⟨r0, r1, r2, r3, r4, r5, r6, r7, -⟩ := hN.eight
      obtain ⟨c0, c1, c2, c3, c4, c5, c6, c7, c8, -⟩ := hM.nine
      have kr0 := cell_regrown r0
      have kr1 := cell_regrown r1
      have kr2 := cell_regrown r2
      have kr3 := cell_regrown r3
      have kr4 := cell_regrown r4
      have kr5 := cell_regrown r5
      have kr6 := cell_regrown r6
      have kr7 := cell_regrown r7
      have kc0 := cell_regrown c0
      have kc1 := cell_regrown c1
      have kc2 := cell_regrown c2
      have kc3 := cell_regrown c3
      have kc4 := cell_regrown c4
      have kc5 := cell_regrown c5
      have kc6 := cell_regrown c6
      have kc7 := cell_regrown c7
      have kc8 := cell_regrown c8
      have qP := fun d os => Calls.regrown_of (spanp_any (cb : Int) ce (grow (redrawn w3 d) os))
      obtain ⟨bP, hbP⟩ : ∃ bP, bP = decide (ce < 0) := ⟨_, rfl⟩
      have q9 := hbP.symm
      rw [q9] at qP
      have v1 := op_same ck cy
      have v2 := res_same3 cc co cz
      have v3 := bool_same bP
      have HH := hid (And.intro hN (And.intro hM hby))
      clear r0 r1 r2 r3 r4 r5 r6 r7 c0 c1 c2 c3 c4 c5 c6 c7 c8 hN hM hby hbx hsx hbP
      refine wp_region_quiet_below (by kernel_rfl) (by kernel_rfl) ?_
      repeat (first | go_big_quiet_step (first | exact qP _ _) | quiet_step (first | exact qP _ _))
      refine wpQuiet_nil ?_
      intro _ hw'
      obtain ⟨⟨dq, osq⟩, hw''⟩ := hw'
      subst hw''
      have hbq := below_regrown w3 dq osq
      obtain ⟨hN, hM, hby⟩ := HH.out
      replace hN := hN.below hbq hN.lt
      replace hM := hM.below hbq hM.lt
      replace hby := hby.trans (hbq.mono hby.size)
      clear qP HH v1 v2 v3 q9 kr0 kr1 kr2 kr3 kr4 kr5 kr6 kr7 kc0 kc1 kc2 kc3 kc4 kc5 kc6 kc7 kc8
      generalize grow (redrawn w3 dq) osq = w4 at *
      clear hbq
      go_wp2
      go_loopw [84] (fun i wx => ∃ k : Nat, k ≤ cs.length ∧ i = .int .i64 k ∧ Below w4.heap.size w4 wx) (fun i _ => cs.length - (intOf i).toNat)
      case atStart => exact ⟨0, Nat.zero_le _, rfl, Below.refl _ _⟩
      case round =>
        obtain ⟨k, hk, rfl, hbx⟩ := hrel
        have hsx := hbx.size
        by_cases hlt2 : k < cs.length
        · obtain ⟨hW, hG, hb⟩ := HF.out
          obtain ⟨E, hE⟩ : ∃ E, cs[k]? = some E := ⟨_, List.getElem?_eq_getElem hlt2⟩
          have hbz := hby.trans (hbx.mono hby.size)
          obtain ⟨gW', cW', hv, -, -, x0, x1, x2, x3, x4, x5, x6, x7⟩ := RefCalls.cells (hW.below hbz) hE
          simp only [Value.slice.injEq, Option.some.injEq, Addr.mk.injEq, and_true] at hv
          obtain ⟨rfl, -, -⟩ := hv
          obtain ⟨gG', cG', hv, -, -, y0, y1, -, -, -, -, -, -, -⟩ := CallRow.cells (hG.below hbz) hE
          simp only [Value.slice.injEq, Option.some.injEq, Addr.mk.injEq, and_true] at hv
          obtain ⟨rfl, -, -⟩ := hv
          obtain ⟨db, de, di, dt, dk, dy, dc, do_, dz⟩ := E
          dsimp only at x0 x1 x2 x3 x4 x5 x6 x7 y0 y1
          have hN2 := (hN.below hbx hN.lt).alloc (.cells #[.int .i64 dt, .int .i64 (db : Int), .int .i64 de, .int .i64 dk, .int .i64 dy, .int .i64 dc, .bool do_, .int .i64 dz] 65)
          have hM2 := (hM.below hbx hM.lt).alloc (.cells #[.int .i64 dt, .int .i64 (db : Int), .int .i64 de, .int .i64 dk, .int .i64 dy, .int .i64 dc, .bool do_, .int .i64 dz] 65)
          have hL := Blk.new wr 65 #[.int .i64 dt, .int .i64 (db : Int), .int .i64 de, .int .i64 dk, .int .i64 dy, .int .i64 dc, .bool do_, .int .i64 dz]
          have hbu := hbx.alloc hsx (.cells #[.int .i64 dt, .int .i64 (db : Int), .int .i64 de, .int .i64 dk, .int .i64 dy, .int .i64 dc, .bool do_, .int .i64 dz] 65)
          have y0 := cell_alloc_keep y0 (.cells #[.int .i64 dt, .int .i64 (db : Int), .int .i64 de, .int .i64 dk, .int .i64 dy, .int .i64 dc, .bool do_, .int .i64 dz] 65)
          have y1 := cell_alloc_keep y1 (.cells #[.int .i64 dt, .int .i64 (db : Int), .int .i64 de, .int .i64 dk, .int .i64 dy, .int .i64 dc, .bool do_, .int .i64 dz] 65)
          have HBY := hid hby
          clear hE hW hG hb hbz hbx hsx hby hN hM
          go_upto_region 14 with (fail)
          clear x0 x1 x2 x3 x4 x5 x6 x7
          generalize wr.alloc (.cells #[.int .i64 dt, .int .i64 (db : Int), .int .i64 de, .int .i64 dk, .int .i64 dy, .int .i64 dc, .bool do_, .int .i64 dz] 65) = w5 at *
          generalize wr.heap.size = q2 at *
          obtain ⟨r0, r1, r2, r3, r4, r5, r6, r7, -⟩ := hN2.eight
          obtain ⟨c0, c1, -, -, -, -, -, -, -, -⟩ := hM2.nine
          obtain ⟨l0, l1, l2, l3, l4, l5, l6, l7, -⟩ := hL.eight
          have kr0 := cell_regrown r0
          have kl0 := cell_regrown l0
          have kr1 := cell_regrown r1
          have kl1 := cell_regrown l1
          have kr2 := cell_regrown r2
          have kl2 := cell_regrown l2
          have kr3 := cell_regrown r3
          have kl3 := cell_regrown l3
          have kr4 := cell_regrown r4
          have kl4 := cell_regrown l4
          have kr5 := cell_regrown r5
          have kl5 := cell_regrown l5
          have kr6 := cell_regrown r6
          have kl6 := cell_regrown l6
          have kr7 := cell_regrown r7
          have kl7 := cell_regrown l7
          have kc0 := cell_regrown c0
          have kc1 := cell_regrown c1
          have ky0 := cell_regrown y0
          have ky1 := cell_regrown y1
          have qB := fun d os => Calls.regrown_of (spanb_any (cb : Int) ce (db : Int) de (grow (redrawn w5 d) os))
          have qR := fun d os => Calls.regrown_of (rbefore_any ⟨cb, ce, ci, ct, ck, cy, cc, co, cz⟩ ⟨db, de, di, dt, dk, dy, dc, do_, dz⟩ (grow (redrawn w5 d) os))
          dsimp only [refC] at qR
          obtain ⟨bP, hbP⟩ : ∃ bP, bP = decide (0 ≤ ce ∧ ce < (db : Int)) := ⟨_, rfl⟩
          rw [← hbP] at qB qR
          have v3 := bool_same bP
          have HH := hid (And.intro hN2 (And.intro hM2 hbu))
          clear r0 r1 r2 r3 r4 r5 r6 r7 c0 c1 l0 l1 l2 l3 l4 l5 l6 l7 y0 y1 hN2 hM2 hL hbu hbP
          refine wp_region_quiet_below (by kernel_rfl) (by kernel_rfl) ?_
          repeat (first | go_big_quiet_step (first | exact qB _ _ | exact qR _ _) | quiet_step (first | exact qB _ _ | exact qR _ _))
          refine wpQuiet_nil ?_
          intro _ hw'
          obtain ⟨⟨dq2, osq2⟩, hw''⟩ := hw'
          subst hw''
          have hbq := below_regrown w5 dq2 osq2
          have hbv := HH.out.2.2.trans (hbq.mono HH.out.2.2.size)
          clear qB qR HH v3 hbq
          generalize grow (redrawn w5 dq2) osq2 = w6 at *
          go_wp2
          go_roundw
          case rel => exact ⟨k + 1, by omega, by go_num, hbv⟩
          case measure => first | (simp [intOf]; done) | (simp [intOf]; omega)
        · have hbz := hby.trans (hbx.mono hby.size)
          clear hbx hby hN hM
          go_wp2
          go_roundw
          case rel => exact ⟨ci + 1, by omega, by go_num, hbz⟩
          case measure => first | (simp [intOf]; done) | (simp [intOf]; omega)
    · have hb := HF.out.2.2.trans (hbx.mono HF.out.2.2.size)
      go_wp2
      go_ret
      exact ⟨rfl, hb⟩
end Go.Proofs.Ytlhfpmhbhaicmaa
