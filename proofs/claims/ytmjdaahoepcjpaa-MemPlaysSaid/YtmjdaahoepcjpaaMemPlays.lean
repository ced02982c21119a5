/- The law MemPlays. -/
import Derived.Test.YtmjdaahoepcjpaaMemLawAct
import Derived.Test.YtmjdaahoepcjpaaOpenOps
import Derived.Deep.RegionHeld3
import Derived.Deep.CutBlock
import Derived.Deep.CutRange
namespace Go.Proofs.Ytmjdaahoepcjpaa
open Go.RowKit Go.Sort
set_option maxHeartbeats 400000000
set_option maxRecDepth 100000

theorem RdO.keep {w w' : World} {B : Nat} {A : Option Addr} {l : List OpV} (h : RdO w A l) (hb : Below B w w') (hB : w.heap.size ≤ B) : RdO w' A l := by
  rcases h with h | ⟨b, off, hA, hlt, hc⟩
  · exact Or.inl h
  · exact Or.inr ⟨b, off, hA, Nat.lt_of_lt_of_le hlt hb.size, fun i hi => by
      have := hc i hi
      rw [hb.cell (p := ⟨b, off + i * 4, none⟩) (by simp; omega), hb.cell (p := ⟨b, off + i * 4 + 1, none⟩) (by simp; omega), hb.cell (p := ⟨b, off + i * 4 + 2, none⟩) (by simp; omega), hb.cell (p := ⟨b, off + i * 4 + 3, none⟩) (by simp; omega)]
      exact this⟩

/-- At each round's head: so many actions; the law's own words are memory's. -/
def PlayRel (w0 : World) (g b wb : Nat) (n : Nat) (ops : List OpV) (i : Value) (w : World) : Prop :=
  ∃ (j : Nat) (V : MV), j ≤ ops.length ∧ i = .int .i64 j ∧ MemAt w g b V ∧ Blk w wb 32 (wordCells V.ws []) ∧ b ≠ wb ∧ w0.heap.size ≤ wb ∧ V.a = j ∧ V.ws.length = n ∧ Below w0.heap.size w0 w

/-- Behind the switch, at an address that there is: the action was done, the law's own words are still the old ones. -/
def PlayIn (w0 : World) (g b wb q : Nat) (V : MV) (z : Int) (j : Nat) (k a o x : Int) (i : Value) (w : World) : Prop :=
  ∃ (X : Int) (ok : Bool), i = .int .i64 j ∧ MemAt w g b (V.did k a X ok) ∧ Blk w wb 32 (wordCells V.ws []) ∧ Blk w q 34 #[.int .i64 k, .int .i64 a, .int .u64 o, .int .u64 x] ∧
    Blk w (q + 1) 36 #[.int .i64 k, .int .i64 a, .int .u64 z, .int .u64 X, .bool ok] ∧ Below w0.heap.size w0 w
def PlayIn2 (w0 : World) (g b wb q : Nat) (V : MV) (z : Int) (j : Nat) (k a o x X : Int) (ok : Bool) (i : Value) (w : World) : Prop :=
  i = .int .i64 j ∧ MemAt w g b (V.did k a X ok) ∧ Blk w wb 32 (wordCells (V.did k a X ok).ws []) ∧ Blk w q 34 #[.int .i64 k, .int .i64 a, .int .u64 o, .int .u64 x] ∧
    Blk w (q + 1) 36 #[.int .i64 k, .int .i64 a, .int .u64 z, .int .u64 X, .bool ok] ∧ Below w0.heap.size w0 w
def PlayOut (w0 : World) (g b wb q : Nat) (V : MV) (j : Nat) (k a o x : Int) (i : Value) (w : World) : Prop :=
  i = .int .i64 j ∧ MemAt w g b (V.missed k a) ∧ Blk w wb 32 (wordCells V.ws []) ∧ Blk w q 34 #[.int .i64 k, .int .i64 a, .int .u64 o, .int .u64 x] ∧
    Blk w (q + 1) 36 #[.int .i64 k, .int .i64 a, .int .u64 0, .int .u64 0, .bool false] ∧ Below w0.heap.size w0 w

theorem act_neq_self (k a o x : Int) (ok : Bool) (w : World) : (binOp .neq 36 (.agg #[.int .i64 k, .int .i64 a, .int .u64 o, .int .u64 x, .bool ok]) (.agg #[.int .i64 k, .int .i64 a, .int .u64 o, .int .u64 x, .bool ok])).run Try.prog w = .ok (.bool false) w := by
  cases ok <;> simp [go_sem]

theorem plays_walk (t m : Int) (A : Option Addr) (l : List Int) (cap : Nat) (B : Option Addr) (ops : List OpV) (cap2 : Nat) (hl : l.length ≤ maxLen) (hol : ops.length ≤ maxLen) (w : World) (hR : RdI w .u64 A l) (hO : RdO w B ops) (hW : ∀ o ∈ ops, o.wf) :
    Calls Try.prog 3 #[.agg #[.int .i64 t, .int .i64 m], .slice A l.length cap, .slice B ops.length cap2] w fun e w' => e = .returned (.bool true) ∧ Below w.heap.size w w' := by
  unfold maxLen at hl hol
  have B1 := Blk.new w 23 #[.int .i64 t, .int .i64 m]
  have hbw := (Below.refl w.heap.size w).alloc (Nat.le_refl _) (.cells #[.int .i64 t, .int .i64 m] 23)
  by_cases h800 : l.length ≤ 800
  · by_cases h200 : ops.length ≤ 200
    · have HR := hid hR
      have HO := hid hO
      have HW := hid hW
      clear hR hO hW hl hol
      by_cases hlay : layR t m
      · obtain ⟨t0, t1, m0, m1⟩ := id hlay
        by_cases hlong : l.length ≤ 6 + 2 * m + 5 * t
        · go_enter Try.func3, Try.ntmps3
          go_wp2_with fail
          refine (mawake_any _).mono ?_
          rintro e w1 ⟨rfl, hb1⟩
          replace hbw := hbw.trans (hb1.mono hbw.size)
          replace B1 := B1.below hb1 B1.lt
          obtain ⟨c0, c1, cf⟩ := B1.two
          clear hb1
          go_wp2_with fail
          refine (new_ok t m A l cap hlay hlong _ (HR.out.keep hbw (Nat.le_refl _))).mono ?_
          rintro e w2 ⟨g, b, rfl, hg, hb, hM, hb2⟩
          have s1 := hbw.size
          replace hbw := hbw.trans (hb2.mono s1)
          replace B1 := B1.below hb2 B1.lt
          have hg' : w.heap.size ≤ g := by omega
          have hb' : w.heap.size ≤ b := by omega
          clear hb2 c0 c1 cf
          obtain ⟨c0, c1, cf⟩ := B1.two
          go_wp2_with fail
          obtain ⟨n, hn⟩ : ∃ n : Nat, m * 2 + 4 + t * 5 + 2 = (n : Int) := ⟨(m * 2 + 4 + t * 5 + 2).toNat, by omega⟩
          have hn3 : n ≤ 3000 := by omega
          have hln : l.length ≤ n := by omega
          have hsz : ∀ w, Calls Try.prog 12 #[.agg #[.int .i64 t, .int .i64 m]] w fun e w' => e = .returned (.int .i64 (n : Int)) ∧ Below w.heap.size w w' := fun w => by
            have := size_any t m ⟨by omega, by omega⟩ ⟨by omega, by omega⟩ w
            rw [show 6 + 2 * m + 5 * t = (n : Int) from by omega] at this
            exact this
          have hws : (MV.made t m l).ws = l ++ List.replicate (n - l.length) 0 := by
            simp only [MV.made, MV.new]
            rw [show (6 + 2 * m + 5 * t).toNat = n from by omega]
          have hwl : (MV.made t m l).ws.length = n := by rw [hws]; simp; omega
          have hva : (MV.made t m l).a = 0 := rfl
          have hvs : (MV.made t m l).sp = [] := rfl
          generalize MV.made t m l = V at *
          generalize m * 2 + 4 + t * 5 + 2 = N at *
          subst hn
          refine (right_yes t m hlay _).mono ?_
          rintro e w3 ⟨rfl, hb3⟩
          replace hbw := hbw.trans (hb3.mono hbw.size)
          replace B1 := B1.below hb3 B1.lt
          replace hM := hM.below_ hb3
          clear hb3 c0 c1 cf
          obtain ⟨c0, c1, cf⟩ := B1.two
          have hnn : ((n : Int) != (n : Int)) = false := by simp
          go_wp2_with fail
          refine (hsz _).mono ?_
          rintro e w4 ⟨rfl, hb4⟩
          replace hbw := hbw.trans (hb4.mono hbw.size)
          replace hM := hM.below_ hb4
          clear hb4 c0 c1 cf B1
          have hmk : ∀ (w : World), (Instr.makeSlice 24 (.int .i64 (n : Int)) (.int .i64 (n : Int))).run Try.prog w = .ok (.slice (some ⟨w.heap.size, 0, none⟩) n n) (w.alloc (.cells (List.replicate n (Value.int .u64 0)).toArray 32)) := fun w => by
            obtain ⟨i0, hi, hz0, hz1, hz2⟩ := info_parts info_u64
            have h := run_make (P := Try.prog) w 24 32 i0 (.int .u64 0) Try.underlying24 hi hz0 .i64 .i64 n n (by omega) (Int.le_refl _) (by rw [hz2]; omega) (by omega)
            rw [hz1] at h
            simp only [Int.toNat_natCast, Nat.mul_one] at h
            rw [h]
            congr 3
            have h2 := toList_madeCells_one (.int .u64 0) n
            rw [← h2]
            simp [Value.cells]
          have hsi : (Try.prog.info? 32).map (·.size) = some 1 := by kernel_rfl
          have hsrc : ∀ W', Below w.heap.size w W' → 0 < l.length → ∃ ad, A = some ad ∧ ∀ j a, l[j]? = some a → W'.cell? (ad.add j) = some (.int .u64 a) := by
            intro W' hb h0
            obtain ⟨b1, o1, rfl, hb1, hc1⟩ := HR.out.resolve_left (fun h => by subst h; simp at h0)
            refine ⟨_, rfl, fun j u hu => ?_⟩
            have hj : j < l.length := by rw [List.getElem?_eq_some_iff] at hu; exact hu.1
            have hx := hc1 j hj
            rw [Addr.add_lit, hb.cell (p := ⟨b1, o1 + j, none⟩) hb1, hx]
            simp only [List.getD, hu, Option.getD_some]
          have C4 : Blk (w4.alloc (.cells (Array.replicate n (.int .u64 0)) 32)) w4.heap.size 32 (List.replicate n (.int .u64 0)).toArray := by
            simpa using Blk.new w4 32 (Array.replicate n (.int .u64 0))
          have hbw6 := hbw.alloc hbw.size (.cells (Array.replicate n (.int .u64 0)) 32)
          have HSR := hid (hsrc _ hbw6)
          clear hsrc
          go_wp2_with (with_reducible refine wpList_copy_splice rfl (.tmp 93) (.tmp 94) 24 24 rfl 32 Try.underlying24 hsi _ _ _ _ _ _ rfl rfl w4.heap.size 0 (List.replicate n (.int .u64 0)) 32 ?z0 (l.map (.int .u64)) ?z1 ?z2 ?z3 ?z4 w4.heap.size (w4.alloc (.cells (Array.replicate n (.int .u64 0)) 32)) (Below.refl _ _) (Nat.le_refl _) ?z5)
          case z0 => exact C4
          case z1 => first | exact (Nat.min_eq_left hln).symm | (rw [List.length_map]; exact (Nat.min_eq_left hln).symm)
          case z2 =>
            intro h0
            obtain ⟨ad, e1, h1⟩ := HSR.out (by simpa using h0)
            exact ⟨ad, e1, fun j a ha => h1 j a ha⟩
          case z3 => simp; omega
          case z4 => simp [Value.oneCell']
          case z5 =>
            intro w5 hC hb7
            have hs4 := hbw.size
            have hgl := hM.mem.lt
            have hbl := hM.words.lt
            replace hM := (hM.alloc (.cells (Array.replicate n (.int .u64 0)) 32)).below hb7 hgl hbl
            replace hbw := hbw6.trans (hb7.mono hs4)
            have hWB : Blk w5 w4.heap.size 32 (wordCells V.ws []) := by
              have hx := hC.out
              rw [hws]
              simp [wordCells]
              simp [splice] at hx
              exact hx
            clear C4 hC hbw6 hb7 hmk hsi HSR hsz hnn hws
            generalize w4.heap.size = wb at *
            have HA := hid hva
            have HL := hid hwl
            clear hva hwl
            go_wp2_with fail
            go_loopw [98] (fun i wr => PlayRel w g b wb n ops i wr) (fun i _ => ops.length - (intOf i).toNat)
            case atStart => exact ⟨0, V, Nat.zero_le _, rfl, hM, hWB, Nat.ne_of_lt hbl, hs4, HA.out, HL.out, hbw⟩
            case round =>
              clear hM hWB hbw HA HL hvs
              obtain ⟨j, V, hj, rfl, hM, hWB, hbwb, hwbl, hva, hvl, hbw⟩ := hrel
              by_cases hlt : j < ops.length
              · obtain ⟨bb, off, rfl, hbb, hcell⟩ := HO.out.resolve_left (fun h => by subst h; simp at hlt)
                obtain ⟨x0, x1, x2, x3⟩ := hcell j hlt
                have hwf := HW.out (ops.getD j .zero) (by rw [List.getD_eq_getElem?_getD, List.getElem?_eq_getElem hlt]; exact List.getElem_mem hlt)
                obtain ⟨f0, f1, f2, f3⟩ := hwf
                rw [← hbw.cell (p := ⟨bb, off + j * 4, none⟩) hbb] at x0
                rw [← hbw.cell (p := ⟨bb, off + j * 4 + 1, none⟩) hbb] at x1
                rw [← hbw.cell (p := ⟨bb, off + j * 4 + 2, none⟩) hbb] at x2
                rw [← hbw.cell (p := ⟨bb, off + j * 4 + 3, none⟩) hbb] at x3
                clear hcell
                generalize ops.getD j .zero = op at *
                obtain ⟨k, a, o, x⟩ := op
                simp only at x0 x1 x2 x3 f0 f1 f2 f3
                have fa := bounds_i64 f1
                clear f0 f1 f2 f3
                obtain ⟨a0, a1⟩ := fa
                have hsz := hbw.size
                have hgl := hM.mem.lt
                have hbl := hM.words.lt
                have hwl := hWB.lt
                have hgw : g ≠ wb := by
                  intro e; subst e
                  have h1 : wr.heap[g]? = some (.cells _ 64 (0, 0)) := hM.mem
                  have h2 : wr.heap[g]? = some (.cells _ 32 (0, 0)) := hWB
                  rw [h1] at h2; simp at h2
                by_cases hin : 0 ≤ a ∧ a < n
                · obtain ⟨i0, i1⟩ := hin
                  obtain ⟨c, rfl⟩ : ∃ c : Nat, a = (c : Int) := ⟨a.toNat, by omega⟩
                  have hcn : c < n := by omega
                  have hhas : V.has (c : Int) := ⟨i0, by rw [hvl]; exact i1⟩
                  have hat := MV.at_has hhas
                  have cw : wr.cell? ⟨wb, c, none⟩ = some (.int .u64 (V.at (c : Int))) := by rw [hWB.cell, wordCells_at _ _ _ (by omega), hat]; simp
                  clear hat
                  obtain ⟨z, hz⟩ : ∃ z, V.at (c : Int) = z := ⟨_, rfl⟩
                  rw [hz] at cw
                  have HZ := hid hz
                  clear hz
                  have HH := hid hhas
                  have HVA := hid hva
                  have HVL := hid hvl
                  clear hhas hva hvl
                  go_upto_block 2 with (fail)
                  go_cut [98] from 98 to 237 (fun i wx => PlayIn w g b wb wr.heap.size V z j k (c : Int) o x i wx)
                  case first =>
                    as_aux_lemma =>
                    have hO2 := (Blk.new wr 34 #[.int .i64 k, .int .i64 (c : Int), .int .u64 o, .int .u64 x]).alloc (.cells #[.int .i64 k, .int .i64 (c : Int), .int .u64 z, .int .u64 z, .bool true] 36)
                    have hP2 := Blk.new1 wr (.cells #[.int .i64 k, .int .i64 (c : Int), .int .u64 o, .int .u64 x] 34) 36 #[.int .i64 k, .int .i64 (c : Int), .int .u64 z, .int .u64 z, .bool true]
                    have hM2 := (hM.alloc (.cells #[.int .i64 k, .int .i64 (c : Int), .int .u64 o, .int .u64 x] 34)).alloc (.cells #[.int .i64 k, .int .i64 (c : Int), .int .u64 z, .int .u64 z, .bool true] 36)
                    have hWB2 := (hWB.alloc (.cells #[.int .i64 k, .int .i64 (c : Int), .int .u64 o, .int .u64 x] 34)).alloc (.cells #[.int .i64 k, .int .i64 (c : Int), .int .u64 z, .int .u64 z, .bool true] 36)
                    have hbw2 := (hbw.alloc hsz (.cells #[.int .i64 k, .int .i64 (c : Int), .int .u64 o, .int .u64 x] 34)).alloc (by simp; omega) (.cells #[.int .i64 k, .int .i64 (c : Int), .int .u64 z, .int .u64 z, .bool true] 36)
                    generalize ((wr.alloc (.cells #[.int .i64 k, .int .i64 (c : Int), .int .u64 o, .int .u64 x] 34)).alloc (.cells #[.int .i64 k, .int .i64 (c : Int), .int .u64 z, .int .u64 z, .bool true] 36)) = w2 at *
                    clear cw x0 x1 x2 x3 hWB hM hbw
                    have hok : actsOk V := by have := HVA.out; unfold actsOk; omega
                    by_cases k1 : k = 1
                    · as_aux_lemma =>
                      subst k1
                      obtain ⟨c0, c1, c2, c3, cf⟩ := hO2.four
                      obtain ⟨d0, d1, d2, d3, d4, df⟩ := hP2.five
                      have hL := load_any g b V (c : Int) w2 hM2 hok
                      have hv : V.load (c : Int) = V.did 1 (c : Int) (V.at (c : Int)) true := if_pos HH.out
                      rw [hv] at hL
                      clear hv
                      rw [HZ.out] at hL
                      have hz : (z != z) = false := by simp
                      go_wp2_with fail
                      refine hL.mono ?_
                      rintro e w3 ⟨rfl, hM3, hT3⟩
                      replace hbw2 := hbw2.trans (hT3.below2 hg' hb' hbw2.size)
                      replace hO2 := hO2.touch hT3 (not_two (by omega) (by omega))
                      replace hP2 := hP2.touch hT3 (not_two (by omega) (by omega))
                      replace hWB2 := hWB2.touch hT3 (not_two (Ne.symm hgw) (Ne.symm hbwb))
                      clear c0 c1 c2 c3 cf d0 d1 d2 d3 d4 df hL hT3 hM2
                      obtain ⟨c0, c1, c2, c3, cf⟩ := hO2.four
                      obtain ⟨d0, d1, d2, d3, d4, df⟩ := hP2.five
                      go_wp2
                      go_meet
                      exact ⟨_, true, rfl, hM3, hWB2, hO2, hP2, hbw2⟩
                    by_cases k2 : k = 2
                    · as_aux_lemma =>
                      subst k2
                      obtain ⟨c0, c1, c2, c3, cf⟩ := hO2.four
                      obtain ⟨d0, d1, d2, d3, d4, df⟩ := hP2.five
                      have hL := store_any g b V (c : Int) x w2 hM2 hok
                      have hv : V.store (c : Int) x = V.did 2 (c : Int) x true := if_pos HH.out
                      rw [hv] at hL
                      clear hv
                      go_wp2_with fail
                      refine hL.mono ?_
                      rintro e w3 ⟨rfl, hM3, hT3⟩
                      replace hbw2 := hbw2.trans (hT3.below2 hg' hb' hbw2.size)
                      replace hO2 := hO2.touch hT3 (not_two (by omega) (by omega))
                      replace hP2 := hP2.touch hT3 (not_two (by omega) (by omega))
                      replace hWB2 := hWB2.touch hT3 (not_two (Ne.symm hgw) (Ne.symm hbwb))
                      clear c0 c1 c2 c3 cf d0 d1 d2 d3 d4 df hL hT3 hM2
                      obtain ⟨c0, c1, c2, c3, cf⟩ := hO2.four
                      obtain ⟨d0, d1, d2, d3, d4, df⟩ := hP2.five
                      replace hP2 := hP2.set_ 3 (.int .u64 x)
                      simp at hP2
                      replace hO2 := hO2.far (p := ⟨wr.heap.size + 1, 3, none⟩) (by simp) (.int .u64 x)
                      replace hM3 : MemAt (w3.setCell ⟨wr.heap.size + 1, 3, none⟩ (.int .u64 x)) g b _ := ⟨hM3.mem.far (by simp; omega) _, hM3.words.far (by simp; omega) _, hM3.ne⟩
                      replace hWB2 := hWB2.far (p := ⟨wr.heap.size + 1, 3, none⟩) (by simp; omega) (.int .u64 x)
                      replace hbw2 := hbw2.setCell (p := ⟨wr.heap.size + 1, 3, none⟩) (by simp; omega) (.int .u64 x)
                      go_wp2
                      go_meet
                      exact ⟨_, true, rfl, hM3, hWB2, hO2, hP2, hbw2⟩
                    by_cases k4 : k = 4
                    · as_aux_lemma =>
                      subst k4
                      obtain ⟨c0, c1, c2, c3, cf⟩ := hO2.four
                      obtain ⟨d0, d1, d2, d3, d4, df⟩ := hP2.five
                      have hL := add_any g b V (c : Int) x w2 hM2 hok
                      have hv : V.add (c : Int) x = V.did 4 (c : Int) ((V.at (c : Int) + x) % 18446744073709551616) true := if_pos HH.out
                      rw [hv] at hL
                      clear hv
                      rw [HZ.out] at hL
                      have hz : (z != z) = false := by simp
                      have hwr : IntKind.u64.wrap (z + x) = (z + x) % 18446744073709551616 := IntKind.wrap_u64 _
                      go_wp2_with fail
                      refine hL.mono ?_
                      rintro e w3 ⟨rfl, hM3, hT3⟩
                      replace hbw2 := hbw2.trans (hT3.below2 hg' hb' hbw2.size)
                      replace hO2 := hO2.touch hT3 (not_two (by omega) (by omega))
                      replace hP2 := hP2.touch hT3 (not_two (by omega) (by omega))
                      replace hWB2 := hWB2.touch hT3 (not_two (Ne.symm hgw) (Ne.symm hbwb))
                      clear c0 c1 c2 c3 cf d0 d1 d2 d3 d4 df hL hT3 hM2
                      obtain ⟨c0, c1, c2, c3, cf⟩ := hO2.four
                      obtain ⟨d0, d1, d2, d3, d4, df⟩ := hP2.five
                      replace hP2 := hP2.set_ 3 (.int .u64 ((z + x) % 18446744073709551616))
                      simp at hP2
                      replace hO2 := hO2.far (p := ⟨wr.heap.size + 1, 3, none⟩) (by simp) (.int .u64 ((z + x) % 18446744073709551616))
                      replace hM3 : MemAt (w3.setCell ⟨wr.heap.size + 1, 3, none⟩ (.int .u64 ((z + x) % 18446744073709551616))) g b _ := ⟨hM3.mem.far (by simp; omega) _, hM3.words.far (by simp; omega) _, hM3.ne⟩
                      replace hWB2 := hWB2.far (p := ⟨wr.heap.size + 1, 3, none⟩) (by simp; omega) (.int .u64 ((z + x) % 18446744073709551616))
                      replace hbw2 := hbw2.setCell (p := ⟨wr.heap.size + 1, 3, none⟩) (by simp; omega) (.int .u64 ((z + x) % 18446744073709551616))
                      go_wp2
                      go_meet
                      exact ⟨_, true, rfl, hM3, hWB2, hO2, hP2, hbw2⟩
                    by_cases k3 : k = 3
                    · as_aux_lemma =>
                      subst k3
                      obtain ⟨B, hB⟩ : ∃ B, (z == o) = B := ⟨_, rfl⟩
                      have hd : decide (V.at (c : Int) = o) = B := by rw [HZ.out, ← hB]; by_cases e : z = o <;> simp [e]
                      have hv : V.cas (c : Int) o x = V.did 3 (c : Int) x B := by rw [← hd]; exact if_pos HH.out
                      have hcb : V.casOk (c : Int) o = B := by rw [← hd]; simp [MV.casOk, HH.out]
                      have hBB : (B != B) = false := by cases B <;> rfl
                      have HV := hid hv
                      have HCB := hid hcb
                      clear hv hcb hd
                      obtain ⟨c0, c1, c2, c3, cf⟩ := hO2.four
                      obtain ⟨d0, d1, d2, d3, d4, df⟩ := hP2.five
                      go_wp2_with fail
                      have hM3 := hM2
                      replace hP2 := hP2.set_ 4 (.bool B)
                      simp at hP2
                      replace hO2 := hO2.far (p := ⟨wr.heap.size + 1, 4, none⟩) (by simp) (.bool B)
                      replace hM3 : MemAt (w2.setCell ⟨wr.heap.size + 1, 4, none⟩ (.bool B)) g b _ := ⟨hM3.mem.far (by simp; omega) _, hM3.words.far (by simp; omega) _, hM3.ne⟩
                      replace hWB2 := hWB2.far (p := ⟨wr.heap.size + 1, 4, none⟩) (by simp; omega) (.bool B)
                      replace hbw2 := hbw2.setCell (p := ⟨wr.heap.size + 1, 4, none⟩) (by simp; omega) (.bool B)
                      generalize (w2.setCell ⟨wr.heap.size + 1, 4, none⟩ (.bool B)) = w3 at *
                      clear c0 c1 c2 c3 cf d0 d1 d2 d3 d4 df hM2
                      have hL := cas_any g b V (c : Int) o x w3.drew (hM3.drewN 1) hok
                      rw [HV.out, HCB.out] at hL
                      obtain ⟨c0, c1, c2, c3, cf⟩ := hO2.four
                      obtain ⟨d0, d1, d2, d3, d4, df⟩ := hP2.five
                      go_region_held3 (fun w' => w'.cell? ⟨wr.heap.size, 1, none⟩ = some (.int .i64 (c : Int)) ∧ w'.cell? ⟨wr.heap.size, 2, none⟩ = some (.int .u64 o) ∧ w'.cell? ⟨wr.heap.size, 3, none⟩ = some (.int .u64 x) ∧ w'.cell? ⟨wr.heap.size + 1, 4, none⟩ = some (.bool B))
                        (first | go_keep)
                        (first | (go_at_call 15; (with_reducible refine hL.mono ?_); rintro e w4 ⟨rfl, hM4, hT4⟩; have hO4 := (hO2.drewN 1).touch hT4 (not_two (by omega) (by omega)); have hP4 := (hP2.drewN 1).touch hT4 (not_two (by omega) (by omega)); obtain ⟨c04, c14, c24, c34, cf4⟩ := hO4.four; obtain ⟨d04, d14, d24, d34, d44, df4⟩ := hP4.five))
                      have hbw4 : Below w.heap.size w w4 := (hbw2.drew).trans (hT4.below2 hg' hb' hbw2.drew.size)
                      have hWB4 := (hWB2.drewN 1).touch hT4 (not_two (Ne.symm hgw) (Ne.symm hbwb))
                      clear hM3 hO2 hP2 hWB2 hbw2 hL hT4 c0 c1 c2 c3 cf d0 d1 d2 d3 d4 df c04 c14 c24 c34 cf4 d04 d14 d24 d34 d44 df4
                      rename_i hheld
                      clear hheld
                      obtain ⟨hM3, hO2, hP2, hWB2, hbw2⟩ : MemAt w4 g b _ ∧ _ ∧ _ ∧ _ ∧ _ := ⟨hM4, hO4, hP4, hWB4, hbw4⟩
                      clear hM4 hO4 hP4 hWB4 hbw4
                      obtain ⟨c0, c1, c2, c3, cf⟩ := hO2.four
                      obtain ⟨d0, d1, d2, d3, d4, df⟩ := hP2.five
                      replace hP2 := hP2.set_ 3 (.int .u64 x)
                      simp at hP2
                      replace hO2 := hO2.far (p := ⟨wr.heap.size + 1, 3, none⟩) (by simp) (.int .u64 x)
                      replace hM3 : MemAt (w4.setCell ⟨wr.heap.size + 1, 3, none⟩ (.int .u64 x)) g b _ := ⟨hM3.mem.far (by simp; omega) _, hM3.words.far (by simp; omega) _, hM3.ne⟩
                      replace hWB2 := hWB2.far (p := ⟨wr.heap.size + 1, 3, none⟩) (by simp; omega) (.int .u64 x)
                      replace hbw2 := hbw2.setCell (p := ⟨wr.heap.size + 1, 3, none⟩) (by simp; omega) (.int .u64 x)
                      go_wp2
                      go_meet
                      exact ⟨x, B, rfl, hM3, hWB2, hO2, hP2, hbw2⟩
                    have q1 : (k == 1) = false := beq_eq_false_iff_ne.2 k1
                    have q2 : (k == 2) = false := beq_eq_false_iff_ne.2 k2
                    have q3 : (k == 3) = false := beq_eq_false_iff_ne.2 k3
                    have q4 : (k == 4) = false := beq_eq_false_iff_ne.2 k4
                    clear k1 k2 k3 k4
                    obtain ⟨c0, c1, c2, c3, cf⟩ := hO2.four
                    obtain ⟨d0, d1, d2, d3, d4, df⟩ := hP2.five
                    go_wp2
                    go_ret
                    exact ⟨rfl, hbw2⟩
                  case rest =>
                    as_aux_lemma =>
                    obtain ⟨X, ok, rfl, hM2, hWB2, hO2, hP2, hbw2⟩ := hcut
                    clear cw x0 x1 x2 x3 hWB hM hbw
                    obtain ⟨c0, c1, c2, c3, cf⟩ := hO2.four
                    obtain ⟨d0, d1, d2, d3, d4, df⟩ := hP2.five
                    go_upto_if 193 with (fail)
                    go_cut [98] from 98 to 237 (fun i wx => PlayIn2 w g b wb wr.heap.size V z j k (c : Int) o x X ok i wx)
                    case first =>
                      as_aux_lemma =>
                      have e0 : wc.cell? ⟨wb, c, none⟩ = some (.int .u64 z) := by rw [hWB2.cell, wordCells_at _ _ _ (by rw [HVL.out]; exact hcn), ← HZ.out, MV.at_has HH.out]; simp
                      have ef := hWB2.frozen
                      cases ok
                      · go_wp2
                        go_meet
                        exact ⟨rfl, hM2, by simpa [MV.did] using hWB2, hO2, hP2, hbw2⟩
                      · have hM3 : MemAt (wc.setCell ⟨wb, c, none⟩ (.int .u64 X)) g b (V.did k (c : Int) X true) := ⟨hM2.mem.far hgw _, hM2.words.far hbwb _, hM2.ne⟩
                        have hO3 := hO2.far (p := ⟨wb, c, none⟩) (by simp; omega) (.int .u64 X)
                        have hP3 := hP2.far (p := ⟨wb, c, none⟩) (by simp; omega) (.int .u64 X)
                        have hWB3 := hWB2.set_ c (.int .u64 X)
                        rw [wordCells_set _ _ _ _ (by rw [HVL.out]; exact hcn)] at hWB3
                        have hbw3 := hbw2.setCell (p := ⟨wb, c, none⟩) (by simp; omega) (.int .u64 X)
                        clear hM2 hWB2
                        go_wp2
                        go_meet
                        exact ⟨rfl, hM3, by simpa [MV.did] using hWB3, hO3, hP3, hbw3⟩
                    case rest =>
                      as_aux_lemma =>
                      clear hM2 hWB2 hO2 hP2 hbw2 c0 c1 c2 c3 cf d0 d1 d2 d3 d4 df
                      obtain ⟨rfl, hM3, hWB2, hO2, hP2, hbw2⟩ := hcut
                      generalize wc = w3 at *
                      obtain ⟨y, hy⟩ : ∃ y, (V.did k (c : Int) X ok).at (c : Int) = y := ⟨_, rfl⟩
                      have hyw : (V.did k (c : Int) X ok).ws.getD c 0 = y := by rw [← hy, MV.at_has ((MV.did_has _ _ _ _ _ _).2 HH.out)]; simp
                      have HY := hid hy
                      have HYW := hid hyw
                      clear hy hyw
                      obtain ⟨c0, c1, c2, c3, cf⟩ := hO2.four
                      obtain ⟨d0, d1, d2, d3, d4, df⟩ := hP2.five
                      go_wp2_with fail
                      have hva : (V.did k (c : Int) X ok).a = (j : Int) + 1 := by show V.a + 1 = _; rw [HVA.out]
                      have hvl : (V.did k (c : Int) X ok).ws.length = n := by rw [MV.did_len, HVL.out]
                      have hA : ∀ w5, MemAt w5 g b (V.did k (c : Int) X ok) → Calls Try.prog 17 #[.pointer (some ⟨g, 0, none⟩)] w5 fun e w' => e = .returned (.int .i64 ((j : Int) + 1)) ∧ Below w5.heap.size w5 w' := fun w5 h => by
                        have h1 := acts_any g b _ w5 h
                        rw [hva] at h1
                        exact h1
                      have hLa : ∀ w5, MemAt w5 g b (V.did k (c : Int) X ok) → Calls Try.prog 18 #[.pointer (some ⟨g, 0, none⟩)] w5 fun e w' => e = .returned (.agg #[.int .i64 k, .int .i64 (c : Int), .int .u64 z, .int .u64 X, .bool ok]) ∧ Below w5.heap.size w5 w' := fun w5 h => by
                        have h1 := last_any g b _ w5 h
                        rw [show (V.did k (c : Int) X ok).o = z from HZ.out] at h1
                        exact h1
                      have hPk : ∀ w5, MemAt w5 g b (V.did k (c : Int) X ok) → Calls Try.prog 19 #[.pointer (some ⟨g, 0, none⟩), .int .i64 (c : Int)] w5 fun e w' => e = .returned (.int .u64 y) ∧ Below w5.heap.size w5 w' := fun w5 h => by
                        have h1 := peek_any g b _ (c : Int) w5 h
                        rw [show (V.did k (c : Int) X ok).at (c : Int) = y from HY.out] at h1
                        exact h1
                      have HVa := hid hva
                      have HVl := hid hvl
                      clear hva hvl
                      have hj1 : ((j : Int) + 1 != (j : Int) + 1) = false := by simp
                      have hw1 : IntKind.i64.wrap ((j : Int) + 1) = (j : Int) + 1 := by rw [IntKind.wrap_i64]; omega
                      have hae := act_neq_self k (c : Int) z X ok
                      have hyy : (y != y) = false := by simp
                      obtain ⟨c0, c1, c2, c3, cf⟩ := hO2.four
                      obtain ⟨d0, d1, d2, d3, d4, df⟩ := hP2.five
                      have e0 : w3.cell? ⟨wb, c, none⟩ = some (.int .u64 y) := by rw [hWB2.cell, wordCells_at _ _ _ (by rw [HVl.out]; exact hcn), HYW.out]
                      have m0 := cell_regrown c1
                      have m1 := cell_regrown d0
                      have m2 := cell_regrown d1
                      have m3 := cell_regrown d2
                      have m4 := cell_regrown d3
                      have m5 := cell_regrown d4
                      have m6 := cell_regrown e0
                      have g1 := fun d os => Calls.regrown_of (hA (grow (redrawn w3 d) os) (hM3.below_ (below_regrown w3 d os)))
                      have g2 := fun d os => Calls.regrown_of (hLa (grow (redrawn w3 d) os) (hM3.below_ (below_regrown w3 d os)))
                      have g3 := fun d os => Calls.regrown_of (hPk (grow (redrawn w3 d) os) (hM3.below_ (below_regrown w3 d os)))
                      have HM3 := hid hM3
                      clear hA hLa hPk hM3
                      refine wp_region_quiet_below (by kernel_rfl) (by kernel_rfl) ?_
                      repeat (first | go_big_quiet_step (first | exact g1 _ _ | exact g2 _ _ | exact g3 _ _) | quiet_step (first | exact g1 _ _ | exact g2 _ _ | exact g3 _ _))
                      refine wpQuiet_nil ?_
                      intro _ hw'
                      obtain ⟨⟨dq, osq⟩, hw''⟩ := hw'
                      subst hw''
                      have hbq := below_regrown w3 dq osq
                      have hM7 := HM3.out.below_ hbq
                      have hW7 := hWB2.below hbq hWB2.lt
                      have z7 := hbw2.trans (hbq.mono hbw2.size)
                      have hFa := HVa.out
                      have hFl := HVl.out
                      have HFa := hid hFa
                      have HFl := hid hFl
                      clear hFa hFl HM3 hO2 hP2 hWB2 hbq hbw2 g1 g2 g3 hae c0 c1 c2 c3 cf d0 d1 d2 d3 d4 df m0 m1 m2 m3 m4 m5 m6 e0
                      generalize grow (redrawn w3 dq) osq = w7 at *
                      go_wp2
                      go_roundw
                      case rel => exact ⟨j + 1, V.did k (c : Int) X ok, by omega, by go_num, hM7, hW7, hbwb, hwbl, by rw [HFa.out]; push_cast; rfl, HFl.out, z7⟩
                      case measure => simp [intOf]; omega
                · have hhas : ¬ V.has a := fun h => hin ⟨h.1, by have := h.2; rw [hvl] at this; exact this⟩
                  have HH := hid hhas
                  have HVA := hid hva
                  have HVL := hid hvl
                  clear hhas hva hvl
                  go_upto_region 18 with (fail)
                  go_cut [13, 98] from 98 to 237 (fun v i wx => v = .bool false ∧ i = .int .i64 j ∧ wx = wr.alloc (.cells #[.int .i64 k, .int .i64 a, .int .u64 o, .int .u64 x] 34))
                  case first =>
                    by_cases e1 : 0 ≤ a
                    · have e2 : ¬ a < n := fun e2 => hin ⟨e1, e2⟩
                      have e3 : decide (a < (n : Int)) = false := decide_eq_false e2
                      go_wp2
                      go_meet
                      exact ⟨by simp [e3], rfl, rfl⟩
                    · have e3 : decide (0 ≤ a) = false := decide_eq_false e1
                      go_wp2
                      go_meet
                      exact ⟨by first | rfl | simp [e3], rfl, rfl⟩
                  case rest =>
                  obtain ⟨rfl, rfl, rfl⟩ := hcut
                  go_upto_block 2 with (fail)
                  go_cut [98] from 98 to 237 (fun i wx => PlayOut w g b wb wr.heap.size V j k a o x i wx)
                  case first =>
                    as_aux_lemma =>
                    have hO2 := (Blk.new wr 34 #[.int .i64 k, .int .i64 a, .int .u64 o, .int .u64 x]).alloc (.cells #[.int .i64 k, .int .i64 a, .int .u64 0, .int .u64 0, .bool false] 36)
                    have hP2 := Blk.new1 wr (.cells #[.int .i64 k, .int .i64 a, .int .u64 o, .int .u64 x] 34) 36 #[.int .i64 k, .int .i64 a, .int .u64 0, .int .u64 0, .bool false]
                    have hM2 := (hM.alloc (.cells #[.int .i64 k, .int .i64 a, .int .u64 o, .int .u64 x] 34)).alloc (.cells #[.int .i64 k, .int .i64 a, .int .u64 0, .int .u64 0, .bool false] 36)
                    have hWB2 := (hWB.alloc (.cells #[.int .i64 k, .int .i64 a, .int .u64 o, .int .u64 x] 34)).alloc (.cells #[.int .i64 k, .int .i64 a, .int .u64 0, .int .u64 0, .bool false] 36)
                    have hbw2 := (hbw.alloc hsz (.cells #[.int .i64 k, .int .i64 a, .int .u64 o, .int .u64 x] 34)).alloc (by simp; omega) (.cells #[.int .i64 k, .int .i64 a, .int .u64 0, .int .u64 0, .bool false] 36)
                    generalize ((wr.alloc (.cells #[.int .i64 k, .int .i64 a, .int .u64 o, .int .u64 x] 34)).alloc (.cells #[.int .i64 k, .int .i64 a, .int .u64 0, .int .u64 0, .bool false] 36)) = w2 at *
                    clear x0 x1 x2 x3 hWB hM hbw
                    have hok : actsOk V := by have := HVA.out; unfold actsOk; omega
                    by_cases k1 : k = 1
                    · as_aux_lemma =>
                      subst k1
                      obtain ⟨c0, c1, c2, c3, cf⟩ := hO2.four
                      obtain ⟨d0, d1, d2, d3, d4, df⟩ := hP2.five
                      have hL := load_any g b V a w2 hM2 hok
                      have hv : V.load a = V.missed 1 a := if_neg HH.out
                      rw [hv] at hL
                      clear hv
                      rw [MV.at_not HH.out] at hL
                      go_wp2_with fail
                      refine hL.mono ?_
                      rintro e w3 ⟨rfl, hM3, hT3⟩
                      replace hbw2 := hbw2.trans (hT3.below2 hg' hb' hbw2.size)
                      replace hO2 := hO2.touch hT3 (not_two (by omega) (by omega))
                      replace hP2 := hP2.touch hT3 (not_two (by omega) (by omega))
                      replace hWB2 := hWB2.touch hT3 (not_two (Ne.symm hgw) (Ne.symm hbwb))
                      clear c0 c1 c2 c3 cf d0 d1 d2 d3 d4 df hL hT3 hM2
                      obtain ⟨c0, c1, c2, c3, cf⟩ := hO2.four
                      obtain ⟨d0, d1, d2, d3, d4, df⟩ := hP2.five
                      go_wp2
                      go_meet
                      exact ⟨rfl, hM3, hWB2, hO2, hP2, hbw2⟩
                    by_cases k2 : k = 2
                    · as_aux_lemma =>
                      subst k2
                      obtain ⟨c0, c1, c2, c3, cf⟩ := hO2.four
                      obtain ⟨d0, d1, d2, d3, d4, df⟩ := hP2.five
                      have hL := store_any g b V a x w2 hM2 hok
                      have hv : V.store a x = V.missed 2 a := if_neg HH.out
                      rw [hv] at hL
                      clear hv
                      go_wp2_with fail
                      refine hL.mono ?_
                      rintro e w3 ⟨rfl, hM3, hT3⟩
                      replace hbw2 := hbw2.trans (hT3.below2 hg' hb' hbw2.size)
                      replace hO2 := hO2.touch hT3 (not_two (by omega) (by omega))
                      replace hP2 := hP2.touch hT3 (not_two (by omega) (by omega))
                      replace hWB2 := hWB2.touch hT3 (not_two (Ne.symm hgw) (Ne.symm hbwb))
                      clear c0 c1 c2 c3 cf d0 d1 d2 d3 d4 df hL hT3 hM2
                      obtain ⟨c0, c1, c2, c3, cf⟩ := hO2.four
                      obtain ⟨d0, d1, d2, d3, d4, df⟩ := hP2.five
                      go_wp2
                      go_meet
                      exact ⟨rfl, hM3, hWB2, hO2, hP2, hbw2⟩
                    by_cases k4 : k = 4
                    · as_aux_lemma =>
                      subst k4
                      obtain ⟨c0, c1, c2, c3, cf⟩ := hO2.four
                      obtain ⟨d0, d1, d2, d3, d4, df⟩ := hP2.five
                      have hL := add_any g b V a x w2 hM2 hok
                      have hv : V.add a x = V.missed 4 a := if_neg HH.out
                      rw [hv] at hL
                      clear hv
                      rw [MV.at_not HH.out] at hL
                      go_wp2_with fail
                      refine hL.mono ?_
                      rintro e w3 ⟨rfl, hM3, hT3⟩
                      replace hbw2 := hbw2.trans (hT3.below2 hg' hb' hbw2.size)
                      replace hO2 := hO2.touch hT3 (not_two (by omega) (by omega))
                      replace hP2 := hP2.touch hT3 (not_two (by omega) (by omega))
                      replace hWB2 := hWB2.touch hT3 (not_two (Ne.symm hgw) (Ne.symm hbwb))
                      clear c0 c1 c2 c3 cf d0 d1 d2 d3 d4 df hL hT3 hM2
                      obtain ⟨c0, c1, c2, c3, cf⟩ := hO2.four
                      obtain ⟨d0, d1, d2, d3, d4, df⟩ := hP2.five
                      go_wp2
                      go_meet
                      exact ⟨rfl, hM3, hWB2, hO2, hP2, hbw2⟩
                    by_cases k3 : k = 3
                    · as_aux_lemma =>
                      subst k3
                      have hv : V.cas a o x = V.missed 3 a := if_neg HH.out
                      have hcb : V.casOk a o = false := by simp [MV.casOk, HH.out]
                      have HV := hid hv
                      have HCB := hid hcb
                      clear hv hcb 
                      obtain ⟨c0, c1, c2, c3, cf⟩ := hO2.four
                      obtain ⟨d0, d1, d2, d3, d4, df⟩ := hP2.five
                      go_wp2_with fail
                      have hM3 := hM2
                      replace hP2 := hP2.set_ 4 (.bool false)
                      simp at hP2
                      replace hO2 := hO2.far (p := ⟨wr.heap.size + 1, 4, none⟩) (by simp) (.bool false)
                      replace hM3 : MemAt (w2.setCell ⟨wr.heap.size + 1, 4, none⟩ (.bool false)) g b _ := ⟨hM3.mem.far (by simp; omega) _, hM3.words.far (by simp; omega) _, hM3.ne⟩
                      replace hWB2 := hWB2.far (p := ⟨wr.heap.size + 1, 4, none⟩) (by simp; omega) (.bool false)
                      replace hbw2 := hbw2.setCell (p := ⟨wr.heap.size + 1, 4, none⟩) (by simp; omega) (.bool false)
                      generalize (w2.setCell ⟨wr.heap.size + 1, 4, none⟩ (.bool false)) = w3 at *
                      clear c0 c1 c2 c3 cf d0 d1 d2 d3 d4 df hM2
                      have hL := cas_any g b V a o x w3.drew (hM3.drewN 1) hok
                      rw [HV.out, HCB.out] at hL
                      obtain ⟨c0, c1, c2, c3, cf⟩ := hO2.four
                      obtain ⟨d0, d1, d2, d3, d4, df⟩ := hP2.five
                      go_region_held3 (fun w' => w'.cell? ⟨wr.heap.size, 1, none⟩ = some (.int .i64 a) ∧ w'.cell? ⟨wr.heap.size, 2, none⟩ = some (.int .u64 o) ∧ w'.cell? ⟨wr.heap.size, 3, none⟩ = some (.int .u64 x) ∧ w'.cell? ⟨wr.heap.size + 1, 4, none⟩ = some (.bool false))
                        (first | go_keep)
                        (first | (go_at_call 15; (with_reducible refine hL.mono ?_); rintro e w4 ⟨rfl, hM4, hT4⟩; have hO4 := (hO2.drewN 1).touch hT4 (not_two (by omega) (by omega)); have hP4 := (hP2.drewN 1).touch hT4 (not_two (by omega) (by omega)); obtain ⟨c04, c14, c24, c34, cf4⟩ := hO4.four; obtain ⟨d04, d14, d24, d34, d44, df4⟩ := hP4.five))
                      have hbw4 : Below w.heap.size w w4 := (hbw2.drew).trans (hT4.below2 hg' hb' hbw2.drew.size)
                      have hWB4 := (hWB2.drewN 1).touch hT4 (not_two (Ne.symm hgw) (Ne.symm hbwb))
                      clear hM3 hO2 hP2 hWB2 hbw2 hL hT4 c0 c1 c2 c3 cf d0 d1 d2 d3 d4 df c04 c14 c24 c34 cf4 d04 d14 d24 d34 d44 df4
                      rename_i hheld
                      clear hheld
                      obtain ⟨hM3, hO2, hP2, hWB2, hbw2⟩ : MemAt w4 g b _ ∧ _ ∧ _ ∧ _ ∧ _ := ⟨hM4, hO4, hP4, hWB4, hbw4⟩
                      clear hM4 hO4 hP4 hWB4 hbw4
                      obtain ⟨c0, c1, c2, c3, cf⟩ := hO2.four
                      obtain ⟨d0, d1, d2, d3, d4, df⟩ := hP2.five
                      go_wp2
                      go_meet
                      exact ⟨rfl, hM3, hWB2, hO2, hP2, hbw2⟩
                    have q1 : (k == 1) = false := beq_eq_false_iff_ne.2 k1
                    have q2 : (k == 2) = false := beq_eq_false_iff_ne.2 k2
                    have q3 : (k == 3) = false := beq_eq_false_iff_ne.2 k3
                    have q4 : (k == 4) = false := beq_eq_false_iff_ne.2 k4
                    clear k1 k2 k3 k4
                    obtain ⟨c0, c1, c2, c3, cf⟩ := hO2.four
                    obtain ⟨d0, d1, d2, d3, d4, df⟩ := hP2.five
                    go_wp2
                    go_ret
                    exact ⟨rfl, hbw2⟩
                  case rest =>
                    as_aux_lemma =>
                    obtain ⟨rfl, hM2, hWB2, hO2, hP2, hbw2⟩ := hcut
                    clear x0 x1 x2 x3 hWB hM hbw
                    obtain ⟨c0, c1, c2, c3, cf⟩ := hO2.four
                    obtain ⟨d0, d1, d2, d3, d4, df⟩ := hP2.five
                    go_wp2_with fail
                    clear c0 c1 c2 c3 cf d0 d1 d2 d3 d4 df
                    have hM3 := hM2
                    clear hM2
                    generalize wc = w3 at *
                    have hva : (V.missed k a).a = (j : Int) + 1 := by show V.a + 1 = _; rw [HVA.out]
                    have hvl : (V.missed k a).ws.length = n := by exact HVL.out
                    have hA : ∀ w5, MemAt w5 g b (V.missed k a) → Calls Try.prog 17 #[.pointer (some ⟨g, 0, none⟩)] w5 fun e w' => e = .returned (.int .i64 ((j : Int) + 1)) ∧ Below w5.heap.size w5 w' := fun w5 h => by
                      have h1 := acts_any g b _ w5 h
                      rw [hva] at h1
                      exact h1
                    have hLa : ∀ w5, MemAt w5 g b (V.missed k a) → Calls Try.prog 18 #[.pointer (some ⟨g, 0, none⟩)] w5 fun e w' => e = .returned (.agg #[.int .i64 k, .int .i64 a, .int .u64 0, .int .u64 0, .bool false]) ∧ Below w5.heap.size w5 w' := fun w5 h => by
                      have h1 := last_any g b _ w5 h
                      skip
                      exact h1
                    have hPk : ∀ w5, MemAt w5 g b (V.missed k a) → Calls Try.prog 19 #[.pointer (some ⟨g, 0, none⟩), .int .i64 a] w5 fun e w' => e = .returned (.int .u64 0) ∧ Below w5.heap.size w5 w' := fun w5 h => by
                      have h1 := peek_any g b _ a w5 h
                      rw [show (V.missed k a).at a = 0 from by rw [MV.missed_at, MV.at_not HH.out]] at h1
                      exact h1
                    have HVa := hid hva
                    have HVl := hid hvl
                    clear hva hvl
                    have hj1 : ((j : Int) + 1 != (j : Int) + 1) = false := by simp
                    have hw1 : IntKind.i64.wrap ((j : Int) + 1) = (j : Int) + 1 := by rw [IntKind.wrap_i64]; omega
                    have hae := act_neq_self k a 0 0 false
                    skip
                    obtain ⟨c0, c1, c2, c3, cf⟩ := hO2.four
                    obtain ⟨d0, d1, d2, d3, d4, df⟩ := hP2.five
                    have m0 := cell_regrown c1
                    have m1 := cell_regrown d0
                    have m2 := cell_regrown d1
                    have m3 := cell_regrown d2
                    have m4 := cell_regrown d3
                    have m5 := cell_regrown d4
                    skip
                    have g1 := fun d os => Calls.regrown_of (hA (grow (redrawn w3 d) os) (hM3.below_ (below_regrown w3 d os)))
                    have g2 := fun d os => Calls.regrown_of (hLa (grow (redrawn w3 d) os) (hM3.below_ (below_regrown w3 d os)))
                    have g3 := fun d os => Calls.regrown_of (hPk (grow (redrawn w3 d) os) (hM3.below_ (below_regrown w3 d os)))
                    have HM3 := hid hM3
                    clear hA hLa hPk hM3
                    refine wp_region_quiet_below (by kernel_rfl) (by kernel_rfl) ?_
                    repeat (first | go_big_quiet_step (first | exact g1 _ _ | exact g2 _ _ | exact g3 _ _) | quiet_step (first | exact g1 _ _ | exact g2 _ _ | exact g3 _ _))
                    refine wpQuiet_nil ?_
                    intro _ hw'
                    obtain ⟨⟨dq, osq⟩, hw''⟩ := hw'
                    subst hw''
                    have hbq := below_regrown w3 dq osq
                    have hM7 := HM3.out.below_ hbq
                    have hW7 := hWB2.below hbq hWB2.lt
                    have z7 := hbw2.trans (hbq.mono hbw2.size)
                    have hFa := HVa.out
                    have hFl := HVl.out
                    have HFa := hid hFa
                    have HFl := hid hFl
                    clear hFa hFl HM3 hO2 hP2 hWB2 hbq hbw2 g1 g2 g3 hae c0 c1 c2 c3 cf d0 d1 d2 d3 d4 df m0 m1 m2 m3 m4 m5 
                    generalize grow (redrawn w3 dq) osq = w7 at *
                    go_wp2
                    go_roundw
                    case rel => exact ⟨j + 1, V.missed k a, by omega, by go_num, hM7, hW7, hbwb, hwbl, by rw [HFa.out]; push_cast; rfl, HFl.out, z7⟩
                    case measure => simp [intOf]; omega
              · as_aux_lemma =>
                obtain rfl : j = ops.length := by omega
                have HVL := hid hvl
                clear hvl hva
                go_wp2_with fail
                go_loopw [240] (fun i wr => ∃ j : Nat, j ≤ n ∧ i = .int .i64 j ∧ MemAt wr g b V ∧ Blk wr wb 32 (wordCells V.ws []) ∧ Below w.heap.size w wr) (fun i _ => n - (intOf i).toNat)
                case atStart => exact ⟨0, Nat.zero_le _, rfl, hM, hWB, hbw⟩
                case round =>
                  clear hM hWB hbw hlt hj
                  obtain ⟨j, hj, rfl, hM, hWB, hbw⟩ := hrel
                  by_cases hlt : j < n
                  · have hhas : V.has (j : Int) := ⟨by omega, by rw [HVL.out]; omega⟩
                    have hat := MV.at_has hhas
                    have cw : wr.cell? ⟨wb, j, none⟩ = some (.int .u64 (V.at (j : Int))) := by rw [hWB.cell, wordCells_at _ _ _ (by rw [HVL.out]; exact hlt), hat]; simp
                    clear hat hhas
                    have hz : (V.at (j : Int) != V.at (j : Int)) = false := by simp
                    have hL := peek_any g b V (j : Int) wr hM
                    generalize V.at (j : Int) = z at *
                    go_wp2_with fail
                    refine hL.mono ?_
                    rintro e w9 ⟨rfl, hb9⟩
                    replace hbw := hbw.trans (hb9.mono hbw.size)
                    replace hM := hM.below_ hb9
                    replace hWB := hWB.below hb9 hWB.lt
                    clear hL hb9 cw
                    go_wp2
                    go_roundw
                    case rel => exact ⟨j + 1, by omega, by go_num, hM, hWB, hbw⟩
                    case measure => simp [intOf]; omega
                  · go_wp2
                    go_ret
                    exact ⟨rfl, hbw⟩
        · as_aux_lemma =>
          have hlong' : 6 + 2 * m + 5 * t < l.length := by omega
          go_enter Try.func3, Try.ntmps3
          go_wp2_with fail
          refine (mawake_any _).mono ?_
          rintro e w1 ⟨rfl, hb1⟩
          replace hbw := hbw.trans (hb1.mono hbw.size)
          replace B1 := B1.below hb1 B1.lt
          clear hb1
          obtain ⟨c0, c1, cf⟩ := B1.two
          go_wp2_with fail
          refine (new_long t m A l.length cap hlay hlong' (by omega) _).mono ?_
          rintro e w2 ⟨rfl, hb2⟩
          replace hbw := hbw.trans (hb2.mono hbw.size)
          replace B1 := B1.below hb2 B1.lt
          clear hb2 c0 c1 cf
          obtain ⟨c0, c1, cf⟩ := B1.two
          have hsz := fun w => size_any t m ⟨by omega, by omega⟩ ⟨by omega, by omega⟩ w
          have hnn : ((6 + 2 * m + 5 * t) != (m * 2 + 4 + t * 5 + 2)) = false := by rw [show m * 2 + 4 + t * 5 + 2 = 6 + 2 * m + 5 * t from by omega]; simp
          have hlo : m * 2 + 4 + t * 5 + 2 < l.length := by omega
          go_wp2_with fail
          refine (right_yes t m hlay _).mono ?_
          rintro e w3 ⟨rfl, hb3⟩
          replace hbw := hbw.trans (hb3.mono hbw.size)
          replace B1 := B1.below hb3 B1.lt
          clear hb3 c0 c1 cf
          obtain ⟨c0, c1, cf⟩ := B1.two
          go_wp2_with fail
          refine (hsz _).mono ?_
          rintro e w4 ⟨rfl, hb4⟩
          replace hbw := hbw.trans (hb4.mono hbw.size)
          clear hb4 c0 c1 cf B1
          go_wp2
          go_ret
          exact ⟨by first | rfl | simp, hbw⟩
      · by_cases h1 : t < 1
        · as_aux_lemma =>
          go_enter Try.func3, Try.ntmps3
          go_wp2_with fail
          refine (mawake_any _).mono ?_
          rintro e w1 ⟨rfl, hb1⟩
          replace hbw := hbw.trans (hb1.mono hbw.size)
          replace B1 := B1.below hb1 B1.lt
          clear hb1
          obtain ⟨c0, c1, cf⟩ := B1.two
          go_wp2_with fail
          refine (new_arg t m A l.length cap hlay _).mono ?_
          rintro e w2 ⟨rfl, hb2⟩
          replace hbw := hbw.trans (hb2.mono hbw.size)
          replace B1 := B1.below hb2 B1.lt
          clear hb2 c0 c1 cf
          obtain ⟨c0, c1, cf⟩ := B1.two
          go_wp2_with fail
          refine (right_no t m hlay _).mono ?_
          rintro e w3 ⟨rfl, hb3⟩
          replace hbw := hbw.trans (hb3.mono hbw.size)
          clear hb3 c0 c1 cf B1
          go_wp2
          go_ret
          exact ⟨by first | rfl | simp, hbw⟩
        · by_cases h2 : 8 < t
          · as_aux_lemma =>
            go_enter Try.func3, Try.ntmps3
            go_wp2_with fail
            refine (mawake_any _).mono ?_
            rintro e w1 ⟨rfl, hb1⟩
            replace hbw := hbw.trans (hb1.mono hbw.size)
            replace B1 := B1.below hb1 B1.lt
            clear hb1
            obtain ⟨c0, c1, cf⟩ := B1.two
            go_wp2_with fail
            refine (new_arg t m A l.length cap hlay _).mono ?_
            rintro e w2 ⟨rfl, hb2⟩
            replace hbw := hbw.trans (hb2.mono hbw.size)
            replace B1 := B1.below hb2 B1.lt
            clear hb2 c0 c1 cf
            obtain ⟨c0, c1, cf⟩ := B1.two
            go_wp2_with fail
            refine (right_no t m hlay _).mono ?_
            rintro e w3 ⟨rfl, hb3⟩
            replace hbw := hbw.trans (hb3.mono hbw.size)
            clear hb3 c0 c1 cf B1
            go_wp2
            go_ret
            exact ⟨by first | rfl | simp, hbw⟩
          · by_cases h3 : m < 1
            · as_aux_lemma =>
              go_enter Try.func3, Try.ntmps3
              go_wp2_with fail
              refine (mawake_any _).mono ?_
              rintro e w1 ⟨rfl, hb1⟩
              replace hbw := hbw.trans (hb1.mono hbw.size)
              replace B1 := B1.below hb1 B1.lt
              clear hb1
              obtain ⟨c0, c1, cf⟩ := B1.two
              go_wp2_with fail
              refine (new_arg t m A l.length cap hlay _).mono ?_
              rintro e w2 ⟨rfl, hb2⟩
              replace hbw := hbw.trans (hb2.mono hbw.size)
              replace B1 := B1.below hb2 B1.lt
              clear hb2 c0 c1 cf
              obtain ⟨c0, c1, cf⟩ := B1.two
              go_wp2_with fail
              refine (right_no t m hlay _).mono ?_
              rintro e w3 ⟨rfl, hb3⟩
              replace hbw := hbw.trans (hb3.mono hbw.size)
              clear hb3 c0 c1 cf B1
              go_wp2
              go_ret
              exact ⟨by first | rfl | simp, hbw⟩
            · have h4 : 200 < m := by
                by_cases h4 : 200 < m
                · exact h4
                · exact absurd ⟨by omega, by omega, by omega, by omega⟩ hlay
              go_enter Try.func3, Try.ntmps3
              go_wp2_with fail
              refine (mawake_any _).mono ?_
              rintro e w1 ⟨rfl, hb1⟩
              replace hbw := hbw.trans (hb1.mono hbw.size)
              replace B1 := B1.below hb1 B1.lt
              clear hb1
              obtain ⟨c0, c1, cf⟩ := B1.two
              go_wp2_with fail
              refine (new_arg t m A l.length cap hlay _).mono ?_
              rintro e w2 ⟨rfl, hb2⟩
              replace hbw := hbw.trans (hb2.mono hbw.size)
              replace B1 := B1.below hb2 B1.lt
              clear hb2 c0 c1 cf
              obtain ⟨c0, c1, cf⟩ := B1.two
              go_wp2_with fail
              refine (right_no t m hlay _).mono ?_
              rintro e w3 ⟨rfl, hb3⟩
              replace hbw := hbw.trans (hb3.mono hbw.size)
              clear hb3 c0 c1 cf B1
              go_wp2
              go_ret
              exact ⟨by first | rfl | simp, hbw⟩
    · clear hR hO hW
      go_enter Try.func3, Try.ntmps3
      go_wp2_with fail
      refine (mawake_any _).mono ?_
      rintro e w1 ⟨rfl, hb1⟩
      replace hbw := hbw.trans (hb1.mono hbw.size)
      replace B1 := B1.below hb1 B1.lt
      clear hb1
      go_wp2
      go_ret
      exact ⟨by first | rfl | simp, hbw⟩
  · clear hR hO hW
    go_enter Try.func3, Try.ntmps3
    go_wp2_with fail
    refine (mawake_any _).mono ?_
    rintro e w1 ⟨rfl, hb1⟩
    replace hbw := hbw.trans (hb1.mono hbw.size)
    replace B1 := B1.below hb1 B1.lt
    clear hb1
    go_wp2
    go_ret
    exact ⟨by first | rfl | simp, hbw⟩
end Go.Proofs.Ytmjdaahoepcjpaa
