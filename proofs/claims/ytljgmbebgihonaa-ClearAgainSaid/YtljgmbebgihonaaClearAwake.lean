/- The document's example for layer 10 (awake). -/
import Derived.Test.YtljgmbebgihonaaClearRun
import Derived.Test.YtljgmbebgihonaaClearLaw
import Derived.Test.YtljgmbebgihonaaMemNew
import Derived.Test.YtljgmbebgihonaaWordMeth
import Derived.Test.YtljgmbebgihonaaDescCtr
namespace Go.Proofs.Ytljgmbebgihonaa
set_option maxRecDepth 100000
open Go.RowKit Go.Sort
set_option maxHeartbeats 8000000

theorem cbits_any (k n c v a d v' n' s u : Int) (b b' : Bool) (h : fitP k n (bi b) c v) (h' : fitD a d v' n' (bi b') s u) (w : World) :
    Calls Try.prog 28 #[.agg #[.int .i64 k, .int .i64 n, .bool b, .int .i64 c, .int .i64 v], .agg #[.int .i64 a, .int .i64 d, .int .i64 v', .int .i64 n', .bool b', .int .i64 s, .int .i64 u]] w fun e w' => e = .returned (.tuple #[.int .u64 (numX k n (bi b) c v), .int .u64 (numD a d v' n' (bi b') s u)]) ∧ Below w.heap.size w w' := by
  have hp := fun W => put_fit k n c v b h W
  have hd := fun W => dput_fit a d v' n' s u b' h' W
  have hb0 := ((Below.refl w.heap.size w).alloc (Nat.le_refl _) (.cells #[.int .i64 k, .int .i64 n, .bool b, .int .i64 c, .int .i64 v] 59)).alloc (by simp) (.cells #[.int .i64 a, .int .i64 d, .int .i64 v', .int .i64 n', .bool b', .int .i64 s, .int .i64 u] 62)
  have hW := (Blk.new w 59 #[.int .i64 k, .int .i64 n, .bool b, .int .i64 c, .int .i64 v]).alloc (.cells #[.int .i64 a, .int .i64 d, .int .i64 v', .int .i64 n', .bool b', .int .i64 s, .int .i64 u] 62)
  have hD := Blk.new1 w (.cells #[.int .i64 k, .int .i64 n, .bool b, .int .i64 c, .int .i64 v] 59) 62 #[.int .i64 a, .int .i64 d, .int .i64 v', .int .i64 n', .bool b', .int .i64 s, .int .i64 u]
  generalize numX k n (bi b) c v = x at *
  generalize numD a d v' n' (bi b') s u = y at *
  clear h h'
  go_enter Try.func28, Try.ntmps28
  go_wp2_with fail
  refine (hp _).mono ?_
  rintro e w1 ⟨rfl, hb1⟩
  have hb2 := hb0.trans (hb1.mono hb0.size)
  have hD1 := hD.below hb1 hD.lt
  obtain ⟨c0, c1, c2, c3, c4, c5, c6, cf⟩ := hD1.seven
  clear hW hD hb0 hb1
  go_wp2_with fail
  refine (hd _).mono ?_
  rintro e w2 ⟨rfl, hb3⟩
  have hb4 := hb2.trans (hb3.mono hb2.size)
  go_wp2
  go_ret2
  exact ⟨rfl, hb4⟩

theorem cawake_any (w : World) : Calls Try.prog 7 #[] w fun e w' => e = .returned (.bool true) ∧ Below w.heap.size w w' := by
  have hlay : layR 2 3 := by unfold layR; omega
  obtain ⟨x, hx⟩ : ∃ x : Int, x = numX 1 3 (bi false) 1 7 := ⟨_, rfl⟩
  obtain ⟨y, hy⟩ : ∃ y : Int, y = numD 0 2 7 3 (bi false) 2 0 := ⟨_, rfl⟩
  have hxv : x = 235932673 := by rw [hx]; decide
  have hyv : y = 1127549188972544 := by rw [hy]; decide
  have hbits := fun W => cbits_any 1 3 1 7 0 2 7 3 2 0 false false (by unfold fitP bi; simp) (by unfold fitD bi; simp) W
  rw [← hx, ← hy] at hbits
  have V0l : (MV.made 2 3 []).ws.length = 22 := by decide
  have hV0 : (MV.made 2 3 []).okW := (worldV_facts 2 3 [] hlay (by simp)).1
  have hV0a : (MV.made 2 3 []).a = 0 := rfl
  have hux : u64R x := by rw [hxv]; unfold u64R; omega
  have huy : u64R y := by rw [hyv]; unfold u64R; omega
  have hnew := fun W => new_ok 2 3 none [] 0 hlay (by simp) W (Or.inl rfl)
  generalize MV.made 2 3 [] = V0 at *
  obtain ⟨V1, hV1⟩ : ∃ V1, V1 = (V0.store 2 x).store 17 y := ⟨_, rfl⟩
  have hl1 : V1.ws.length = 22 := by rw [hV1, MV.store_len, MV.store_len, V0l]
  have hx2 : V1.at 2 = x := by
    rw [hV1, MV.store_at, if_neg (by omega), MV.store_at, if_pos ⟨⟨by omega, by omega⟩, rfl⟩]
  have hy2 : V1.at 17 = y := by
    rw [hV1, MV.store_at, if_pos ⟨⟨by omega, by rw [MV.store_len]; omega⟩, rfl⟩]
  have hV1ok : V1.okW := by rw [hV1]; exact MV.okW_store (MV.okW_store hV0 2 x hux) 17 y huy
  have hV1a : V1.a = 2 := by rw [hV1, MV.store_a, MV.store_a, hV0a]; rfl
  have hc1 : wcl x = 1 := by rw [hxv]; decide
  have hd1 : descA 2 3 (wcl x - 1) = 17 := by rw [hc1]; decide
  have hfor : isFor y 2 x = true := by rw [hyv, hxv]; decide
  have hrun := clear_runs_for V1 2 3 2 9 (by omega) (by rw [hx2, hc1]; omega) (by rw [hx2, hc1]; omega) (by rw [hx2, hd1, hy2]; exact hfor)
  rw [hx2, hd1, hy2] at hrun
  obtain ⟨C1, hrun⟩ := hrun
  obtain ⟨V9, hV9⟩ : ∃ V9, V9 = (((V1.load 2).load 17).cas 17 y (wonD y)).cas 2 x (freedW x) := ⟨_, rfl⟩
  rw [← hV9] at hrun
  have hh17 : V1.has 17 := ⟨by omega, by omega⟩
  have hh2 : V1.has 2 := ⟨by omega, by omega⟩
  have k1 : ((V1.load 2).load 17).casOk 17 y = true := by
    rw [MV.casOk_iff]
    exact ⟨(MV.has_of_len (by rw [MV.load_len, MV.load_len])).2 hh17, by rw [MV.load_at, MV.load_at]; exact hy2⟩
  have k2 : (((V1.load 2).load 17).cas 17 y (wonD y)).casOk 2 x = true := by
    rw [MV.casOk_iff]
    exact ⟨(MV.has_of_len (by rw [MV.cas_len, MV.load_len, MV.load_len])).2 hh2, by rw [MV.cas_at, if_neg (by omega), MV.load_at, MV.load_at]; exact hx2⟩
  have h9d : V9.at 17 = wonD y := by rw [hV9, MV.cas_at, if_neg (by omega), MV.cas_at, if_pos ⟨k1, rfl⟩]
  have h9w : V9.at 2 = freedW x := by rw [hV9, MV.cas_at, if_pos ⟨k2, rfl⟩]
  have hcl := fun W g b hM => claimedfn_any g b V9 2 W hM (by rw [h9w]; exact freedW_u64 x)
  have hpk1 := fun W g b hM => peek_any g b V9 17 W hM
  have hpk2 := fun W g b hM => peek_any g b V9 2 W hM
  have hby : byB (V9.at 2) = false := by rw [h9w]; unfold byB; rw [freed_claim]; decide
  rw [hby] at hcl
  rw [h9d] at hpk1
  rw [h9w] at hpk2
  have hgd := fun W => dget_any (wonD y) (wonD_u64 y).1 (wonD_u64 y).2 W
  have hgw := fun W => get_any (freedW x) (freedW_u64 x).1 (freedW_u64 x).2 W
  have hst3 : wonD y / 562949953421312 % 8 = 3 := won_stat y
  have hve8 : freedW x / 33554432 % 262144 = 8 := by rw [hxv]; decide
  unfold dgetV at hgd
  unfold getV at hgw
  rw [hst3] at hgd
  rw [hve8] at hgw
  have hlast : V1.a = 2 ∧ V1.okW := ⟨hV1a, hV1ok⟩
  have hs1 := fun W g b hM => store_any g b V0 2 x W hM (by unfold actsOk; omega)
  have hs2 := fun W g b hM => store_any g b (V0.store 2 x) 17 y W hM (by unfold actsOk; rw [MV.store_a]; omega)
  rw [← hV1] at hs2
  have hds := fun W => desc_any 2 3 0 ⟨by omega, by omega⟩ ⟨by omega, by omega⟩ (by unfold smallI; omega) W
  have H1 := hid (And.intro hrun hlast)
  generalize V0.store 2 x = Va at *
  generalize byN (V9.at 2) = u9 at *
  generalize freedW x = fx at *
  generalize wonD y = wy at *
  clear hx hy hxv hyv V0l hV0 hV0a hux huy hl1 hx2 hy2 hV1ok hV1a hc1 hd1 hfor hh17 hh2 k1 k2 h9d h9w hby hst3 hve8 hlast hrun hV1 hV9
  have hpn : ∀ (g : Nat) (w : World), (binOp .eql 28 (.pointer (some ⟨g, 0, none⟩)) (.pointer none)).run Try.prog w = .ok (.bool false) w := fun g w => ptr_eql_right g 0 w
  have hL0 := Blk.new w 30 #[.int .i64 2, .int .i64 3]
  have hbw0 := (Below.refl w.heap.size w).alloc (Nat.le_refl _) (.cells #[.int .i64 2, .int .i64 3] 30)
  go_enter Try.func7, Try.ntmps7
  go_wp2_with fail
  refine (hnew _).mono ?_
  rintro e w1 ⟨g, b, rfl, hg, hb, hM, hb1⟩
  have hL1 := hL0.below hb1 hL0.lt
  have hbw1 := hbw0.trans (hb1.mono hbw0.size)
  have hgw1 : w.heap.size ≤ g := Nat.le_trans hbw0.size hg
  have hbw2 : w.heap.size ≤ b := Nat.le_trans hbw0.size hb
  have hpg := hpn g
  clear hpn hnew hL0 hbw0 hg hb hb1
  go_wp2_with fail
  refine (hbits _).mono ?_
  rintro e w2 ⟨rfl, hb2⟩
  have hM2 := hM.below_ hb2
  have hL2 := hL1.below hb2 hL1.lt
  have hbw3 := hbw1.trans (hb2.mono hbw1.size)
  clear hM hL1 hbw1 hb2 hbits
  go_wp2_with fail
  refine (hs1 _ g b hM2).mono ?_
  rintro e w3 ⟨rfl, hM3, hT3⟩
  have hL3 := hL2.touch hT3 (not_two (hL2.ne hM2.mem (by decide)) (hL2.ne hM2.words (by decide)))
  have hbw4 := hbw3.trans (hT3.below2 hgw1 hbw2 hbw3.size)
  clear hM2 hL2 hbw3 hT3 hs1
  obtain ⟨y0, y1, yf⟩ := hL3.two
  go_wp2_with fail
  refine (hds _).mono ?_
  rintro e w4 ⟨rfl, hb4⟩
  have hM4 := hM3.below_ hb4
  have hL4 := hL3.below hb4 hL3.lt
  have hbw5 := hbw4.trans (hb4.mono hbw4.size)
  clear hM3 hL3 hbw4 hb4 y0 y1 yf
  go_wp2_with fail
  refine (hs2 _ g b hM4).mono ?_
  rintro e w5 ⟨rfl, hM5, hT5⟩
  have hL5 := hL4.touch hT5 (not_two (hL4.ne hM4.mem (by decide)) (hL4.ne hM4.words (by decide)))
  have hbw6 := hbw5.trans (hT5.below2 hgw1 hbw2 hbw5.size)
  clear hM4 hL4 hbw5 hT5 hs2
  obtain ⟨y0, y1, yf⟩ := hL5.two
  have hnw := fun W => cnew_any 2 3 2 W
  go_wp2_with fail
  refine (hnw _).mono ?_
  rintro e w6 ⟨p, rfl, hp, hC, hb6⟩
  have hM6 := hM5.below_ hb6
  have hL6 := hL5.below hb6 hL5.lt
  have hbw7 := hbw6.trans (hb6.mono hbw6.size)
  have hpw : w.heap.size ≤ p := Nat.le_trans hbw6.size hp
  clear hM5 hL5 hbw6 hb6 hp y0 y1 yf hnw
  have hb7 := (Below.refl w6.heap.size w6).alloc (Nat.le_refl _) (.cells #[.iface 37 (.pointer (some ⟨p, 0, none⟩))] 80)
  have hM7 := hM6.alloc (.cells #[.iface 37 (.pointer (some ⟨p, 0, none⟩))] 80)
  have hL7 := hL6.alloc (.cells #[.iface 37 (.pointer (some ⟨p, 0, none⟩))] 80)
  have hC7 : ClearAt (w6.alloc (.cells #[.iface 37 (.pointer (some ⟨p, 0, none⟩))] 80)) p (CV.new 2 3 2) := hC.blk.alloc _
  have hbw8 := hbw7.alloc hbw7.size (.cells #[.iface 37 (.pointer (some ⟨p, 0, none⟩))] 80)
  have hrc := run_clear g b p w6.heap.size V1 V9 C1 2 3 2 9 4 1 (w6.alloc (.cells #[.iface 37 (.pointer (some ⟨p, 0, none⟩))] 80)) hlay hM7 hC7 (Blk.new _ _ _) H1.out.2.2 (by rw [H1.out.2.1]; omega) (by omega) H1.out.1
  have hLp : Hid (w.heap.size ≠ g ∧ w.heap.size ≠ b ∧ w.heap.size ≠ p) := hid ⟨hL7.ne hM7.mem (by decide), hL7.ne hM7.words (by decide), hL7.ne hC7.blk (by decide)⟩
  clear hM6 hL6 hC hbw7 hb7 hM7 hC7 H1
  go_wp2_with fail
  refine hrc.mono ?_
  rintro e w8 ⟨rfl, hM8, hC8, _, _, hT8⟩
  have hL8 := hL7.touch hT8 (by
    rintro ((h | h) | h)
    · exact hLp.out.1 h
    · exact hLp.out.2.1 h
    · exact hLp.out.2.2 h)
  have hbw9 : Below w.heap.size w w8 := hbw8.trans (hT8.below (fun k hk => by
    rcases hk with (h | h) | h
    · rw [h]; exact hgw1
    · rw [h]; exact hbw2
    · rw [h]; exact hpw) hbw8.size)
  clear hL7 hbw8 hrc hT8 hC8 hLp
  go_wp2_with fail
  refine (hcl _ g b hM8).mono ?_
  rintro e w9 ⟨rfl, hb9⟩
  have hM9 := hM8.below_ hb9
  have hL9 := hL8.below hb9 hL8.lt
  have hbw10 := hbw9.trans (hb9.mono hbw9.size)
  clear hM8 hL8 hbw9 hb9 hcl
  obtain ⟨y0, y1, yf⟩ := hL9.two
  go_wp2_with fail
  refine (hds _).mono ?_
  rintro e w10 ⟨rfl, hb10⟩
  have hM10 := hM9.below_ hb10
  have hbw11 := hbw10.trans (hb10.mono hbw10.size)
  clear hM9 hL9 hbw10 hb10 hds y0 y1 yf
  go_wp2_with fail
  refine (hpk1 _ g b hM10).mono ?_
  rintro e w11 ⟨rfl, hb11⟩
  have hM11 := hM10.below_ hb11
  have hbw12 := hbw11.trans (hb11.mono hbw11.size)
  clear hM10 hbw11 hb11 hpk1
  go_wp2_with fail
  refine (hgd _).mono ?_
  rintro e w12 ⟨rfl, hb12⟩
  have hM12 := hM11.below_ hb12
  have hbw13 := hbw12.trans (hb12.mono hbw12.size)
  clear hM11 hbw12 hb12 hgd
  go_wp2_with fail
  refine (hpk2 _ g b hM12).mono ?_
  rintro e w13 ⟨rfl, hb13⟩
  have hbw14 := hbw13.trans (hb13.mono hbw13.size)
  clear hM12 hbw13 hb13 hpk2
  go_wp2_with fail
  refine (hgw _).mono ?_
  rintro e w14 ⟨rfl, hb14⟩
  have hbw15 := hbw14.trans (hb14.mono hbw14.size)
  go_wp2
  go_ret
  exact ⟨rfl, hbw15⟩
end Go.Proofs.Ytljgmbebgihonaa
