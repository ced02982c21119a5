/- Make: a history of those events that can be taken (laws of layer 9). -/
import Derived.Test.YtiaiiifgcecbgaaGreatGZ
import Derived.Test.YtiaiiifgcecbgaaGreatGB
import Derived.Test.YtiaiiifgcecbgaaGreatGV
import Derived.Test.YtiaiiifgcecbgaaGreatGN
import Derived.Test.YtiaiiifgcecbgaaGreatLinWhole
set_option linter.all false
namespace Go.Proofs.YtiaiiifgcecbgaaGreat
open Go.RowKit Go.Sort
set_option maxHeartbeats 4000000
set_option maxRecDepth 100000
theorem HistAt.besideE {w w' : World} {B h B' : Nat} {v u : Value} {l D : List Ev} (H : HistAt w B h v l) (hR : RefRow w B' u D) (hT : Touch (fun c => u.ownBlock = some c) w w') : HistAt w' B h v l :=
  ⟨H.blk.touch hT (fun e => hR.ne H.blk (by decide) _ e rfl), H.row.touch hT (fun c hc e => by
    rcases hR.own.2 with ⟨h1, _⟩ | ⟨g, cp, cur, h1, _, hh, _⟩
    · rw [h1] at e; simp [Value.ownBlock] at e
    · rw [h1] at e; simp [Value.ownBlock] at e
      subst e
      exact H.row.ne (show Blk _ g 54 cur from hh) (by decide) _ hc rfl), H.ge⟩
def MkRel (w0 : World) (h : Nat) (n : Nat) (v5 v11 : Value) (w : World) : Prop :=
  ∃ (j : Nat) (v : Value) (D : List Ev), v11 = .int .i64 j ∧ j ≤ n ∧ D.length ≤ j ∧ Hraw D ∧ HistAt w w0.heap.size h v (D.map Ev.bare) ∧ RefRow w w0.heap.size v5 D ∧ Below w0.heap.size w0 w
def MkPost (w : World) (n : Nat) (e : Ending) (w' : World) : Prop :=
  ∃ (h : Nat) (u v : Value) (D : List Ev), e = .returned (.tuple #[.pointer (some ⟨h, 0, none⟩), u]) ∧ HistAt w' w.heap.size h v (D.map Ev.bare) ∧ RefRow w' w.heap.size u D ∧ Hraw D ∧ D.length ≤ n ∧ Below w.heap.size w w'
theorem make_any (w : World) (A : Option Addr) (l : List Ev) (cap : Nat) (hl : l.length ≤ 60) (hrd : RdE w A l) :
    Calls Tryz.prog 6 #[.slice A l.length cap] w (MkPost w l.length) := by
  have HR := hid hrd
  clear hrd
  generalize hmm : l.length = m at *
  have HMM := hid hmm
  clear hmm
  go_enter Tryz.func6, Tryz.ntmps6
  go_wp2_with (go_at_call 18; (with_reducible refine (hnew_any w).mono ?_); rintro e w2 ⟨h, rfl, hA2, hb2⟩)
  have HA2 := hid hA2
  have HB2 := hid hb2
  clear hA2 hb2
  go_loopw [5, 11] (fun v5 v11 wr => MkRel w h m v5 v11 wr) (fun _ v11 _ => m - (intOf v11).toNat)
  case atStart => exact ⟨0, _, [], rfl, by omega, Nat.le_refl _, Hraw.nil, HA2.out, RowG.none _ _, HB2.out⟩
  case round =>
    clear HA2 HB2
    obtain ⟨j, v, D, rfl, hj, hDj, hraw, hA, hD, hb⟩ := hrel
    by_cases hlt : j < m
    · obtain ⟨b1, o1, rfl, hb1l, hc1⟩ := (HR.out.below hb (Nat.le_refl _)).resolve_left (fun h => by have := HMM.out; subst h; simp at this; omega)
      have hget : l[j]? = some (l.getD j default) := by simp [List.getD, show j < l.length by rw [HMM.out]; exact hlt]
      obtain ⟨x0, x1, x2, x3, x4, x5, x6⟩ := hc1 j _ hget
      obtain ⟨V, hV⟩ : ∃ V, l.getD j default = V := ⟨_, rfl⟩
      rw [hV] at x0 x1 x2 x3 x4 x5 x6
      obtain ⟨w3, hw3⟩ : ∃ w3, w3 = wr.alloc (.cells #[.int .i64 V.t, .bool V.e, .int .i64 V.k, .int .i64 V.y, .int .i64 V.c, .bool V.o, .int .i64 V.z] 54) := ⟨_, rfl⟩
      have b3 : Below wr.heap.size wr w3 := by rw [hw3]; exact (Below.refl _ _).alloc (Nat.le_refl _) _
      have X3 : Blk w3 wr.heap.size 54 #[.int .i64 V.t, .bool V.e, .int .i64 V.k, .int .i64 V.y, .int .i64 V.c, .bool V.o, .int .i64 V.z] := by rw [hw3]; exact Blk.new wr _ _
      have hD3 : RefRow w3 w.heap.size u5 D := hD.below b3
      obtain ⟨A2, cap2, rfl, hrd2⟩ := RefRow.rde hD3
      have her := rerror_any A2 D cap2 V w3 (by omega) hrd2
      have HA3 := hid (hA.below b3)
      have HD3 := hid hD3
      have HB3 := hid (hb.trans (b3.mono hb.size))
      have HX3 := hid X3
      have HOWN := hid (fun c hc => (hD.ge c hc).2)
      have HRAW := hid hraw
      have hjm : (j : Int) < (m : Int) := by omega
      obtain ⟨p0, p1, p2, p3, p4, p5, p6, -⟩ := X3.seven
      clear hc1 hget hV b3 X3 hD3 hrd2 hA hD hb hraw
      go_upto_region 6 with (fail)
      rw [← hw3]
      generalize hgx : wr.heap.size = gx at *
      clear hw3 x0 x1 x2 x3 x4 x5 x6 hgx
      by_cases he : errL D V = 0
      · rw [he] at her
        have HE := hid he
        clear he
        go_upto_region 7 with (go_at_call 19; (with_reducible refine her.mono ?_); rintro e w4 ⟨rfl, hb4⟩)
        have hD4 : RefRow w4 w.heap.size (.slice A2 D.length cap2) D := HD3.out.below hb4
        have HA4 := hid (HA3.out.below hb4)
        have HX4 := hid (HX3.out.below hb4 HX3.out.lt)
        have hB4 := HB3.out.trans (hb4.mono HB3.out.size)
        have b5 : Below w4.heap.size w4 (w4.alloc (.cells #[.int .i64 V.t, .bool V.e, .int .i64 V.k, .int .i64 V.y, .int .i64 V.c, .bool V.o, .int .i64 V.z] 54)) := (Below.refl _ _).alloc (Nat.le_refl _) _
        have hD5 : RefRow (w4.alloc (.cells #[.int .i64 V.t, .bool V.e, .int .i64 V.k, .int .i64 V.y, .int .i64 V.c, .bool V.o, .int .i64 V.z] 54)) w.heap.size (.slice A2 D.length cap2) D := hD4.below b5
        have hnew := Blk.new w4 54 #[.int .i64 V.t, .bool V.e, .int .i64 V.k, .int .i64 V.y, .int .i64 V.c, .bool V.o, .int .i64 V.z]
        have hsz5 : w.heap.size ≤ (w4.alloc (.cells #[.int .i64 V.t, .bool V.e, .int .i64 V.k, .int .i64 V.y, .int .i64 V.c, .bool V.o, .int .i64 V.z] 54)).heap.size := Nat.le_trans hB4.size b5.size
        have HB5 := hid (hB4.trans (b5.mono hB4.size))
        have HA5 := hid (HA4.out.below b5)
        have HX5 := hid (HX4.out.below b5 HX4.out.lt)
        have hown5 : ∀ c, (Value.slice A2 D.length cap2).ownBlock = some c → c ≠ gx := fun c hc e => by
          have h1 := HOWN.out c hc
          have h2 := HX3.out.lt
          omega
        have HOW := hid hown5
        have HD5 := hid hD5
        have hD60 : D.length ≤ 60 := by omega
        clear her hb4 hD4 HA3 HD3 HB3 HX3 HA4 hB4 b5 hown5 p0 p1 p2 p3 p4 p5 p6
        obtain ⟨p0, p1, p2, p3, p4, p5, p6, -⟩ := HX4.out.seven
        go_upto_region 8 with (at_builtin; refine wpList_snocG rfl _ _ 22 rfl Tryz.underlying22 (.agg #[.int .i64 0, .bool false, .int .i64 0, .int .i64 0, .int .i64 0, .bool false, .int .i64 0]) 56 info_rev rfl (by decide) (by decide) (fun _ => rfl) (by simp [evC, Value.oneCell']) w.heap.size _ D w4.heap.size V rfl rfl hD5 54 hnew (by omega) hsz5 ?_; intro v6 w6 hr6 hT6 _)
        have HA6 := hid (HA5.out.besideE hD5 hT6)
        have HX6 := hid (HX5.out.touch hT6 (fun e => HOW.out _ e rfl))
        have HB6 := hid (HB5.out.trans (hT6.below (fun k hk => (hD5.ge k hk).1) hsz5))
        have HR6 := hid hr6
        clear hD5 hnew hsz5 hr6 hT6 HB5 HA5 HX5 HX4 HD5 p0 p1 p2 p3 p4 p5 p6
        obtain ⟨p0, p1, p2, p3, p4, p5, p6, -⟩ := HX6.out.seven
        have hsn := HRAW.out.snoc HE.out
        have HSN := hid hsn
        have hmap := map_bare_snoc D V
        have hDl : (D.map Ev.bare).length ≤ 60 := by simp; exact hD60
        have herr : errL (D.map Ev.bare) V.bare = 0 := by rw [errL_bare, errL_map]; exact HE.out
        have HMAP := hid hmap
        obtain ⟨vt, ve, vk, vy, vc, vo, vz⟩ := V
        dsimp only at p0 p1 p2 p3 p4 p5 p6
        clear hsn hmap
        cases ve
        · have hbeg := hbegin_ok w6 w.heap.size h v (D.map Ev.bare) vt vk vy HA6.out HRAW.out.ok (by omega) herr
          clear herr
          go_wp2_with (go_at_call 21; (with_reducible refine hbeg.mono ?_); rintro e w7 ⟨rfl, v7, hA7, hs7⟩)
          go_roundw
          case rel =>
            exact ⟨j + 1, v7, D ++ [⟨vt, false, vk, vy, vc, vo, vz⟩], by go_num, by omega, by simp; omega, HSN.out, by rw [HMAP.out]; exact hA7, hs7.row HA6.out HR6.out (by decide) (by decide), HB6.out.trans (hs7.below HA6.out)⟩
          case measure => simp [intOf]; omega
        · have hend := hend_ok w6 w.heap.size h v (D.map Ev.bare) vt vc vz vo HA6.out HRAW.out.ok (by omega) herr
          clear herr
          go_wp2_with (go_at_call 20; (with_reducible refine hend.mono ?_); rintro e w7 ⟨rfl, v7, hA7, hs7⟩)
          go_roundw
          case rel =>
            exact ⟨j + 1, v7, D ++ [⟨vt, true, vk, vy, vc, vo, vz⟩], by go_num, by omega, by simp; omega, HSN.out, by rw [HMAP.out]; exact hA7, hs7.row HA6.out HR6.out (by decide) (by decide), HB6.out.trans (hs7.below HA6.out)⟩
          case measure => simp [intOf]; omega
      · have hne : (errL D V != 0) = true := by simp [he]
        have HE := hid he
        clear he
        go_wp2_with (go_at_call 19; (with_reducible refine her.mono ?_); rintro e w4 ⟨rfl, hb4⟩)
        go_roundw
        case rel => exact ⟨j + 1, v, D, by go_num, by omega, by omega, HRAW.out, HA3.out.below hb4, HD3.out.below hb4, HB3.out.trans (hb4.mono HB3.out.size)⟩
        case measure => simp [intOf]; omega
    · obtain rfl : j = m := by omega
      have HA := hid hA
      have HD := hid hD
      have HB := hid hb
      have HRAW := hid hraw
      clear hA hD hb hraw
      go_wp2
      refine bodyPost_ret (v := .tuple #[.pointer (some ⟨h, 0, none⟩), u5]) (by simp [results, Tryz.results6, go_sem]) rfl ?_
      exact ⟨h, _, v, D, rfl, HA.out, HD.out, HRAW.out, hDj, HB.out⟩
end Go.Proofs.YtiaiiifgcecbgaaGreat
