/- The law SpecPlays (by bin/gen_plays.py). -/
import Derived.Test.YtibbbbgalhekoaaSpecLaw
import Derived.Test.YtibbbbgalhekoaaSpecRes
import Derived.Test.YtibbbbgalhekoaaInts
import Derived.Deep.RegionHeld3
namespace Go.Proofs.Ytibbbbgalhekoaa
open Go.RowKit Go.Sort
set_option maxHeartbeats 8000000

theorem snone_yes (s : Int) (w : World) (h : 1 ≤ s ∧ s ≤ 4) : Calls Try.prog 10 #[.int .i64 s] w fun e w' => e = .returned (.bool false) ∧ Below w.heap.size w w' := by
  have := snone_any s w
  rwa [show (!decide (1 ≤ s ∧ s ≤ 4)) = false by simp [h]] at this
theorem snone_not (s : Int) (w : World) (h : ¬ (1 ≤ s ∧ s ≤ 4)) : Calls Try.prog 10 #[.int .i64 s] w fun e w' => e = .returned (.bool true) ∧ Below w.heap.size w w' := by
  have := snone_any s w
  rwa [show (!decide (1 ≤ s ∧ s ≤ 4)) = true by simp [h]] at this
theorem res_same (o : Bool) (y : Int) (w : World) : (binOp .neq 37 (.agg #[.int .i64 0, .bool o, .int .i64 y]) (.agg #[.int .i64 0, .bool o, .int .i64 y])).run Try.prog w = .ok (.bool false) w := by
  have := res_neq o o y y w
  simpa using this
theorem ints_same (A B : Option Addr) (l : List Int) (c d : Nat) (w : World) (hl : l.length ≤ 1000000) (hA : RdI w .i64 A l) (hB : RdI w .i64 B l) :
    Calls Try.prog 16 #[.slice A l.length c, .slice B l.length d] w fun e w' => e = .returned (.bool true) ∧ Below w.heap.size w w' := by
  have := ints_any A B l l c d w hl hl hA hB
  simpa using this

def PlaysRel (w0 : World) (K : Int) (s : Nat) (l : List (Int × Int)) (i u : Value) (w : World) : Prop :=
  ∃ (j : Nat) (v : Value) (D : List (Int × Int)), j ≤ l.length ∧ i = .int .i64 j ∧ D.length ≤ j ∧ allR K D ∧ SpecAt w w0.heap.size s K v (itemsL K D) ∧ OpRow w w0.heap.size u D ∧ Below w0.heap.size w0 w

theorem plays_walk (K : Int) (A : Option Addr) (l : List (Int × Int)) (cap : Nat) (w : World) (hrd : RdK w A l) :
    Calls Try.prog 3 #[.int .i64 K, .slice A l.length cap] w fun e w' => e = .returned (.bool true) ∧ Below w.heap.size w w' := by
  have HR := hid hrd
  clear hrd
  by_cases h60 : l.length ≤ 60
  · by_cases hK4 : 1 ≤ K ∧ K ≤ 4
    · have HK := hid hK4
      clear hK4
      go_enter Try.func3, Try.ntmps3
      go_wp2_with fail
      refine (s7awake_any _).mono ?_
      rintro e w1 ⟨rfl, hb1⟩
      go_wp2_with fail
      refine (snew_yes K w1 HK.out).mono ?_
      rintro e w2 ⟨s, rfl, hN, hbN⟩
      replace hN := hN.mono hb1.size
      replace hb1 := hb1.trans (hbN.mono hb1.size)
      clear hbN
      go_wp2_with fail
      refine (snone_yes K w2 HK.out).mono ?_
      rintro e w3 ⟨rfl, hb3⟩
      replace hN := hN.below hb3
      replace hb1 := hb1.trans (hb3.mono hb1.size)
      clear hb3
      obtain ⟨n0, n1, _⟩ := hN.blk.two
      have hkk : (K != K) = false := by simp
      go_wp2
      clear n0 n1 hkk
      go_loopw [46, 7] (fun i u wr => PlaysRel w K s l i u wr) (fun i _ _ => l.length - (intOf i).toNat)
      case atStart => exact ⟨0, _, [], Nat.zero_le _, rfl, Nat.le_refl _, fun x hx => by simp at hx, hN, RowG.none _ _, hb1⟩
      case round =>
        obtain ⟨j, v, D, hj, rfl, hDj, hDr, hA, hK, hbw⟩ := hrel
        clear hN hb1
        have hsz := hbw.size
        have hIl := itemsL_len K D
        have href := ref_items K HK.out D hDr
        by_cases hlt : j < l.length
        · have hRr := HR.out.below hbw (Nat.le_refl _)
          obtain ⟨b1, o1, rfl, hb1, hc1⟩ := hRr.resolve_left (fun h => by subst h; simp at hlt)
          obtain ⟨x1, x2⟩ := hc1 j hlt
          clear hc1 hRr
          generalize l.getD j (0, 0) = z at *
          obtain ⟨zk, zy⟩ := z
          have hit := itemsL_snoc K D (zk, zy)
          have hsrt := fun h => items_sorted K D hDr h
          have HI := hid (And.intro hit (And.intro hDr hsrt))
          have hres : rightP K zk zy → _ := fun hr => ref_res K D hDr zk zy hr
          clear hit hDr hsrt href
          obtain ⟨I, hIe⟩ : ∃ I, I = itemsL K D := ⟨_, rfl⟩
          rw [← hIe] at hA hIl hres HI
          have HIe : Hid (itemsL K D = I) := hid hIe.symm
          clear hIe
          have hOp := Blk.new wr 35 #[.int .i64 zk, .int .i64 zy]
          have hbo := hbw.alloc hsz (.cells #[.int .i64 zk, .int .i64 zy] 35)
          have hAo := hA.alloc (.cells #[.int .i64 zk, .int .i64 zy] 35)
          have hKo := hK.alloc (.cells #[.int .i64 zk, .int .i64 zy] 35)
          obtain ⟨c0, c1, _⟩ := hOp.two
          clear hA hbw hK
          by_cases hr : rightP K zk zy
          · have hsl := len_step K zk zy I
            have hdo := sdo_right _ w.heap.size s K v I zk zy hAo (by omega) HI.out.2.2 hr
            obtain ⟨hro, hrv⟩ := hres hr
            obtain ⟨ok, hok⟩ : ∃ ok, ok = stepOk zk zy I := ⟨_, rfl⟩
            obtain ⟨val, hval⟩ : ∃ val, val = stepVal zk I := ⟨_, rfl⟩
            rw [← hok] at hro hdo
            rw [← hval] at hrv hdo
            have hall : allR K (D ++ [(zk, zy)]) := fun x hx => by
              rcases List.mem_append.1 hx with h | h
              · exact HI.out.2.1 x h
              · have := List.mem_singleton.1 h; subst this; exact hr
            have hit := HI.out.1
            dsimp only at hit
            generalize stepL K zk zy I = I2 at *
            have hd : decide (rightP K zk zy) = true := by simpa using hr
            have HH2 := hid (And.intro hall (And.intro hit (And.intro hro hrv)))
            clear hok hval hall hit hro hrv hres hr HI
            go_wp2_with fail
            refine hdo.mono ?_
            rintro e w2 ⟨rfl, v2, hA2, hs2⟩
            replace hOp := hs2.blk hAo hOp (by decide) (by decide)
            replace hKo := hKo.stepped hAo hs2 (by decide) (by decide)
            replace hbo := hbo.trans (hs2.below_ hAo (Nat.le_refl _))
            clear c0 c1 x1 x2 hdo hAo hs2
            have hsz2 := hbo.size
            replace hOp := hOp.alloc (.cells #[.int .i64 0, .bool ok, .int .i64 val] 37)
            have hX := Blk.new w2 37 #[.int .i64 0, .bool ok, .int .i64 val]
            replace hbo := hbo.alloc hsz2 (.cells #[.int .i64 0, .bool ok, .int .i64 val] 37)
            replace hA2 := hA2.alloc (.cells #[.int .i64 0, .bool ok, .int .i64 val] 37)
            replace hKo := hKo.alloc (.cells #[.int .i64 0, .bool ok, .int .i64 val] 37)
            obtain ⟨c0, c1, _⟩ := hOp.two
            go_wp2_with fail
            refine (smay_any _ _ _ _).mono ?_
            rintro e w3 ⟨rfl, hb3⟩
            rw [hd]
            replace hOp := hOp.below hb3 hOp.lt
            replace hX := hX.below hb3 hX.lt
            replace hbo := hbo.trans (hb3.mono hbo.size)
            replace hA2 := hA2.below hb3
            replace hKo := hKo.below hb3
            clear c0 c1 hb3
            obtain ⟨A2, cap2, rfl, hrdD, hc2, hm2⟩ := OpRow.rdk hKo
            obtain ⟨c0, c1, _⟩ := hOp.two
            obtain ⟨r0, r1, r2, _⟩ := hX.three
            have k0 := cell_regrown c0
            have k1 := cell_regrown c1
            have k2 := cell_regrown r0
            have k3 := cell_regrown r1
            have k4 := cell_regrown r2
            have qR := fun d os => Calls.regrown_of (rres_any K A2 D cap2 zk zy (grow (redrawn w3 d) os) (by omega) hc2 hm2 (hrdD.below (below_regrown w3 d os) (Nat.le_refl _)))
            rw [HH2.out.2.2.1, HH2.out.2.2.2] at qR
            have wn := res_same ok val
            have HH := hid (And.intro hOp (And.intro hA2 (And.intro hKo hbo)))
            go_wp2_with fail
            clear c0 c1 r0 r1 r2 hOp hX hA2 hKo hbo hrdD
            refine wp_region_quiet_below (by kernel_rfl) (by kernel_rfl) ?_
            repeat (quiet_step (first | exact qR _ _))
            refine wpQuiet_nil ?_
            intro _ hw'
            obtain ⟨⟨dq, osq⟩, hw''⟩ := hw'
            subst hw''
            have hbq := below_regrown w3 dq osq
            obtain ⟨hOp, hA2, hKo, hbo⟩ := HH.out
            replace hOp := hOp.below hbq hOp.lt
            replace hA2 := hA2.below hbq
            replace hKo := hKo.below hbq
            replace hbo := hbo.trans (hbq.mono hbo.size)
            clear qR HH k0 k1 k2 k3 k4 wn
            generalize grow (redrawn w3 dq) osq = w4 at *
            clear hbq
            obtain ⟨c0, c1, _⟩ := hOp.two
            have hsz4 := hbo.size
            have hnew := Blk.new w4 35 #[.int .i64 zk, .int .i64 zy]
            have hA5 := hA2.alloc (.cells #[.int .i64 zk, .int .i64 zy] 35)
            have hK5 := hKo.alloc (.cells #[.int .i64 zk, .int .i64 zy] 35)
            have hb5 := hbo.alloc hsz4 (.cells #[.int .i64 zk, .int .i64 zy] 35)
            go_wp2_with (at_builtin; refine wpList_snocG rfl _ _ 22 rfl Try.underlying22 (.agg #[.int .i64 0, .int .i64 0]) 16 info_op rfl (by decide) (by decide) (fun _ => rfl) (by simp [opC, Value.oneCell']) w.heap.size _ D w4.heap.size (zk, zy) rfl rfl hK5 35 hnew (by omega) ?c1 ?_)
            try (case c1 => first | omega | (simp; omega))
            intro u' wz hKz hT hat
            have hbz : Below w.heap.size w wz := hb5.trans (hT.below (fun k hk => (hK5.ge k hk).1) (by simp; omega))
            have hAz : SpecAt wz w.heap.size s K v2 I2 := ⟨hA5.blk.touch hT (fun e => hK5.ne hA5.blk (by decide) _ e rfl), hA5.row.touch hT (fun c hc e => by
              rcases hK5.own.2 with ⟨h1, _⟩ | ⟨g, cp, cur, h1, _, hh, _⟩
              · rw [h1] at e; simp [Value.ownBlock] at e
              · rw [h1] at e; simp [Value.ownBlock] at e
                subst e
                exact hA5.row.ne (show Blk _ g 35 cur from hh) (by decide) _ hc rfl), hA5.ge⟩
            clear hT hat hA5 hK5 hb5 hnew c0 c1 hA2 hKo hbo
            have hLl : (I2).length ≤ 1000000 := by omega
            have hlen := slen_any wz.drew _ s K v2 I2 (hAz.drewN 1)
            obtain ⟨z0, z1, _⟩ := hAz.blk.two
            have hq : (((I2).length : Int) != ((I2).length : Int)) = false := by simp
            go_wp2_with fail
            go_region_held3 (fun w' => w'.cell? ⟨s, 1, none⟩ = some (.int .i64 K))
              (first | go_keep | exact d1 | exact f1)
              (first
                | (go_at_call 14; (with_reducible refine hlen.mono ?_); rintro e w20 ⟨rfl, hb20⟩; have hA20 := (hAz.drewN 1).below hb20; have hits := sitems_any w20 _ s K v2 I2 hA20 hLl; obtain ⟨d0, d1, df⟩ := hA20.blk.two)
                | (go_at_call 15; (with_reducible refine hits.mono ?_); rintro e w21 ⟨u21, rfl, hU21, hb21⟩; obtain ⟨A21, cap21, rfl, _⟩ := hU21.rdi; have hA21 := hA20.below hb21; obtain ⟨f0, f1, ff⟩ := hA21.blk.two))
            rename_i hheld
            clear hheld
            have hK21 := ((hKz.drewN 1).below hb20).below hb21
            have hbe := ((below_drewN hbz 1).trans (hb20.mono (show w.heap.size ≤ wz.heap.size from hbz.size)))
            replace hbe := hbe.trans (hb21.mono hbe.size)
            clear hlen hits hA20 hb20 hb21 hAz hKz hbz hU21 z0 z1 d0 d1 df f0 f1 ff
            go_wp2
            go_roundw
            case rel => exact ⟨j + 1, v2, D ++ [(zk, zy)], by omega, by go_num, by simp; omega, HH2.out.1, by rw [HH2.out.2.1]; exact hA21, hK21, hbe⟩
            case measure => first | (simp [intOf]; done) | (simp [intOf]; omega)
          · have hdo := sdo_not _ w.heap.size s K v I zk zy hAo hr
            have hd : decide (rightP K zk zy) = false := by simpa using hr
            have wn := res_same false 0
            clear hres hr
            go_wp2_with fail
            refine hdo.mono ?_
            rintro e w2 ⟨rfl, hA2, hs2⟩
            replace hOp := hs2.blk hAo hOp (by decide) (by decide)
            replace hKo := hKo.stepped hAo hs2 (by decide) (by decide)
            replace hbo := hbo.trans (hs2.below_ hAo (Nat.le_refl _))
            clear c0 c1 x1 x2 hdo hAo hs2
            have hsz2 := hbo.size
            replace hOp := hOp.alloc (.cells #[.int .i64 0, .bool false, .int .i64 0] 37)
            have hX := Blk.new w2 37 #[.int .i64 0, .bool false, .int .i64 0]
            replace hbo := hbo.alloc hsz2 (.cells #[.int .i64 0, .bool false, .int .i64 0] 37)
            replace hA2 := hA2.alloc (.cells #[.int .i64 0, .bool false, .int .i64 0] 37)
            replace hKo := hKo.alloc (.cells #[.int .i64 0, .bool false, .int .i64 0] 37)
            obtain ⟨c0, c1, _⟩ := hOp.two
            go_wp2_with fail
            refine (smay_any _ _ _ _).mono ?_
            rintro e w3 ⟨rfl, hb3⟩
            rw [hd]
            replace hX := hX.below hb3 hX.lt
            have hbz := hbo.trans (hb3.mono hbo.size)
            have hAz := hA2.below hb3
            have hKz := hKo.below hb3
            clear c0 c1 hb3 hA2 hKo hbo hOp
            obtain ⟨r0, r1, r2, _⟩ := hX.three
            obtain ⟨wz, hwz⟩ : ∃ wz, wz = w3 := ⟨_, rfl⟩
            subst hwz
            have hLl : (I).length ≤ 1000000 := by omega
            have hlen := slen_any wz.drew _ s K v I (hAz.drewN 1)
            obtain ⟨z0, z1, _⟩ := hAz.blk.two
            have hq : (((I).length : Int) != ((I).length : Int)) = false := by simp
            go_wp2_with fail
            go_region_held3 (fun w' => w'.cell? ⟨s, 1, none⟩ = some (.int .i64 K))
              (first | go_keep | exact d1 | exact f1)
              (first
                | (go_at_call 14; (with_reducible refine hlen.mono ?_); rintro e w20 ⟨rfl, hb20⟩; have hA20 := (hAz.drewN 1).below hb20; have hits := sitems_any w20 _ s K v I hA20 hLl; obtain ⟨d0, d1, df⟩ := hA20.blk.two)
                | (go_at_call 15; (with_reducible refine hits.mono ?_); rintro e w21 ⟨u21, rfl, hU21, hb21⟩; obtain ⟨A21, cap21, rfl, _⟩ := hU21.rdi; have hA21 := hA20.below hb21; obtain ⟨f0, f1, ff⟩ := hA21.blk.two))
            rename_i hheld
            clear hheld
            have hK21 := ((hKz.drewN 1).below hb20).below hb21
            have hbe := ((below_drewN hbz 1).trans (hb20.mono (show w.heap.size ≤ wz.heap.size from hbz.size)))
            replace hbe := hbe.trans (hb21.mono hbe.size)
            clear hlen hits hA20 hb20 hb21 hAz hKz hbz hU21 z0 z1 d0 d1 df f0 f1 ff
            go_wp2
            go_roundw
            case rel => exact ⟨j + 1, v, D, by omega, by go_num, by omega, HI.out.2.1, by rw [HIe.out]; exact hA21, hK21, hbe⟩
            case measure => first | (simp [intOf]; done) | (simp [intOf]; omega)
        · obtain rfl : j = l.length := by omega
          have hit := sitems_any wr _ s K v _ hA (by omega)
          have hIl2 : (itemsL K D).length ≤ 1000000 := by omega
          have HF := hid (And.intro href (And.intro hIl2 (show D.length ≤ 100000 by omega)))
          clear href hDr hIl hIl2
          go_wp2_with fail
          refine hit.mono ?_
          rintro e w2 ⟨u2, rfl, hU2, hb2⟩
          replace hbw := hbw.trans (hb2.mono hbw.size)
          replace hK := hK.below hb2
          obtain ⟨Ad, capd, rfl, hrdD, hcd, hmd⟩ := OpRow.rdk hK
          have hri := ritems_any K Ad D capd w2 HF.out.2.2 hcd hmd hrdD
          rw [HF.out.1] at hri
          clear hit hb2
          go_wp2_with fail
          refine hri.mono ?_
          rintro e w3 ⟨A3, c3, rfl, hr3, hb3⟩
          replace hU2 := hU2.below hb3
          replace hbw := hbw.trans (hb3.mono hbw.size)
          obtain ⟨A4, c4, rfl, hr4⟩ := hU2.rdi
          have his := ints_same A4 A3 _ c4 c3 w3 HF.out.2.1 hr4 hr3
          clear hri hb3 hrdD hK
          go_wp2_with fail
          refine his.mono ?_
          rintro e w4 ⟨rfl, hb4⟩
          replace hbw := hbw.trans (hb4.mono hbw.size)
          go_wp2
          go_ret
          exact ⟨rfl, hbw⟩
    · have HK := hid hK4
      clear hK4
      go_enter Try.func3, Try.ntmps3
      go_wp2_with fail
      refine (s7awake_any _).mono ?_
      rintro e w1 ⟨rfl, hb1⟩
      go_wp2_with fail
      refine (snew_not K w1 HK.out).mono ?_
      rintro e w2 ⟨rfl, hb2⟩
      replace hb1 := hb1.trans (hb2.mono hb1.size)
      go_wp2_with fail
      refine (snone_not K w2 HK.out).mono ?_
      rintro e w3 ⟨rfl, hb3⟩
      replace hb1 := hb1.trans (hb3.mono hb1.size)
      clear hb2 hb3
      go_wp2
      go_ret
      exact ⟨by first | rfl | (simp; done), hb1⟩
  · go_enter Try.func3, Try.ntmps3
    go_wp2_with fail
    refine (s7awake_any _).mono ?_
    rintro e w1 ⟨rfl, hb1⟩
    go_wp2
    go_ret
    exact ⟨by first | rfl | (simp; done), hb1⟩
end Go.Proofs.Ytibbbbgalhekoaa
