/- The law SpecAll. -/
import Derived.Test.YtibbbbgalhekoaaSpecPlays
namespace Go.Proofs.Ytibbbbgalhekoaa
open Go.RowKit Go.Sort
set_option maxHeartbeats 8000000

def mayB (K : Int) (l : List (Int × Int)) : Bool := decide (1 ≤ K ∧ K ≤ 4) && l.all (fun x => decide (rightP K x.1 x.2))
theorem mayB_snoc (K : Int) (l : List (Int × Int)) (z : Int × Int) : mayB K (l ++ [z]) = (mayB K l && decide (rightP K z.1 z.2)) := by
  simp [mayB, Bool.and_assoc]
theorem mayB_iff (K : Int) (l : List (Int × Int)) : mayB K l = true ↔ (1 ≤ K ∧ K ≤ 4) ∧ ∀ x ∈ l, rightP K x.1 x.2 := by simp [mayB]

def AllRel (w0 : World) (K : Int) (l : List (Int × Int)) (i a : Value) (w : World) : Prop :=
  ∃ j : Nat, j ≤ l.length ∧ i = .int .i64 j ∧ a = .bool (mayB K (l.take j)) ∧ Below w0.heap.size w0 w

theorem all_walk (K : Int) (A : Option Addr) (l : List (Int × Int)) (cap : Nat) (w : World) (hcap : l.length ≤ cap) (hcm : cap ≤ maxLen) (hrd : RdK w A l) :
    Calls Try.prog 4 #[.int .i64 K, .slice A l.length cap] w fun e w' => e = .returned (.bool true) ∧ Below w.heap.size w w' := by
  have HR := hid hrd
  have HC := hid hcm
  clear hrd
  have hcm2 : cap ≤ 9223372036854775807 := by unfold maxLen at hcm; exact hcm
  clear hcm
  by_cases h60 : l.length ≤ 60
  · go_enter Try.func4, Try.ntmps4
    go_wp2_with fail
    refine (s7awake_any _).mono ?_
    rintro e w1 ⟨rfl, hb1⟩
    go_wp2_with fail
    refine (snone_any K w1).mono ?_
    rintro e w2 ⟨rfl, hb2⟩
    have hbA := hb1.trans (hb2.mono hb1.size)
    clear hb1 hb2
    have hmk : (!(!decide (1 ≤ K ∧ K ≤ 4))) = mayB K (l.take 0) := by simp [mayB]
    obtain ⟨q, hq⟩ : ∃ q, q = !decide (1 ≤ K ∧ K ≤ 4) := ⟨_, rfl⟩
    rw [← hq] at hmk ⊢
    have HM := hid hmk
    clear hq hmk
    go_wp2
    go_loopw [26, 5] (fun i a wr => AllRel w K l i a wr) (fun i _ _ => l.length - (intOf i).toNat)
    case atStart => exact ⟨0, Nat.zero_le _, rfl, by rw [← HM.out], hbA⟩
    case round =>
      obtain ⟨j, hj, rfl, rfl, hbw⟩ := hrel
      clear hbA
      have hsz := hbw.size
      by_cases hlt : j < l.length
      · have hRr := HR.out.below hbw (Nat.le_refl _)
        obtain ⟨b1, o1, rfl, hb1, hc1⟩ := hRr.resolve_left (fun h => by subst h; simp at hlt)
        obtain ⟨x1, x2⟩ := hc1 j hlt
        clear hc1 hRr
        have hsn := mayB_snoc K (l.take j) (l.getD j (0, 0))
        rw [← take_snocK hlt] at hsn
        generalize l.getD j (0, 0) = z at *
        obtain ⟨zk, zy⟩ := z
        have hOp := Blk.new wr 35 #[.int .i64 zk, .int .i64 zy]
        have hbo := hbw.alloc hsz (.cells #[.int .i64 zk, .int .i64 zy] 35)
        obtain ⟨c0, c1, _⟩ := hOp.two
        have HS := hid hsn
        clear hsn
        generalize mayB K (l.take j) = b at *
        cases b
        · go_wp2
          go_roundw
          case rel => exact ⟨j + 1, by omega, by go_num, by rw [HS.out]; rfl, hbo⟩
          case measure => first | (simp [intOf]; done) | (simp [intOf]; omega)
        · go_wp2_with fail
          refine (smay_any _ _ _ _).mono ?_
          rintro e w2 ⟨rfl, hb2⟩
          have hbe := hbo.trans (hb2.mono hbo.size)
          clear c0 c1 x1 x2 hb2 hbo hOp hbw
          go_wp2
          go_roundw
          case rel => exact ⟨j + 1, by omega, by go_num, by rw [HS.out]; simp, hbe⟩
          case measure => first | (simp [intOf]; done) | (simp [intOf]; omega)
      · obtain rfl : j = l.length := by omega
        rw [List.take_length]
        have hRr := HR.out.below hbw (Nat.le_refl _)
        have hp := splay_any K A l cap wr (by omega) hRr
        have hmi := mayB_iff K l
        generalize mayB K l = b at *
        go_wp2_with fail
        refine hp.mono ?_
        rintro e w2 ⟨h1, hb2⟩
        have hsz2 := hb2.size
        replace hbw := hbw.trans (hb2.mono hbw.size)
        rcases h1 with ⟨hr, u, s, v, rfl, hU, hA⟩ | ⟨hn, rfl⟩
        · obtain rfl := hmi.2 hr
          obtain ⟨Au, cu, rfl, _, hcs⟩ := hU.out (fun _ => rfl)
          rw [toldL_len] at *
          have HU := hid hcs
          have HB := hid hb2
          have HRR := hid hr
          have hil := itemsL_len K l
          have HA := hid (And.intro hA (show (itemsL K l).length ≤ 1000000 by omega))
          have hqn : ((l.length : Int) != (l.length : Int)) = false := by simp
          clear hp hmi hcs hU hA hil hr hRr
          go_wp2_with fail
          go_loopw [72] (fun i wx => ∃ j : Nat, j ≤ l.length ∧ i = .int .i64 j ∧ Below w2.heap.size w2 wx) (fun i _ => l.length - (intOf i).toNat)
          case atStart => exact ⟨0, Nat.zero_le _, rfl, Below.refl _ _⟩
          case round =>
            obtain ⟨j, hj, rfl, hbx⟩ := hrel
            have hsx := hbx.size
            by_cases hlt : j < l.length
            · have hbw2 := hbw.trans (hbx.mono hbw.size)
              have hRx := HR.out.below hbw2 (Nat.le_refl _)
              obtain ⟨b1, o1, rfl, hb1, hc1⟩ := hRx.resolve_left (fun h => by subst h; simp at hlt)
              obtain ⟨x1, x2⟩ := hc1 j hlt
              obtain ⟨g, rfl, _, hg, _, hcs⟩ := HU.out (fun h => by have h2 := congrArg List.length h; rw [toldL_len] at h2; simp only [List.length_nil] at h2; omega)
              have hget : (toldL K l l.length)[j]? = some (toldAt K l j) := by simp [toldL, hlt]
              have y0 := hcs j _ hget 0 (by omega)
              have y1 := hcs j _ hget 1 (by omega)
              have y2 := hcs j _ hget 2 (by omega)
              simp only [resC, List.getElem?_cons_zero, List.getElem?_cons_succ] at y0 y1 y2
              have hDr : allR K (l.take j) := fun x hx => HRR.out.2 x (List.mem_of_mem_take hx)
              have hz : rightP K (l.getD j (0, 0)).1 (l.getD j (0, 0)).2 := HRR.out.2 _ (by rw [List.getD_eq_getElem?_getD, List.getElem?_eq_getElem hlt]; exact List.getElem_mem hlt)
              obtain ⟨hro, hrv⟩ := ref_res K (l.take j) hDr _ _ hz
              have hta : toldAt K l j = (refOk K (l.take j) (l.getD j (0, 0)).1 (l.getD j (0, 0)).2, refVal K (l.take j) (l.getD j (0, 0)).1) := by rw [hro, hrv]; rfl
              rw [hta] at y1 y2
              dsimp only at y1 y2
              have hRt := hRx.take j
              clear hc1 hcs hget hDr hz hro hrv hta hRx
              have qR : ∀ zk zy (wq : World), Below wr.heap.size wr wq → Calls Try.prog 13 #[.int .i64 K, .slice (some ⟨b1, o1, none⟩) j cap, .agg #[.int .i64 zk, .int .i64 zy]] wq fun e w' => e = .returned (.agg #[.int .i64 0, .bool (refOk K (l.take j) zk zy), .int .i64 (refVal K (l.take j) zk)]) ∧ Below wq.heap.size wq w' := fun zk zy wq hbq => by
                have hlt2 : (l.take j).length = j := by rw [List.length_take]; omega
                have := rres_any K (some ⟨b1, o1, none⟩) (l.take j) cap zk zy wq (by omega) (by omega) HC.out (hRt.below hbq (Nat.le_refl _))
                rwa [hlt2] at this
              generalize l.getD j (0, 0) = z at *
              obtain ⟨zk, zy⟩ := z
              dsimp only at x1 x2 y0 y1 y2
              replace qR := qR zk zy
              generalize refOk K (l.take j) zk zy = ok at *
              generalize refVal K (l.take j) zk = val at *
              have hOp := Blk.new wr 35 #[.int .i64 zk, .int .i64 zy]
              have hbo := hbx.alloc hsx (.cells #[.int .i64 zk, .int .i64 zy] 35)
              rw [← hbx.cell (p := ⟨g, j * 3 + 0, none⟩) hg] at y0
              rw [← hbx.cell (p := ⟨g, j * 3 + 1, none⟩) hg] at y1
              rw [← hbx.cell (p := ⟨g, j * 3 + 2, none⟩) hg] at y2
              rw [Nat.add_zero] at y0
              have Y0 := cell_alloc_keep y0 (.cells #[.int .i64 zk, .int .i64 zy] 35)
              have Y1 := cell_alloc_keep y1 (.cells #[.int .i64 zk, .int .i64 zy] 35)
              have Y2 := cell_alloc_keep y2 (.cells #[.int .i64 zk, .int .i64 zy] 35)
              have hbn : Below wr.heap.size wr (wr.alloc (.cells #[.int .i64 zk, .int .i64 zy] 35)) := (Below.refl _ _).alloc (Nat.le_refl _) _
              obtain ⟨c0, c1, _⟩ := hOp.two
              have wn := res_same ok val
              have hjc : j ≤ cap := by omega
              go_wp2_with fail
              generalize hwa : wr.alloc (.cells #[.int .i64 zk, .int .i64 zy] 35) = wa at *
              clear hwa
              have k0 := cell_regrown c0
              have k1 := cell_regrown c1
              have k2 := cell_regrown Y0
              have k3 := cell_regrown Y1
              have k4 := cell_regrown Y2
              have qQ := fun d os => Calls.regrown_of (qR (grow (redrawn wa d) os) (hbn.trans ((below_regrown wa d os).mono hbn.size)))
              clear c0 c1 x1 x2 y0 y1 y2 Y0 Y1 Y2 qR hOp
              refine wp_region_quiet_below (by kernel_rfl) (by kernel_rfl) ?_
              repeat (quiet_step (first | exact qQ _ _))
              refine wpQuiet_nil ?_
              intro _ hw'
              obtain ⟨⟨dq, osq⟩, hw''⟩ := hw'
              subst hw''
              have hbq := below_regrown wa dq osq
              have hbe := hbo.trans (hbq.mono hbo.size)
              clear qQ k0 k1 k2 k3 k4
              generalize grow (redrawn wa dq) osq = w4 at *
              clear hbq hbo
              go_wp2
              go_roundw
              case rel => exact ⟨j + 1, by omega, by go_num, hbe⟩
              case measure => first | (simp [intOf]; done) | (simp [intOf]; omega)
            · obtain rfl : j = l.length := by omega
              have hAx := HA.out.1.below hbx
              have hbw2 := hbw.trans (hbx.mono hbw.size)
              have hil := HA.out.2
              generalize itemsL K l = I at *
              cases I with
              | nil =>
                have hf := sfirst_nil _ _ s K v hAx
                go_wp2_with fail
                refine hf.mono ?_
                rintro e w4 ⟨rfl, hb4⟩
                replace hAx := hAx.below hb4
                replace hbw2 := hbw2.trans (hb4.mono hbw2.size)
                have hi := sitems_any w4 _ s K v _ hAx hil
                clear hf hb4
                go_wp2_with fail
                refine hi.mono ?_
                rintro e w5 ⟨u5, rfl, hU5, hb5⟩
                obtain ⟨A5, c5, rfl, hr5⟩ := hU5.rdi
                replace hbw2 := hbw2.trans (hb5.mono hbw2.size)
                go_wp2
                go_ret
                exact ⟨rfl, hbw2⟩
              | cons x I =>
                have hf := sfirst_cons _ _ s K v x I hAx
                have HIL := hid hil
                clear hil
                go_wp2_with fail
                refine hf.mono ?_
                rintro e w4 ⟨rfl, hb4⟩
                replace hAx := hAx.below hb4
                replace hbw2 := hbw2.trans (hb4.mono hbw2.size)
                have hi := sitems_any w4 _ s K v _ hAx HIL.out
                clear hf hb4
                go_wp2_with fail
                refine hi.mono ?_
                rintro e w5 ⟨u5, rfl, hU5, hb5⟩
                obtain ⟨A5, c5, rfl, hr5⟩ := hU5.rdi
                replace hbw2 := hbw2.trans (hb5.mono hbw2.size)
                obtain ⟨b, off, rfl, hb, hc⟩ := hr5.resolve_left (by simp)
                have hx := hc 0 (by simp)
                simp only [List.getD_cons_zero, Nat.add_zero] at hx
                have hp : (0 : Int) < ((x :: I).length : Int) := by simp
                have hpd : decide (((x :: I).length : Int) > 0) = true := by simp
                have hxx : (x == x) = true := by simp
                clear hc hi hb5 hU5 hAx
                generalize (x :: I).length = n at *
                go_wp2
                go_ret
                exact ⟨by first | rfl | (simp; done), hbw2⟩
        · have hbf : b = false := by
            cases b
            · rfl
            · exact absurd (hmi.1 rfl) hn
          subst hbf
          go_wp2
          go_ret
          exact ⟨by first | rfl | (simp; done), hbw⟩
  · go_enter Try.func4, Try.ntmps4
    go_wp2_with fail
    refine (s7awake_any _).mono ?_
    rintro e w1 ⟨rfl, hb1⟩
    go_wp2
    go_ret
    exact ⟨by first | rfl | (simp; done), hb1⟩
end Go.Proofs.Ytibbbbgalhekoaa
