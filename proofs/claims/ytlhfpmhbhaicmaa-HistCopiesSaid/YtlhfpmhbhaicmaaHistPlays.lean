/- The law HistPlays (by bin/gen_hplays.py). -/
import Derived.Test.YtlhfpmhbhaicmaaHistSame
import Derived.Test.YtlhfpmhbhaicmaaHistCalls
import Derived.Test.YtlhfpmhbhaicmaaHistAwake
namespace Go.Proofs.Ytlhfpmhbhaicmaa
open Go.RowKit Go.Sort
set_option maxHeartbeats 8000000
set_option maxRecDepth 100000

def HPRel (w0 : World) (h : Nat) (l : List Ev) (u i : Value) (w : World) : Prop :=
  ∃ (j : Nat) (v : Value) (D : List Ev), (j ≤ l.length ∧ i = .int .i64 j ∧ D.length ≤ j) ∧ Hok D ∧ HistAt w w0.heap.size h v D ∧ RefRow w w0.heap.size u D ∧ Below w0.heap.size w0 w

theorem hplays_walk (A : Option Addr) (l : List Ev) (cap : Nat) (w : World) (hrd : RdE w A l) :
    Calls Try.prog 3 #[.slice A l.length cap] w fun e w' => e = .returned (.bool true) ∧ Below w.heap.size w w' := by
  have HR := hid hrd
  clear hrd
  by_cases h60 : l.length ≤ 60
  · go_enter Try.func3, Try.ntmps3
    go_wp2_with fail
    refine (h8awake_any _).mono ?_
    rintro e w1 ⟨rfl, hb1⟩
    have hnew := hnew_any w1
    go_wp2_with fail
    refine hnew.mono ?_
    rintro e w2 ⟨h, rfl, hN, hb2⟩
    replace hN := hN.mono hb1.size
    replace hb1 := hb1.trans (hb2.mono hb1.size)
    clear hnew hb2
    go_wp2
    go_loopw [4, 16] (fun u i wr => HPRel w h l u i wr) (fun _ i _ => l.length - (intOf i).toNat)
    case atStart => exact ⟨0, _, [], ⟨Nat.zero_le _, rfl, Nat.zero_le _⟩, Hok.nil, hN, RowG.none _ _, hb1⟩
    case round =>
      obtain ⟨j, v, D, ⟨hj, rfl, hDj⟩, hD, hA, hK, hbw⟩ := hrel
      clear hN hb1
      have hsz := hbw.size
      have HD := hid hD
      clear hD
      by_cases hlt : j < l.length
      · obtain ⟨b1, o1, rfl, -, hc1⟩ := (HR.out.below hbw (Nat.le_refl _)).resolve_left (fun h => by subst h; simp at hlt)
        have hget : l[j]? = some (l.getD j default) := by simp [List.getD, hlt]
        obtain ⟨x0, x1, x2, x3, x4, x5, x6⟩ := hc1 j _ hget
        have HOWN := hid (fun c hc => (hK.ge c hc).2)
        clear hc1 hget
        generalize l.getD j default = V at *
        obtain ⟨vt, ve, vk, vy, vc, vo, vz⟩ := V
        dsimp only at x0 x1 x2 x3 x4 x5 x6
        cases ve
        · have hL := Blk.new wr 32 #[.int .i64 vt, .bool false, .int .i64 vk, .int .i64 vy, .int .i64 vc, .bool vo, .int .i64 vz]
          have hbo := hbw.alloc hsz (.cells #[.int .i64 vt, .bool false, .int .i64 vk, .int .i64 vy, .int .i64 vc, .bool vo, .int .i64 vz] 32)
          have hAo := hA.alloc (.cells #[.int .i64 vt, .bool false, .int .i64 vk, .int .i64 vy, .int .i64 vc, .bool vo, .int .i64 vz] 32)
          have hKo := hK.alloc (.cells #[.int .i64 vt, .bool false, .int .i64 vk, .int .i64 vy, .int .i64 vc, .bool vo, .int .i64 vz] 32)
          have hee : errL D ⟨vt, false, vk, vy, vc, vo, vz⟩ = errL D ⟨vt, false, vk, vy, 0, false, 0⟩ := by rw [← errL_bare]; rfl
          obtain ⟨c0, c1, c2, c3, c4, c5, c6, -⟩ := hL.seven
          clear hA hK hbw
          by_cases he : errL D ⟨vt, false, vk, vy, 0, false, 0⟩ = 0
          · have hsn := HD.out.snoc (v := ⟨vt, false, vk, vy, vc, vo, vz⟩) (by rw [hee]; exact he)
            have hsn : Hok (D ++ [⟨vt, false, vk, vy, 0, false, 0⟩]) := hsn
            have HOK := hid hsn
            have hdo := hbegin_ok _ w.heap.size h v D vt vk vy hAo HD.out (by omega) he
            rw [he] at hee
            have HEE := hid hee
            clear hsn he hee
            go_wp2_with fail
            refine hdo.mono ?_
            rintro e w2 ⟨rfl, v2, hA2, hs2⟩
            replace hL := hs2.blk hAo hL (by decide) (by decide)
            have hK2 := hs2.row hAo hKo (by decide) (by decide)
            have hb2 := hbo.trans (hs2.below hAo)
            obtain ⟨A2, cap2, rfl, hrd2⟩ := RefRow.rde hK2
            have her := rerror_any A2 D cap2 ⟨vt, false, vk, vy, vc, vo, vz⟩ w2 (by omega) hrd2
            rw [HEE.out] at her
            dsimp only at her
            clear hdo hAo hKo hbo hs2 hrd2 c0 c1 c2 c3 c4 c5 c6
            obtain ⟨c0, c1, c2, c3, c4, c5, c6, -⟩ := hL.seven
            go_wp2_with fail
            refine her.mono ?_
            rintro e w3 ⟨rfl, hb3⟩
            replace hL := hL.below hb3 hL.lt
            replace hA2 := hA2.below hb3
            replace hK2 := hK2.below hb3
            replace hb2 := hb2.trans (hb3.mono hb2.size)
            have hba := bare_any ⟨vt, false, vk, vy, vc, vo, vz⟩ w3
            dsimp only [Ev.bare] at hba
            simp only [if_true, Bool.false_eq_true, if_false] at hba
            clear her hb3 c0 c1 c2 c3 c4 c5 c6
            obtain ⟨c0, c1, c2, c3, c4, c5, c6, -⟩ := hL.seven
            go_wp2_with fail
            refine hba.mono ?_
            rintro e w4 ⟨rfl, hb4⟩
            replace hL := hL.below hb4 hL.lt
            replace hA2 := hA2.below hb4
            replace hK2 := hK2.below hb4
            replace hb2 := hb2.trans (hb4.mono hb2.size)
            have hsz4 := hb2.size
            clear hba hb4 c0 c1 c2 c3 c4 c5 c6
            have hnew := Blk.new w4 32 #[.int .i64 vt, .bool false, .int .i64 vk, .int .i64 vy, .int .i64 0, .bool false, .int .i64 0]
            have hK5 := hK2.alloc (.cells #[.int .i64 vt, .bool false, .int .i64 vk, .int .i64 vy, .int .i64 0, .bool false, .int .i64 0] 32)
            have hb5 := hb2.alloc hsz4 (.cells #[.int .i64 vt, .bool false, .int .i64 vk, .int .i64 vy, .int .i64 0, .bool false, .int .i64 0] 32)
            have hL5 := hL.alloc (.cells #[.int .i64 vt, .bool false, .int .i64 vk, .int .i64 vy, .int .i64 0, .bool false, .int .i64 0] 32)
            have hA5 := hA2.alloc (.cells #[.int .i64 vt, .bool false, .int .i64 vk, .int .i64 vy, .int .i64 0, .bool false, .int .i64 0] 32)
            have hD6 : D.length ≤ 1000000 := by omega
            have hB5 : w.heap.size ≤ (w4.alloc (.cells #[.int .i64 vt, .bool false, .int .i64 vk, .int .i64 vy, .int .i64 0, .bool false, .int .i64 0] 32)).heap.size := hb5.size
            have HP := hid (And.intro hL5 (And.intro hA5 hb5))
            clear hK2 hb2 hL hA2 hL5 hA5 hb5
            go_wp2_with (at_builtin; refine wpList_snocG rfl _ _ 22 rfl Try.underlying22 (.agg #[.int .i64 0, .bool false, .int .i64 0, .int .i64 0, .int .i64 0, .bool false, .int .i64 0]) 56 info_rev rfl (by decide) (by decide) (fun _ => rfl) (by simp [evC, Value.oneCell']) w.heap.size _ D w4.heap.size ⟨vt, false, vk, vy, 0, false, 0⟩ rfl rfl hK5 32 hnew hD6 hB5 ?_)
            intro u9 w9 hK3 hT hat
            obtain ⟨hL5, hA5, hb5⟩ := HP.out
            have hown5 : ∀ c, (Value.slice A2 D.length cap2).ownBlock = some c → c < wr.heap.size := HOWN.out
            have hL3 := hL5.touch hT (fun e => by have := hown5 _ e; omega)
            have hA3 : HistAt w9 w.heap.size h v2 (D ++ [⟨vt, false, vk, vy, 0, false, 0⟩]) := ⟨hA5.blk.touch hT (fun e => hK5.ne hA5.blk (by decide) _ e rfl), hA5.row.touch hT (fun c hc e => by
              rcases hK5.own.2 with ⟨h1, _⟩ | ⟨g, cp, cur, h1, _, hh, _⟩
              · rw [h1] at e; simp [Value.ownBlock] at e
              · rw [h1] at e; simp [Value.ownBlock] at e
                subst e
                exact hA5.row.ne (show Blk _ g 32 cur from hh) (by decide) _ hc rfl), hA5.ge⟩
            have hb3 : Below w.heap.size w w9 := hb5.trans (hT.below (fun k hk => (hK5.ge k hk).1) hB5)
            clear hL5 hA5 hb5 HP hT hat hK5 hnew hown5 hB5 hD6 HOWN hsz4 x0 x1 x2 x3 x4 x5 x6
            have hlen2 : (D ++ [(⟨vt, false, vk, vy, 0, false, 0⟩ : Ev)]).length ≤ j + 1 := by simp; omega
            generalize D ++ [(⟨vt, false, vk, vy, 0, false, 0⟩ : Ev)] = D2 at *
            obtain ⟨A3, cap3, rfl, hrd3⟩ := RefRow.rde hK3
            obtain ⟨c0, -, -, -, -, -, -, -⟩ := hL3.seven
            have k0 := cell_regrown c0
            have qF := fun d os => Calls.regrown_of (hpend_any (grow (redrawn w9 d) os) _ h _ _ vt (hA3.below (below_regrown w9 d os)) HOK.out)
            have qG := fun d os => Calls.regrown_of (rpend_any A3 _ cap3 vt (grow (redrawn w9 d) os) (by first | omega | (simp; omega)) (hrd3.below (below_regrown w9 d os) (Nat.le_refl _)))
            obtain ⟨bP, hbP⟩ : ∃ bP, bP = pendL D2 vt := ⟨_, rfl⟩
            rw [← hbP] at qF qG
            have v3 := bool_same bP
            have HH := hid (And.intro hA3 (And.intro hK3 hb3))
            clear c0 hA3 hK3 hL3 hb3 hrd3 hbP
            go_wp2_with fail
            refine wp_region_quiet_below (by kernel_rfl) (by kernel_rfl) ?_
            repeat (first | go_big_quiet_step (first | exact qF _ _ | exact qG _ _) | quiet_step (first | exact qF _ _ | exact qG _ _))
            refine wpQuiet_nil ?_
            intro _ hw'
            obtain ⟨⟨dq, osq⟩, hw''⟩ := hw'
            subst hw''
            have hbq := below_regrown w9 dq osq
            obtain ⟨hA3, hK3, hb3⟩ := HH.out
            have hA4 := hA3.below hbq
            have hK4 := hK3.below hbq
            have hb4 := hb3.trans (hbq.mono hb3.size)
            clear qF qG k0 v3 HH hA3 hK3 hb3 hbq
            generalize grow (redrawn w9 dq) osq = w10 at *
            go_wp2
            go_roundw
            case rel => exact ⟨j + 1, _, _, ⟨by omega, by go_num, by omega⟩, HOK.out, hA4, hK4, hb4⟩
            case measure => first | (simp [intOf]; done) | (simp [intOf]; omega)
          · have hno := hbegin_not _ w.heap.size h v D vt vk vy hAo HD.out he
            have hq : (errL D ⟨vt, false, vk, vy, 0, false, 0⟩ == 0) = false := by simpa using he
            have HOK := HD
            obtain ⟨E, hE⟩ : ∃ E, E = errL D ⟨vt, false, vk, vy, 0, false, 0⟩ := ⟨_, rfl⟩
            rw [← hE] at hno hq hee
            have hqq : (E != E) = false := by simp
            have HEE := hid hee
            clear he hee hE
            go_wp2_with fail
            refine hno.mono ?_
            rintro e w2 ⟨rfl, hb2⟩
            replace hL := hL.below hb2 hL.lt
            replace hAo := hAo.below hb2
            replace hKo := hKo.below hb2
            replace hbo := hbo.trans (hb2.mono hbo.size)
            obtain ⟨A3, cap3, rfl, hrd2⟩ := RefRow.rde hKo
            have her := rerror_any A3 D cap3 ⟨vt, false, vk, vy, vc, vo, vz⟩ w2 (by omega) hrd2
            rw [HEE.out] at her
            dsimp only at her
            clear hno hrd2 hb2 c0 c1 c2 c3 c4 c5 c6
            obtain ⟨c0, c1, c2, c3, c4, c5, c6, -⟩ := hL.seven
            go_wp2_with fail
            refine her.mono ?_
            rintro e w9 ⟨rfl, hb3⟩
            have hL3 := hL.below hb3 hL.lt
            have hA3 := hAo.below hb3
            have hK3 := hKo.below hb3
            replace hbo := hbo.trans (hb3.mono hbo.size)
            clear her hb3 hL hAo hKo c0 c1 c2 c3 c4 c5 c6
            have hb3 := hbo
            clear hbo HOWN x0 x1 x2 x3 x4 x5 x6
            obtain ⟨A4, cap4, hv3, hrd3⟩ := RefRow.rde hK3
            simp only [Value.slice.injEq] at hv3
            obtain ⟨rfl, -, rfl⟩ := hv3
            obtain ⟨c0, -, -, -, -, -, -, -⟩ := hL3.seven
            have k0 := cell_regrown c0
            have qF := fun d os => Calls.regrown_of (hpend_any (grow (redrawn w9 d) os) _ h _ _ vt (hA3.below (below_regrown w9 d os)) HOK.out)
            have qG := fun d os => Calls.regrown_of (rpend_any A3 _ cap3 vt (grow (redrawn w9 d) os) (by first | omega | (simp; omega)) (hrd3.below (below_regrown w9 d os) (Nat.le_refl _)))
            obtain ⟨bP, hbP⟩ : ∃ bP, bP = pendL D vt := ⟨_, rfl⟩
            rw [← hbP] at qF qG
            have v3 := bool_same bP
            have HH := hid (And.intro hA3 (And.intro hK3 hb3))
            clear c0 hA3 hK3 hL3 hb3 hrd3 hbP
            go_wp2_with fail
            refine wp_region_quiet_below (by kernel_rfl) (by kernel_rfl) ?_
            repeat (first | go_big_quiet_step (first | exact qF _ _ | exact qG _ _) | quiet_step (first | exact qF _ _ | exact qG _ _))
            refine wpQuiet_nil ?_
            intro _ hw'
            obtain ⟨⟨dq, osq⟩, hw''⟩ := hw'
            subst hw''
            have hbq := below_regrown w9 dq osq
            obtain ⟨hA3, hK3, hb3⟩ := HH.out
            have hA4 := hA3.below hbq
            have hK4 := hK3.below hbq
            have hb4 := hb3.trans (hbq.mono hb3.size)
            clear qF qG k0 v3 HH hA3 hK3 hb3 hbq
            generalize grow (redrawn w9 dq) osq = w10 at *
            go_wp2
            go_roundw
            case rel => exact ⟨j + 1, _, _, ⟨by omega, by go_num, by omega⟩, HOK.out, hA4, hK4, hb4⟩
            case measure => first | (simp [intOf]; done) | (simp [intOf]; omega)
        · have hL := Blk.new wr 32 #[.int .i64 vt, .bool true, .int .i64 vk, .int .i64 vy, .int .i64 vc, .bool vo, .int .i64 vz]
          have hbo := hbw.alloc hsz (.cells #[.int .i64 vt, .bool true, .int .i64 vk, .int .i64 vy, .int .i64 vc, .bool vo, .int .i64 vz] 32)
          have hAo := hA.alloc (.cells #[.int .i64 vt, .bool true, .int .i64 vk, .int .i64 vy, .int .i64 vc, .bool vo, .int .i64 vz] 32)
          have hKo := hK.alloc (.cells #[.int .i64 vt, .bool true, .int .i64 vk, .int .i64 vy, .int .i64 vc, .bool vo, .int .i64 vz] 32)
          have hee : errL D ⟨vt, true, vk, vy, vc, vo, vz⟩ = errL D ⟨vt, true, 0, 0, vc, vo, vz⟩ := by rw [← errL_bare]; rfl
          obtain ⟨c0, c1, c2, c3, c4, c5, c6, -⟩ := hL.seven
          clear hA hK hbw
          by_cases he : errL D ⟨vt, true, 0, 0, vc, vo, vz⟩ = 0
          · have hsn := HD.out.snoc (v := ⟨vt, true, vk, vy, vc, vo, vz⟩) (by rw [hee]; exact he)
            have hsn : Hok (D ++ [⟨vt, true, 0, 0, vc, vo, vz⟩]) := hsn
            have HOK := hid hsn
            have hdo := hend_ok _ w.heap.size h v D vt vc vz vo hAo HD.out (by omega) he
            rw [he] at hee
            have HEE := hid hee
            clear hsn he hee
            go_wp2_with fail
            refine hdo.mono ?_
            rintro e w2 ⟨rfl, v2, hA2, hs2⟩
            replace hL := hs2.blk hAo hL (by decide) (by decide)
            have hK2 := hs2.row hAo hKo (by decide) (by decide)
            have hb2 := hbo.trans (hs2.below hAo)
            obtain ⟨A2, cap2, rfl, hrd2⟩ := RefRow.rde hK2
            have her := rerror_any A2 D cap2 ⟨vt, true, vk, vy, vc, vo, vz⟩ w2 (by omega) hrd2
            rw [HEE.out] at her
            dsimp only at her
            clear hdo hAo hKo hbo hs2 hrd2 c0 c1 c2 c3 c4 c5 c6
            obtain ⟨c0, c1, c2, c3, c4, c5, c6, -⟩ := hL.seven
            go_wp2_with fail
            refine her.mono ?_
            rintro e w3 ⟨rfl, hb3⟩
            replace hL := hL.below hb3 hL.lt
            replace hA2 := hA2.below hb3
            replace hK2 := hK2.below hb3
            replace hb2 := hb2.trans (hb3.mono hb2.size)
            have hba := bare_any ⟨vt, true, vk, vy, vc, vo, vz⟩ w3
            dsimp only [Ev.bare] at hba
            simp only [if_true, Bool.false_eq_true, if_false] at hba
            clear her hb3 c0 c1 c2 c3 c4 c5 c6
            obtain ⟨c0, c1, c2, c3, c4, c5, c6, -⟩ := hL.seven
            go_wp2_with fail
            refine hba.mono ?_
            rintro e w4 ⟨rfl, hb4⟩
            replace hL := hL.below hb4 hL.lt
            replace hA2 := hA2.below hb4
            replace hK2 := hK2.below hb4
            replace hb2 := hb2.trans (hb4.mono hb2.size)
            have hsz4 := hb2.size
            clear hba hb4 c0 c1 c2 c3 c4 c5 c6
            have hnew := Blk.new w4 32 #[.int .i64 vt, .bool true, .int .i64 0, .int .i64 0, .int .i64 vc, .bool vo, .int .i64 vz]
            have hK5 := hK2.alloc (.cells #[.int .i64 vt, .bool true, .int .i64 0, .int .i64 0, .int .i64 vc, .bool vo, .int .i64 vz] 32)
            have hb5 := hb2.alloc hsz4 (.cells #[.int .i64 vt, .bool true, .int .i64 0, .int .i64 0, .int .i64 vc, .bool vo, .int .i64 vz] 32)
            have hL5 := hL.alloc (.cells #[.int .i64 vt, .bool true, .int .i64 0, .int .i64 0, .int .i64 vc, .bool vo, .int .i64 vz] 32)
            have hA5 := hA2.alloc (.cells #[.int .i64 vt, .bool true, .int .i64 0, .int .i64 0, .int .i64 vc, .bool vo, .int .i64 vz] 32)
            have hD6 : D.length ≤ 1000000 := by omega
            have hB5 : w.heap.size ≤ (w4.alloc (.cells #[.int .i64 vt, .bool true, .int .i64 0, .int .i64 0, .int .i64 vc, .bool vo, .int .i64 vz] 32)).heap.size := hb5.size
            have HP := hid (And.intro hL5 (And.intro hA5 hb5))
            clear hK2 hb2 hL hA2 hL5 hA5 hb5
            go_wp2_with (at_builtin; refine wpList_snocG rfl _ _ 22 rfl Try.underlying22 (.agg #[.int .i64 0, .bool false, .int .i64 0, .int .i64 0, .int .i64 0, .bool false, .int .i64 0]) 56 info_rev rfl (by decide) (by decide) (fun _ => rfl) (by simp [evC, Value.oneCell']) w.heap.size _ D w4.heap.size ⟨vt, true, 0, 0, vc, vo, vz⟩ rfl rfl hK5 32 hnew hD6 hB5 ?_)
            intro u9 w9 hK3 hT hat
            obtain ⟨hL5, hA5, hb5⟩ := HP.out
            have hown5 : ∀ c, (Value.slice A2 D.length cap2).ownBlock = some c → c < wr.heap.size := HOWN.out
            have hL3 := hL5.touch hT (fun e => by have := hown5 _ e; omega)
            have hA3 : HistAt w9 w.heap.size h v2 (D ++ [⟨vt, true, 0, 0, vc, vo, vz⟩]) := ⟨hA5.blk.touch hT (fun e => hK5.ne hA5.blk (by decide) _ e rfl), hA5.row.touch hT (fun c hc e => by
              rcases hK5.own.2 with ⟨h1, _⟩ | ⟨g, cp, cur, h1, _, hh, _⟩
              · rw [h1] at e; simp [Value.ownBlock] at e
              · rw [h1] at e; simp [Value.ownBlock] at e
                subst e
                exact hA5.row.ne (show Blk _ g 32 cur from hh) (by decide) _ hc rfl), hA5.ge⟩
            have hb3 : Below w.heap.size w w9 := hb5.trans (hT.below (fun k hk => (hK5.ge k hk).1) hB5)
            clear hL5 hA5 hb5 HP hT hat hK5 hnew hown5 hB5 hD6 HOWN hsz4 x0 x1 x2 x3 x4 x5 x6
            have hlen2 : (D ++ [(⟨vt, true, 0, 0, vc, vo, vz⟩ : Ev)]).length ≤ j + 1 := by simp; omega
            generalize D ++ [(⟨vt, true, 0, 0, vc, vo, vz⟩ : Ev)] = D2 at *
            obtain ⟨A3, cap3, rfl, hrd3⟩ := RefRow.rde hK3
            obtain ⟨c0, -, -, -, -, -, -, -⟩ := hL3.seven
            have k0 := cell_regrown c0
            have qF := fun d os => Calls.regrown_of (hpend_any (grow (redrawn w9 d) os) _ h _ _ vt (hA3.below (below_regrown w9 d os)) HOK.out)
            have qG := fun d os => Calls.regrown_of (rpend_any A3 _ cap3 vt (grow (redrawn w9 d) os) (by first | omega | (simp; omega)) (hrd3.below (below_regrown w9 d os) (Nat.le_refl _)))
            obtain ⟨bP, hbP⟩ : ∃ bP, bP = pendL D2 vt := ⟨_, rfl⟩
            rw [← hbP] at qF qG
            have v3 := bool_same bP
            have HH := hid (And.intro hA3 (And.intro hK3 hb3))
            clear c0 hA3 hK3 hL3 hb3 hrd3 hbP
            go_wp2_with fail
            refine wp_region_quiet_below (by kernel_rfl) (by kernel_rfl) ?_
            repeat (first | go_big_quiet_step (first | exact qF _ _ | exact qG _ _) | quiet_step (first | exact qF _ _ | exact qG _ _))
            refine wpQuiet_nil ?_
            intro _ hw'
            obtain ⟨⟨dq, osq⟩, hw''⟩ := hw'
            subst hw''
            have hbq := below_regrown w9 dq osq
            obtain ⟨hA3, hK3, hb3⟩ := HH.out
            have hA4 := hA3.below hbq
            have hK4 := hK3.below hbq
            have hb4 := hb3.trans (hbq.mono hb3.size)
            clear qF qG k0 v3 HH hA3 hK3 hb3 hbq
            generalize grow (redrawn w9 dq) osq = w10 at *
            go_wp2
            go_roundw
            case rel => exact ⟨j + 1, _, _, ⟨by omega, by go_num, by omega⟩, HOK.out, hA4, hK4, hb4⟩
            case measure => first | (simp [intOf]; done) | (simp [intOf]; omega)
          · have hno := hend_not _ w.heap.size h v D vt vc vz vo hAo HD.out he
            have hq : (errL D ⟨vt, true, 0, 0, vc, vo, vz⟩ == 0) = false := by simpa using he
            have HOK := HD
            obtain ⟨E, hE⟩ : ∃ E, E = errL D ⟨vt, true, 0, 0, vc, vo, vz⟩ := ⟨_, rfl⟩
            rw [← hE] at hno hq hee
            have hqq : (E != E) = false := by simp
            have HEE := hid hee
            clear he hee hE
            go_wp2_with fail
            refine hno.mono ?_
            rintro e w2 ⟨rfl, hb2⟩
            replace hL := hL.below hb2 hL.lt
            replace hAo := hAo.below hb2
            replace hKo := hKo.below hb2
            replace hbo := hbo.trans (hb2.mono hbo.size)
            obtain ⟨A3, cap3, rfl, hrd2⟩ := RefRow.rde hKo
            have her := rerror_any A3 D cap3 ⟨vt, true, vk, vy, vc, vo, vz⟩ w2 (by omega) hrd2
            rw [HEE.out] at her
            dsimp only at her
            clear hno hrd2 hb2 c0 c1 c2 c3 c4 c5 c6
            obtain ⟨c0, c1, c2, c3, c4, c5, c6, -⟩ := hL.seven
            go_wp2_with fail
            refine her.mono ?_
            rintro e w9 ⟨rfl, hb3⟩
            have hL3 := hL.below hb3 hL.lt
            have hA3 := hAo.below hb3
            have hK3 := hKo.below hb3
            replace hbo := hbo.trans (hb3.mono hbo.size)
            clear her hb3 hL hAo hKo c0 c1 c2 c3 c4 c5 c6
            have hb3 := hbo
            clear hbo HOWN x0 x1 x2 x3 x4 x5 x6
            obtain ⟨A4, cap4, hv3, hrd3⟩ := RefRow.rde hK3
            simp only [Value.slice.injEq] at hv3
            obtain ⟨rfl, -, rfl⟩ := hv3
            obtain ⟨c0, -, -, -, -, -, -, -⟩ := hL3.seven
            have k0 := cell_regrown c0
            have qF := fun d os => Calls.regrown_of (hpend_any (grow (redrawn w9 d) os) _ h _ _ vt (hA3.below (below_regrown w9 d os)) HOK.out)
            have qG := fun d os => Calls.regrown_of (rpend_any A3 _ cap3 vt (grow (redrawn w9 d) os) (by first | omega | (simp; omega)) (hrd3.below (below_regrown w9 d os) (Nat.le_refl _)))
            obtain ⟨bP, hbP⟩ : ∃ bP, bP = pendL D vt := ⟨_, rfl⟩
            rw [← hbP] at qF qG
            have v3 := bool_same bP
            have HH := hid (And.intro hA3 (And.intro hK3 hb3))
            clear c0 hA3 hK3 hL3 hb3 hrd3 hbP
            go_wp2_with fail
            refine wp_region_quiet_below (by kernel_rfl) (by kernel_rfl) ?_
            repeat (first | go_big_quiet_step (first | exact qF _ _ | exact qG _ _) | quiet_step (first | exact qF _ _ | exact qG _ _))
            refine wpQuiet_nil ?_
            intro _ hw'
            obtain ⟨⟨dq, osq⟩, hw''⟩ := hw'
            subst hw''
            have hbq := below_regrown w9 dq osq
            obtain ⟨hA3, hK3, hb3⟩ := HH.out
            have hA4 := hA3.below hbq
            have hK4 := hK3.below hbq
            have hb4 := hb3.trans (hbq.mono hb3.size)
            clear qF qG k0 v3 HH hA3 hK3 hb3 hbq
            generalize grow (redrawn w9 dq) osq = w10 at *
            go_wp2
            go_roundw
            case rel => exact ⟨j + 1, _, _, ⟨by omega, by go_num, by omega⟩, HOK.out, hA4, hK4, hb4⟩
            case measure => first | (simp [intOf]; done) | (simp [intOf]; omega)
      · obtain ⟨A3, cap3, rfl, hrd3⟩ := RefRow.rde hK
        have hsa := same_any wr _ h v D A3 cap3 hA HD.out (by omega) hrd3
        clear hK
        go_wp2_with fail
        refine hsa.mono ?_
        rintro e w5 ⟨rfl, hb5⟩
        have hca := calls_any w5 _ h v D A3 cap3 (hA.below hb5) HD.out (by omega) (hrd3.below hb5 (Nat.le_refl _))
        replace hbw := hbw.trans (hb5.mono hbw.size)
        clear hsa hA hrd3 hb5
        go_wp2_with fail
        refine hca.mono ?_
        rintro e w6 ⟨rfl, hb6⟩
        replace hbw := hbw.trans (hb6.mono hbw.size)
        clear hca hb6
        go_wp2
        go_ret
        exact ⟨rfl, hbw⟩
  · go_enter Try.func3, Try.ntmps3
    go_wp2_with fail
    refine (h8awake_any _).mono ?_
    rintro e w1 ⟨rfl, hb1⟩
    go_wp2
    go_ret
    exact ⟨by first | rfl | (simp; done), hb1⟩
end Go.Proofs.Ytlhfpmhbhaicmaa
