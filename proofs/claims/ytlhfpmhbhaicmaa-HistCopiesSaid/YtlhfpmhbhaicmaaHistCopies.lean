/- The law HistCopies (by bin/gen_hcopies.py). -/
import Derived.Test.YtlhfpmhbhaicmaaHistPlays
import Derived.Test.YtlhfpmhbhaicmaaRowN
namespace Go.Proofs.Ytlhfpmhbhaicmaa
open Go.RowKit Go.Sort
set_option maxHeartbeats 16000000
set_option maxRecDepth 100000

theorem RowN.rde {w : World} {B : Nat} {v : Value} {l : List Ev} (h : RowN 32 7 evC w B v l) : ∃ A cap, v = .slice A l.length cap ∧ RdE w A l := by
  obtain ⟨A, cap, hv, h2⟩ := h.out (fun _ => rfl)
  refine ⟨A, cap, hv, ?_⟩
  by_cases h0 : l = []
  · exact Or.inl h0
  · obtain ⟨g, rfl, _, hg, hc⟩ := h2 h0
    refine Or.inr ⟨g, 0, rfl, hg, fun i x hx => ?_⟩
    have hh := fun j hj => hc i x hx j hj
    rw [Nat.zero_add]
    exact ⟨hh 0 (by omega), hh 1 (by omega), hh 2 (by omega), hh 3 (by omega), hh 4 (by omega), hh 5 (by omega), hh 6 (by omega)⟩
theorem HStep.rowN {w w' : World} {B s : Nat} {v v' : Value} {l : List Ev} (h : HStep s v v' w w') (hS : HistAt w B s v l) {α : Type} {e : TypeId} {k C : Nat} {f : α → List Value} {u : Value} {m : List α} (hR : RowN e k f w C u m) (h1 : e ≠ 60) (h2 : e ≠ 51) : RowN e k f w' C u m :=
  hR.touch h.touch (fun c hc hk => by
    rcases hR.own.2 with ⟨rfl, _⟩ | ⟨g, cap, cur, rfl, _, hh, _⟩
    · simp [Value.ownBlock] at hc
    · simp [Value.ownBlock] at hc
      subst hc
      have hB : Blk w g e cur := hh
      rcases hk with e1 | e1
      · exact hB.ne hS.blk h1 e1
      · exact hS.row.ne hB h2 _ e1 rfl)
/-- What is handed out, written over: a thread; an end. -/
theorem EvRow.setT {w : World} {B g n cap q : Nat} {l : List Ev} (h : EvRow w B (.slice (some ⟨g, 0, none⟩) n cap) l) (hn : l.length = n) (hq : q < n) (x : Int) :
    EvRow (w.setCell ⟨g, q * 7, none⟩ (.int .i64 x)) B (.slice (some ⟨g, 0, none⟩) n cap) (l.set q { (l.getD q ev0) with t := x }) := by
  subst hn
  have hc : l[q]? = some (l.getD q ev0) := by simp [List.getD, hq]
  obtain ⟨h1, h2⟩ := flat_mid (f := evC) (k := 7) (fun _ => rfl) hc
  have ho := ownsRow_set h.own (q * 7 + 0) (.int .i64 x)
  rw [h1, mid_set h2 0 (by simp [evC])] at ho
  refine ⟨?_, fun h0 => ?_⟩
  · rw [List.length_set]
    rw [← flat_set (f := evC) (k := 7) (fun _ => rfl) hc (x' := { (l.getD q ev0) with t := x }) rfl]
    exact ho
  · have : l = [] := by simpa using h0
    subst this
    simp at hq
theorem CallRow.setE {w : World} {B g n cap q : Nat} {l : List Cl} {C : Cl} (h : CallRow w B (.slice (some ⟨g, 0, none⟩) n cap) l) (hn : l.length = n) (hc : l[q]? = some C) (x : Int) :
    CallRow (w.setCell ⟨g, q * 9 + 1, none⟩ (.int .i64 x)) B (.slice (some ⟨g, 0, none⟩) n cap) (l.set q { C with e := x }) := by
  subst hn
  obtain ⟨h1, h2⟩ := flat_mid (f := callC) (k := 9) (fun _ => rfl) hc
  have ho := ownsRow_set h.own (q * 9 + 1) (.int .i64 x)
  rw [h1, mid_set h2 1 (by simp [callC])] at ho
  refine ⟨?_, fun h0 => ?_⟩
  · rw [List.length_set]
    rw [← flat_set (f := callC) (k := 9) (fun _ => rfl) hc (x' := { C with e := x }) rfl]
    exact ho
  · have : l = [] := by simpa using h0
    subst this
    simp at hc

def HCRel (w0 : World) (h : Nat) (l : List Ev) (n : Nat) (u i : Value) (w : World) : Prop :=
  ∃ (j : Nat) (v : Value) (D : List Ev), (j ≤ l.length ∧ i = .int .i64 j ∧ D.length ≤ n + j) ∧ Hok D ∧ HistAt w w0.heap.size h v D ∧ RowN 32 7 evC w w0.heap.size u D ∧ Below w0.heap.size w0 w

theorem hcopies_walk (A : Option Addr) (l : List Ev) (cap : Nat) (A' : Option Addr) (l' : List Ev) (cap' : Nat) (w : World) (hrd : RdE w A l) (hrd' : RdE w A' l') :
    Calls Try.prog 5 #[.slice A l.length cap, .slice A' l'.length cap'] w fun e w' => e = .returned (.bool true) ∧ Below w.heap.size w w' := by
  have HR := hid hrd
  have HR2 := hid hrd'
  clear hrd hrd'
  by_cases h60 : l.length ≤ 60
  · by_cases h60' : l'.length ≤ 60
    · go_enter Try.func5, Try.ntmps5
      go_wp2_with fail
      refine (h8awake_any _).mono ?_
      rintro e w1 ⟨rfl, hb1⟩
      have hnew := hnew_any w1
      go_wp2_with fail
      refine hnew.mono ?_
      rintro e w2 ⟨h, rfl, hN, hb2⟩
      replace hN := hN.mono hb1.size
      replace hb1 := hb1.trans (hb2.mono hb1.size)
      clear hnew hb2
      go_wp2
      go_loopw [6, 30] (fun u i wr => HCRel w h l 0 u i wr) (fun _ i _ => l.length - (intOf i).toNat)
      case atStart => exact ⟨0, _, [], ⟨Nat.zero_le _, rfl, Nat.zero_le _⟩, Hok.nil, hN, RowN.none _ _, hb1⟩
      case round =>
        clear hN hb1
        obtain ⟨j, v, D, ⟨hj, rfl, hDj⟩, hD, hA, hK, hbw⟩ := hrel
        have hsz := hbw.size
        have HD := hid hD
        clear hD
        by_cases hlt : j < l.length
        · obtain ⟨b1, o1, rfl, -, hc1⟩ := (HR.out.below hbw (Nat.le_refl _)).resolve_left (fun h => by subst h; simp at hlt)
          have hget : l[j]? = some (l.getD j default) := by simp [List.getD, hlt]
          obtain ⟨x0, x1, x2, x3, x4, x5, x6⟩ := hc1 j _ hget
          have HOWN := hid (fun c hc => (hK.ge c hc).2)
          clear hc1 hget
          generalize l.getD j default = V at *
          obtain ⟨vt, ve, vk, vy, vc, vo, vz⟩ := V
          dsimp only at x0 x1 x2 x3 x4 x5 x6
          have hL := Blk.new wr 32 #[.int .i64 vt, .bool ve, .int .i64 vk, .int .i64 vy, .int .i64 vc, .bool vo, .int .i64 vz]
          have hbo := hbw.alloc hsz (.cells #[.int .i64 vt, .bool ve, .int .i64 vk, .int .i64 vy, .int .i64 vc, .bool vo, .int .i64 vz] 32)
          have hAo := hA.alloc (.cells #[.int .i64 vt, .bool ve, .int .i64 vk, .int .i64 vy, .int .i64 vc, .bool vo, .int .i64 vz] 32)
          have hKo := hK.alloc (.cells #[.int .i64 vt, .bool ve, .int .i64 vk, .int .i64 vy, .int .i64 vc, .bool vo, .int .i64 vz] 32)
          obtain ⟨A2, cap2, rfl, hrd2⟩ := RowN.rde hKo
          have her := rerror_any A2 D cap2 (⟨vt, ve, vk, vy, vc, vo, vz⟩ : Ev) _ (by omega) hrd2
          dsimp only at her
          obtain ⟨c0, c1, c2, c3, c4, c5, c6, -⟩ := hL.seven
          clear hA hK hbw hrd2
          by_cases he : errL D (⟨vt, ve, vk, vy, vc, vo, vz⟩ : Ev) = 0
          · rw [he] at her
            have HE := hid he
            clear he
            go_wp2_with fail
            refine her.mono ?_
            rintro e w3 ⟨rfl, hb3⟩
            replace hL := hL.below hb3 hL.lt
            replace hAo := hAo.below hb3
            replace hKo := hKo.below hb3
            replace hbo := hbo.trans (hb3.mono hbo.size)
            have hba := bare_any (⟨vt, ve, vk, vy, vc, vo, vz⟩ : Ev) w3
            obtain ⟨B, hB⟩ : ∃ B, B = Ev.bare (⟨vt, ve, vk, vy, vc, vo, vz⟩ : Ev) := ⟨_, rfl⟩
            rw [← hB] at hba
            have HB := hid hB
            obtain ⟨bt, be, bk, bY, bc, bo, bz⟩ := B
            dsimp only at hba
            clear her hB hb3 c0 c1 c2 c3 c4 c5 c6 x0 x1 x2 x3 x4 x5 x6
            obtain ⟨c0, c1, c2, c3, c4, c5, c6, -⟩ := hL.seven
            go_wp2_with fail
            refine hba.mono ?_
            rintro e w4 ⟨rfl, hb4⟩
            replace hL := hL.below hb4 hL.lt
            replace hAo := hAo.below hb4
            replace hKo := hKo.below hb4
            replace hbo := hbo.trans (hb4.mono hbo.size)
            have hsz4 := hbo.size
            clear hba hb4 c0 c1 c2 c3 c4 c5 c6
            have hnew := Blk.new w4 32 #[.int .i64 bt, .bool be, .int .i64 bk, .int .i64 bY, .int .i64 bc, .bool bo, .int .i64 bz]
            have hK5 := hKo.alloc (.cells #[.int .i64 bt, .bool be, .int .i64 bk, .int .i64 bY, .int .i64 bc, .bool bo, .int .i64 bz] 32)
            have hB5 : w.heap.size ≤ (w4.alloc (.cells #[.int .i64 bt, .bool be, .int .i64 bk, .int .i64 bY, .int .i64 bc, .bool bo, .int .i64 bz] 32)).heap.size := by simp; omega
            have HP := hid (And.intro (hL.alloc (.cells #[.int .i64 bt, .bool be, .int .i64 bk, .int .i64 bY, .int .i64 bc, .bool bo, .int .i64 bz] 32)) (And.intro (hAo.alloc (.cells #[.int .i64 bt, .bool be, .int .i64 bk, .int .i64 bY, .int .i64 bc, .bool bo, .int .i64 bz] 32)) (hbo.alloc hsz4 (.cells #[.int .i64 bt, .bool be, .int .i64 bk, .int .i64 bY, .int .i64 bc, .bool bo, .int .i64 bz] 32))))
            have hD6 : D.length ≤ 1000000 := by omega
            clear hKo hbo hL hAo
            go_wp2_with (at_builtin; refine wpList_snocN rfl _ _ 22 rfl Try.underlying22 (.agg #[.int .i64 0, .bool false, .int .i64 0, .int .i64 0, .int .i64 0, .bool false, .int .i64 0]) 56 info_rev rfl (by decide) (by decide) (fun _ => rfl) (by simp [evC, Value.oneCell']) w.heap.size _ D w4.heap.size ⟨bt, be, bk, bY, bc, bo, bz⟩ rfl rfl hK5 32 hnew hD6 hB5 ?_)
            intro u9 w5 hR6 hT hat
            obtain ⟨hL5, hA5, hb6⟩ := HP.out
            have hown5 : ∀ c, (Value.slice A2 D.length cap2).ownBlock = some c → c < wr.heap.size := HOWN.out
            replace hL5 := hL5.touch hT (fun e => by have := hown5 _ e; omega)
            replace hA5 : HistAt w5 w.heap.size h v D := ⟨hA5.blk.touch hT (fun e => hK5.ne hA5.blk (by decide) _ e rfl), hA5.row.touch hT (fun c hc e => by
              rcases hK5.own.2 with ⟨h1, _⟩ | ⟨g, cp, cur, h1, _, hh, _⟩
              · rw [h1] at e; simp [Value.ownBlock] at e
              · rw [h1] at e; simp [Value.ownBlock] at e
                subst e
                exact hA5.row.ne (show Blk _ g 32 cur from hh) (by decide) _ hc rfl), hA5.ge⟩
            replace hb6 : Below w.heap.size w w5 := hb6.trans (hT.below (fun k hk => (hK5.ge k hk).1) hB5)
            clear HP hT hat hK5 hnew hown5 hB5 hD6 HOWN hsz4
            obtain ⟨c0, c1, c2, c3, c4, c5, c6, -⟩ := hL5.seven
            cases ve
            · have hB2 : (⟨bt, be, bk, bY, bc, bo, bz⟩ : Ev) = ⟨vt, false, vk, vy, 0, false, 0⟩ := HB.out
              have HEE : Hid (errL D ⟨vt, false, vk, vy, 0, false, 0⟩ = 0) := hid (by have h1 := HE.out; rw [← errL_bare] at h1; exact h1)
              have hdo := hbegin_ok w5 w.heap.size h v D vt vk vy hA5 HD.out (by omega) HEE.out
              have hsn : Hok (D ++ [⟨vt, false, vk, vy, 0, false, 0⟩]) := HD.out.snoc (v := ⟨vt, false, vk, vy, vc, vo, vz⟩) HE.out
              have HOK := hid hsn
              rw [hB2] at hR6
              have hlen2 : (D ++ [(⟨vt, false, vk, vy, 0, false, 0⟩ : Ev)]).length ≤ 0 + j + 1 := by simp; omega
              have HR6 := hid hR6
              clear hsn hB2 hR6
              go_wp2_with fail
              refine hdo.mono ?_
              rintro e w6 ⟨rfl, v2, hA7, hs2⟩
              have hR7 := hs2.rowN hA5 HR6.out (by decide) (by decide)
              have hb7 := hb6.trans (hs2.below hA5)
              clear hdo hA5 hb6 hs2 HR6 hL5 c0 c1 c2 c3 c4 c5 c6
              generalize D ++ [(⟨vt, false, vk, vy, 0, false, 0⟩ : Ev)] = D2 at *
              go_wp2
              go_roundw
              case rel => exact ⟨j + 1, v2, D2, ⟨by omega, by go_num, by omega⟩, HOK.out, hA7, hR7, hb7⟩
              case measure => first | (simp [intOf]; done) | (simp [intOf]; omega)
            · have hB2 : (⟨bt, be, bk, bY, bc, bo, bz⟩ : Ev) = ⟨vt, true, 0, 0, vc, vo, vz⟩ := HB.out
              have HEE : Hid (errL D ⟨vt, true, 0, 0, vc, vo, vz⟩ = 0) := hid (by have h1 := HE.out; rw [← errL_bare] at h1; exact h1)
              have hdo := hend_ok w5 w.heap.size h v D vt vc vz vo hA5 HD.out (by omega) HEE.out
              have hsn : Hok (D ++ [⟨vt, true, 0, 0, vc, vo, vz⟩]) := HD.out.snoc (v := ⟨vt, true, vk, vy, vc, vo, vz⟩) HE.out
              have HOK := hid hsn
              rw [hB2] at hR6
              have hlen2 : (D ++ [(⟨vt, true, 0, 0, vc, vo, vz⟩ : Ev)]).length ≤ 0 + j + 1 := by simp; omega
              have HR6 := hid hR6
              clear hsn hB2 hR6
              go_wp2_with fail
              refine hdo.mono ?_
              rintro e w6 ⟨rfl, v2, hA7, hs2⟩
              have hR7 := hs2.rowN hA5 HR6.out (by decide) (by decide)
              have hb7 := hb6.trans (hs2.below hA5)
              clear hdo hA5 hb6 hs2 HR6 hL5 c0 c1 c2 c3 c4 c5 c6
              generalize D ++ [(⟨vt, true, 0, 0, vc, vo, vz⟩ : Ev)] = D2 at *
              go_wp2
              go_roundw
              case rel => exact ⟨j + 1, v2, D2, ⟨by omega, by go_num, by omega⟩, HOK.out, hA7, hR7, hb7⟩
              case measure => first | (simp [intOf]; done) | (simp [intOf]; omega)
          · have hq : (errL D (⟨vt, ve, vk, vy, vc, vo, vz⟩ : Ev) != 0) = true := by simpa using he
            obtain ⟨E, hE⟩ : ∃ E, E = errL D (⟨vt, ve, vk, vy, vc, vo, vz⟩ : Ev) := ⟨_, rfl⟩
            rw [← hE] at her hq
            clear hE he
            go_wp2_with fail
            refine her.mono ?_
            rintro e w3 ⟨rfl, hb3⟩
            replace hAo := hAo.below hb3
            replace hKo := hKo.below hb3
            replace hbo := hbo.trans (hb3.mono hbo.size)
            clear her hb3 hL HOWN c0 c1 c2 c3 c4 c5 c6 x0 x1 x2 x3 x4 x5 x6
            go_wp2
            go_roundw
            case rel => exact ⟨j + 1, v, D, ⟨by omega, by go_num, by omega⟩, HD.out, hAo, hKo, hbo⟩
            case measure => first | (simp [intOf]; done) | (simp [intOf]; omega)
        · obtain rfl : j = l.length := by omega
          obtain ⟨AT, capT, rfl, hrdT⟩ := RowN.rde hK
          have hcl := HD.out.clen
          have hcp := hcopy_any wr w.heap.size h v D hA (by omega)
          have HX := hid (And.intro hA (And.intro hrdT (And.intro hK hbw)))
          clear hA hK hbw hrdT hlt hj
          go_wp2_with fail
          refine hcp.mono ?_
          rintro e w3 ⟨hh, vc, rfl, hC, hb3⟩
          obtain ⟨hA, hrdT, hK, hbw⟩ := HX.out
          have hrdT3 := hrdT.below hb3 (Nat.le_refl _)
          have hsa := same_any w3 _ hh vc D AT capT hC HD.out (by omega) hrdT3
          have HX2 := hid (And.intro hC (And.intro hrdT3 hb3))
          clear hcp hA hrdT hK hbw hrdT3 hC hb3
          go_wp2_with fail
          refine hsa.mono ?_
          rintro e z1 ⟨rfl, hz1⟩
          obtain ⟨hC, hrdT3, hb3⟩ := HX2.out
          have hC1 := hC.below hz1
          have hrd1 := hrdT3.below hz1 (Nat.le_refl _)
          have hb4 := hb3.trans (hz1.mono hb3.size)
          have hca := calls_any z1 _ hh vc D AT capT hC1 HD.out (by omega) hrd1
          have HX3 := hid (And.intro hC1 (And.intro hrd1 hb4))
          clear hsa hC hrdT3 hb3 hC1 hrd1 hb4 hz1 HX2
          go_wp2_with fail
          refine hca.mono ?_
          rintro e z2 ⟨rfl, hz2⟩
          obtain ⟨hC1, hrd1, hb4⟩ := HX3.out
          obtain ⟨hA0, hT0, hK0, hB0⟩ := HX.out
          have hC2 := hC1.below hz2
          have hb5 := hb4.trans (hz2.mono hb4.size)
          have hKz := hK0.below hb5
          have hq := Blk.new z2 32 #[]
          have hCo := hC2.alloc (.cells #[] 32)
          have hKo := hKz.alloc (.cells #[] 32)
          have hb6 := hb5.alloc hb5.size (.cells #[] 32)
          have hsz5 : wr.heap.size ≤ z2.heap.size := hb5.size
          have hB6 : wr.heap.size ≤ (z2.alloc (.cells #[] 32)).heap.size := by simp; omega
          have HX4 := hid (And.intro hCo hb6)
          have hD6 : D.length ≤ 1000000 := by omega
          have hDl60 : D.length ≤ 60 := by omega
          have HT0 := hid hT0
          have HB0 := hid hB0
          clear hca hC1 hrd1 hb4 hz2 hC2 hb5 hK0 hKz hCo hb6 hT0 hB0 HX3 HX hcl hDj hsz
          go_wp2_with (at_builtin; refine wpList_copyN rfl _ _ 22 rfl Try.underlying22 (.agg #[.int .i64 0, .bool false, .int .i64 0, .int .i64 0, .int .i64 0, .bool false, .int .i64 0]) 56 info_rev rfl (by decide) (by decide) (fun _ => rfl) (by simp [evC, Value.oneCell']) wr.heap.size w.heap.size z2.heap.size _ D rfl rfl hq hsz5 hKo hD6 hB6 ?_)
          intro ub z3 hR hT
          obtain ⟨hCo, hb6⟩ := HX4.out
          have hCz : HistAt z3 wr.heap.size hh vc D := ⟨hCo.blk.touch hT (fun e => (hCo.blk.ne hq (by decide)) e), hCo.row.touch hT (fun c hc e => hCo.row.ne hq (by decide) c hc e), hCo.ge⟩
          have hbz : Below wr.heap.size wr z3 := hb6.trans (hT.below (fun k hk => by rw [hk]; exact hsz5) hB6)
          clear hCo hb6 hT hq hKo HX4 hB6 hsz5
          obtain ⟨wa, hwa⟩ : ∃ wa, wa = wr := ⟨_, rfl⟩
          subst hwa
          obtain ⟨va, hva⟩ : ∃ va, va = v := ⟨_, rfl⟩
          subst hva
          obtain ⟨Da, hDa⟩ : ∃ Da, Da = D := ⟨_, rfl⟩
          subst hDa
          have HDa := HD
          go_wp2
          go_loopw [10, 79] (fun u i wr2 => HCRel wa hh l' Da.length u i wr2) (fun _ i _ => l'.length - (intOf i).toNat)
          case atStart => exact ⟨0, vc, Da, ⟨Nat.zero_le _, rfl, by omega⟩, HDa.out, hCz, hR, hbz⟩
          case round =>
            clear hCz hR hbz HD
            have HR' : Hid (RdE wa A' l') := hid (HR2.out.below HB0.out (Nat.le_refl _))
            obtain ⟨j, v, D, ⟨hj, rfl, hDj⟩, hD, hA, hK, hbw⟩ := hrel
            have hsz := hbw.size
            have HD := hid hD
            clear hD
            by_cases hlt : j < l'.length
            · obtain ⟨b1, o1, rfl, -, hc1⟩ := (HR'.out.below hbw (Nat.le_refl _)).resolve_left (fun h => by subst h; simp at hlt)
              have hget : l'[j]? = some (l'.getD j default) := by simp [List.getD, hlt]
              obtain ⟨x0, x1, x2, x3, x4, x5, x6⟩ := hc1 j _ hget
              have HOWN := hid (fun c hc => (hK.ge c hc).2)
              clear hc1 hget
              generalize l'.getD j default = V at *
              obtain ⟨vt, ve, vk, vy, vc, vo, vz⟩ := V
              dsimp only at x0 x1 x2 x3 x4 x5 x6
              have hL := Blk.new wr 32 #[.int .i64 vt, .bool ve, .int .i64 vk, .int .i64 vy, .int .i64 vc, .bool vo, .int .i64 vz]
              have hbo := hbw.alloc hsz (.cells #[.int .i64 vt, .bool ve, .int .i64 vk, .int .i64 vy, .int .i64 vc, .bool vo, .int .i64 vz] 32)
              have hAo := hA.alloc (.cells #[.int .i64 vt, .bool ve, .int .i64 vk, .int .i64 vy, .int .i64 vc, .bool vo, .int .i64 vz] 32)
              have hKo := hK.alloc (.cells #[.int .i64 vt, .bool ve, .int .i64 vk, .int .i64 vy, .int .i64 vc, .bool vo, .int .i64 vz] 32)
              obtain ⟨A2, cap2, rfl, hrd2⟩ := RowN.rde hKo
              have her := rerror_any A2 D cap2 (⟨vt, ve, vk, vy, vc, vo, vz⟩ : Ev) _ (by omega) hrd2
              dsimp only at her
              obtain ⟨c0, c1, c2, c3, c4, c5, c6, -⟩ := hL.seven
              clear hA hK hbw hrd2
              by_cases he : errL D (⟨vt, ve, vk, vy, vc, vo, vz⟩ : Ev) = 0
              · rw [he] at her
                have HE := hid he
                clear he
                go_wp2_with fail
                refine her.mono ?_
                rintro e w3 ⟨rfl, hb3⟩
                replace hL := hL.below hb3 hL.lt
                replace hAo := hAo.below hb3
                replace hKo := hKo.below hb3
                replace hbo := hbo.trans (hb3.mono hbo.size)
                have hba := bare_any (⟨vt, ve, vk, vy, vc, vo, vz⟩ : Ev) w3
                obtain ⟨B, hB⟩ : ∃ B, B = Ev.bare (⟨vt, ve, vk, vy, vc, vo, vz⟩ : Ev) := ⟨_, rfl⟩
                rw [← hB] at hba
                have HB := hid hB
                obtain ⟨bt, be, bk, bY, bc, bo, bz⟩ := B
                dsimp only at hba
                clear her hB hb3 c0 c1 c2 c3 c4 c5 c6 x0 x1 x2 x3 x4 x5 x6
                obtain ⟨c0, c1, c2, c3, c4, c5, c6, -⟩ := hL.seven
                go_wp2_with fail
                refine hba.mono ?_
                rintro e w4 ⟨rfl, hb4⟩
                replace hL := hL.below hb4 hL.lt
                replace hAo := hAo.below hb4
                replace hKo := hKo.below hb4
                replace hbo := hbo.trans (hb4.mono hbo.size)
                have hsz4 := hbo.size
                clear hba hb4 c0 c1 c2 c3 c4 c5 c6
                have hnew := Blk.new w4 32 #[.int .i64 bt, .bool be, .int .i64 bk, .int .i64 bY, .int .i64 bc, .bool bo, .int .i64 bz]
                have hK5 := hKo.alloc (.cells #[.int .i64 bt, .bool be, .int .i64 bk, .int .i64 bY, .int .i64 bc, .bool bo, .int .i64 bz] 32)
                have hB5 : wa.heap.size ≤ (w4.alloc (.cells #[.int .i64 bt, .bool be, .int .i64 bk, .int .i64 bY, .int .i64 bc, .bool bo, .int .i64 bz] 32)).heap.size := by simp; omega
                have HP := hid (And.intro (hL.alloc (.cells #[.int .i64 bt, .bool be, .int .i64 bk, .int .i64 bY, .int .i64 bc, .bool bo, .int .i64 bz] 32)) (And.intro (hAo.alloc (.cells #[.int .i64 bt, .bool be, .int .i64 bk, .int .i64 bY, .int .i64 bc, .bool bo, .int .i64 bz] 32)) (hbo.alloc hsz4 (.cells #[.int .i64 bt, .bool be, .int .i64 bk, .int .i64 bY, .int .i64 bc, .bool bo, .int .i64 bz] 32))))
                have hD6 : D.length ≤ 1000000 := by omega
                clear hKo hbo hL hAo
                go_wp2_with (at_builtin; refine wpList_snocN rfl _ _ 22 rfl Try.underlying22 (.agg #[.int .i64 0, .bool false, .int .i64 0, .int .i64 0, .int .i64 0, .bool false, .int .i64 0]) 56 info_rev rfl (by decide) (by decide) (fun _ => rfl) (by simp [evC, Value.oneCell']) wa.heap.size _ D w4.heap.size ⟨bt, be, bk, bY, bc, bo, bz⟩ rfl rfl hK5 32 hnew hD6 hB5 ?_)
                intro u9 w5 hR6 hT hat
                obtain ⟨hL5, hA5, hb6⟩ := HP.out
                have hown5 : ∀ c, (Value.slice A2 D.length cap2).ownBlock = some c → c < wr.heap.size := HOWN.out
                replace hL5 := hL5.touch hT (fun e => by have := hown5 _ e; omega)
                replace hA5 : HistAt w5 wa.heap.size hh v D := ⟨hA5.blk.touch hT (fun e => hK5.ne hA5.blk (by decide) _ e rfl), hA5.row.touch hT (fun c hc e => by
                  rcases hK5.own.2 with ⟨h1, _⟩ | ⟨g, cp, cur, h1, _, hh, _⟩
                  · rw [h1] at e; simp [Value.ownBlock] at e
                  · rw [h1] at e; simp [Value.ownBlock] at e
                    subst e
                    exact hA5.row.ne (show Blk _ g 32 cur from hh) (by decide) _ hc rfl), hA5.ge⟩
                replace hb6 : Below wa.heap.size wa w5 := hb6.trans (hT.below (fun k hk => (hK5.ge k hk).1) hB5)
                clear HP hT hat hK5 hnew hown5 hB5 hD6 HOWN hsz4
                obtain ⟨c0, c1, c2, c3, c4, c5, c6, -⟩ := hL5.seven
                cases ve
                · have hB2 : (⟨bt, be, bk, bY, bc, bo, bz⟩ : Ev) = ⟨vt, false, vk, vy, 0, false, 0⟩ := HB.out
                  have HEE : Hid (errL D ⟨vt, false, vk, vy, 0, false, 0⟩ = 0) := hid (by have h1 := HE.out; rw [← errL_bare] at h1; exact h1)
                  have hdo := hbegin_ok w5 wa.heap.size hh v D vt vk vy hA5 HD.out (by omega) HEE.out
                  have hsn : Hok (D ++ [⟨vt, false, vk, vy, 0, false, 0⟩]) := HD.out.snoc (v := ⟨vt, false, vk, vy, vc, vo, vz⟩) HE.out
                  have HOK := hid hsn
                  rw [hB2] at hR6
                  have hlen2 : (D ++ [(⟨vt, false, vk, vy, 0, false, 0⟩ : Ev)]).length ≤ Da.length + j + 1 := by simp; omega
                  have HR6 := hid hR6
                  clear hsn hB2 hR6
                  go_wp2_with fail
                  refine hdo.mono ?_
                  rintro e w6 ⟨rfl, v2, hA7, hs2⟩
                  have hR7 := hs2.rowN hA5 HR6.out (by decide) (by decide)
                  have hb7 := hb6.trans (hs2.below hA5)
                  clear hdo hA5 hb6 hs2 HR6 hL5 c0 c1 c2 c3 c4 c5 c6
                  generalize D ++ [(⟨vt, false, vk, vy, 0, false, 0⟩ : Ev)] = D2 at *
                  go_wp2
                  go_roundw
                  case rel => exact ⟨j + 1, v2, D2, ⟨by omega, by go_num, by omega⟩, HOK.out, hA7, hR7, hb7⟩
                  case measure => first | (simp [intOf]; done) | (simp [intOf]; omega)
                · have hB2 : (⟨bt, be, bk, bY, bc, bo, bz⟩ : Ev) = ⟨vt, true, 0, 0, vc, vo, vz⟩ := HB.out
                  have HEE : Hid (errL D ⟨vt, true, 0, 0, vc, vo, vz⟩ = 0) := hid (by have h1 := HE.out; rw [← errL_bare] at h1; exact h1)
                  have hdo := hend_ok w5 wa.heap.size hh v D vt vc vz vo hA5 HD.out (by omega) HEE.out
                  have hsn : Hok (D ++ [⟨vt, true, 0, 0, vc, vo, vz⟩]) := HD.out.snoc (v := ⟨vt, true, vk, vy, vc, vo, vz⟩) HE.out
                  have HOK := hid hsn
                  rw [hB2] at hR6
                  have hlen2 : (D ++ [(⟨vt, true, 0, 0, vc, vo, vz⟩ : Ev)]).length ≤ Da.length + j + 1 := by simp; omega
                  have HR6 := hid hR6
                  clear hsn hB2 hR6
                  go_wp2_with fail
                  refine hdo.mono ?_
                  rintro e w6 ⟨rfl, v2, hA7, hs2⟩
                  have hR7 := hs2.rowN hA5 HR6.out (by decide) (by decide)
                  have hb7 := hb6.trans (hs2.below hA5)
                  clear hdo hA5 hb6 hs2 HR6 hL5 c0 c1 c2 c3 c4 c5 c6
                  generalize D ++ [(⟨vt, true, 0, 0, vc, vo, vz⟩ : Ev)] = D2 at *
                  go_wp2
                  go_roundw
                  case rel => exact ⟨j + 1, v2, D2, ⟨by omega, by go_num, by omega⟩, HOK.out, hA7, hR7, hb7⟩
                  case measure => first | (simp [intOf]; done) | (simp [intOf]; omega)
              · have hq : (errL D (⟨vt, ve, vk, vy, vc, vo, vz⟩ : Ev) != 0) = true := by simpa using he
                obtain ⟨E, hE⟩ : ∃ E, E = errL D (⟨vt, ve, vk, vy, vc, vo, vz⟩ : Ev) := ⟨_, rfl⟩
                rw [← hE] at her hq
                clear hE he
                go_wp2_with fail
                refine her.mono ?_
                rintro e w3 ⟨rfl, hb3⟩
                replace hAo := hAo.below hb3
                replace hKo := hKo.below hb3
                replace hbo := hbo.trans (hb3.mono hbo.size)
                clear her hb3 hL HOWN c0 c1 c2 c3 c4 c5 c6 x0 x1 x2 x3 x4 x5 x6
                go_wp2
                go_roundw
                case rel => exact ⟨j + 1, v, D, ⟨by omega, by go_num, by omega⟩, HD.out, hAo, hKo, hbo⟩
                case measure => first | (simp [intOf]; done) | (simp [intOf]; omega)
            · obtain rfl : j = l'.length := by omega
              obtain ⟨A3, cap3, rfl, hrd3⟩ := RowN.rde hK
              -- what is handed out is written over
              have hAa := hA0.below hbw
              have hrdT := HT0.out.below hbw (Nat.le_refl _)
              have HX := hid (And.intro hA (And.intro hrd3 hbw))
              have hev := hevents_any wr _ h va Da hAa HDa.out (by omega)
              have hDlen : D.length ≤ 1000 := by omega
              clear hA hK hbw hrd3 hlt hj hDj
              go_wp2_with fail
              refine hev.mono ?_
              rintro e w7 ⟨u7, rfl, hE7, hb7⟩
              obtain ⟨A7, cap7, rfl, -⟩ := hE7.out (fun _ => rfl)
              have HWR := hid hb7
              clear hev
              generalize hn7 : Da.length = n7 at *
              have HN7 := hid hn7
              obtain ⟨wo, hwo⟩ : ∃ wo, wo = wr := ⟨_, rfl⟩
              subst hwo
              clear hAa hrdT hn7
              go_wp2
              go_loopw [111] (fun i wx => ∃ (k : Nat) (M : List Ev), k ≤ n7 ∧ i = .int .i64 k ∧ M.length = n7 ∧ EvRow wx wo.heap.size (.slice A7 n7 cap7) M ∧ Below wo.heap.size wo wx) (fun i _ => n7 - (intOf i).toNat)
              case atStart => exact ⟨0, Da, Nat.zero_le _, rfl, HN7.out, hE7, hb7⟩
              case round =>
                obtain ⟨k, M, hk, rfl, hM, hE, hbx⟩ := hrel
                clear hE7 hb7
                by_cases hlt : k < n7
                · obtain ⟨g, hv⟩ : ∃ g, A7 = some ⟨g, 0, none⟩ := by
                    obtain ⟨A', cap', hv, _, hcs⟩ := hE.out (fun _ => rfl)
                    obtain ⟨g, hg, _⟩ := hcs (fun h => by subst h; simp at hM; omega)
                    simp only [Value.slice.injEq] at hv
                    exact ⟨g, hv.1.trans hg⟩
                  subst hv
                  obtain ⟨y0, -, -, -, -, -, -, yf⟩ := EvRow.cells hE hM hlt
                  have hE2 := EvRow.setT hE hM hlt 9
                  have hge := (hE.ge g rfl).1
                  have hb2 := hbx.setCell (p := ⟨g, k * 7, none⟩) hge (.int .i64 9)
                  have HF := hid (And.intro hE2 (And.intro hb2 hM))
                  clear hE2 hb2 hE hbx hge hM
                  go_wp2
                  go_roundw
                  case rel => exact ⟨k + 1, _, by omega, by go_num, by rw [List.length_set]; exact HF.out.2.2, HF.out.1, HF.out.2.1⟩
                  case measure => first | (simp [intOf]; done) | (simp [intOf]; omega)
                · obtain rfl : k = n7 := by omega
                  obtain ⟨hA, hrd3, hbw⟩ := HX.out
                  have hb8 := hbw.trans (hbx.mono hbw.size)
                  have hcl := HDa.out.clen
                  have hn7 := HN7.out
                  have hca := hcalls_any wr _ h va Da (hA0.below hb8) (by omega)
                  have hA9 := hA.below hbx
                  have hrd9 := hrd3.below hbx (Nat.le_refl _)
                  have HX2 := hid (And.intro hA9 (And.intro hrd9 hb8))
                  clear hA hrd3 hbw hb8 hA9 hrd9 hE hbx hM hk hlt hn7 HX
                  go_wp2_with fail
                  refine hca.mono ?_
                  rintro e w8 ⟨u8, rfl, hE8, hb8⟩
                  obtain ⟨A8, cap8, rfl, -⟩ := hE8.out (fun _ => rfl)
                  clear hca
                  generalize hn8 : (callsL Da).length = n8 at *
                  have HN8 := hid hn8
                  obtain ⟨wp, hwp⟩ : ∃ wp, wp = wr := ⟨_, rfl⟩
                  subst hwp
                  have hn8b : n8 ≤ 1000 := by have := HN7.out; omega
                  clear hn8
                  go_wp2
                  go_loopw [123] (fun i wx => ∃ (k : Nat) (M : List Cl), k ≤ n8 ∧ i = .int .i64 k ∧ M.length = n8 ∧ CallRow wx wp.heap.size (.slice A8 n8 cap8) M ∧ Below wp.heap.size wp wx) (fun i _ => n8 - (intOf i).toNat)
                  case atStart => exact ⟨0, callsL Da, Nat.zero_le _, rfl, HN8.out, hE8, hb8⟩
                  case round =>
                    obtain ⟨k, M, hk, rfl, hM, hE, hbx⟩ := hrel
                    clear hE8 hb8
                    by_cases hlt : k < n8
                    · obtain ⟨C, hC⟩ : ∃ C, M[k]? = some C := ⟨_, List.getElem?_eq_getElem (by omega)⟩
                      obtain ⟨g, cg, hv, hge, -, y0, y1, y2, y3, y4, y5, y6, y7, y8⟩ := CallRow.cells hE hC
                      obtain ⟨A', cap', hv2, _, hcs⟩ := hE.out (fun _ => rfl)
                      obtain ⟨g2, hg2, -, -, yf, -⟩ := hcs (fun h => by subst h; simp at hM; omega)
                      simp only [Value.slice.injEq] at hv hv2
                      obtain ⟨rfl, -, -⟩ := hv
                      obtain ⟨rfl, -, -⟩ := hv2
                      simp only [Option.some.injEq, Addr.mk.injEq, and_true] at hg2
                      subst hg2
                      have hE2 := CallRow.setE hE hM hC 99
                      have hb2 := hbx.setCell (p := ⟨g, k * 9 + 1, none⟩) hge (.int .i64 99)
                      have HF := hid (And.intro hE2 (And.intro hb2 hM))
                      clear hE2 hb2 hE hbx hge hM hC hcs y0 y2 y3 y4 y5 y6 y7 y8
                      go_wp2
                      go_roundw
                      case rel => exact ⟨k + 1, _, by omega, by go_num, by rw [List.length_set]; exact HF.out.2.2, HF.out.1, HF.out.2.1⟩
                      case measure => first | (simp [intOf]; done) | (simp [intOf]; omega)
                    · obtain rfl : k = n8 := by omega
                      obtain ⟨hA9, hrd9, hb8⟩ := HX2.out
                      have hbz := hb8.trans (hbx.mono hb8.size)
                      have hAc := hA9.below hbx
                      have hrdB := hrd9.below hbx (Nat.le_refl _)
                      have hAz := hA0.below hbz
                      have hrdA := HT0.out.below hbz (Nat.le_refl _)
                      have hDc := HD.out
                      have hDl : D.length ≤ 100000 := by omega
                      have hDal : Da.length ≤ 100000 := by have := HN7.out; omega
                      have h1 := same_any wr _ h va Da AT capT hAz HDa.out hDal hrdA
                      rw [HN7.out] at h1
                      have HY := hid (And.intro hAc (And.intro hrdB (And.intro hAz (And.intro hrdA hbz))))
                      have hn7 := HN7.out
                      clear hAc hrdB hAz hrdA hbz hA9 hrd9 hb8 hE hbx hM hk hlt HX2
                      have h1 := h1
                      clear hn7
                      go_wp2_with fail
                      refine h1.mono ?_
                      rintro e z1 ⟨rfl, hz1⟩
                      obtain ⟨hAc, hrdB, hAz, hrdA, hbz⟩ := HY.out
                      have hAc1 := hAc.below hz1
                      have hrdB1 := hrdB.below hz1 (Nat.le_refl _)
                      have hbz1 := hbz.trans (hz1.mono hbz.size)
                      have h2 := calls_any z1 _ h va Da AT capT (hAz.below hz1) HDa.out hDal (hrdA.below hz1 (Nat.le_refl _))
                      rw [HN7.out] at h2
                      have HY2 := hid (And.intro hAc1 (And.intro hrdB1 hbz1))
                      clear h1 hAc hrdB hAz hrdA hbz hz1 hAc1 hrdB1 hbz1 HY
                      go_wp2_with fail
                      refine h2.mono ?_
                      rintro e z2 ⟨rfl, hz2⟩
                      obtain ⟨hAc1, hrdB1, hbz1⟩ := HY2.out
                      have hAc2 := hAc1.below hz2
                      have hrdB2 := hrdB1.below hz2 (Nat.le_refl _)
                      have hbz2 := hbz1.trans (hz2.mono hbz1.size)
                      have h3 := same_any z2 _ hh v D A3 cap3 hAc2 hDc hDl hrdB2
                      have HY3 := hid (And.intro hAc2 (And.intro hrdB2 hbz2))
                      clear h2 hAc1 hrdB1 hbz1 hz2 hAc2 hrdB2 hbz2 HY2
                      go_wp2_with fail
                      refine h3.mono ?_
                      rintro e z3 ⟨rfl, hz3⟩
                      obtain ⟨hAc2, hrdB2, hbz2⟩ := HY3.out
                      have hbz3 := hbz2.trans (hz3.mono hbz2.size)
                      have h4 := calls_any z3 _ hh v D A3 cap3 (hAc2.below hz3) hDc hDl (hrdB2.below hz3 (Nat.le_refl _))
                      clear h3 hAc2 hrdB2 hbz2 hz3 HY3 hDc
                      go_wp2_with fail
                      refine h4.mono ?_
                      rintro e z4 ⟨rfl, hz4⟩
                      have hbz4 := hbz3.trans (hz4.mono hbz3.size)
                      have HB := hid (HB0.out.trans (hbz4.mono HB0.out.size))
                      clear h4 hbz3 hz4 hbz4
                      go_wp2
                      go_ret
                      exact ⟨rfl, HB.out⟩
    · go_enter Try.func5, Try.ntmps5
      go_wp2_with fail
      refine (h8awake_any _).mono ?_
      rintro e w1 ⟨rfl, hb1⟩
      go_wp2
      go_ret
      exact ⟨by first | rfl | (simp; done), hb1⟩
  · go_enter Try.func5, Try.ntmps5
    go_wp2_with fail
    refine (h8awake_any _).mono ?_
    rintro e w1 ⟨rfl, hb1⟩
    go_wp2
    go_ret
    exact ⟨by first | rfl | (simp; done), hb1⟩
end Go.Proofs.Ytlhfpmhbhaicmaa
