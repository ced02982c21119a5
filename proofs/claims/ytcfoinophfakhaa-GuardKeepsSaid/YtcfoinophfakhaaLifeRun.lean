/- A machine that takes a node, alone: plain mathematics, and mem.Run of it. -/
import Derived.Test.YtcfoinophfakhaaLifeStep
import Derived.Test.YtcfoinophfakhaaOwnRows
import Derived.Test.YtcfoinophfakhaaMemRun
namespace Go.Proofs.Ytcfoinophfakhaa
open Go.RowKit
set_option maxHeartbeats 4000000

/-- The machine's step, as Run sees it. -/
def lstep (_ : Nat) (s : MV × AV) : (MV × AV) × Bool := (AV.step s.1 s.2, (AV.step s.1 s.2).2.ended)

/-- The free nodes. -/
def evenB (V : MV) (n : Int) : Int → Bool := fun i => decide (V.at (lifeA n i) % 2 = 0)

theorem take_runs (n : Int) (most : Int) : ∀ (L : Nat) (V : MV) (A : AV) (q : Int), A.n = n → A.ok → A.left = L → A.ended = false → A.even = false → A.got = 0 → V.okL n → q + (firstL (evenB V n) (cyc n L A.at_)).2 ≤ most →
    ∃ s1, RunsTo lstep 1 most s1 (q + (firstL (evenB V n) (cyc n L A.at_)).2) true 0 (V, A) q ∧ s1.2.got = (firstL (evenB V n) (cyc n L A.at_)).1 ∧ s1.1.ws.length = V.ws.length ∧ s1.1.t = V.t ∧ s1.1.n = V.n ∧
      s1.1.a = V.a + (firstL (evenB V n) (cyc n L A.at_)).2 ∧ ∀ j, s1.1.at j = if (firstL (evenB V n) (cyc n L A.at_)).1 ≠ 0 ∧ j = lifeA n (firstL (evenB V n) (cyc n L A.at_)).1 then V.at j + 1 else V.at j := by
  intro L
  induction L with
  | zero =>
    intro V A q hn hok hL he
    have := hok.more he
    omega
  | succ L ih =>
    intro V A q hn hok hL he hv hg hV hq
    subst hn
    have hat := hok.at_
    have hw := hV.word A.at_ hat.1 hat.2
    have hbd := firstL_bd (evenB V A.n) (cyc A.n L (nextN A.n A.at_))
    have hfirst : AV.step V A = (V.load (lifeA A.n A.at_), if V.at (lifeA A.n A.at_) % 2 = 1 then ({ A with life := V.at (lifeA A.n A.at_), even := false } : AV).pass else { A with life := V.at (lifeA A.n A.at_), even := true }) := by
      unfold AV.step; simp [he, hv]
    have hV1 := AV.step_okL V A A.n hV
    have hok1 := AV.step_ok V A hok hV
    rw [hfirst] at hV1 hok1
    by_cases hf : V.at (lifeA A.n A.at_) % 2 = 0
    · have hfr : evenB V A.n A.at_ = true := decide_eq_true hf
      have e1 : firstL (evenB V A.n) (cyc A.n (L + 1) A.at_) = (A.at_, 2) := by simp [cyc, firstL, hfr]
      rw [e1] at hq ⊢
      simp only at hq ⊢
      rw [if_neg (by omega)] at hfirst hok1
      obtain ⟨A1, hA1⟩ : ∃ A1 : AV, A1 = { A with life := V.at (lifeA A.n A.at_), even := true } := ⟨_, rfl⟩
      rw [← hA1] at hfirst hok1
      simp only at hV1 hok1
      have hlife : A1.life = V.at (lifeA A.n A.at_) := by rw [hA1]
      have hA1e : A1.ended = false := by rw [hA1]; exact he
      have hcas : (V.load (lifeA A.n A.at_)).casOk (lifeA A.n A.at_) A1.life = true := by
        rw [MV.casOk_iff]
        exact ⟨hV1.has _ hat.1 hat.2, by rw [MV.load_at, hlife]⟩
      have hsec : AV.step (V.load (lifeA A.n A.at_)) A1 = ((V.load (lifeA A.n A.at_)).cas (lifeA A.n A.at_) A1.life ((A1.life + 1) % 18446744073709551616), { A1 with got := A.at_, ended := true }) := by
        have h1 : A1.even = true := by rw [hA1]
        have h2 : A1.n = A.n := by rw [hA1]
        have h3 : A1.at_ = A.at_ := by rw [hA1]
        unfold AV.step
        simp [hA1e, h1, h2, h3, hcas]
      refine ⟨((V.load (lifeA A.n A.at_)).cas (lifeA A.n A.at_) A1.life ((A1.life + 1) % 18446744073709551616), { A1 with got := A.at_, ended := true }), ?_, rfl, ?_, ?_, ?_, ?_, ?_⟩
      · refine .more (by omega) (by omega) (by simp [lstep, hfirst, hA1e]) ?_
        have hs1 : (lstep 0 (V, A)).1 = (V.load (lifeA A.n A.at_), A1) := by simp [lstep, hfirst]
        rw [hs1]
        refine .last (by omega) (by omega) (by simp [lstep, hsec]) ?_
        have hs2 : (lstep 0 (V.load (lifeA A.n A.at_), A1)).1 = ((V.load (lifeA A.n A.at_)).cas (lifeA A.n A.at_) A1.life ((A1.life + 1) % 18446744073709551616), { A1 with got := A.at_, ended := true }) := by simp [lstep, hsec]
        rw [hs2]
        exact .done (by omega) (by omega) rfl
      · simp only [MV.cas_len, MV.load_len]
      · rw [(MV.cas_tn ..).1, (MV.load_tn ..).1]
      · rw [(MV.cas_tn ..).2, (MV.load_tn ..).2]
      · simp only [MV.cas_a, MV.load_a]; omega
      · intro j
        rw [MV.cas_at, hcas, MV.load_at]
        unfold u64R at hw
        by_cases hj : j = lifeA A.n A.at_
        · rw [if_pos ⟨rfl, hj⟩, if_pos ⟨by omega, hj⟩, hlife, hj]
          omega
        · rw [if_neg (fun h => hj h.2), if_neg (fun h => hj h.2)]
    · have hodd : V.at (lifeA A.n A.at_) % 2 = 1 := by omega
      have hfr : evenB V A.n A.at_ = false := decide_eq_false hf
      have hcg : evenB (V.load (lifeA A.n A.at_)) A.n = evenB V A.n := by
        funext i; unfold evenB; rw [MV.load_at]
      have e1 : firstL (evenB V A.n) (cyc A.n (L + 1) A.at_) = ((firstL (evenB V A.n) (cyc A.n L (nextN A.n A.at_))).1, (firstL (evenB V A.n) (cyc A.n L (nextN A.n A.at_))).2 + 1) := by simp [cyc, firstL, hfr]
      rw [e1] at hq ⊢
      simp only at hq ⊢
      rw [if_pos hodd] at hfirst hok1
      obtain ⟨A1, hA1⟩ : ∃ A1 : AV, A1 = ({ A with life := V.at (lifeA A.n A.at_), even := false } : AV).pass := ⟨_, rfl⟩
      rw [← hA1] at hfirst hok1
      simp only at hV1 hok1
      have hs1 : (lstep 0 (V, A)).1 = (V.load (lifeA A.n A.at_), A1) := by simp [lstep, hfirst]
      have h1 : A1.n = A.n := by rw [hA1]; rfl
      have h2 : A1.at_ = nextN A.n A.at_ := by rw [hA1]; rfl
      have h3 : A1.left = L := by rw [hA1]; simp only [AV.pass]; omega
      have h4 : A1.even = false := by rw [hA1]; rfl
      have h5 : A1.got = 0 := by rw [hA1]; exact hg
      have h6 : A1.ended = decide (L = 0) := by rw [hA1]; simp only [AV.pass]; exact decide_eq_decide.2 (by omega)
      by_cases h0 : L = 0
      · subst h0
        refine ⟨(V.load (lifeA A.n A.at_), A1), ?_, h5, ?_, ?_, ?_, ?_, ?_⟩
        · refine .last (by omega) (by omega) (by simp [lstep, hfirst, h6]) ?_
          rw [hs1]
          exact .done (by omega) (by simp [cyc, firstL]) rfl
        · exact MV.load_len ..
        · rw [(MV.load_tn ..).1]
        · rw [(MV.load_tn ..).2]
        · simp only [MV.load_a, cyc, firstL]; omega
        · intro j; rw [MV.load_at]; simp [cyc, firstL]
      · obtain ⟨s1, r1, r2, r3, r3t, r3n, r4, r5⟩ := ih (V.load (lifeA A.n A.at_)) A1 (q + 1) h1 hok1 h3 (by rw [h6]; exact decide_eq_false h0) h4 h5 hV1 (by rw [hcg, h2]; omega)
        rw [hcg, h2] at r1 r2 r4 r5
        refine ⟨s1, ?_, r2, by rw [r3, MV.load_len], by rw [r3t, (MV.load_tn ..).1], by rw [r3n, (MV.load_tn ..).2], by rw [r4, MV.load_a]; omega, ?_⟩
        · refine .more (by omega) (by omega) (by simp [lstep, hfirst, h6, h0]) ?_
          rw [hs1]
          have : q + ((firstL (evenB V A.n) (cyc A.n L (nextN A.n A.at_))).2 + 1) = q + 1 + (firstL (evenB V A.n) (cyc A.n L (nextN A.n A.at_))).2 := by omega
          rw [this]
          exact r1
        · intro j
          rw [r5 j, MV.load_at]

end Go.Proofs.Ytcfoinophfakhaa
