/- A machine that clears, run alone. -/
import Derived.Test.YtljgmbebgihonaaClear
import Derived.Test.YtljgmbebgihonaaMemRun
import Derived.Test.YtljgmbebgihonaaOwnRows
import Derived.Test.YtljgmbebgihonaaMemDo
namespace Go.Proofs.Ytljgmbebgihonaa
set_option maxRecDepth 100000
open Go.RowKit Go.Sort
set_option maxHeartbeats 4000000

def cl1 (_ : Nat) (s : MV × CV) : (MV × CV) × Bool := (CV.step s.1 s.2, (CV.step s.1 s.2).2.ended)

theorem run_clear (g b p rb : Nat) (V V1 : MV) (C1 : CV) (t n ad most k : Int) (cap : Nat) (w : World) (h : layR t n) (hM : MemAt w g b V) (hC : ClearAt w p (CV.new t n ad)) (hR : Blk w rb 80 #[.iface 37 (.pointer (some ⟨p, 0, none⟩))])
    (hV : V.okW) (ha : 0 ≤ V.a ∧ V.a ≤ 1000000000) (h1 : most ≤ 1000000) (hr : RunsTo cl1 1 most (V1, C1) k true 0 (V, CV.new t n ad) 0) :
    Calls Try.prog 31 #[.pointer (some ⟨g, 0, none⟩), .int .i64 most, .slice (some ⟨rb, 0, none⟩) 1 cap] w fun e w' =>
      e = .returned (.tuple #[.int .i64 k, .bool true]) ∧ MemAt w' g b V1 ∧ ClearAt w' p C1 ∧ V1.okW ∧ (V.a ≤ V1.a ∧ V1.a ≤ V.a + k) ∧ Touch (three g b p) w w' := by
  have hok := CV.new_ok t n ad h
  have hpg : p ≠ g := hC.blk.ne hM.mem (by decide)
  have hpb : p ≠ b := hC.blk.ne hM.words (by decide)
  have hrg : rb ≠ g := hR.ne hM.mem (by decide)
  have hrb : rb ≠ b := hR.ne hM.words (by decide)
  have hrp : rb ≠ p := hR.ne hC.blk (by decide)
  refine (run_any (fun q (s : MV × CV) w' => MemAt w' g b s.1 ∧ ClearAt w' p s.2 ∧ s.2.ok ∧ s.1.okW ∧ V.a ≤ s.1.a ∧ s.1.a ≤ V.a + q) (three g b p) cl1 1 most (V1, C1) k true w 37 25 [p] rfl (.pointer (some ⟨g, 0, none⟩)) (some ⟨rb, 0, none⟩) rb cap (by omega) (by omega) (V, CV.new t n ad)
    (fun N a w => by kernel_rfl) (fun _ _ => enters_f Try.func25 (by kernel_rfl) rfl _ _) (Or.inr rfl)
    (fun k hk => by
      obtain rfl : k = 0 := by omega
      rw [hR.cell]; rfl)
    (fun _ => hR.lt) (fun _ hc => by
      rcases hc with (h | h) | h
      · exact hrg h
      · exact hrb h
      · exact hrp h)
    (fun k q s w' hk hq0 hq1 hI hT => by
      obtain rfl : k = 0 := by omega
      obtain ⟨i1, i2, i3, i4, i5, i6⟩ := hI
      refine (cstep_any g b p s.1 s.2 w' i1 (by unfold actsOk; omega) i2 i3 i4 hpg hpb).mono ?_
      rintro e w'' ⟨rfl, m1, m2, m3⟩
      refine ⟨rfl, ⟨m1, m2, CV.step_ok _ _ i3 i4, CV.step_okW _ _ i4, ?_, ?_⟩, m3⟩
      · show V.a ≤ (CV.step s.1 s.2).1.a
        rw [CV.step_a _ _ i3]; split <;> omega
      · show (CV.step s.1 s.2).1.a ≤ _
        rw [CV.step_a _ _ i3]; split <;> omega)
    ⟨hM, hC, hok, hV, Int.le_refl _, by show V.a ≤ V.a + 0; omega⟩ hr).mono ?_
  rintro e w' ⟨rfl, ⟨i1, i2, i3, i4, i5, i6⟩, hT⟩
  exact ⟨rfl, i1, i2, i4, ⟨i5, i6⟩, hT⟩

theorem clear_runs_end (V : MV) (t n ad most : Int) (hm : 1 ≤ most) (hc : wcl (V.at ad) = 0 ∨ t < wcl (V.at ad)) : ∃ C1, RunsTo cl1 1 most (V.load ad, C1) 1 true 0 (V, CV.new t n ad) 0 := by
  have e0 : CV.step V (CV.new t n ad) = (V.load ad, { CV.new t n ad with wd := V.at ad, at_ := 4 }) := by
    have e1 : CV.step V (CV.new t n ad) = (V.load ad, (CV.new t n ad).look (V.at ad)) := by unfold CV.step; rw [if_pos (by rfl)]; rfl
    have e2 : (CV.new t n ad).look (V.at ad) = { CV.new t n ad with wd := V.at ad, at_ := 4 } := by unfold CV.look; exact if_pos hc
    rw [e1, e2]
  refine ⟨{ CV.new t n ad with wd := V.at ad, at_ := 4 }, .last (by omega) (by omega) (by simp [cl1, e0, CV.ended]) ?_⟩
  have e1 : (cl1 0 (V, CV.new t n ad)).1 = (V.load ad, { CV.new t n ad with wd := V.at ad, at_ := 4 }) := e0
  rw [e1]
  exact .done (by omega) (by omega) rfl

/-- The steps one by one. -/
theorem clear_step0 (V : MV) (t n ad : Int) (h0 : wcl (V.at ad) ≠ 0) (h1 : wcl (V.at ad) ≤ t) : CV.step V (CV.new t n ad) = (V.load ad, ⟨t, n, ad, 1, wcl (V.at ad) - 1, V.at ad, 0⟩) := by
  have e1 : CV.step V (CV.new t n ad) = (V.load ad, (CV.new t n ad).look (V.at ad)) := by unfold CV.step; rw [if_pos (by rfl)]; rfl
  have e2 : (CV.new t n ad).look (V.at ad) = ⟨t, n, ad, 1, wcl (V.at ad) - 1, V.at ad, 0⟩ := by
    unfold CV.look; exact if_neg (show ¬ (wcl (V.at ad) = 0 ∨ t < wcl (V.at ad)) by omega)
  rw [e1, e2]
theorem clear_step1 (V : MV) (t n ad u x : Int) : CV.step V ⟨t, n, ad, 1, u, x, 0⟩ = (V.load (descA t n u), ⟨t, n, ad, if isFor (V.at (descA t n u)) ad x then 2 else 3, u, x, V.at (descA t n u)⟩) := by
  unfold CV.step; rw [if_neg (by simp), if_pos (by rfl)]; rfl
theorem clear_step2 (V : MV) (t n ad u x y : Int) : CV.step V ⟨t, n, ad, 2, u, x, y⟩ = (V.cas (descA t n u) y (wonD y), ⟨t, n, ad, 3, u, x, y⟩) := by
  unfold CV.step; rw [if_neg (by simp), if_neg (by simp), if_pos (by rfl)]
theorem clear_step3 (V : MV) (t n ad u x y : Int) : CV.step V ⟨t, n, ad, 3, u, x, y⟩ = (V.cas ad x (freedW x), ⟨t, n, ad, 4, u, x, y⟩) := by
  unfold CV.step; rw [if_neg (by simp), if_neg (by simp), if_neg (by simp), if_pos (by rfl)]

theorem clear_runs_not (V : MV) (t n ad most : Int) (hm : 9 ≤ most) (h0 : wcl (V.at ad) ≠ 0) (h1 : wcl (V.at ad) ≤ t) (hf : isFor (V.at (descA t n (wcl (V.at ad) - 1))) ad (V.at ad) = false) :
    ∃ C1, RunsTo cl1 1 most ((((V.load ad).load (descA t n (wcl (V.at ad) - 1))).cas ad (V.at ad) (freedW (V.at ad))), C1) 3 true 0 (V, CV.new t n ad) 0 := by
  have s0 := clear_step0 V t n ad h0 h1
  have s1 := clear_step1 (V.load ad) t n ad (wcl (V.at ad) - 1) (V.at ad)
  rw [MV.load_at, hf] at s1
  simp only [Bool.false_eq_true, if_false] at s1
  generalize V.at ad = x at *
  generalize hd : descA t n (wcl x - 1) = d at *
  have s2 := clear_step3 ((V.load ad).load d) t n ad (wcl x - 1) x (V.at d)
  refine ⟨⟨t, n, ad, 4, wcl x - 1, x, V.at d⟩, .more (by omega) (by omega) (by simp [cl1, s0, CV.ended]) ?_⟩
  rw [show (cl1 0 (V, CV.new t n ad)).1 = _ from s0]
  refine .more (by omega) (by omega) (by simp [cl1, s1, CV.ended]) ?_
  rw [show (cl1 0 (V.load ad, (⟨t, n, ad, 1, wcl x - 1, x, 0⟩ : CV))).1 = _ from s1]
  refine .last (by omega) (by omega) (by simp [cl1, s2, CV.ended]) ?_
  rw [show (cl1 0 ((V.load ad).load d, (⟨t, n, ad, 3, wcl x - 1, x, V.at d⟩ : CV))).1 = _ from s2]
  exact .done (by omega) (by omega) rfl
theorem clear_runs_for (V : MV) (t n ad most : Int) (hm : 9 ≤ most) (h0 : wcl (V.at ad) ≠ 0) (h1 : wcl (V.at ad) ≤ t) (hf : isFor (V.at (descA t n (wcl (V.at ad) - 1))) ad (V.at ad) = true) :
    ∃ C1, RunsTo cl1 1 most (((((V.load ad).load (descA t n (wcl (V.at ad) - 1))).cas (descA t n (wcl (V.at ad) - 1)) (V.at (descA t n (wcl (V.at ad) - 1))) (wonD (V.at (descA t n (wcl (V.at ad) - 1))))).cas ad (V.at ad) (freedW (V.at ad))), C1) 4 true 0 (V, CV.new t n ad) 0 := by
  have s0 := clear_step0 V t n ad h0 h1
  have s1 := clear_step1 (V.load ad) t n ad (wcl (V.at ad) - 1) (V.at ad)
  rw [MV.load_at, hf] at s1
  simp only [if_true] at s1
  generalize V.at ad = x at *
  have s2 := clear_step2 ((V.load ad).load (descA t n (wcl x - 1))) t n ad (wcl x - 1) x (V.at (descA t n (wcl x - 1)))
  generalize hd : descA t n (wcl x - 1) = d at *
  have s3 := clear_step3 (((V.load ad).load d).cas d (V.at d) (wonD (V.at d))) t n ad (wcl x - 1) x (V.at d)
  refine ⟨⟨t, n, ad, 4, wcl x - 1, x, V.at d⟩, .more (by omega) (by omega) (by simp [cl1, s0, CV.ended]) ?_⟩
  rw [show (cl1 0 (V, CV.new t n ad)).1 = _ from s0]
  refine .more (by omega) (by omega) (by simp [cl1, s1, CV.ended]) ?_
  rw [show (cl1 0 (V.load ad, (⟨t, n, ad, 1, wcl x - 1, x, 0⟩ : CV))).1 = _ from s1]
  refine .more (by omega) (by omega) (by simp [cl1, s2, CV.ended]) ?_
  rw [show (cl1 0 ((V.load ad).load d, (⟨t, n, ad, 2, wcl x - 1, x, V.at d⟩ : CV))).1 = _ from s2]
  refine .last (by omega) (by omega) (by simp [cl1, s3, CV.ended]) ?_
  rw [show (cl1 0 (((V.load ad).load d).cas d (V.at d) (wonD (V.at d)), (⟨t, n, ad, 3, wcl x - 1, x, V.at d⟩ : CV))).1 = _ from s3]
  exact .done (by omega) (by omega) rfl

theorem MV.load_ws (V : MV) (i : Int) : (V.load i).ws = V.ws := MV.ws_ext _ _ (MV.load_len ..) (fun j => MV.load_at ..)
theorem has_of_at {V : MV} {i : Int} (h : V.at i ≠ 0) : V.has i := Decidable.byContradiction (fun hc => h (MV.at_not hc))
theorem wcl_zero : wcl 0 = 0 := by decide
theorem dstat_zero : dstat 0 = 0 := by decide
/-- A claim, taken away by one alone. -/
theorem clear_alone (V : MV) (t n ad most : Int) (hm : 9 ≤ most) (hne : wcl (V.at ad) ≠ 0 → wcl (V.at ad) ≤ t ∧ ad ≠ descA t n (wcl (V.at ad) - 1)) :
    ∃ V1 C1 k, RunsTo cl1 1 most (V1, C1) k true 0 (V, CV.new t n ad) 0 ∧ (1 ≤ k ∧ k ≤ 4) ∧ wcl (V1.at ad) = 0 ∧ V1.ws.length = V.ws.length := by
  by_cases h0 : wcl (V.at ad) = 0
  · obtain ⟨C1, h⟩ := clear_runs_end V t n ad most (by omega) (Or.inl h0)
    exact ⟨_, C1, 1, h, by omega, by rw [MV.load_at]; exact h0, MV.load_len ..⟩
  · obtain ⟨h1, h2⟩ := hne h0
    have hx : V.at ad ≠ 0 := fun e => h0 (by rw [e]; exact wcl_zero)
    have hh := has_of_at hx
    cases hf : isFor (V.at (descA t n (wcl (V.at ad) - 1))) ad (V.at ad)
    · obtain ⟨C1, h⟩ := clear_runs_not V t n ad most hm h0 h1 hf
      refine ⟨_, C1, 3, h, by omega, ?_, by rw [MV.cas_len, MV.load_len, MV.load_len]⟩
      have hc : ((V.load ad).load (descA t n (wcl (V.at ad) - 1))).casOk ad (V.at ad) = true := by
        rw [MV.casOk_iff]
        exact ⟨(MV.has_of_len (by rw [MV.load_len, MV.load_len])).2 hh, by rw [MV.load_at, MV.load_at]⟩
      rw [MV.cas_at, if_pos ⟨hc, rfl⟩]
      exact freed_claim _
    · obtain ⟨C1, h⟩ := clear_runs_for V t n ad most hm h0 h1 hf
      refine ⟨_, C1, 4, h, by omega, ?_, by rw [MV.cas_len, MV.cas_len, MV.load_len, MV.load_len]⟩
      have hc : (((V.load ad).load (descA t n (wcl (V.at ad) - 1))).cas (descA t n (wcl (V.at ad) - 1)) (V.at (descA t n (wcl (V.at ad) - 1))) (wonD (V.at (descA t n (wcl (V.at ad) - 1))))).casOk ad (V.at ad) = true := by
        rw [MV.casOk_iff]
        refine ⟨(MV.has_of_len (by rw [MV.cas_len, MV.load_len, MV.load_len])).2 hh, ?_⟩
        rw [MV.cas_at, if_neg (fun h => h2 h.2), MV.load_at, MV.load_at]
      rw [MV.cas_at, if_pos ⟨hc, rfl⟩]
      exact freed_claim _
end Go.Proofs.Ytljgmbebgihonaa
