/- A tape of actions as a value; a machine that is watched: plain mathematics. -/
import Derived.Test.YtljgmbebgihonaaClearMath
namespace Go.Proofs.Ytljgmbebgihonaa

/-- An action that was done. -/
structure TA where
  k : Int
  ad : Int
  o : Int
  x : Int
  ok : Bool
def dTA : TA := ⟨0, 0, 0, 0, false⟩
/-- A memory's last action. -/
def MV.last (V : MV) : TA := ⟨V.k, V.ad, V.o, V.x, V.ok⟩

/-- A tape. -/
structure TV where
  acts : List TA
  at_ : Nat
  bad : Bool
  out : Bool
def TV.over (T : TV) : Bool := T.bad || T.out
def TV.take (T : TV) (k ad : Int) : TV × TA :=
  if T.over = true then (T, dTA)
  else if T.acts.length ≤ T.at_ then ({ T with out := true }, dTA)
  else if (T.acts.getD T.at_ dTA).k ≠ k ∨ (T.acts.getD T.at_ dTA).ad ≠ ad then ({ T with at_ := T.at_ + 1, bad := true }, dTA)
  else ({ T with at_ := T.at_ + 1 }, T.acts.getD T.at_ dTA)
def TV.load (T : TV) (ad : Int) : TV × Int := ((T.take 1 ad).1, (T.take 1 ad).2.o)
def TV.wrong (T : TV) (b : Bool) : TV := if b = true then { T with bad := true } else T
def TV.store (T : TV) (ad x : Int) : TV :=
  (T.take 2 ad).1.wrong (!(T.take 2 ad).1.over && (T.take 2 ad).2.ok && decide ((T.take 2 ad).2.x ≠ x))
def TA.nowhere (a : TA) : Bool := !a.ok && decide (a.o = 0) && decide (a.x = 0)
def TV.cas (T : TV) (ad old x : Int) : TV × Bool :=
  ((T.take 3 ad).1.wrong (!(T.take 3 ad).1.over && !(T.take 3 ad).2.nowhere && (decide ((T.take 3 ad).2.x ≠ x) || ((T.take 3 ad).2.ok != decide ((T.take 3 ad).2.o = old)))), (T.take 3 ad).2.ok)
def TV.fits (T : TV) (e : Bool) : Bool := !T.bad && decide (T.at_ = T.acts.length) && (T.out != e)
def TV.new (l : List TA) : TV := ⟨l, 0, false, false⟩

/-- What is done to clear an address, asked of a tape. -/
def clearT4 (T : TV) (ad x : Int) : TV := (T.cas ad x (freedW x)).1
def clearT3 (T : TV) (y x ad d : Int) : TV := clearT4 (if (!T.over && isFor y ad x) = true then (T.cas d y (wonD y)).1 else T) ad x
def clearT2 (T : TV) (x t n ad : Int) : TV :=
  if T.over = true ∨ wcl x = 0 ∨ t < wcl x then T
  else clearT3 (T.load (descA t n (wcl x - 1))).1 (T.load (descA t n (wcl x - 1))).2 x ad (descA t n (wcl x - 1))
def clearT (T : TV) (t n ad : Int) : TV := clearT2 (T.load ad).1 (T.load ad).2 t n ad

theorem TV.take_is (T : TV) (k ad : Int) (a : TA) (ho : T.over = false) (ha : T.acts[T.at_]? = some a) (hk : a.k = k) (hd : a.ad = ad) : T.take k ad = ({ T with at_ := T.at_ + 1 }, a) := by
  have hl : T.at_ < T.acts.length := (List.getElem?_eq_some_iff.1 ha).1
  have hg : T.acts.getD T.at_ dTA = a := by rw [List.getD_eq_getElem?_getD, ha]; rfl
  unfold TV.take
  rw [if_neg (by rw [ho]; simp), if_neg (by omega), hg, if_neg (by rw [hk, hd]; simp)]
theorem TV.load_is (T : TV) (V : MV) (i : Int) (ho : T.over = false) (ha : T.acts[T.at_]? = some (V.load i).last) : T.load i = ({ T with at_ := T.at_ + 1 }, V.at i) := by
  have h1 : (V.load i).last.k = 1 ∧ (V.load i).last.ad = i ∧ (V.load i).last.o = V.at i := by
    unfold MV.load
    split
    · exact ⟨rfl, rfl, rfl⟩
    · rename_i h; exact ⟨rfl, rfl, (MV.at_not h).symm⟩
  unfold TV.load
  rw [T.take_is 1 i _ ho ha h1.1 h1.2.1, h1.2.2]
theorem TV.cas_is (T : TV) (V : MV) (i old x : Int) (ho : T.over = false) (ha : T.acts[T.at_]? = some (V.cas i old x).last) : T.cas i old x = ({ T with at_ := T.at_ + 1 }, V.casOk i old) := by
  have h1 : (V.cas i old x).last.k = 3 ∧ (V.cas i old x).last.ad = i := by
    unfold MV.cas
    split <;> exact ⟨rfl, rfl⟩
  unfold TV.cas
  rw [T.take_is 3 i _ ho ha h1.1 h1.2]
  by_cases h : V.has i
  · have e : V.cas i old x = V.did 3 i x (decide (V.at i = old)) := if_pos h
    rw [e]
    simp [MV.did, MV.last, MV.casOk, h, TV.wrong]
  · have e : V.cas i old x = V.missed 3 i := if_neg h
    rw [e]
    simp [MV.missed, MV.last, MV.casOk, h, TV.wrong, TA.nowhere]

/-- A machine's actions, one by one, whatever stands in memory; did it end? -/
inductive Log {σ : Type} (step : MV → σ → MV × σ) (ended : σ → Bool) : σ → List TA → Bool → σ → Prop
  | cut {s} : Log step ended s [] false s
  | last {s V} : V.okW → ended (step V s).2 = true → Log step ended s [(step V s).1.last] true (step V s).2
  | more {s V l b s'} : V.okW → ended (step V s).2 = false → Log step ended (step V s).2 l b s' → Log step ended s ((step V s).1.last :: l) b s'

theorem clear_len : ∀ {C : CV} {l : List TA} {b : Bool} {C' : CV}, C.ok → C.ended = false → Log CV.step CV.ended C l b C' → (l.length : Int) ≤ 4 - C.at_ := by
  intro C l b C' hC he h
  induction h with
  | cut => have := hC.at_; simp; omega
  | @last s V hV h1 =>
    have h2 := CV.step_on V s hC he
    have h3 := (CV.step_ok V s hC hV).at_
    simp
    omega
  | @more s V l b s' hV h1 _ ih =>
    have h2 := CV.step_on V s hC he
    have h3 := ih (CV.step_ok V s hC hV) h1
    simp
    omega

theorem clear_fits (t n ad : Int) (h : 1 ≤ t ∧ t ≤ 8 ∧ 1 ≤ n ∧ n ≤ 200) {l : List TA} {C' : CV} (hl : Log CV.step CV.ended (CV.new t n ad) l true C') : (clearT (TV.new l) t n ad).fits true = true := by
  have hend : ∀ {C : CV} {l : List TA} {C'}, C.ok → C.ended = false → Log CV.step CV.ended C l true C' → ∃ V, V.okW ∧ ((l = [(CV.step V C).1.last] ∧ (CV.step V C).2.ended = true) ∨ ∃ l', l = (CV.step V C).1.last :: l' ∧ (CV.step V C).2.ended = false ∧ (CV.step V C).2.ok ∧ Log CV.step CV.ended (CV.step V C).2 l' true C') := by
    intro C l C' hC _ h
    cases h with
    | last hV h1 => exact ⟨_, hV, Or.inl ⟨rfl, h1⟩⟩
    | more hV h1 h2 => exact ⟨_, hV, Or.inr ⟨_, rfl, h1, CV.step_ok _ _ hC hV, h2⟩⟩
  obtain ⟨V, hV, h1⟩ := hend (CV.new_ok t n ad h) (by rfl) hl
  have e0 : CV.step V (CV.new t n ad) = (V.load ad, (CV.new t n ad).look (V.at ad)) := by unfold CV.step; rw [if_pos (by rfl)]; rfl
  rw [e0] at h1
  have hload : ∀ l', l = (V.load ad).last :: l' → (TV.new l).load ad = (⟨l, 1, false, false⟩, V.at ad) := fun l' hl' => by
    rw [TV.load_is (TV.new l) V ad rfl (by rw [hl']; rfl)]; rfl
  by_cases hc : wcl (V.at ad) = 0 ∨ t < wcl (V.at ad)
  · have hlk : (CV.new t n ad).look (V.at ad) = { CV.new t n ad with wd := V.at ad, at_ := 4 } := by unfold CV.look; exact if_pos hc
    rw [hlk] at h1
    rcases h1 with ⟨h1, _⟩ | ⟨l', h1, h2, _⟩
    · unfold clearT clearT2
      rw [hload [] h1, if_pos (Or.inr hc), h1]
      rfl
    · simp [CV.ended] at h2
  · have hlk : (CV.new t n ad).look (V.at ad) = { CV.new t n ad with wd := V.at ad, u := wcl (V.at ad) - 1, at_ := 1 } := by unfold CV.look; exact if_neg hc
    rw [hlk] at h1
    rcases h1 with ⟨_, h2⟩ | ⟨l', h1, h2, h3, h4⟩
    · simp [CV.ended] at h2
    · obtain ⟨V2, hV2, g1⟩ := hend h3 h2 h4
      have e1 : CV.step V2 { CV.new t n ad with wd := V.at ad, u := wcl (V.at ad) - 1, at_ := 1 } = (V2.load (descA t n (wcl (V.at ad) - 1)), ({ CV.new t n ad with wd := V.at ad, u := wcl (V.at ad) - 1, at_ := 1 } : CV).ask (V2.at (descA t n (wcl (V.at ad) - 1)))) := by
        unfold CV.step; rw [if_neg (by simp), if_pos (by rfl)]; rfl
      rw [e1] at g1
      have hld := hload l' h1
      generalize V.at ad = x at *
      generalize hd : descA t n (wcl x - 1) = d at *
      rcases g1 with ⟨_, g2⟩ | ⟨l2, g1, g2, g3, g4⟩
      · simp only [CV.ask, CV.ended] at g2
        split at g2 <;> simp at g2
      · have hload2 : (⟨l, 1, false, false⟩ : TV).load d = (⟨l, 2, false, false⟩, V2.at d) := by
          rw [TV.load_is ⟨l, 1, false, false⟩ V2 d rfl (by rw [h1, g1]; rfl)]
        generalize V2.at d = y at *
        unfold clearT clearT2 clearT3 clearT4
        rw [hld, if_neg (by simpa [TV.over] using hc), hd, hload2]
        cases hf : isFor y ad x
        · rw [if_neg (by simp)]
          have e2 : ({ CV.new t n ad with wd := x, u := wcl x - 1, at_ := 1 } : CV).ask y = { CV.new t n ad with wd := x, u := wcl x - 1, at_ := 3, ds := y } := by
            unfold CV.ask; simp [CV.new, hf]
          rw [e2] at g2 g3 g4
          obtain ⟨V3, hV3, k1⟩ := hend g3 g2 g4
          have e3 : CV.step V3 { CV.new t n ad with wd := x, u := wcl x - 1, at_ := 3, ds := y } = (V3.cas ad x (freedW x), { CV.new t n ad with wd := x, u := wcl x - 1, at_ := 4, ds := y }) := by
            unfold CV.step; rw [if_neg (by simp), if_neg (by simp), if_neg (by simp), if_pos (by rfl)]; rfl
          rw [e3] at k1
          rcases k1 with ⟨k1, _⟩ | ⟨_, _, k2, _⟩
          · rw [TV.cas_is ⟨l, 2, false, false⟩ V3 ad x (freedW x) rfl (by rw [h1, g1, k1]; rfl)]
            simp [TV.fits, h1, g1, k1]
          · simp [CV.ended] at k2
        · rw [if_pos (by simp [TV.over])]
          have e2 : ({ CV.new t n ad with wd := x, u := wcl x - 1, at_ := 1 } : CV).ask y = { CV.new t n ad with wd := x, u := wcl x - 1, at_ := 2, ds := y } := by
            unfold CV.ask; simp [CV.new, hf]
          rw [e2] at g2 g3 g4
          obtain ⟨V3, hV3, k1⟩ := hend g3 g2 g4
          have e3 : CV.step V3 { CV.new t n ad with wd := x, u := wcl x - 1, at_ := 2, ds := y } = (V3.cas d y (wonD y), { CV.new t n ad with wd := x, u := wcl x - 1, at_ := 3, ds := y }) := by
            unfold CV.step; rw [if_neg (by simp), if_neg (by simp), if_pos (by rfl)]; simp [CV.new, hd]
          rw [e3] at k1
          rcases k1 with ⟨_, k2⟩ | ⟨l3, k1, k2, k3, k4⟩
          · simp [CV.ended] at k2
          · obtain ⟨V4, hV4, m1⟩ := hend k3 k2 k4
            have e4 : CV.step V4 { CV.new t n ad with wd := x, u := wcl x - 1, at_ := 3, ds := y } = (V4.cas ad x (freedW x), { CV.new t n ad with wd := x, u := wcl x - 1, at_ := 4, ds := y }) := by
              unfold CV.step; rw [if_neg (by simp), if_neg (by simp), if_neg (by simp), if_pos (by rfl)]; rfl
            rw [e4] at m1
            rcases m1 with ⟨m1, _⟩ | ⟨_, _, m2, _⟩
            · rw [TV.cas_is ⟨l, 2, false, false⟩ V3 d y (wonD y) rfl (by rw [h1, g1, k1]; rfl)]
              show (TV.cas ⟨l, 3, false, false⟩ ad x (freedW x)).1.fits true = true
              rw [TV.cas_is ⟨l, 3, false, false⟩ V4 ad x (freedW x) rfl (by rw [h1, g1, k1, m1]; rfl)]
              simp [TV.fits, h1, g1, k1, m1]
            · simp [CV.ended] at m2
end Go.Proofs.Ytljgmbebgihonaa
