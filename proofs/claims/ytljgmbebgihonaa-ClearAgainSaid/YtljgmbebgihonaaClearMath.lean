/- A machine that takes a claim away, as a value: plain mathematics. -/
import Derived.Test.YtljgmbebgihonaaLifeMath
import Derived.Test.YtljgmbebgihonaaDescMath
import Derived.Test.YtljgmbebgihonaaWordMeth
namespace Go.Proofs.Ytljgmbebgihonaa

/-- A descriptor's address. -/
def descA (t n u : Int) : Int := 7 + 2 * n + 2 * t + 3 * u
/-- A word's claim, and its version. -/
def wcl (x : Int) : Int := x / 1048576 % 32
def wver (x : Int) : Int := x / 33554432 % 262144
/-- A word's bits, freed; a descriptor's, Won. -/
def freedW (x : Int) : Int := numX (x % 1024) (x / 1024 % 512) (x / 524288 % 2) 0 (nextV (wver x))
def wonD (y : Int) : Int := numD (y % 4096) (y / 4096 % 512) (y / 2097152 % 262144) (y / 549755813888 % 512) (y / 281474976710656 % 2) 3 (y / 4503599627370496 % 1024)
def dstat (y : Int) : Int := y / 562949953421312 % 8
/-- Is a descriptor Proposed, of that address and of the word's version? -/
def isFor (y ad x : Int) : Bool := decide (dstat y = 2 ∧ y / 4096 % 512 = ad ∧ y / 2097152 % 262144 = wver x)

theorem bi_mod (x : Int) : bi (x % 2 == 1) = x % 2 := by
  by_cases h : x % 2 = 1
  · simp [bi, h]
  · have : x % 2 = 0 := by omega
    simp [bi, this]
theorem freed_fit (x : Int) : fitP (x % 1024) (x / 1024 % 512) (bi (x / 524288 % 2 == 1)) 0 (nextV (wver x)) := by
  rw [bi_mod]; have := nextV_bd (wver x); unfold fitP; omega
theorem won_fit (y : Int) : fitD (y % 4096) (y / 4096 % 512) (y / 2097152 % 262144) (y / 549755813888 % 512) (bi (y / 281474976710656 % 2 == 1)) 3 (y / 4503599627370496 % 1024) := by
  rw [bi_mod]; unfold fitD; omega
theorem freedW_bd (x : Int) : 0 ≤ freedW x ∧ freedW x < 8796093022208 := by
  have h := freed_fit x
  rw [bi_mod] at h
  exact numX_bd _ _ _ _ _ h
theorem wonD_bd (y : Int) : 0 ≤ wonD y ∧ wonD y < 4611686018427387904 := by
  unfold wonD numD; omega
theorem freedW_u64 (x : Int) : u64R (freedW x) := by have := freedW_bd x; unfold u64R; omega
theorem wonD_u64 (y : Int) : u64R (wonD y) := by have := wonD_bd y; unfold u64R; omega
theorem freed_claim (x : Int) : wcl (freedW x) = 0 := by
  have := nextV_bd (wver x); unfold wcl freedW numX; omega
theorem won_stat (y : Int) : dstat (wonD y) = 3 := by
  unfold dstat wonD numD; omega
theorem wcl_bd (x : Int) : 0 ≤ wcl x ∧ wcl x < 32 := by unfold wcl; omega
theorem dstat_bd (x : Int) : 0 ≤ dstat x ∧ dstat x < 8 := by unfold dstat; omega

/-- A machine that clears an address. -/
structure CV where
  t : Int
  n : Int
  ad : Int
  at_ : Int
  u : Int
  wd : Int
  ds : Int

def CV.new (t n ad : Int) : CV := ⟨t, n, ad, 0, 0, 0, 0⟩
/-- Its four steps. -/
def CV.look (x : Int) (C : CV) : CV := if wcl x = 0 ∨ C.t < wcl x then { C with wd := x, at_ := 4 } else { C with wd := x, u := wcl x - 1, at_ := 1 }
def CV.ask (y : Int) (C : CV) : CV := { C with ds := y, at_ := if isFor y C.ad C.wd then 2 else 3 }
def CV.step (V : MV) (C : CV) : MV × CV :=
  if C.at_ = 0 then (V.load C.ad, C.look (V.at C.ad))
  else if C.at_ = 1 then (V.load (descA C.t C.n C.u), C.ask (V.at (descA C.t C.n C.u)))
  else if C.at_ = 2 then (V.cas (descA C.t C.n C.u) C.ds (wonD C.ds), { C with at_ := 3 })
  else if C.at_ = 3 then (V.cas C.ad C.wd (freedW C.wd), { C with at_ := 4 })
  else (V, C)
def CV.ended (C : CV) : Bool := decide (C.at_ = 4)

/-- What a machine is between two steps. -/
structure CV.ok (C : CV) : Prop where
  lay : 1 ≤ C.t ∧ C.t ≤ 8 ∧ 1 ≤ C.n ∧ C.n ≤ 200
  at_ : 0 ≤ C.at_ ∧ C.at_ ≤ 4
  u : 0 ≤ C.u ∧ C.u ≤ 30
  wd : u64R C.wd
  ds : u64R C.ds
/-- Each word of memory is one of 64 bits. -/
def MV.okW (V : MV) : Prop := ∀ i, u64R (V.at i)

theorem CV.new_ok (t n ad : Int) (h : 1 ≤ t ∧ t ≤ 8 ∧ 1 ≤ n ∧ n ≤ 200) : (CV.new t n ad).ok :=
  ⟨h, by simp [CV.new], by simp [CV.new], by simp [CV.new, u64R], by simp [CV.new, u64R]⟩
theorem CV.look_ok {C : CV} (h : C.ok) {x : Int} (hx : u64R x) : (C.look x).ok := by
  have := wcl_bd x
  unfold CV.look
  split
  · exact ⟨h.lay, by simp only; omega, h.u, hx, h.ds⟩
  · exact ⟨h.lay, by simp only; omega, by simp only; omega, hx, h.ds⟩
theorem CV.ask_ok {C : CV} (h : C.ok) {y : Int} (hy : u64R y) : (C.ask y).ok :=
  ⟨h.lay, by unfold CV.ask; simp only; split <;> omega, h.u, h.wd, hy⟩
theorem CV.step_ok (V : MV) (C : CV) (h : C.ok) (hV : V.okW) : (CV.step V C).2.ok := by
  unfold CV.step
  split
  · exact CV.look_ok h (hV _)
  · split
    · exact CV.ask_ok h (hV _)
    · split
      · exact ⟨h.lay, by simp, h.u, h.wd, h.ds⟩
      · split
        · exact ⟨h.lay, by simp, h.u, h.wd, h.ds⟩
        · exact h
theorem CV.look_tn (x : Int) (C : CV) : (C.look x).t = C.t ∧ (C.look x).n = C.n ∧ (C.look x).ad = C.ad := by
  unfold CV.look; split <;> exact ⟨rfl, rfl, rfl⟩
theorem CV.step_tn (V : MV) (C : CV) : (CV.step V C).2.t = C.t ∧ (CV.step V C).2.n = C.n ∧ (CV.step V C).2.ad = C.ad := by
  unfold CV.step
  split
  · exact CV.look_tn _ _
  · split
    · exact ⟨rfl, rfl, rfl⟩
    · split
      · exact ⟨rfl, rfl, rfl⟩
      · split <;> exact ⟨rfl, rfl, rfl⟩
theorem CV.step_len (V : MV) (C : CV) : (CV.step V C).1.ws.length = V.ws.length := by
  unfold CV.step
  split
  · exact MV.load_len ..
  · split
    · exact MV.load_len ..
    · split
      · exact MV.cas_len ..
      · split
        · exact MV.cas_len ..
        · rfl
theorem CV.step_mtn (V : MV) (C : CV) : (CV.step V C).1.t = V.t ∧ (CV.step V C).1.n = V.n := by
  unfold CV.step
  split
  · exact MV.load_tn ..
  · split
    · exact MV.load_tn ..
    · split
      · exact MV.cas_tn ..
      · split
        · exact MV.cas_tn ..
        · exact ⟨rfl, rfl⟩
theorem CV.step_a (V : MV) (C : CV) (h : C.ok) : (CV.step V C).1.a = V.a + (if C.ended then 0 else 1) := by
  have ha := h.at_
  unfold CV.step CV.ended
  by_cases h4 : C.at_ = 4
  · rw [if_neg (by omega), if_neg (by omega), if_neg (by omega), if_neg (by omega), decide_eq_true h4]
    simp
  · rw [decide_eq_false h4]
    split
    · exact MV.load_a ..
    · split
      · exact MV.load_a ..
      · split
        · exact MV.cas_a ..
        · split
          · exact MV.cas_a ..
          · omega
theorem MV.okW_load {V : MV} (h : V.okW) (i : Int) : (V.load i).okW := fun j => by rw [MV.load_at]; exact h j
theorem MV.okW_cas {V : MV} (h : V.okW) (i o x : Int) (hx : u64R x) : (V.cas i o x).okW := fun j => by
  rw [MV.cas_at]; split
  · exact hx
  · exact h j
theorem MV.okW_store {V : MV} (h : V.okW) (i x : Int) (hx : u64R x) : (V.store i x).okW := fun j => by
  rw [MV.store_at]; split
  · exact hx
  · exact h j
theorem CV.step_okW (V : MV) (C : CV) (h : V.okW) : (CV.step V C).1.okW := by
  unfold CV.step
  split
  · exact MV.okW_load h _
  · split
    · exact MV.okW_load h _
    · split
      · exact MV.okW_cas h _ _ _ (wonD_u64 _)
      · split
        · exact MV.okW_cas h _ _ _ (freedW_u64 _)
        · exact h
theorem CV.step_ended (V : MV) (C : CV) (h : C.at_ = 4) : CV.step V C = (V, C) := by
  unfold CV.step; rw [if_neg (by omega), if_neg (by omega), if_neg (by omega), if_neg (by omega)]
/-- How many steps are left, at most. -/
theorem CV.step_on (V : MV) (C : CV) (h : C.ok) (he : C.ended = false) : C.at_ < (CV.step V C).2.at_ := by
  have ha := h.at_
  have he : C.at_ ≠ 4 := of_decide_eq_false he
  unfold CV.step
  split
  · unfold CV.look; split <;> (simp only; omega)
  · split
    · unfold CV.ask; simp only; split <;> omega
    · split
      · simp only; omega
      · split
        · simp only; omega
        · omega
end Go.Proofs.Ytljgmbebgihonaa
