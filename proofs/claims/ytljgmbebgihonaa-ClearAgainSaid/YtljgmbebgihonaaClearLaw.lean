/- What the laws of layer 10 share: Great, Memory, bits. -/
import Derived.Test.YtljgmbebgihonaaClear
import Derived.Test.YtljgmbebgihonaaMemNew
import Derived.Test.YtljgmbebgihonaaLawKit
import Derived.Test.YtljgmbebgihonaaOwnRows
import Derived.StillTailTactics
namespace Go.Proofs.Ytljgmbebgihonaa
set_option maxRecDepth 100000
open Go.RowKit Go.Sort
set_option maxHeartbeats 8000000

theorem great_any (a b : Int) (A A2 : Option Addr) (m k cap cap2 : Nat) (w : World) :
    Calls Try.prog 8 #[.agg #[.int .u8 a, .int .u8 b, .slice A m cap], .slice A2 k cap2] w fun e w' => e = .returned (.bool (decide (60 < m ∨ 60 < k))) ∧ Below w.heap.size w w' := by
  have hb := (Below.refl w.heap.size w).alloc (Nat.le_refl _) (.cells #[.int .u8 a, .int .u8 b, .slice A m cap] 24)
  by_cases h1 : 60 < m
  · have q1 : decide (60 < (m : Int)) = true := decide_eq_true (by omega)
    have q2 : decide (60 < m) = true := decide_eq_true h1
    have hi : (60 : Int) < (m : Int) := by omega
    rw [decide_eq_true (Or.inl h1)]
    go_enter Try.func8, Try.ntmps8
    go_wp2
    go_ret
    exact ⟨by first | rfl | simp, hb⟩
  · have q1 : decide (60 < (m : Int)) = false := decide_eq_false (by omega)
    have q2 : decide (60 < m) = false := decide_eq_false h1
    by_cases h2 : 60 < k
    · have q3 : decide (60 < (k : Int)) = true := decide_eq_true (by omega)
      have q4 : decide (60 < k) = true := decide_eq_true h2
      rw [decide_eq_true (Or.inr h2)]
      go_enter Try.func8, Try.ntmps8
      go_wp2
      go_ret
      exact ⟨by first | rfl | simp | (simp; omega), hb⟩
    · have q3 : decide (60 < (k : Int)) = false := decide_eq_false (by omega)
      have q4 : decide (60 < k) = false := decide_eq_false h2
      rw [decide_eq_false (fun h => h.elim h1 h2)]
      go_enter Try.func8, Try.ntmps8
      go_wp2
      go_ret
      exact ⟨by first | rfl | simp | (simp; omega), hb⟩

/-- A world's memory: its value. -/
def worldV (t n : Int) (l : List Int) : MV := MV.made t n (l.take (6 + 2 * n + 5 * t).toNat)
theorem worldV_facts (t n : Int) (l : List Int) (h : layR t n) (hw : ∀ z ∈ l, u64R z) : (worldV t n l).okW ∧ (worldV t n l).a = 0 ∧ ((worldV t n l).ws.length : Int) = 6 + 2 * n + 5 * t ∧ (worldV t n l).t = t ∧ (worldV t n l).n = n := by
  obtain ⟨h1, h2, h3, h4⟩ := h
  refine ⟨fun i => ?_, rfl, ?_, rfl, rfl⟩
  · by_cases hh : (worldV t n l).has i
    · rw [MV.at_has hh]
      unfold worldV MV.made MV.new
      simp only []
      rw [List.getD_eq_getElem?_getD]
      cases hg : (l.take (6 + 2 * n + 5 * t).toNat ++ List.replicate ((6 + 2 * n + 5 * t).toNat - (l.take (6 + 2 * n + 5 * t).toNat).length) 0)[i.toNat]? with
      | none => simp [u64R]
      | some z =>
        have hm := List.mem_of_getElem? hg
        rw [List.mem_append] at hm
        rcases hm with hm | hm
        · exact hw z (List.mem_of_mem_take hm)
        · have := List.eq_of_mem_replicate hm
          subst this
          simp [u64R]
    · rw [MV.at_not hh]; simp [u64R]
  · unfold worldV MV.made MV.new
    simp only [List.length_append, List.length_take, List.length_replicate]
    omega

def memPost (w : World) (t n : Int) (l : List Int) (e : Ending) (w' : World) : Prop :=
  ∃ g b, e = .returned (.tuple #[.pointer (some ⟨g, 0, none⟩), .agg #[.int .i64 t, .int .i64 n], .agg #[.int .i64 t, .int .i64 n]]) ∧ w.heap.size ≤ g ∧ w.heap.size ≤ b ∧ MemAt w' g b (worldV t n l) ∧ Below w.heap.size w w'

theorem world_any (a b t n : Int) (A : Option Addr) (l : List Int) (cap : Nat) (ha : 0 ≤ a ∧ a ≤ 255) (hb : 0 ≤ b ∧ b ≤ 255) (ht : 1 + a % 4 = t) (hn : 1 + b % 12 = n) (hl : l.length ≤ 1000000) (hlc : l.length ≤ cap) (w : World) (hR : RdI w .u64 A l) :
    Calls Try.prog 9 #[.agg #[.int .u8 a, .int .u8 b, .slice A l.length cap]] w (memPost w t n l) := by
  obtain ⟨a0, a1⟩ := ha
  obtain ⟨b0, b1⟩ := hb
  have hta : a.tmod 4 = a % 4 := Int.tmod_eq_emod_of_nonneg a0
  have htb : b.tmod 12 = b % 12 := Int.tmod_eq_emod_of_nonneg b0
  have ht1 : 1 ≤ t ∧ t ≤ 4 := by omega
  have hn1 : 1 ≤ n ∧ n ≤ 12 := by omega
  have hlay : layR t n := by unfold layR; omega
  obtain ⟨t0, t1⟩ := ht1
  obtain ⟨n0, n1⟩ := hn1
  obtain ⟨m, hm⟩ : ∃ m : Nat, (m : Int) = 6 + 2 * n + 5 * t := ⟨(6 + 2 * n + 5 * t).toNat, by omega⟩
  have hm2 : (6 + 2 * n + 5 * t).toNat = m := by omega
  obtain ⟨k, hk⟩ : ∃ k : Nat, k = (l.take m).length := ⟨_, rfl⟩
  have hRk : RdI w .u64 A (l.take m) := by
    rcases hR with h | ⟨bb, off, hA, hbb, hc⟩
    · subst h; exact Or.inl (by simp)
    · refine Or.inr ⟨bb, off, hA, hbb, fun i hi => ?_⟩
      rw [List.length_take] at hi
      rw [hc i (by omega)]
      simp only [List.getD_eq_getElem?_getD]
      rw [List.getElem?_take_of_lt (by omega)]
  have hWV : MV.made t n (l.take m) = worldV t n l := by unfold worldV; rw [hm2]
  have hnew := fun W (hb : Below w.heap.size w W) => new_ok t n A (l.take m) cap hlay (by rw [List.length_take]; omega) W (hRk.keep hb (Nat.le_refl _))
  rw [hWV, ← hk] at hnew
  have hb1 := ((((Below.refl w.heap.size w).alloc (Nat.le_refl _) (.cells #[.int .u8 a, .int .u8 b, .slice A l.length cap] 24)).alloc (by simp) (.cells #[.int .i64 0, .int .i64 0] 30)).alloc (by simp; omega) (.cells #[.int .i64 0, .int .i64 0] 31)).alloc (by simp; omega) (.cells #[.int .i64 t, .int .i64 n] 30)
  have hY := ((Blk.new1 w (.cells #[.int .u8 a, .int .u8 b, .slice A l.length cap] 24) 30 #[.int .i64 0, .int .i64 0]).alloc (.cells #[.int .i64 0, .int .i64 0] 31)).alloc (.cells #[.int .i64 t, .int .i64 n] 30)
  have hZ := (Blk.new1 (w.alloc (.cells #[.int .u8 a, .int .u8 b, .slice A l.length cap] 24)) (.cells #[.int .i64 0, .int .i64 0] 30) 31 #[.int .i64 0, .int .i64 0]).alloc (.cells #[.int .i64 t, .int .i64 n] 30)
  have hX := Blk.new (((w.alloc (.cells #[.int .u8 a, .int .u8 b, .slice A l.length cap] 24)).alloc (.cells #[.int .i64 0, .int .i64 0] 30)).alloc (.cells #[.int .i64 0, .int .i64 0] 31)) 30 #[.int .i64 t, .int .i64 n]
  have hU := (((Blk.new w 24 #[.int .u8 a, .int .u8 b, .slice A l.length cap]).alloc (.cells #[.int .i64 0, .int .i64 0] 30)).alloc (.cells #[.int .i64 0, .int .i64 0] 31)).alloc (.cells #[.int .i64 t, .int .i64 n] 30)
  simp only [World.size_alloc] at hZ hX
  obtain ⟨Lb, hLb⟩ : ∃ Lb : Bool, Lb = decide (m < l.length) := ⟨_, rfl⟩
  have HKK : Hid (k = if Lb then m else l.length) := hid (by
    rw [hk, hLb, List.length_take]
    by_cases h : m < l.length
    · rw [decide_eq_true h]; simp; omega
    · rw [decide_eq_false h]; simp; omega)
  have hi1 : 6 + 2 * n + 5 * t = (m : Int) := hm.symm
  have hi2 : 2 * n + 5 * t + 6 = (m : Int) := by omega
  have hmm : m ≤ 50 := by omega
  have HNEW := hid hnew
  have hbs := hb1.size
  have HB1 := hid hb1
  have HYZ := hid (And.intro hY (And.intro hZ (And.intro hX hU)))
  clear hR hRk hWV hk hm2 hm hlay hnew hi1 hb1 hY hZ hX hU
  go_enter Try.func9, Try.ntmps9
  go_upto_region 4 with (fail)
  generalize (((w.alloc (.cells #[.int .u8 a, .int .u8 b, .slice A l.length cap] 24)).alloc (.cells #[.int .i64 0, .int .i64 0] 30)).alloc (.cells #[.int .i64 0, .int .i64 0] 31)).alloc (.cells #[.int .i64 t, .int .i64 n] 30) = w1 at *
  obtain ⟨hY, hZ, hX, hU⟩ := HYZ.out
  clear HYZ ht hn hi2 hta htb
  obtain ⟨x0, x1, xf⟩ := hX.two
  go_upto_if 34 with (fail)
  go_cut [6] (fun v wx => v = .slice A k cap ∧ wx = w1)
  case first =>
    cases hlb : Lb
    · have h1 : ¬ m < l.length := by rw [hlb] at hLb; exact of_decide_eq_false hLb.symm
      have g1 : decide (m < l.length) = false := decide_eq_false h1
      have g2 : decide ((m : Int) < (l.length : Int)) = false := decide_eq_false (by omega)
      have g3 : l.length ≤ m := by omega
      have HK2 : Hid (k = l.length) := hid (by rw [HKK.out, hlb]; rfl)
      clear hlb hLb
      go_wp2
      go_meet
      exact ⟨by rw [HK2.out], rfl⟩
    · have h1 : m < l.length := by rw [hlb] at hLb; exact of_decide_eq_true hLb.symm
      have g1 : decide (m < l.length) = true := decide_eq_true h1
      have g2 : decide ((m : Int) < (l.length : Int)) = true := decide_eq_true (by omega)
      have g3 : (m : Int) ≤ (cap : Int) := by omega
      have g4 : (m : Int) < (l.length : Int) := by omega
      have HK2 : Hid (k = m) := hid (by rw [HKK.out, hlb]; rfl)
      clear hlb hLb
      go_wp2
      go_meet
      exact ⟨by rw [HK2.out], rfl⟩
  case rest =>
  obtain ⟨rfl, rfl⟩ := hcut
  obtain ⟨x0, x1, xf⟩ := hX.two
  go_wp2_with fail
  refine (HNEW.out _ HB1.out).mono ?_
  rintro e w2 ⟨g, b, rfl, hg, hb, hM, hb2⟩
  have hbw := HB1.out.trans (hb2.mono HB1.out.size)
  have hgw : w.heap.size ≤ g := Nat.le_trans HB1.out.size hg
  have hbw' : w.heap.size ≤ b := Nat.le_trans HB1.out.size hb
  have hY2 := hY.below hb2 hY.lt
  have hZ2 := hZ.below hb2 hZ.lt
  have hX2 := hX.below hb2 hX.lt
  have hn1 : g ≠ w.heap.size + 1 := hM.mem.ne hY2 (by decide)
  have hn2 : g ≠ w.heap.size + 1 + 1 := hM.mem.ne hZ2 (by decide)
  have hn3 : b ≠ w.heap.size + 1 := hM.words.ne hY2 (by decide)
  have hn4 : b ≠ w.heap.size + 1 + 1 := hM.words.ne hZ2 (by decide)
  clear hY hZ hX hU hb2 hg hb x0 x1 xf
  obtain ⟨x0, x1, xf⟩ := hX2.two
  obtain ⟨y0, y1, yf⟩ := hY2.two
  obtain ⟨z0, z1, zf⟩ := hZ2.two
  have hY4 := ((hY2.set_ 0 (.int .i64 t)).set_ 1 (.int .i64 n)).far (p := ⟨w.heap.size + 1 + 1, 0, none⟩) (by simp) (.int .i64 t)
  replace hY4 := hY4.far (p := ⟨w.heap.size + 1 + 1, 1, none⟩) (by simp) (.int .i64 n)
  have hZ4 := ((((hZ2.far (p := ⟨w.heap.size + 1, 0, none⟩) (by simp) (.int .i64 t)).far (p := ⟨w.heap.size + 1, 1, none⟩) (by simp) (.int .i64 n))).set_ 0 (.int .i64 t)).set_ 1 (.int .i64 n)
  simp only [List.setIfInBounds_toArray, List.set_cons_zero, List.set_cons_succ] at hY4 hZ4
  have hM4 : MemAt ((((w2.setCell ⟨w.heap.size + 1, 0, none⟩ (.int .i64 t)).setCell ⟨w.heap.size + 1, 1, none⟩ (.int .i64 n)).setCell ⟨w.heap.size + 1 + 1, 0, none⟩ (.int .i64 t)).setCell ⟨w.heap.size + 1 + 1, 1, none⟩ (.int .i64 n)) g b (worldV t n l) := ⟨(((hM.mem.far hn1 _).far hn1 _).far hn2 _).far hn2 _, (((hM.words.far hn3 _).far hn3 _).far hn4 _).far hn4 _, hM.ne⟩
  have hbw4 := (((hbw.setCell (p := ⟨w.heap.size + 1, 0, none⟩) (by simp) (.int .i64 t)).setCell (p := ⟨w.heap.size + 1, 1, none⟩) (by simp) (.int .i64 n)).setCell (p := ⟨w.heap.size + 1 + 1, 0, none⟩) (by simp; omega) (.int .i64 t)).setCell (p := ⟨w.heap.size + 1 + 1, 1, none⟩) (by simp; omega) (.int .i64 n)
  have HY4 := hid (And.intro hY4 (And.intro hZ4 (And.intro hM4 hbw4)))
  clear hY2 hZ2 hX2 hM hbw hY4 hZ4 hM4 hbw4 hn1 hn2 hn3 hn4
  go_wp2
  go_region
  go_wp2
  obtain ⟨hY4, hZ4, hM4, hbw4⟩ := HY4.out
  obtain ⟨e0, e1, _⟩ := hY4.two
  obtain ⟨f0, f1, _⟩ := hZ4.two
  generalize (((w2.setCell ⟨w.heap.size + 1, 0, none⟩ (.int .i64 t)).setCell ⟨w.heap.size + 1, 1, none⟩ (.int .i64 n)).setCell ⟨w.heap.size + 1 + 1, 0, none⟩ (.int .i64 t)).setCell ⟨w.heap.size + 1 + 1, 1, none⟩ (.int .i64 n) = w6 at *
  have e0' : w6.drew.cell? ⟨w.heap.size + 1, 0, none⟩ = some (.int .i64 t) := e0
  have e1' : w6.drew.cell? ⟨w.heap.size + 1, 1, none⟩ = some (.int .i64 n) := e1
  have f0' : w6.drew.cell? ⟨w.heap.size + 1 + 1, 0, none⟩ = some (.int .i64 t) := f0
  have f1' : w6.drew.cell? ⟨w.heap.size + 1 + 1, 1, none⟩ = some (.int .i64 n) := f1
  refine bodyPost_ret (v := .tuple #[.pointer (some ⟨g, 0, none⟩), .agg #[.int .i64 t, .int .i64 n], .agg #[.int .i64 t, .int .i64 n]]) ?_ rfl ⟨g, b, rfl, hgw, hbw', hM4.drewN 1, below_drewN hbw4 1⟩
  simp [results, Try.results9, go_sem, e0', e1', f0', f1', e0, e1, f0, f1]
end Go.Proofs.Ytljgmbebgihonaa
