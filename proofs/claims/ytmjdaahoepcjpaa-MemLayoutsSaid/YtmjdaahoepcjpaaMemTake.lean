/- The law MemLayouts: its closure. -/
import Derived.Test.YtmjdaahoepcjpaaMapB
import Derived.Test.YtmjdaahoepcjpaaLay
import Derived.Test.YtmjdaahoepcjpaaMemAt
namespace Go.Proofs.Ytmjdaahoepcjpaa
open Go.RowKit
set_option maxHeartbeats 2000000

/-- What the closure has: where the map's, the layout's and the number's variables stand; what is seen, how many. -/
structure Takes (w : World) (sb mb lb cb n : Nat) (f : Int → Bool) (t m many : Int) : Prop where
  seen : Blk w sb 43 #[.map (some mb)]
  map : MapB w mb n f
  lay : Blk w lb 23 #[.int .i64 t, .int .i64 m]
  cnt : Blk w cb 3 #[.int .i64 many]

theorem Takes.below {w w' : World} {sb mb lb cb n : Nat} {f : Int → Bool} {t m many : Int} (h : Takes w sb mb lb cb n f t m many) (hb : Below w.heap.size w w') : Takes w' sb mb lb cb n f t m many :=
  ⟨h.seen.below hb h.seen.lt, h.map.below_ hb, h.lay.below hb h.lay.lt, h.cnt.below hb h.cnt.lt⟩
theorem Takes.drewN {w : World} {sb mb lb cb n : Nat} {f : Int → Bool} {t m many : Int} (h : Takes w sb mb lb cb n f t m many) (k : Nat) : Takes (w.drewN k) sb mb lb cb n f t m many := ⟨h.seen, h.map, h.lay, h.cnt⟩

theorem Takes.cast {w : World} {sb mb lb cb n : Nat} {f g : Int → Bool} {t m many many' : Int} (h : Takes w sb mb lb cb n f t m many) (hf : ∀ k, f k = g k) (hc : many = many') : Takes w sb mb lb cb n g t m many' :=
  ⟨h.seen, h.map.congr hf, h.lay, hc ▸ h.cnt⟩

/-- What is seen behind one more. -/
def andSeen (f : Int → Bool) (a : Int) : Int → Bool := fun k => if k = a then true else f k

theorem take_yes (w : World) (sb mb lb cb n : Nat) (f : Int → Bool) (t m many a : Int) (h : Takes w sb mb lb cb n f t m many) (ht : 0 ≤ t ∧ t ≤ 1000) (hm : 0 ≤ m ∧ m ≤ 1000) (hn : n ≤ 1000000) (hc : 0 ≤ many ∧ many ≤ 1000000)
    (ha : 0 < a) (ha2 : a < 6 + 2 * m + 5 * t) (hf : f a = false) :
    Calls Try.prog 20 #[.int .i64 a, .pointer (some ⟨sb, 0, none⟩), .pointer (some ⟨lb, 0, none⟩), .pointer (some ⟨cb, 0, none⟩)] w fun e w' =>
      e = .returned (.bool true) ∧ Takes w' sb mb lb cb (n + 1) (andSeen f a) t m (many + 1) ∧ Touch (two mb cb) w w' := by
  obtain ⟨hS, hM, hL, hC⟩ := h
  have n1 := hM.ne_blk hS
  have n2 := hM.ne_blk hL
  have n3 := hM.ne_blk hC
  have n4 : cb ≠ sb := by
    intro e; subst e
    have h1 : w.heap[cb]? = some (.cells #[.int .i64 many] 3 (0, 0)) := hC
    have h2 : w.heap[cb]? = some (.cells #[.map (some mb)] 43 (0, 0)) := hS
    rw [h1] at h2; simp at h2
  have n5 : cb ≠ lb := by
    intro e; subst e
    have h1 : w.heap[cb]? = some (.cells #[.int .i64 many] 3 (0, 0)) := hC
    have h2 : w.heap[cb]? = some (.cells #[.int .i64 t, .int .i64 m] 23 (0, 0)) := hL
    rw [h1] at h2; simp at h2
  have s0 := hS.cell 0
  simp at s0
  have c0 := hC.cell 0
  simp at c0
  have cf := hC.frozen
  obtain ⟨l0, l1, _⟩ := hL.two
  have hai : i64 a := by unfold i64; omega
  have hlook := hM.look a hai
  rw [hf] at hlook
  obtain ⟨t0, t1⟩ := ht
  obtain ⟨m0, m1⟩ := hm
  obtain ⟨q0, q1⟩ := hc
  have HF := hid hf
  clear hf
  go_enter Try.func20, Try.ntmps20
  go_wp2_with fail
  refine (size_any t m ⟨m0, m1⟩ ⟨t0, t1⟩ w).mono ?_
  rintro e w1 ⟨rfl, hb1⟩
  replace hS := hS.below hb1 hS.lt
  replace hM := hM.below_ hb1
  replace hL := hL.below hb1 hL.lt
  replace hC := hC.below hb1 hC.lt
  clear s0 c0 cf l0 l1 hlook
  have s0 := hS.cell 0
  simp at s0
  go_wp2_with (at_mapUpdate; refine wpList_put_b rfl _ _ _ rfl mb n f rfl hM hn _ _ rfl rfl hai ?_)
  intro w2 hM2 hT2
  have T1 : Touch (two mb cb) w w2 := (Touch.of_below hb1).trans (hT2.mono (fun _ _ e => Or.inl e))
  replace hS := hS.touch hT2 (Ne.symm n1)
  replace hL := hL.touch hT2 (Ne.symm n2)
  replace hC := hC.touch hT2 (Ne.symm n3)
  clear hM s0 hT2 hb1
  have c0 := hC.cell 0
  simp at c0
  have cf := hC.frozen
  have hC3 := hC.set_ 0 (.int .i64 (many + 1))
  simp at hC3
  have hS3 := hS.far (p := ⟨cb, 0, none⟩) (Ne.symm n4) (.int .i64 (many + 1))
  have hL3 := hL.far (p := ⟨cb, 0, none⟩) (Ne.symm n5) (.int .i64 (many + 1))
  have hM3 := hM2.far (p := ⟨cb, 0, none⟩) n3 (.int .i64 (many + 1))
  have T3 : Touch (two mb cb) w (w2.setCell ⟨cb, 0, none⟩ (.int .i64 (many + 1))) := T1.setCell (p := ⟨cb, 0, none⟩) (fun _ => Or.inr rfl) _
  clear hC hS hL hM2 T1
  go_wp2
  go_ret
  exact ⟨by simp [ha2], ⟨hS3, hM3.congr (fun c => by unfold andSeen; by_cases e : c = a <;> simp [e]), hL3, hC3⟩, T3⟩
end Go.Proofs.Ytmjdaahoepcjpaa
