/- Package spec: Copy. -/
import Derived.Test.YtibbbbgalhekoaaSpecRight
namespace Go.Proofs.Ytibbbbgalhekoaa
open Go.RowKit Go.Sort
set_option maxHeartbeats 4000000

theorem scopy_any (w : World) (B s : Nat) (sh : Int) (v : Value) (l : List Int) (h : SpecAt w B s sh v l) (hl : l.length ≤ 1000000) :
    Calls Try.prog 21 #[.pointer (some ⟨s, 0, none⟩)] w fun e w' => ∃ s' v', e = .returned (.pointer (some ⟨s', 0, none⟩)) ∧ SpecAt w' w.heap.size s' sh v' l ∧ Below w.heap.size w w' := by
  obtain ⟨c0, c1, cf⟩ := h.blk.two
  have hit := sitems_any w.drew B s sh v l (h.drewN 1) hl
  go_enter Try.func21, Try.ntmps21
  go_wp2_with fail
  go_region_held3 (fun w' => w'.cell? ⟨s, 1, none⟩ = some (.int .i64 sh))
    (first | go_keep | exact d1 | (refine cell_alloc_keep ?_ _; assumption))
    (first | (go_at_call 15; (with_reducible refine hit.mono ?_); rintro e w2 ⟨u, rfl, hU, hb2⟩; obtain ⟨A', cap', rfl, _⟩ := hU.rdi; have hA2 := (h.drewN 1).below hb2; obtain ⟨d0, d1, df⟩ := hA2.blk.two))
  rename_i hheld
  clear hheld
  have hw2 : Below w.heap.size w w2 := ⟨hb2.os, hb2.tape, hb2.output, hb2.size, hb2.block⟩
  have hs2 := hw2.size
  have hN : Blk (w2.alloc (.cells #[.slice A' l.length cap', .int .i64 sh] 33)) w2.heap.size 33 #[.slice A' l.length cap', .int .i64 sh] := Blk.new _ _ _
  have hU3 := hU.alloc (.cells #[.slice A' l.length cap', .int .i64 sh] 33)
  have hw3 := hw2.alloc hs2 (.cells #[.slice A' l.length cap', .int .i64 sh] 33)
  clear hb2 hA2 hw2 hit hU
  go_wp2
  go_ret
  exact ⟨_, _, rfl, ⟨hN, hU3, hs2⟩, hw3⟩

end Go.Proofs.Ytibbbbgalhekoaa
