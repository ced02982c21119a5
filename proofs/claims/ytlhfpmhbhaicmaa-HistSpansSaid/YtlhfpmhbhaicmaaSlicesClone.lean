/- slices.Clone of words of 64 bits. -/
import Derived.Test.YtlhfpmhbhaicmaaSlicesEq
import Derived.WalkSpells
namespace Go.Proofs.Ytlhfpmhbhaicmaa
open Go.RowKit
set_option maxHeartbeats 1000000

theorem ownsRow_ge {w : World} {base : Nat} {e : TypeId} {size : Nat} {v : Value} {n k : Nat} {xs : List Value} (h : w.ownsRow base e size v n xs) (hk : v.ownBlock = some k) : base ≤ k := by
  rcases h.2 with ⟨rfl, _⟩ | ⟨g, cap, cur, rfl, hg, _⟩
  · simp [Value.ownBlock] at hk
  · simp [Value.ownBlock] at hk; omega

end Go.Proofs.Ytlhfpmhbhaicmaa
