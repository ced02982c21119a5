/- slices.Clone of words of 64 bits. -/
import Derived.Test.YtljgmbebgihonaaSlicesEq
import Derived.WalkSpells
namespace Go.Proofs.Ytljgmbebgihonaa
set_option maxRecDepth 100000
open Go.RowKit
set_option maxHeartbeats 1000000

theorem info_u64 : (Try.prog.info? 48).map (fun i => (i.zero, i.size, i.bytes)) = some (some (.int .u64 0), 1, 8) := by kernel_rfl

theorem ownsRow_ge {w : World} {base : Nat} {e : TypeId} {size : Nat} {v : Value} {n k : Nat} {xs : List Value} (h : w.ownsRow base e size v n xs) (hk : v.ownBlock = some k) : base ≤ k := by
  rcases h.2 with ⟨rfl, _⟩ | ⟨g, cap, cur, rfl, hg, _⟩
  · simp [Value.ownBlock] at hk
  · simp [Value.ownBlock] at hk; omega

theorem clone_any (b : Nat) (l : List Int) (c : Nat) (w : World) (h0 : 0 < l.length) (hl : l.length ≤ 1000000) (hR : RdI w .u64 (some ⟨b, 0, none⟩) l) :
    Calls Try.prog 41 #[.slice (some ⟨b, 0, none⟩) l.length c] w fun e w' =>
      ∃ b' sp, e = .returned (.slice (some ⟨b', 0, none⟩) l.length (l.length + sp.length)) ∧ w.heap.size ≤ b' ∧ Blk w' b' 48 (l.map (Value.int .u64) ++ sp).toArray ∧ Below w.heap.size w w' := by
  obtain ⟨i0, hi, hz0, hz1, hz2⟩ := info_parts info_u64
  have hcell : ∀ j u, (l.map (Value.int .u64))[j]? = some u → (w.alloc (.cells #[] 48)).cell? ((⟨b, 0, none⟩ : Addr).add j) = some u := by
    intro j u hu
    obtain ⟨b1, o1, e1, hb1, hc1⟩ := hR.resolve_left (fun h => by subst h; simp at h0)
    simp at e1
    obtain ⟨rfl, rfl⟩ := e1
    have hj : j < l.length := by
      rw [List.getElem?_eq_some_iff] at hu; simpa using hu.1
    have := hc1 j hj
    have hb2 : ((⟨b, 0, none⟩ : Addr).add j).block < w.heap.size := by rw [Addr.add_lit]; exact hb1
    rw [((Below.refl w.heap.size w).alloc (Nat.le_refl _) _).cell (p := (⟨b, 0, none⟩ : Addr).add j) hb2]
    simp [List.getElem?_map, hj] at hu
    rw [Addr.add_lit]
    simp [List.getD, hj] at this ⊢
    rw [this, ← hu]
  have hown : (w.alloc (.cells #[] 48)).ownsRow w.heap.size 48 1 (.slice (some ⟨w.heap.size, 0, none⟩) 0 0) 0 [] := ⟨rfl, Or.inr ⟨w.heap.size, 0, #[], rfl, Nat.le_refl _, Blk.new _ _ _, Nat.le_refl _, by unfold maxLen; omega, rfl, rfl⟩⟩
  have HC := hid hcell
  clear hcell hR
  have hnn : ∀ (w : World), (binOp .eql 22 (.slice (some ⟨b, 0, none⟩) l.length c) (.slice none 0 0)).run Try.prog w = .ok (.bool false) w := fun w => Lib.run_eql_slice_nil w _ _ _ _ _ _ _ Try.underlying22
  go_enter Try.func41, Try.ntmps41
  go_wp2_with (at_builtin; refine wpList_append_own _ rfl _ _ 22 rfl w.heap.size 48 i0 (.int .u64 0) 1 8 Try.underlying22 hi hz0 hz1 hz2 rfl (by decide) _ _ _ rfl hown ⟨b, 0, none⟩ l.length c (l.map (Value.int .u64)) rfl ?c0 ?c1 ?c2 ?c3 ?c4 ?c5 ?_)
  case c0 => simp
  case c1 => exact HC.out
  case c2 => simp [Value.oneCell']
  case c3 => unfold maxLen; omega
  case c4 => omega
  case c5 => simp
  intro v' w' hown' hgrow hnil
  have hbw := ((Below.refl w.heap.size w).alloc (Nat.le_refl _) (.cells #[] 48)).grown hgrow (by simp) (fun k hk => ownsRow_ge hown hk)
  obtain ⟨g, cap, cur, rfl, hg, hB, hn, _, hcs, ht⟩ := hown'.2.resolve_left (fun h => hnil h.1)
  have HB := hid hB
  have HT := hid ht
  clear hB ht hnil hgrow hown hown'
  go_wp2
  go_ret
  refine ⟨g, cur.toList.drop l.length, ?_, hg, ?_, hbw⟩
  · simp at hcs
    simp [hcs]; omega
  · have h1 := HT.out
    simp at h1
    have h2 : l.map (Value.int .u64) ++ cur.toList.drop l.length = cur.toList := by rw [← h1]; exact List.take_append_drop _ _
    rw [h2]
    exact HB.out
end Go.Proofs.Ytljgmbebgihonaa
