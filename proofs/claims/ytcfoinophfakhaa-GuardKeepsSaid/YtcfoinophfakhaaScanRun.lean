/- mem.Run of a scan, alone. -/
import Derived.Test.YtcfoinophfakhaaScanStep
import Derived.Test.YtcfoinophfakhaaScanRuns
namespace Go.Proofs.Ytcfoinophfakhaa
open Go.RowKit
set_option maxHeartbeats 4000000

/-- A new scan has made nothing yet: it lies so from any block on. -/
theorem ScanAt.raise {w : World} {B B' p : Nat} {t n : Int} {nodes : List Int} (h : ScanAt w B p (SV.new t n nodes)) (hB : B ≤ B') : ScanAt w B' p (SV.new t n nodes) := by
  obtain ⟨kv, fv, ⟨A, cap, sv, gv, k1, k2, k3, k4, k5⟩, hr⟩ := h
  refine ⟨kv, fv, ⟨A, cap, sv, gv, k1, by omega, ?_, ?_, ?_⟩, ?_⟩
  · rcases k3 with h | ⟨nb, L, h1, h2, h3⟩
    · exact Or.inl h
    · exact Or.inr ⟨nb, L, h1, by omega, h3⟩
  · rcases k4 with h | ⟨mb, h1, h2, h4, h3⟩
    · exact Or.inl h
    · exact absurd rfl h4
  · rcases k5 with h | ⟨r, gp, gb, L, h1, _⟩
    · exact Or.inl h
    · simp [SV.new] at h1
  · rcases hr with h | ⟨h, _⟩
    · exact Or.inl h
    · simp [SV.new] at h

theorem slot_not_life (n x : Int) (k : Nat) (hx : 1 ≤ x ∧ x ≤ n) : slotA n k ≠ lifeA n x := by unfold slotA lifeA; omega

/-- What holds between two steps of a scan. -/
structure ScanInv (g b B p : Nat) (t n : Int) (nodes : List Int) (a0 q : Int) (s : MV × SV) (w : World) : Prop where
  mem : MemAt w g b s.1
  at_ : ScanAt w B p s.2
  ok : s.2.ok
  words : s.1.okS t n
  tt : s.2.t = t
  nn : s.2.n = n
  nodes : s.2.nodes = nodes
  lo : a0 ≤ s.1.a
  hi : s.1.a ≤ a0 + q

theorem scan_step (g b B p : Nat) (t n : Int) (nodes : List Int) (a0 : Int) (ha : 0 ≤ a0 ∧ a0 ≤ 1000000000) (hnodes : ∀ x ∈ nodes, 1 ≤ x ∧ x ≤ n) (q : Int) (hq : 0 ≤ q ∧ q ≤ 1000000) (s : MV × SV) (w : World) (hI : ScanInv g b B p t n nodes a0 q s w) (hB : B ≤ w.heap.size) :
    Calls Try.prog 22 #[.pointer (some ⟨p, 0, none⟩), .pointer (some ⟨g, 0, none⟩)] w fun e w' => e = .returned (.bool (sstepF 0 s).2) ∧ ScanInv g b B p t n nodes a0 (q + 1) (sstepF 0 s).1 w' ∧ Touch (scanS B g b p) w w' := by
  obtain ⟨V, S⟩ := s
  obtain ⟨i1, i2, i3, i4, i5, i6, i7, i8, i9⟩ := hI
  simp only at i1 i2 i3 i4 i5 i6 i7 i8 i9
  subst i5 i6 i7
  refine (sstep_any B g b p V S w i1 (by unfold actsOk; omega) i2 i3 i4 hB).mono ?_
  rintro e w' ⟨rfl, m1, m2, m3⟩
  have ht := SV.step_tn V S
  have hs := SV.step_a V S
  refine ⟨rfl, ⟨m1, m2, SV.step_ok _ _ i3, ⟨fun k hk => ?_⟩, ht.1, ht.2.1, ht.2.2, by show a0 ≤ (SV.step V S).1.a; omega, by show (SV.step V S).1.a ≤ _; omega⟩, m3⟩
  show 0 ≤ (SV.step V S).1.at _ ∧ (SV.step V S).1.at _ < _
  rw [SV.step_at V S _ (fun x hx => slot_not_life _ _ _ (hnodes x hx)) i3]
  exact i4.word k hk

theorem run_scan (g b p rb B0 : Nat) (V : MV) (t n most : Int) (nodes : List Int) (cap : Nat) (w : World) (h : layR t n) (hM : MemAt w g b V) (hS : ScanAt w B0 p (SV.new t n nodes)) (hB0 : B0 ≤ w.heap.size) (hR : Blk w rb 74 #[.iface 40 (.pointer (some ⟨p, 0, none⟩))])
    (hV : V.okS t n) (hnodes : ∀ x ∈ nodes, 1 ≤ x ∧ x ≤ n) (hlen : nodes.length ≤ 1000) (ha : 0 ≤ V.a ∧ V.a ≤ 1000000000) (h1 : most ≤ 1000000) (h2 : 2 * t + (freedOf nodes (toldOf V t n)).length ≤ most) :
    Calls Try.prog 17 #[.pointer (some ⟨g, 0, none⟩), .int .i64 most, .slice (some ⟨rb, 0, none⟩) 1 cap] w fun e w' =>
      ∃ V' S', e = .returned (.tuple #[.int .i64 (2 * t + (freedOf nodes (toldOf V t n)).length), .bool true]) ∧ MemAt w' g b V' ∧ ScanAt w' w.heap.size p S' ∧ S'.t = t ∧ S'.n = n ∧ S'.nodes = nodes ∧ S'.ended = true ∧ S'.told = toldOf V t n ∧
        Gave V V' n (freedOf nodes (toldOf V t n)) (2 * t + (freedOf nodes (toldOf V t n)).length) ∧ Touch (three g b p) w w' := by
  obtain ⟨l1, l2, l3, l4⟩ := id h
  have hrun := scan_runs t n most nodes (2 * t).toNat V (SV.new t n nodes) 0 rfl rfl rfl (by simp only [SV.new, List.length_nil]; omega) (by omega) rfl rfl
  have htold : (SV.new t n nodes).told ++ (List.range (2 * t).toNat).map (fun i => V.at (slotA n ((SV.new t n nodes).told.length + i))) = toldOf V t n := by simp [SV.new, toldOf]
  have e2 : (((2 * t).toNat : Nat) : Int) = 2 * t := by omega
  rw [htold, e2, Int.zero_add] at hrun
  obtain ⟨V1, S1, r1, r2, r3, r4, r5, r6, r7⟩ := hrun (by omega)
  have hpB : p < B0 := by obtain ⟨_, _, ⟨_, _, _, _, _, k2, _⟩, _⟩ := id hS; exact k2
  have hpblk : ∃ C, Blk w p 49 C := by obtain ⟨_, _, ⟨_, _, _, _, k1, _⟩, _⟩ := id hS; exact ⟨_, k1⟩
  obtain ⟨C, hC⟩ := hpblk
  have hrg : rb ≠ g := hR.ne hM.mem (by decide)
  have hrb : rb ≠ b := hR.ne hM.words (by decide)
  have hrp : rb ≠ p := hR.ne hC (by decide)
  have hI0 : ScanInv g b w.heap.size p t n nodes V.a 0 (V, SV.new t n nodes) w := ⟨hM, hS.raise hB0, SV.new_ok t n nodes h hlen (fun x hx => by have := hnodes x hx; omega), hV, rfl, rfl, rfl, Int.le_refl _, by show V.a ≤ V.a + 0; omega⟩
  refine (run_any (ScanInv g b w.heap.size p t n nodes V.a) (scanS w.heap.size g b p) sstepF 1 most (V1, S1) (2 * t + (freedOf nodes (toldOf V t n)).length) true w 40 22 [p] rfl (.pointer (some ⟨g, 0, none⟩)) (some ⟨rb, 0, none⟩) rb cap (by omega) (by omega) (V, SV.new t n nodes)
    (fun N a w => by kernel_rfl) (fun _ _ => enters_f Try.func22 (by kernel_rfl) rfl _ _) (Or.inr rfl)
    (fun k hk => by
      obtain rfl : k = 0 := by omega
      rw [hR.cell]; rfl)
    (fun _ => hR.lt) (fun _ hc => by
      rcases hc with (h | h) | h | h
      · exact hrg h
      · exact hrb h
      · exact hrp h
      · exact absurd hR.lt (by omega))
    (fun k q s w' hk hq0 hq1 hI hT => by
      obtain rfl : k = 0 := by omega
      exact scan_step g b w.heap.size p t n nodes V.a ha hnodes q ⟨hq0, by omega⟩ s w' hI hT.size)
    hI0 r1).mono ?_
  rintro e w' ⟨rfl, hI, hT⟩
  exact ⟨V1, S1, rfl, hI.mem, hI.at_, r2, r3, r4, r5, r6, r7, hT.mono (fun k hk hs => by
    rcases hs with h | h | h
    · exact Or.inl h
    · exact Or.inr h
    · omega)⟩
end Go.Proofs.Ytcfoinophfakhaa
