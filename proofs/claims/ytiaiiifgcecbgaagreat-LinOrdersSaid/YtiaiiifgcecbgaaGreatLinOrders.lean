/- The law LinOrders. -/
import Derived.Test.YtiaiiifgcecbgaaGreatRefLeast
import Derived.Test.YtiaiiifgcecbgaaGreatLinMake
import Derived.Test.YtiaiiifgcecbgaaGreatGW
set_option linter.all false
namespace Go.Proofs.YtiaiiifgcecbgaaGreat
open Go.RowKit Go.Sort
set_option maxHeartbeats 4000000
set_option maxRecDepth 100000
theorem linorders_walk (s : Int) (A : Option Addr) (l : List Ev) (cap : Nat) (w : World) (hrd : RdE w A l) :
    Calls Tryz.prog 3 #[.int .i64 s, .slice A l.length cap] w fun e w' => e = .returned (.bool true) ∧ Below w.heap.size w w' := by
  have haw := l9awake_any w
  have HR := hid hrd
  clear hrd
  by_cases hlen : l.length ≤ 60
  · have hmake := fun w1 (hb : Below w.heap.size w w1) => make_any w1 A l cap hlen (HR.out.below hb (Nat.le_refl _))
    unfold MkPost at hmake
    have HMK := hid hmake
    clear hmake
    generalize l.length = m at *
    have g1 : decide ((m : Int) > 60) = false := decide_eq_false (by omega)
    have g1' : decide ((60 : Int) < (m : Int)) = false := decide_eq_false (by omega)
    go_enter Tryz.func3, Tryz.ntmps3
    go_upto_region 6 with (first
      | (go_at_call 5; (with_reducible refine haw.mono ?_); rintro e w1 ⟨rfl, hb1⟩; have hmk := HMK.out w1 hb1)
      | (go_at_call 6; (with_reducible refine hmk.mono ?_); rintro e w2 ⟨h, u, v, D, rfl, hA2, hD2, hraw, hDl, hb2⟩))
    obtain ⟨A2, c2, rfl, hrd2⟩ := RefRow.rde hD2
    have hcalls := rcalls_any A2 D c2 w2 (by omega) hrd2
    have HB2 := hid (hb1.trans (hb2.mono hb1.size))
    have HA2 := hid hA2
    have HRAW := hid hraw
    have hDm : (D.map Ev.bare).length ≤ 60 := by rw [List.length_map]; omega
    clear haw hb1 hb2 hD2 hrd2 hA2 hmk g1 g1'
    go_upto_region 7 with (go_at_call 7; (with_reducible refine hcalls.mono ?_); rintro e w3 ⟨u3, rfl, hU3, hb3⟩; obtain ⟨A3, c3, rfl, _⟩ := hU3.out (fun _ => rfl))
    have HA3 := hid (HA2.out.below hb3)
    have HB3 := hid (HB2.out.trans (hb3.mono HB2.out.size))
    have HU3 := hid hU3
    have hsame := hraw.same
    have HSAME := hid hsame
    clear hcalls hb3 hU3 hraw hsame
    by_cases h6 : (callsL D).length ≤ 6
    · have hmt : (callsL (D.map Ev.bare)).length ≤ 24 := by rw [HSAME.out]; omega
      by_cases hs : 1 ≤ s ∧ s ≤ 4
      · have hord := order_any w3 _ h v (D.map Ev.bare) s HA3.out HRAW.out.ok (by omega) hs hmt (fun _ => by rw [HSAME.out]; exact hops_eight (by omega))
        unfold OrdPost at hord
        rw [HSAME.out] at hord
        have hlin := fun w9 (hb : Below w3.heap.size w3 w9) => linear_any w9 _ h v (D.map Ev.bare) s (HA3.out.below hb) HRAW.out.ok (by omega) hs hmt (fun _ => by rw [HSAME.out]; exact hops_eight (by omega))
        unfold LinPost at hlin
        rw [HSAME.out] at hlin
        have hle := fun w4 (hb : Below w3.heap.size w3 w4) => rleast_all s (callsL D) (by omega) ((callsL D).length + 1) w4 _ w4.heap.size _ (.slice none 0 0) [] (HU3.out.below hb) (RowO.none _ _) (Nat.le_refl _) (fitsAll_nil _ _) (by simp)
        unfold RLeastPost at hle
        have HLIN := hid hlin
        have HLE := hid hle
        have HRL : Hid (∀ o, leastM s (callsL D) ((callsL D).length + 1) [] = some o → o.length ≤ (callsL D).length) := fun o h => by
          obtain ⟨p, _, hp⟩ := least_some _ _ _ (fitsAll_nil s (callsL D)) h
          exact fitsAll_len hp.1
        have d1 : decide (s < 1) = false := decide_eq_false (by omega)
        have d2 : decide (s > 4) = false := decide_eq_false (by omega)
        have d2' : decide (4 < s) = false := decide_eq_false (by omega)
        clear hlin hle hmt hs
        generalize hnn : (callsL D).length = n at *
        generalize leastM s (callsL D) (n + 1) [] = R at *
        have g6 : decide ((n : Int) > 6) = false := decide_eq_false (by omega)
        have g6' : decide ((6 : Int) < (n : Int)) = false := decide_eq_false (by omega)
        cases R with
        | none =>
          go_wp2_with (first
            | (go_at_call 8; (with_reducible refine hord.mono ?_); rintro e w4 ⟨v4, b4, rfl, hb4, hc4⟩; obtain ⟨rfl, rfl, _⟩ := hc4.resolve_left (fun h => by obtain ⟨_, o, h2, _⟩ := h; simp at h2)
               have hle4 := HLE.out w4 hb4)
            | (go_at_call 10; (with_reducible refine hle4.mono ?_); rintro e w5 ⟨v5, b5, rfl, hb5, hc5⟩; obtain ⟨rfl, rfl, _⟩ := hc5.resolve_left (fun h => by obtain ⟨_, o, h2, _⟩ := h; simp at h2)
               have hb35 : Below w3.heap.size w3 w5 := hb4.trans (hb5.mono hb4.size)
               have hin := ints_any none none [] [] 0 0 w5 (by simp) (by simp) (Or.inl rfl) (Or.inl rfl)
               rw [show decide (([] : List Int) = []) = true by decide] at hin
               simp only [List.length_nil] at hin)
            | (go_at_call 11; (with_reducible refine hin.mono ?_); rintro e w6 ⟨rfl, hb6⟩; have hb36 : Below w3.heap.size w3 w6 := hb35.trans (hb6.mono hb35.size)
               have hl6 := HLIN.out w6 hb36)
            | (go_at_call 9; (with_reducible refine hl6.mono ?_); rintro e w7 ⟨b7, rfl, hb7, hc7⟩; obtain rfl : b7 = false := by { cases b7; rfl; exact absurd rfl (hc7.1 rfl) }))
          go_ret
          exact ⟨rfl, HB3.out.trans ((hb36.trans (hb7.mono hb36.size)).mono HB3.out.size)⟩
        | some o =>
          go_wp2_with (first
            | (go_at_call 8; (with_reducible refine hord.mono ?_); rintro e w4 ⟨v4, b4, rfl, hb4, hc4⟩; obtain ⟨rfl, o4, ho4, hR4⟩ := hc4.resolve_right (fun h => by simp at h); obtain rfl : o = o4 := by simpa using ho4
               have hle4 := HLE.out w4 hb4)
            | (go_at_call 10; (with_reducible refine hle4.mono ?_); rintro e w5 ⟨v5, b5, rfl, hb5, hc5⟩; obtain ⟨rfl, o5, ho5, hR5⟩ := hc5.resolve_right (fun h => by simp at h); obtain rfl : o = o5 := by simpa using ho5
               have hb35 : Below w3.heap.size w3 w5 := hb4.trans (hb5.mono hb4.size)
               have hol : o.length ≤ 1000000 := by have := HRL.out o rfl; omega
               obtain ⟨A5, c5, rfl, hrd5⟩ := hR5.rdi
               obtain ⟨A4, c4, rfl, hrd4⟩ := (hR4.below hb5).rdi
               have hin := ints_any A4 A5 o o c4 c5 w5 hol hol hrd4 hrd5
               simp only [decide_true] at hin)
            | (go_at_call 11; (with_reducible refine hin.mono ?_); rintro e w6 ⟨rfl, hb6⟩; have hb36 : Below w3.heap.size w3 w6 := hb35.trans (hb6.mono hb35.size)
               have hl6 := HLIN.out w6 hb36)
            | (go_at_call 9; (with_reducible refine hl6.mono ?_); rintro e w7 ⟨b7, rfl, hb7, hc7⟩; obtain rfl : b7 = true := hc7.2 (by simp); clear hc7))
          go_ret
          exact ⟨rfl, HB3.out.trans ((hb36.trans (hb7.mono hb36.size)).mono HB3.out.size)⟩
      · have hord := order_shape w3 (.pointer (some ⟨h, 0, none⟩)) (Or.inl ⟨_, rfl⟩) s hs
        have hlin := fun w9 => linear_of (w := w9) s (.pointer (some ⟨h, 0, none⟩)) 1 rfl (order_shape w9 _ (Or.inl ⟨_, rfl⟩) s hs)
        clear hmt
        generalize hnn : (callsL D).length = n at *
        have g6 : decide ((n : Int) > 6) = false := decide_eq_false (by omega)
        have g6' : decide ((6 : Int) < (n : Int)) = false := decide_eq_false (by omega)
        by_cases h1 : s < 1
        · have d1 : decide (s < 1) = true := decide_eq_true h1
          clear hs h1
          go_wp2_with (first
            | (go_at_call 8; (with_reducible refine hord.mono ?_); rintro e w4 ⟨rfl, hb4⟩)
            | (go_at_call 9; (with_reducible refine (hlin _).mono ?_); rintro e w7 ⟨rfl, hb7⟩))
          go_ret
          exact ⟨rfl, HB3.out.trans ((hb4.trans (hb7.mono hb4.size)).mono HB3.out.size)⟩
        · have d1 : decide (s < 1) = false := decide_eq_false h1
          have d2 : decide (s > 4) = true := decide_eq_true (by omega)
          have d2' : decide (4 < s) = true := decide_eq_true (by omega)
          clear hs h1
          go_wp2_with (first
            | (go_at_call 8; (with_reducible refine hord.mono ?_); rintro e w4 ⟨rfl, hb4⟩)
            | (go_at_call 9; (with_reducible refine (hlin _).mono ?_); rintro e w7 ⟨rfl, hb7⟩))
          go_ret
          exact ⟨rfl, HB3.out.trans ((hb4.trans (hb7.mono hb4.size)).mono HB3.out.size)⟩
    · generalize (callsL D).length = n at *
      have g6 : decide ((n : Int) > 6) = true := decide_eq_true (by omega)
      have g6' : decide ((6 : Int) < (n : Int)) = true := decide_eq_true (by omega)
      go_wp2
      go_ret
      exact ⟨rfl, HB3.out⟩
  · generalize l.length = m at *
    have g1 : decide ((m : Int) > 60) = true := decide_eq_true (by omega)
    have g1' : decide ((60 : Int) < (m : Int)) = true := decide_eq_true (by omega)
    go_enter Tryz.func3, Tryz.ntmps3
    go_wp2_with (go_at_call 5; (with_reducible refine haw.mono ?_); rintro e w1 ⟨rfl, hb1⟩)
    go_ret
    exact ⟨rfl, hb1⟩
end Go.Proofs.YtiaiiifgcecbgaaGreat
