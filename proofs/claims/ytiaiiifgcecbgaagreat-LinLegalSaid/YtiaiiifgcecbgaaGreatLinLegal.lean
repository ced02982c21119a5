/- The law LinLegal. -/
import Derived.Test.YtiaiiifgcecbgaaGreatRefLeast
import Derived.Test.YtiaiiifgcecbgaaGreatLinMake
import Derived.Test.YtiaiiifgcecbgaaGreatGW
import Derived.Test.YtiaiiifgcecbgaaGreatLinBehind
import Derived.Test.YtiaiiifgcecbgaaGreatGY
set_option linter.all false
namespace Go.Proofs.YtiaiiifgcecbgaaGreat
open Go.RowKit Go.Sort
set_option maxHeartbeats 4000000
set_option maxRecDepth 100000
theorem linlegal_walk (s : Int) (A : Option Addr) (l : List Ev) (cap : Nat) (Ao : Option Addr) (o : List Int) (co : Nat) (hco : o.length ≤ co) (w : World) (hrd : RdE w A l) (hro : RdI w .i64 Ao o) :
    Calls Tryz.prog 4 #[.int .i64 s, .slice A l.length cap, .slice Ao o.length co] w fun e w' => e = .returned (.bool true) ∧ Below w.heap.size w w' := by
  have haw := l9awake_any w
  have HR := hid hrd
  have HRO := hid hro
  clear hrd hro
  by_cases hlen : l.length ≤ 60 ∧ o.length ≤ 20
  · obtain ⟨hl60, ho20⟩ := hlen
    have hmake := fun w1 (hb : Below w.heap.size w w1) => make_any w1 A l cap hl60 (HR.out.below hb (Nat.le_refl _))
    unfold MkPost at hmake
    have HMK := hid hmake
    clear hmake
    generalize l.length = m at *
    generalize hoo : o.length = q at *
    have HQ := hid hoo
    clear hoo
    have g1 : decide ((m : Int) > 60) = false := decide_eq_false (by omega)
    have g1' : decide ((60 : Int) < (m : Int)) = false := decide_eq_false (by omega)
    have g2 : decide ((q : Int) > 20) = false := decide_eq_false (by omega)
    have g2' : decide ((20 : Int) < (q : Int)) = false := decide_eq_false (by omega)
    go_enter Tryz.func4, Tryz.ntmps4
    go_upto_region 6 with (first
      | (go_at_call 5; (with_reducible refine haw.mono ?_); rintro e w1 ⟨rfl, hb1⟩; have hmk := HMK.out w1 hb1)
      | (go_at_call 6; (with_reducible refine hmk.mono ?_); rintro e w2 ⟨h, u, v, D, rfl, hA2, hD2, hraw, hDl, hb2⟩))
    obtain ⟨A2, c2, rfl, hrd2⟩ := RefRow.rde hD2
    have hcalls := rcalls_any A2 D c2 w2 (by omega) hrd2
    have HB2 := hid (hb1.trans (hb2.mono hb1.size))
    have HA2 := hid hA2
    have HRAW := hid hraw
    have hDm : (D.map Ev.bare).length ≤ 60 := by rw [List.length_map]; omega
    clear haw hb1 hb2 hD2 hrd2 hA2 hmk g1 g1' g2 g2'
    go_upto_region 7 with (go_at_call 7; (with_reducible refine hcalls.mono ?_); rintro e w3 ⟨u3, rfl, hU3, hb3⟩; obtain ⟨A3, c3, rfl, _⟩ := hU3.out (fun _ => rfl))
    have HA3 := hid (HA2.out.below hb3)
    have HB3 := hid (HB2.out.trans (hb3.mono HB2.out.size))
    have HU3 := hid hU3
    have HSAME := hid hraw.same
    have hcl : (callsL D).length ≤ 60 := by have := hraw.clen; omega
    have HO3 : Hid (∀ w9, Below w3.heap.size w3 w9 → RdI w9 .i64 Ao o) := fun w9 hb => rdi_below HRO.out (HB3.out.trans (hb.mono HB3.out.size))
    clear hcalls hb3 hU3 hraw
    by_cases hs : 1 ≤ s ∧ s ≤ 4
    · have HS := hid hs
      have hbeh := behind_any w3 _ h v (D.map Ev.bare) s Ao o co HA3.out hs (by rw [HSAME.out]; omega) (HO3.out w3 (Below.refl _ _)) (by rw [HQ.out]; omega)
      unfold BehPost at hbeh
      rw [HSAME.out, HQ.out] at hbeh
      have hrl := fun w4 (hb : Below w3.heap.size w3 w4) => rlegal_any w4 _ _ s (callsL D) Ao o co (HU3.out.below hb) (by omega) (HO3.out w4 hb) (by rw [HQ.out]; exact hco) (by rw [HQ.out]; omega) hs
      have hlg := fun w5 (hb : Below w3.heap.size w3 w5) => legal_any w5 _ h v (D.map Ev.bare) s Ao o co (HA3.out.below hb) hs (by rw [HSAME.out]; omega) (HO3.out w5 hb) (by rw [HQ.out]; omega)
      have HRL := hid hrl
      have HLG := hid hlg
      clear hrl hlg hs
      by_cases hleg : legalM s (callsL D) o
      · have HLE := hid hleg
        clear hleg
        have hops := fun w6 (hb : Below w3.heap.size w3 w6) => rops_any w6 _ _ (callsL D) Ao o co (HU3.out.below hb) (HO3.out w6 hb) (by rw [HQ.out]; omega) (fitsAll_mem HLE.out.1).2
        have hopl : (opsM (callsL D) o).length ≤ 100000 := by unfold opsM; rw [List.length_map, HQ.out]; omega
        have hri : refItems s (opsM (callsL D) o) = itemsM s (callsL D) o := ref_items s HS.out _ (fits_right HLE.out.1)
        have hil : (itemsM s (callsL D) o).length ≤ 1000000 := by have := items_le s (callsL D) o; rw [HQ.out] at this; omega
        have HOPS := hid hops
        have HRI := hid hri
        clear hops hri
        go_wp2_with (first
          | (go_at_call 12; (with_reducible refine hbeh.mono ?_); rintro e w4 ⟨v4, b4, rfl, hb4, hc4⟩; obtain ⟨rfl, _, hR4⟩ := hc4.resolve_right (fun h => h.2.2 HLE.out)
             have hrl4 := (HRL.out w4 hb4).mono (fun e w' hp => hp.is true ⟨fun _ => HLE.out, fun _ => rfl⟩)
             rw [HQ.out] at hrl4)
          | (go_at_call 13; (with_reducible refine hrl4.mono ?_); rintro e w5 ⟨rfl, hb5⟩; have hb35 : Below w3.heap.size w3 w5 := hb4.trans (hb5.mono hb4.size)
             have hlg5 := (HLG.out w5 hb35).mono (fun e w' hp => hp.is true ⟨fun _ => by rw [HSAME.out]; exact HLE.out, fun _ => rfl⟩)
             rw [HQ.out] at hlg5)
          | (go_at_call 14; (with_reducible refine hlg5.mono ?_); rintro e w6 ⟨rfl, hb6⟩; have hb36 : Below w3.heap.size w3 w6 := hb35.trans (hb6.mono hb35.size)
             have hop6 := HOPS.out w6 hb36
             rw [HQ.out] at hop6)
          | (go_at_call 16; (with_reducible refine hop6.mono ?_); rintro e w7 ⟨u7, rfl, hD7, hb7⟩; obtain ⟨A7, c7, rfl, hrd7, hle7, hlm7⟩ := OpRow.rdk hD7
             have hb37 : Below w3.heap.size w3 w7 := hb36.trans (hb7.mono hb36.size)
             have hit7 := ritems_any s A7 (opsM (callsL D) o) c7 w7 hopl hle7 hlm7 hrd7
             unfold Gives at hit7
             rw [HRI.out] at hit7)
          | (go_at_call 15; (with_reducible refine hit7.mono ?_); rintro e w8 ⟨A8, c8, rfl, hrd8, hb8⟩
             have hb38 : Below w3.heap.size w3 w8 := hb37.trans (hb8.mono hb37.size)
             have hb48 : Below w4.heap.size w4 w8 := hb5.trans ((hb6.trans ((hb7.trans (hb8.mono hb7.size)).mono hb6.size)).mono hb5.size)
             obtain ⟨A4, c4, rfl, hrd4⟩ := (hR4.below hb48).rdi
             have hin := ints_any A4 A8 (itemsM s (callsL D) o) (itemsM s (callsL D) o) c4 c8 w8 hil hil hrd4 hrd8
             simp only [decide_true] at hin)
          | (go_at_call 11; (with_reducible refine hin.mono ?_); rintro e w9 ⟨rfl, hb9⟩))
        go_ret
        exact ⟨rfl, HB3.out.trans ((hb38.trans (hb9.mono hb38.size)).mono HB3.out.size)⟩
      · have HLE := hid hleg
        clear hleg
        go_wp2_with (first
          | (go_at_call 12; (with_reducible refine hbeh.mono ?_); rintro e w4 ⟨v4, b4, rfl, hb4, hc4⟩; obtain ⟨rfl, rfl, _⟩ := hc4.resolve_left (fun h => HLE.out h.2.1)
             have hrl4 := (HRL.out w4 hb4).mono (fun e w' hp => hp.is false ⟨fun h => by simp at h, fun h => absurd h HLE.out⟩)
             rw [HQ.out] at hrl4)
          | (go_at_call 13; (with_reducible refine hrl4.mono ?_); rintro e w5 ⟨rfl, hb5⟩; have hb35 : Below w3.heap.size w3 w5 := hb4.trans (hb5.mono hb4.size)
             have hlg5 := (HLG.out w5 hb35).mono (fun e w' hp => hp.is false ⟨fun h => by simp at h, fun h => by rw [HSAME.out] at h; exact absurd h HLE.out⟩)
             rw [HQ.out] at hlg5)
          | (go_at_call 14; (with_reducible refine hlg5.mono ?_); rintro e w6 ⟨rfl, hb6⟩; have hb36 : Below w3.heap.size w3 w6 := hb35.trans (hb6.mono hb35.size)))
        go_ret
        exact ⟨rfl, HB3.out.trans (hb36.mono HB3.out.size)⟩
    · have hbeh := behind_shape w3 ⟨h, 0, none⟩ s hs (.slice Ao q co)
      have hrl := fun w4 => rlegal_shape w4 (.slice A3 (callsL D).length c3) (.slice Ao q co) s hs
      have hlg := fun w5 => legal_shape w5 ⟨h, 0, none⟩ s hs (.slice Ao q co)
      clear hs
      go_wp2_with (first
        | (go_at_call 12; (with_reducible refine hbeh.mono ?_); rintro e w4 ⟨rfl, hb4⟩)
        | (go_at_call 13; (with_reducible refine (hrl _).mono ?_); rintro e w5 ⟨rfl, rfl⟩)
        | (go_at_call 14; (with_reducible refine (hlg _).mono ?_); rintro e w6 ⟨rfl, hb6⟩))
      go_ret
      exact ⟨rfl, HB3.out.trans ((hb4.trans (hb6.mono hb4.size)).mono HB3.out.size)⟩
  · generalize l.length = m at *
    generalize o.length = q at *
    by_cases h60 : m ≤ 60
    · have g1 : decide ((m : Int) > 60) = false := decide_eq_false (by omega)
      have g1' : decide ((60 : Int) < (m : Int)) = false := decide_eq_false (by omega)
      have g2 : decide ((q : Int) > 20) = true := decide_eq_true (by omega)
      have g2' : decide ((20 : Int) < (q : Int)) = true := decide_eq_true (by omega)
      go_enter Tryz.func4, Tryz.ntmps4
      go_wp2_with (go_at_call 5; (with_reducible refine haw.mono ?_); rintro e w1 ⟨rfl, hb1⟩)
      go_ret
      exact ⟨rfl, hb1⟩
    · have g1 : decide ((m : Int) > 60) = true := decide_eq_true (by omega)
      have g1' : decide ((60 : Int) < (m : Int)) = true := decide_eq_true (by omega)
      go_enter Tryz.func4, Tryz.ntmps4
      go_wp2_with (go_at_call 5; (with_reducible refine haw.mono ?_); rintro e w1 ⟨rfl, hb1⟩)
      go_ret
      exact ⟨rfl, hb1⟩
end Go.Proofs.YtiaiiifgcecbgaaGreat
