/- The laws ClearTells and ClearAgain. -/
import Derived.Test.YtljgmbebgihonaaClearAwake
import Derived.Test.YtljgmbebgihonaaClearLaw
import Derived.Test.YtljgmbebgihonaaRef10
import Derived.Test.YtljgmbebgihonaaRefFields
namespace Go.Proofs.Ytljgmbebgihonaa
set_option maxRecDepth 100000
open Go.RowKit Go.Sort
set_option maxHeartbeats 8000000

theorem tells_walk (a b ad : Int) (A : Option Addr) (l : List Int) (cap : Nat) (ha : 0 ≤ a ∧ a ≤ 255) (hb : 0 ≤ b ∧ b ≤ 255) (hlc : l.length ≤ cap) (hw : ∀ z ∈ l, u64R z) (w : World) (hR : RdI w .u64 A l) :
    Calls Try.prog 4 #[.agg #[.int .u8 a, .int .u8 b, .slice A l.length cap], .int .i64 ad] w fun e w' => e = .returned (.bool true) ∧ Below w.heap.size w w' := by
  have hb0 := (Below.refl w.heap.size w).alloc (Nat.le_refl _) (.cells #[.int .u8 a, .int .u8 b, .slice A l.length cap] 24)
  have hX0 := Blk.new w 24 #[.int .u8 a, .int .u8 b, .slice A l.length cap]
  have hgr := fun W => great_any a b A none l.length 0 cap 0 W
  obtain ⟨gr, hgr2⟩ : ∃ gr, gr = decide (60 < l.length ∨ 60 < 0) := ⟨_, rfl⟩
  rw [← hgr2] at hgr
  have hmem := fun (W : World) (hB : Below w.heap.size w W) (hl : l.length ≤ 60) => world_any a b (1 + a % 4) (1 + b % 12) A l cap ha hb rfl rfl (by omega) hlc W (hR.keep hB (Nat.le_refl _))
  have hlay : layR (1 + a % 4) (1 + b % 12) := by unfold layR; omega
  have hVf := worldV_facts (1 + a % 4) (1 + b % 12) l hlay hw
  obtain ⟨t, ht⟩ : ∃ t, t = 1 + a % 4 := ⟨_, rfl⟩
  obtain ⟨n, hn⟩ : ∃ n, n = 1 + b % 12 := ⟨_, rfl⟩
  rw [← ht, ← hn] at hmem hlay hVf
  have HMEM := hid hmem
  have HVF := hid hVf
  have HLAY := hid hlay
  have HG := hid hgr2
  clear hmem hVf hlay hw hR ha hb ht hn hgr2
  go_enter Try.func4, Try.ntmps4
  go_wp2_with fail
  refine (cawake_any _).mono ?_
  rintro e w1 ⟨rfl, hb1⟩
  have hbw1 := hb0.trans (hb1.mono hb0.size)
  have hX1 := hX0.below hb1 hX0.lt
  clear hb0 hX0 hb1
  obtain ⟨x0, x1, x2, xf⟩ := hX1.three
  go_wp2_with fail
  refine (hgr _).mono ?_
  rintro e w2 ⟨rfl, hb2⟩
  have hbw2 := hbw1.trans (hb2.mono hbw1.size)
  have hX2 := hX1.below hb2 hX1.lt
  clear hbw1 hX1 hb2 x0 x1 x2 xf hgr
  obtain ⟨x0, x1, x2, xf⟩ := hX2.three
  cases hgb : gr
  case true =>
    go_wp2
    go_ret
    exact ⟨rfl, hbw2⟩
  case false =>
  have hgn := HG.out
  rw [hgb] at hgn
  replace hgn := of_decide_eq_false hgn.symm
  have HGN : Hid (l.length ≤ 60) := hid (by omega)
  clear hgn hgb HG
  go_wp2_with fail
  refine (HMEM.out _ hbw2 HGN.out).mono ?_
  rintro e w3 ⟨g, b', rfl, hg, hbb, hM, hb3⟩
  have hbw3 := hbw2.trans (hb3.mono hbw2.size)
  clear hbw2 hX2 hb3 hg hbb x0 x1 x2 xf HMEM
  have hM4 := (hM.alloc (.cells #[.int .i64 t, .int .i64 n] 30)).alloc (.cells #[.int .i64 t, .int .i64 n] 31)
  have hbw4 := (hbw3.alloc hbw3.size (.cells #[.int .i64 t, .int .i64 n] 30)).alloc (by have := hbw3.size; simp; omega) (.cells #[.int .i64 t, .int .i64 n] 31)
  have hpg : ∀ w : World, (binOp .eql 28 (.pointer (some ⟨g, 0, none⟩)) (.pointer none)).run Try.prog w = .ok (.bool false) w := fun w => ptr_eql_right g 0 w
  obtain ⟨V, hVV⟩ : ∃ V, V = worldV t n l := ⟨_, rfl⟩
  rw [← hVV] at hM4 HVF
  have hok := HVF.out.1 ad
  have hlen := HVF.out.2.2.1
  have hlay := HLAY.out
  unfold layR at hlay
  clear hM hbw3 hVV
  go_upto_region 8 with (fail)
  generalize (w3.alloc (.cells #[.int .i64 t, .int .i64 n] 30)).alloc (.cells #[.int .i64 t, .int .i64 n] 31) = w4 at *
  have hcp := copy_any g b' V w4 hM4 (by omega) (by omega)
  have hcl := fun W hM => claimedfn_any g b' V ad W hM hok
  have hpk := fun W hM => peek_any g b' V ad W hM
  have hun := fun W => un_any (V.at ad) hok W
  have hac := fun W hM => acts_any g b' V W hM
  rw [HVF.out.2.1] at hac
  have hwb := wcl_bd (V.at ad)
  unfold getV at hun
  have hc' : V.at ad / 1048576 % 32 = wcl (V.at ad) := rfl
  rw [hc'] at hun
  unfold byN byB at hcl
  have hsm := fun W g' b'' sp hM hC => same_any g b' g' b'' V (V.copy sp) W hM hC (by omega)
  have hsame : ∀ sp, V.same (V.copy sp) = true := fun sp => decide_eq_true ⟨rfl, rfl, rfl⟩
  generalize V.at ad = x at *
  generalize hcx : wcl x = c at *
  obtain ⟨c0, c1⟩ := hwb
  clear hc' hok hlen hlay hcx
  go_wp2_with fail
  refine hcp.mono ?_
  rintro e w5 ⟨g', b'', sp, rfl, hg', hb'', hC, hb5⟩
  have hM5 := hM4.below_ hb5
  have hbw5 := hbw4.trans (hb5.mono hbw4.size)
  have hsm2 := fun W hM hC => hsm W g' b'' sp hM hC
  rw [hsame sp] at hsm2
  clear hcp hM4 hbw4 hb5 hsm hg' hb''
  by_cases h0 : c = 0
  · have q0 : decide (c ≠ 0) = false := by simp [h0]
    rw [if_pos h0, q0] at hcl
    subst h0
    go_wp2_with fail
    refine (hcl _ hM5).mono ?_
    rintro e w6 ⟨rfl, hb6⟩
    have hM6 := hM5.below_ hb6
    have hC6 := hC.below_ hb6
    have hbw6 := hbw5.trans (hb6.mono hbw5.size)
    go_wp2_with fail
    refine (hpk _ hM6).mono ?_
    rintro e w7 ⟨rfl, hb7⟩
    have hM7 := hM6.below_ hb7
    have hC7 := hC6.below_ hb7
    have hbw7 := hbw6.trans (hb7.mono hbw6.size)
    go_wp2_with fail
    refine (hun _).mono ?_
    rintro e w8 ⟨rfl, hb8⟩
    have hM8 := hM7.below_ hb8
    have hC8 := hC7.below_ hb8
    have hbw8 := hbw7.trans (hb8.mono hbw7.size)
    go_wp2_with fail
    refine (hsm2 _ hM8 hC8).mono ?_
    rintro e w9 ⟨rfl, hb9⟩
    have hM9 := hM8.below_ hb9
    have hbw9 := hbw8.trans (hb9.mono hbw8.size)
    go_wp2_with fail
    refine (hac _ hM9).mono ?_
    rintro e w10 ⟨rfl, hb10⟩
    have hbw10 := hbw9.trans (hb10.mono hbw9.size)
    go_wp2
    go_ret
    exact ⟨by first | rfl | simp, hbw10⟩
  · have q0 : decide (c ≠ 0) = true := by simp [h0]
    have q1 : decide (c > 0) = true := decide_eq_true (by omega)
    have q2 : decide (0 < c) = true := decide_eq_true (by omega)
    have q3 : 0 ≤ c - 1 := by omega
    have q4 : max (c - 1) 0 = c - 1 := by omega
    have q5 : (c - 1 == c - 1) = true := by simp
    rw [if_neg h0, q0] at hcl
    clear h0 q0
    go_wp2_with fail
    refine (hcl _ hM5).mono ?_
    rintro e w6 ⟨rfl, hb6⟩
    have hM6 := hM5.below_ hb6
    have hC6 := hC.below_ hb6
    have hbw6 := hbw5.trans (hb6.mono hbw5.size)
    go_wp2_with fail
    refine (hpk _ hM6).mono ?_
    rintro e w7 ⟨rfl, hb7⟩
    have hM7 := hM6.below_ hb7
    have hC7 := hC6.below_ hb7
    have hbw7 := hbw6.trans (hb7.mono hbw6.size)
    go_wp2_with fail
    refine (hun _).mono ?_
    rintro e w8 ⟨rfl, hb8⟩
    have hM8 := hM7.below_ hb8
    have hC8 := hC7.below_ hb8
    have hbw8 := hbw7.trans (hb8.mono hbw7.size)
    go_wp2_with fail
    refine (hsm2 _ hM8 hC8).mono ?_
    rintro e w9 ⟨rfl, hb9⟩
    have hM9 := hM8.below_ hb9
    have hbw9 := hbw8.trans (hb9.mono hbw8.size)
    go_wp2_with fail
    refine (hac _ hM9).mono ?_
    rintro e w10 ⟨rfl, hb10⟩
    have hbw10 := hbw9.trans (hb10.mono hbw9.size)
    go_wp2
    go_ret
    exact ⟨by first | rfl | simp, hbw10⟩
end Go.Proofs.Ytljgmbebgihonaa
