/- The law ClearFollows. -/
import Derived.Test.YtljgmbebgihonaaWatchRun
import Derived.Test.YtljgmbebgihonaaTapeClear
import Derived.Test.YtljgmbebgihonaaClearAwake
import Derived.Test.YtljgmbebgihonaaClearLaw
namespace Go.Proofs.Ytljgmbebgihonaa
set_option maxRecDepth 100000
open Go.RowKit Go.Sort
set_option maxHeartbeats 8000000

/-- A machine that clears, in its block. -/
def clearLies (p : Nat) : World → CV → (Nat → Prop) → Prop := fun w C K => ClearAt w p C ∧ ∀ k, K k ↔ k = p
theorem clear_lawful (p : Nat) : Lawful (clearLies p) :=
  ⟨fun S w w' s K h ht hk => ⟨h.1.blk.touch ht (hk p ((h.2 p).2 rfl)), h.2⟩, fun w s K k t l h hk hB => by
    have e := (h.2 k).1 hk
    subst e
    have h1 : w.heap[k]? = some (.cells _ 90 (0, 0)) := h.1
    have h2 : w.heap[k]? = some (.cells l t (0, 0)) := hB
    rw [h1] at h2
    simp at h2
    rw [← h2.2]
    exact ⟨by decide, by decide, by decide, by decide⟩⟩
theorem CV.last_u64 (V : MV) (C : CV) (hV : V.okW) (he : C.ended = false) (hC : C.ok) : u64R (CV.step V C).1.last.o ∧ u64R (CV.step V C).1.last.x := by
  have h0 : u64R 0 := by simp [u64R]
  have hl : ∀ i, u64R (V.load i).last.o ∧ u64R (V.load i).last.x := fun i => by
    unfold MV.load
    split
    · exact ⟨hV _, hV _⟩
    · exact ⟨h0, h0⟩
  have hc : ∀ i o x, u64R x → u64R (V.cas i o x).last.o ∧ u64R (V.cas i o x).last.x := fun i o x hx => by
    unfold MV.cas
    split
    · exact ⟨hV _, hx⟩
    · exact ⟨h0, h0⟩
  have ha := hC.at_
  have he : C.at_ ≠ 4 := of_decide_eq_false he
  unfold CV.step
  split
  · exact hl _
  · split
    · exact hl _
    · split
      · exact hc _ _ _ (wonD_u64 _)
      · split
        · exact hc _ _ _ (freedW_u64 _)
        · omega
theorem clear_okT : ∀ {C : CV} {l : List TA} {b : Bool} {C' : CV}, C.ok → C.ended = false → Log CV.step CV.ended C l b C' → ∀ a ∈ l, u64R a.o ∧ u64R a.x := by
  intro C l b C' hC he h
  induction h with
  | cut => intro a ha; simp at ha
  | @last s V hV h1 => intro a ha; simp at ha; rw [ha]; exact CV.last_u64 V s hV he hC
  | @more s V l b s' hV h1 _ ih =>
    intro a ha
    simp at ha
    rcases ha with ha | ha
    · rw [ha]; exact CV.last_u64 V s hV he hC
    · exact ih (CV.step_ok V s hC hV) h1 a ha

theorem follows_walk (a b ad : Int) (A : Option Addr) (l : List Int) (cap : Nat) (A2 : Option Addr) (pk : List PokeV) (cap2 : Nat) (ha : 0 ≤ a ∧ a ≤ 255) (hb : 0 ≤ b ∧ b ≤ 255) (hlc : l.length ≤ cap) (hw : ∀ z ∈ l, u64R z) (hp : ∀ q ∈ pk, u64R q.x) (w : World) (hR : RdI w .u64 A l) (hR2 : RdS 2 pokeC w A2 pk) :
    Calls Try.prog 3 #[.agg #[.int .u8 a, .int .u8 b, .slice A l.length cap], .int .i64 ad, .slice A2 pk.length cap2] w fun e w' => e = .returned (.bool true) ∧ Below w.heap.size w w' := by
  have hb0 := (Below.refl w.heap.size w).alloc (Nat.le_refl _) (.cells #[.int .u8 a, .int .u8 b, .slice A l.length cap] 24)
  have hX0 := Blk.new w 24 #[.int .u8 a, .int .u8 b, .slice A l.length cap]
  have hgr := fun W => great_any a b A A2 l.length pk.length cap cap2 W
  obtain ⟨gr, hgr2⟩ : ∃ gr, gr = decide (60 < l.length ∨ 60 < pk.length) := ⟨_, rfl⟩
  rw [← hgr2] at hgr
  have hmem := fun (W : World) (hB : Below w.heap.size w W) (hl : l.length ≤ 60) => world_any a b (1 + a % 4) (1 + b % 12) A l cap ha hb rfl rfl (by omega) hlc W (hR.keep hB (Nat.le_refl _))
  have hlay : layR (1 + a % 4) (1 + b % 12) := by unfold layR; omega
  have hVf := worldV_facts (1 + a % 4) (1 + b % 12) l hlay hw
  obtain ⟨t, ht⟩ : ∃ t, t = 1 + a % 4 := ⟨_, rfl⟩
  obtain ⟨n, hn⟩ : ∃ n, n = 1 + b % 12 := ⟨_, rfl⟩
  rw [← ht, ← hn] at hmem hlay hVf
  have HMEM := hid hmem
  have HVF := hid hVf
  have HLAY := hid hlay
  have HW := hid hw
  have HP := hid hp
  have HR2 := hid hR2
  have HG := hid hgr2
  clear hmem hVf hlay hw hp hR hR2 ha hb ht hn hgr2
  go_enter Try.func3, Try.ntmps3
  go_wp2_with fail
  refine (cawake_any _).mono ?_
  rintro e w1 ⟨rfl, hb1⟩
  have hbw1 := hb0.trans (hb1.mono hb0.size)
  have hX1 := hX0.below hb1 hX0.lt
  clear hb0 hX0 hb1
  obtain ⟨x0, x1, x2, xf⟩ := hX1.three
  go_wp2_with fail
  refine (hgr _).mono ?_
  rintro e w2 ⟨rfl, hb2⟩
  have hbw2 := hbw1.trans (hb2.mono hbw1.size)
  have hX2 := hX1.below hb2 hX1.lt
  clear hbw1 hX1 hb2 x0 x1 x2 xf hgr
  obtain ⟨x0, x1, x2, xf⟩ := hX2.three
  cases hgb : gr
  case true =>
    go_wp2
    go_ret
    exact ⟨rfl, hbw2⟩
  case false =>
  have hgn := HG.out
  rw [hgb] at hgn
  replace hgn := of_decide_eq_false hgn.symm
  have HGN : Hid (l.length ≤ 60 ∧ pk.length ≤ 60) := hid ⟨by omega, by omega⟩
  clear hgn hgb HG
  go_wp2_with fail
  refine (HMEM.out _ hbw2 HGN.out.1).mono ?_
  rintro e w3 ⟨g, b', rfl, hg, hbb, hM, hb3⟩
  have hbw3 := hbw2.trans (hb3.mono hbw2.size)
  have hgw : w.heap.size ≤ g := Nat.le_trans hbw2.size hg
  have hbw' : w.heap.size ≤ b' := Nat.le_trans hbw2.size hbb
  clear hbw2 hX2 hb3 hg hbb x0 x1 x2 xf HMEM
  have hM4 := (hM.alloc (.cells #[.int .i64 t, .int .i64 n] 30)).alloc (.cells #[.int .i64 t, .int .i64 n] 31)
  have hY4 := (Blk.new w3 30 #[.int .i64 t, .int .i64 n]).alloc (.cells #[.int .i64 t, .int .i64 n] 31)
  have hL4 := Blk.new1 w3 (.cells #[.int .i64 t, .int .i64 n] 30) 31 #[.int .i64 t, .int .i64 n]
  have hbw4 := (hbw3.alloc hbw3.size (.cells #[.int .i64 t, .int .i64 n] 30)).alloc (by have := hbw3.size; simp; omega) (.cells #[.int .i64 t, .int .i64 n] 31)
  have hpg : ∀ w : World, (binOp .eql 28 (.pointer (some ⟨g, 0, none⟩)) (.pointer none)).run Try.prog w = .ok (.bool false) w := fun w => ptr_eql_right g 0 w
  clear hM hbw3
  go_upto_region 8 with (fail)
  generalize (w3.alloc (.cells #[.int .i64 t, .int .i64 n] 30)).alloc (.cells #[.int .i64 t, .int .i64 n] 31) = w4 at *
  generalize w3.heap.size = lb at *
  obtain ⟨y0, y1, yf⟩ := hY4.two
  go_wp2_with fail
  refine (cnew_any t n ad _).mono ?_
  rintro e w5 ⟨p, rfl, hpw, hC5, hb5⟩
  have hM5 := hM4.below_ hb5
  have hL5 := hL4.below hb5 hL4.lt
  have hbw5 := hbw4.trans (hb5.mono hbw4.size)
  have hpw' : w.heap.size ≤ p := Nat.le_trans hbw4.size hpw
  clear hM4 hL4 hY4 hbw4 hb5 hpw y0 y1 yf
  have hwat := watch_any CV.step CV.ended (fun (V : MV) (C : CV) => V.okW ∧ C.ok) w g b' (CV.new t n ad) 0 (clear_lawful p) 37 25 p A2 pk cap2 10 (by omega) (by have := HGN.out.2; omega) (by omega)
    (fun N a w => by kernel_rfl) (fun _ _ => enters_f Try.func25 (by kernel_rfl) rfl _ _)
    (fun V s h => h.1) (fun V s h he => ⟨CV.step_okW V s h.1, CV.step_ok V s h.2 h.1⟩) (fun q hq V s h => ⟨MV.okW_store h.1 _ _ (HP.out q hq), h.2⟩)
    (fun V s h he => by rw [CV.step_a V s h.2, he]; rfl)
    (fun V s K W h he ha hM hL => by
      refine (cstep_any g b' p V s W hM ha hL.1 h.2 h.1 (hL.1.blk.ne hM.mem (by decide)) (hL.1.blk.ne hM.words (by decide))).mono ?_
      rintro e w' ⟨rfl, m1, m2, m3⟩
      exact ⟨K, rfl, m1, ⟨m2, hL.2⟩, m3.mono (fun k _ hk => hk.imp id (fun e => (hL.2 k).2 e)), fun k hk => Or.inl hk⟩)
    (worldV t n l) (fun k => k = p) w5 hbw5 hM5 (by rw [HVF.out.2.1]; omega) ⟨hC5, fun _ => Iff.rfl⟩ ⟨HVF.out.1, CV.new_ok t n ad HLAY.out⟩ rfl HR2.out ⟨hgw, hbw', fun k e => by rw [e]; exact hpw'⟩
  have HWAT := hid hwat
  clear hwat hpg
  go_wp2_with fail
  refine HWAT.out.mono ?_
  rintro e w6 ⟨en, V, C, K, v, lst, p0, rfl, hM6, _, _, _, _, hT6, hlog, hlen, hb6, hp0, _, htt, _⟩
  have hL6 := hL5.touch htt (by
    rintro ((e | e) | e)
    · exact hL5.ne hM5.mem (by decide) e
    · exact hL5.ne hM5.words (by decide) e
    · exact hL5.ne hC5.blk (by decide) e)
  have hok0 := CV.new_ok t n ad HLAY.out
  have hl4 := clear_len hok0 (by rfl) hlog
  have hokT := clear_okT hok0 (by rfl) hlog
  have hpw0 : w.heap.size ≤ p0 := Nat.le_trans hbw5.size hp0
  cases en
  case false =>
    have := hlen rfl
    simp [CV.new] at hl4
    omega
  case true =>
  have hfit := clear_fits t n ad HLAY.out hlog
  obtain ⟨l0, l1, lf⟩ := hL6.two
  have hcl := rclear_any w6 w5.heap.size p0 v (TV.new lst) t n ad hT6 (fun a ha => hokT a ha) HLAY.out
  generalize clearT (TV.new lst) t n ad = T9 at *
  clear hL5 hM5 hC5 hbw5 htt hok0 hl4 hokT hlen hlog hT6 hp0 HWAT hM6 hL6
  go_wp2_with fail
  refine hcl.mono ?_
  rintro e w7 ⟨rfl, hT7, ht7⟩
  have hb7 : Below w.heap.size w w7 := hb6.trans (ht7.below (fun k hk => by rw [show k = p0 from hk]; exact hpw0) hb6.size)
  have hfi := tfits_any w7 w5.heap.size p0 v T9 true hT7
  rw [hfit] at hfi
  clear hcl hb6 ht7 hT7 hfit l0 l1 lf
  go_wp2_with fail
  refine hfi.mono ?_
  rintro e w8 ⟨rfl, hb8⟩
  have hb9 := hb7.trans (hb8.mono hb7.size)
  go_wp2
  go_ret
  exact ⟨rfl, hb9⟩
end Go.Proofs.Ytljgmbebgihonaa
