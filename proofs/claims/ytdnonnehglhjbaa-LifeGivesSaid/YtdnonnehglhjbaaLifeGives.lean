/- The law LifeGives. -/
import Derived.Test.YtdnonnehglhjbaaLifeLaw
import Derived.Test.YtdnonnehglhjbaaLifeGive
import Derived.Test.YtdnonnehglhjbaaMapB
import Derived.Test.YtdnonnehglhjbaaLifeCyc
import Derived.Deep.DeepCutAuto
namespace Go.Proofs.Ytdnonnehglhjbaa
open Go.RowKit Go.Sort
set_option maxHeartbeats 8000000
set_option maxRecDepth 100000

/-- Memory and the map tell the same; so many rounds are done. -/
structure TwoAgree (V : MV) (f : Int → Bool) (n : Int) (j : Nat) : Prop where
  ok : V.okL n
  a : 0 ≤ V.a ∧ V.a ≤ 2 * j
  life : ∀ i, 1 ≤ i → i ≤ n → V.at (lifeA n i) ≤ j
  is : ∀ i, 1 ≤ i → i ≤ n → (f i = true ↔ V.at (lifeA n i) % 2 = 1)

/-- One node's life is one more, and the map tells so. -/
theorem TwoAgree.next {V V' : MV} {f f' : Int → Bool} {n : Int} {j : Nat} (h : TwoAgree V f n j) (x : Int) (hx : 1 ≤ x ∧ x ≤ n) (hlen : V'.ws.length = V.ws.length) (ha : V.a ≤ V'.a ∧ V'.a ≤ V.a + 2)
    (hat : ∀ i, 1 ≤ i → i ≤ n → V'.at (lifeA n i) = if i = x then V.at (lifeA n i) + 1 else V.at (lifeA n i)) (hj : j ≤ 1000000) (hf : ∀ i, f' i = if i = x then !(f i) else f i) : TwoAgree V' f' n (j + 1) := by
  obtain ⟨h1, h2, h3, h4⟩ := h
  refine ⟨⟨fun i a b => (MV.has_of_len hlen).2 (h1.has i a b), fun i a b => ?_⟩, by push_cast; omega, fun i a b => ?_, fun i a b => ?_⟩
  · have hw := h1.word i a b
    have := h3 i a b
    rw [hat i a b]
    unfold u64R at *
    split <;> omega
  · have := h3 i a b
    rw [hat i a b]
    split <;> (push_cast; omega)
  · have := h4 i a b
    rw [hat i a b, hf]
    by_cases e : i = x
    · rw [if_pos e, if_pos e]
      cases hfi : f i
      · rw [hfi] at this
        simp at this ⊢
        omega
      · rw [hfi] at this
        simp at this ⊢
        omega
    · rw [if_neg e, if_neg e]; exact this

def GivesRel (w0 : World) (g b q mb : Nat) (n : Int) (l : List Int) (k : Value) (w : World) : Prop :=
  ∃ (j : Nat) (V : MV) (f : Int → Bool), k = .int .i64 j ∧ j ≤ l.length ∧ Below w0.heap.size w0 w ∧ MemAt w g b V ∧ MapB w mb j f ∧ Blk w q 26 #[.int .i64 2, .int .i64 n] ∧ TwoAgree V f n j

/-- Behind the round's first half. -/
def GivesMid (w0 : World) (g b q mb : Nat) (n : Int) (j : Nat) (x y : Int) (w : World) : Prop :=
  ∃ (V : MV) (f : Int → Bool), Below w0.heap.size w0 w ∧ MemAt w g b V ∧ MapB w mb (j + 1) f ∧ Blk w q 26 #[.int .i64 2, .int .i64 n] ∧ TwoAgree V f n (j + 1) ∧ V.at (lifeA n x) = y + 1

theorem MapB.own_ne {w : World} {b m base n size : Nat} {f : Int → Bool} {e : TypeId} {v : Value} {xs : List Value} (h : MapB w b m f) (ho : w.ownsRow base e size v n xs) : some b ≠ v.ownBlock := by
  intro he
  rcases ho.2 with ⟨rfl, _⟩ | ⟨g', cap, cur, rfl, _, hh, _⟩
  · simp [Value.ownBlock] at he
  · simp [Value.ownBlock] at he
    exact h.ne_blk (show Blk w g' e cur from hh) he

theorem free_not (f g : Int → Bool) : ∀ k : Nat, (∀ i, 1 ≤ i → i ≤ (k : Int) → g i = !(f i)) → (freeL g k).length + (freeL f k).length = k
  | 0, _ => rfl
  | k + 1, h => by
    have ih := free_not f g k (fun i h1 h2 => h i h1 (by push_cast; omega))
    have hk := h ((k + 1 : Nat) : Int) (by omega) (Int.le_refl _)
    simp only [freeL, List.length_append, hk]
    cases f ((k + 1 : Nat) : Int) <;> simp <;> omega
theorem free_all (g : Int → Bool) : ∀ k : Nat, (∀ i, 1 ≤ i → i ≤ (k : Int) → g i = true) → (freeL g k).length = k
  | 0, _ => rfl
  | k + 1, h => by
    have ih := free_all g k (fun i h1 h2 => h i h1 (by push_cast; omega))
    have hk := h ((k + 1 : Nat) : Int) (by omega) (Int.le_refl _)
    simp only [freeL, List.length_append, hk]
    simp; omega

/-- The nodes that the map has, listed. -/
def ListRel (w0 : World) (g b q mb : Nat) (n : Int) (V : MV) (f : Int → Bool) (z m : Nat) (i v : Value) (w : World) : Prop :=
  ∃ c : Nat, i = .int .i64 ((c : Int) + 1) ∧ c ≤ m ∧ w.ownsRow w0.heap.size 3 1 v (freeL f c).length ((freeL f c).map (Value.int .i64)) ∧ (freeL f c = [] → v = .slice none 0 0) ∧
    Below w0.heap.size w0 w ∧ MemAt w g b V ∧ MapB w mb z f ∧ Blk w q 26 #[.int .i64 2, .int .i64 n]

/-- All are given back. -/
def AllRel (w0 : World) (g b q : Nat) (n : Int) (len : Nat) (k ok : Value) (w : World) : Prop :=
  ∃ (V : MV) (kk : Int), k = .int .i64 kk ∧ ok = .bool true ∧ ((len = 0 ∧ kk = 1) ∨ (0 < len ∧ kk = len)) ∧ Below w0.heap.size w0 w ∧ MemAt w g b V ∧ Blk w q 26 #[.int .i64 2, .int .i64 n] ∧
    V.okL n ∧ ∀ i, 1 ≤ i → i ≤ n → V.at (lifeA n i) % 2 = 0

theorem gives_walk (A : Option Addr) (l : List Int) (cap : Nat) (many : Int) (hm : l.length ≤ maxLen) (hw : ∀ z ∈ l, 0 ≤ z ∧ z ≤ 255) (m1 : 0 ≤ many) (m2 : many ≤ 255) (w : World) (hR : RdI w .u8 A l) :
    Calls Try.prog 5 #[.int .u8 many, .slice A l.length cap] w fun e w' => e = .returned (.bool true) ∧ Below w.heap.size w w' := by
  clear hm
  by_cases hlen : l.length ≤ 60
  · have HR := hid hR
    have HW := hid hw
    clear hR hw
    obtain ⟨i0, hi, hz0, hz1, hz2⟩ := info_parts (info_i _ rfl)
    obtain ⟨n, hn⟩ : ∃ n : Int, n = 1 + many % 40 := ⟨_, rfl⟩
    have hnb : 1 ≤ n ∧ n ≤ 40 := by omega
    obtain ⟨n1, n2⟩ := hnb
    have hlay : layR 2 n := by unfold layR; omega
    have HN := hid hn
    clear hn
    go_enter Try.func5, Try.ntmps5
    go_wp2_with fail
    refine (lawake_any _).mono ?_
    rintro e w1 ⟨rfl, hb1⟩
    go_wp2_with fail
    rw [← HN.out]
    refine (memory_any 2 n none [] 0 hlay (by simp) _ (Or.inl rfl)).mono ?_
    rintro e w2 ⟨g, b, V, rfl, hg, hb, hM, hL, hb2⟩
    have hV := hL.okL hlay (fun z hz => by simp at hz)
    have hlv : ∀ i, 1 ≤ i → i ≤ n → V.at (lifeA n i) = 0 := fun i h1 h2 => by rw [hL.life i h1 h2]; simp
    have hbw := hb1.trans (hb2.mono hb1.size)
    have hVa := hL.a
    have s1 := hb1.size
    have hgw : w.heap.size ≤ g := by omega
    have hbw' : w.heap.size ≤ b := by omega
    have hag : TwoAgree V (fun _ => false) n 0 := ⟨hV, by simp at hVa; omega, fun i h1 h2 => by rw [hlv i h1 h2]; simp, fun i h1 h2 => by rw [hlv i h1 h2]; simp⟩
    have HAG := hid hag
    have hgl := hM.mem.lt
    have hbl := hM.words.lt
    have hs2 := hbw.size
    have hbw2 := (hbw.alloc hs2 (.cells #[.int .i64 2, .int .i64 n] 26)).alloc (by simp; omega) (.map #[] 0)
    have hM2 := (hM.alloc (.cells #[.int .i64 2, .int .i64 n] 26)).alloc (.map #[] 0)
    have hB2 := (Blk.new w2 26 #[.int .i64 2, .int .i64 n]).alloc (.map #[] 0)
    have hP2 := MapB.made (w2.alloc (.cells #[.int .i64 2, .int .i64 n] 26))
    rw [World.size_alloc] at hP2
    clear hg hb hb1 hb2 s1 hL hV hlv hVa hag hM hbw
    have hmm := @run_makeMap Try.prog
    go_wp2
    clear hmm
    generalize (w2.alloc (.cells #[.int .i64 2, .int .i64 n] 26)).alloc (.map #[] 0) = w3 at *
    generalize w2.heap.size = q at *
    go_loopw [39] (fun k wr => GivesRel w g b q (q + 1) n l k wr) (fun k _ => l.length - (intOf k).toNat)
    case atStart => exact ⟨0, V, _, rfl, Nat.zero_le _, hbw2, hM2, hP2, hB2, HAG.out⟩
    case round =>
      clear hbw2 hM2 hP2 hB2
      obtain ⟨j, V1, f, rfl, hj, hbw, hM, hP, hB, hag⟩ := hrel
      have hsz := hbw.size
      by_cases hlt : j < l.length
      · obtain ⟨bb, off, rfl, hbb, hcell⟩ := HR.out.resolve_left (fun h => by subst h; simp at hlt)
        have xj := hcell j hlt
        rw [← hbw.cell (p := ⟨bb, off + j, none⟩) hbb] at xj
        have hzj := HW.out (l.getD j 0) (by rw [List.getD_eq_getElem?_getD, List.getElem?_eq_getElem hlt]; exact List.getElem_mem hlt)
        clear hcell
        generalize l.getD j 0 = z at *
        obtain ⟨z0, z1⟩ := hzj
        have htm : z.tmod n = z % n := Int.tmod_eq_emod_of_nonneg z0
        have hy0 := Int.emod_nonneg z (show n ≠ 0 by omega)
        have hy1 := Int.emod_lt_of_pos z (show 0 < n by omega)
        obtain ⟨c0, c1, cf⟩ := hB.two
        go_wp2_with fail
        obtain ⟨x, hx⟩ : ∃ x, x = 1 + z % n := ⟨_, rfl⟩
        rw [← hx]
        have hx1 : 1 ≤ x ∧ x ≤ n := by omega
        obtain ⟨x1, x2⟩ := hx1
        clear hx htm hy0 hy1 xj
        refine (life_any 2 n x ⟨by omega, by omega⟩ ⟨by omega, by omega⟩ (by unfold smallI; omega) _).mono ?_
        rintro e w5 ⟨rfl, hb5⟩
        replace hbw := hbw.trans (hb5.mono hbw.size)
        replace hM := hM.below_ hb5
        replace hP := hP.below_ hb5
        replace hB := hB.below hb5 hB.lt
        clear c0 c1 cf hb5
        obtain ⟨y, hy⟩ : ∃ y, y = V1.at (lifeA n x) := ⟨_, rfl⟩
        have hpk := fun W hM => peek_any g b V1 (lifeA n x) W hM
        rw [← hy] at hpk
        unfold lifeA at hpk
        go_wp2_with fail
        refine (hpk _ hM).mono ?_
        rintro e w6 ⟨rfl, hb6⟩
        replace hbw := hbw.trans (hb6.mono hbw.size)
        replace hM := hM.below_ hb6
        replace hP := hP.below_ hb6
        replace hB := hB.below hb6 hB.lt
        clear hb6 hpk
        have hy1 := hag.life x x1 x2
        have hyw := hag.ok.word x x1 x2
        rw [← hy] at hy1 hyw
        have hyf := hag.is x x1 x2
        rw [← hy] at hyf
        obtain ⟨hy2, hy3⟩ := hyw
        have HAGR := hid hag
        have HYF := hid hyf
        have HY := hid hy
        have hxi : i64 x := by unfold i64; omega
        have hlook := hP.look x hxi
        obtain ⟨B, hBf⟩ : ∃ B, f x = B := ⟨_, rfl⟩
        rw [hBf] at hlook
        have HBF := hid hBf
        have hVa := hag.a
        clear hag hyf hy hBf
        go_upto_if 55 with (fail)
        clear hlook
        have hmbg : q + 1 ≠ g ∧ q + 1 ≠ b := by omega
        have hsz := hbw.size
        go_cut [] (fun wx => GivesMid w g b q (q + 1) n j x y wx)
        case first =>
          obtain ⟨c0, c1, cf⟩ := hB.two
          cases B
          · go_wp2_with fail
            refine (anew_any 2 n x hlay _).mono ?_
            rintro e w7 ⟨p, rfl, hp, hA, hb7⟩
            have hM7 := hM.below_ hb7
            have hB7 := hB.below hb7 hB.lt
            have hP7 := hP.below_ hb7
            have hbw7 := hbw.trans (hb7.mono hsz)
            have hev : V1.at (lifeA n x) % 2 = 0 := by
              have h1 := HYF.out
              rw [HBF.out] at h1
              rw [← HY.out]
              have : ¬ y % 2 = 1 := fun h => by have := h1.2 h; simp at this
              omega
            have hF : firstL (evenB V1 n) (cyc n n.toNat (if 1 ≤ x ∧ x ≤ n then x else 1)) = (x, 2) := by
              rw [if_pos ⟨x1, x2⟩]
              obtain ⟨m, hm⟩ : ∃ m : Nat, n.toNat = m + 1 := ⟨n.toNat - 1, by omega⟩
              rw [hm]
              have : evenB V1 n x = true := decide_eq_true hev
              simp [cyc, firstL, this]
            have hrun := run_take g b p w7.heap.size V1 2 n x 5 1 (w7.alloc (.cells #[.iface 33 (.pointer (some ⟨p, 0, none⟩))] 69)) hlay (hM7.alloc _) (hA.blk.alloc _) (Blk.new _ _ _) HAGR.out.ok ⟨hVa.1, by omega⟩ (by omega) (by rw [hF]; show (2 : Int) ≤ 5; omega)
            rw [hF] at hrun
            simp only at hrun
            have hs7 := hbw7.size
            have hpq : q + 1 < p := by have := hP.lt; omega
            clear hb7 hbw hM hB hP c0 c1 cf hA hF
            go_wp2_with fail
            refine hrun.mono ?_
            rintro e w8 ⟨V8, A8, rfl, hM8, hA8, hgot, hlen8, _, _, ha8, hat8, hT8⟩
            have hbw8 : Below w.heap.size w w8 := (hbw7.alloc hs7 (.cells #[.iface 33 (.pointer (some ⟨p, 0, none⟩))] 69)).trans (hT8.below (fun k hk => by
              rcases hk with (h | h) | h
              · omega
              · omega
              · omega) (by simp; omega))
            have hB8 := (hB7.alloc (.cells #[.iface 33 (.pointer (some ⟨p, 0, none⟩))] 69)).touch hT8 (by rintro ((h | h) | h) <;> omega)
            have hP8 := (hP7.alloc (.cells #[.iface 33 (.pointer (some ⟨p, 0, none⟩))] 69)).touch hT8 (by rintro ((h | h) | h) <;> omega)
            have hA8b := hA8.blk
            rw [hgot] at hA8b
            obtain ⟨d0, d1, d2, d3, d4, d5, d6, d7, df⟩ := hA8b.eight
            have hqx : (x != x) = false := by simp
            have hnext : TwoAgree V8 (fun c => if c = x then true else f c) n (j + 1) := HAGR.out.next x ⟨x1, x2⟩ hlen8 (by omega) (fun i h1 h2 => by
              rw [hat8]
              by_cases e : i = x
              · rw [if_pos ⟨by omega, by rw [e]⟩, if_pos e]
              · rw [if_neg (by unfold lifeA; omega), if_neg e]) (by omega) (fun i => by
              by_cases e : i = x
              · rw [if_pos e, if_pos e, e, HBF.out]; rfl
              · rw [if_neg e, if_neg e])
            have hyy : V8.at (lifeA n x) = y + 1 := by rw [hat8, if_pos ⟨by omega, rfl⟩, HY.out]
            have HNX := hid hnext
            have HYY := hid hyy
            clear hrun hgot hlen8 hat8 hT8 hB7 hP7 hM7 hbw7 hA8b hA8 hnext hyy ha8 hev
            go_wp2_with (at_mapUpdate; refine wpList_put_b rfl _ _ _ rfl (q + 1) j f rfl hP8 (by omega) x true rfl rfl hxi ?_)
            intro w9 hP9 hT9
            have hM9 := hM8.touch hT9 (fun h => by omega) (fun h => by omega)
            have hB9 := hB8.touch hT9 (fun h => by omega)
            have hbw9 := hbw8.trans (hT9.below (fun k h => by omega) hbw8.size)
            have HP9 := hid hP9
            clear hP8 hM8 hB8 hbw8 hT9 d0 d1 d2 d3 d4 d5 d6 d7 df hP9
            go_wp2
            go_meet
            exact ⟨V8, _, hbw9, hM9, HP9.out.congr (g := fun c => if c = x then true else f c) (fun c => by by_cases e : c = x <;> simp [e]), hB9, HNX.out, HYY.out⟩
          · have hsl := Blk.new w6 3 #[.int .i64 x]
            have hbk := back_any 2 n w6.heap.size 0 [x] 1 (w6.alloc (.cells #[.int .i64 x] 3)) (by simp) (by simp) (by simp) (fun i hi => by
              obtain rfl : i = 0 := by simp at hi; omega
              rw [hsl.cell]; rfl)
            have hM6 := hM.alloc (.cells #[.int .i64 x] 3)
            have hB6 := hB.alloc (.cells #[.int .i64 x] 3)
            have hP6 := hP.alloc (.cells #[.int .i64 x] 3)
            have hbw6 := hbw.alloc hsz (.cells #[.int .i64 x] 3)
            have hlt6 : q + 1 < w6.heap.size := hP.lt
            clear hsl hM hB hP hbw
            simp only [List.length_singleton] at hbk
            go_wp2_with fail
            refine hbk.mono ?_
            rintro e w7 ⟨p, nb, L, rfl, hp, hnb, hG, hb7⟩
            have hp6 : w6.heap.size < p := by simp at hp; omega
            have hM7 := hM6.below_ hb7
            have hB7 := hB6.below hb7 hB6.lt
            have hP7 := hP6.below_ hb7
            have hbw7 := hbw6.trans (hb7.mono hbw6.size)
            have hs7 := hbw7.size
            have hG7 : GiveAt (w7.alloc (.cells #[.iface 52 (.pointer (some ⟨p, 0, none⟩))] 69)) p nb L 2 n [x] false := by
              obtain ⟨k1, off, cp, k2, k3, k4⟩ := hG
              exact ⟨k1.alloc _, off, cp, k2, k3.alloc _, k4⟩
            have hrun := run_give g b p nb w7.heap.size L V1 2 n 5 [x] 1 (w7.alloc (.cells #[.iface 52 (.pointer (some ⟨p, 0, none⟩))] 69)) hlay (by simp) (by simp) (fun i hi => by simp at hi; subst hi; unfold smallI; omega) (hM7.alloc _) hG7 (Blk.new _ _ _) ⟨hVa.1, by omega⟩ (by omega) (by simp)
            have hga : giveAll n V1 [x] = V1.add (lifeA n x) 1 := rfl
            rw [hga] at hrun
            simp only [List.length_singleton] at hrun
            have hadd := fun i => MV.add_at V1 (lifeA n x) i 1
            have hlen8 := MV.add_len V1 (lifeA n x) 1
            have ha8 := MV.add_a V1 (lifeA n x) 1
            generalize V1.add (lifeA n x) 1 = V8 at *
            have hnext : TwoAgree V8 (fun c => if c = x then false else f c) n (j + 1) := HAGR.out.next x ⟨x1, x2⟩ hlen8 (by omega) (fun i h1 h2 => by
              rw [hadd]
              have hwx := HAGR.out.ok.has x x1 x2
              by_cases e : i = x
              · rw [if_pos ⟨hwx, by rw [e]⟩, if_pos e, ← HY.out, e, ← HY.out]; omega
              · rw [if_neg (by unfold lifeA; omega), if_neg e]) (by omega) (fun i => by
              by_cases e : i = x
              · rw [if_pos e, if_pos e, e, HBF.out]; rfl
              · rw [if_neg e, if_neg e])
            have hyy : V8.at (lifeA n x) = y + 1 := by rw [hadd, if_pos ⟨HAGR.out.ok.has x x1 x2, rfl⟩, ← HY.out]; omega
            have HNX := hid hnext
            have HYY := hid hyy
            clear hbk hG hG7 hb7 hM6 hB6 hP6 hbw6 hadd hlen8 ha8 hnext hyy hga c0 c1 cf
            obtain ⟨c0, c1, cf⟩ := hB7.two
            go_wp2_with fail
            refine hrun.mono ?_
            rintro e w8 ⟨rfl, hM8, hT8⟩
            have hbw8 : Below w.heap.size w w8 := (hbw7.alloc hs7 (.cells #[.iface 52 (.pointer (some ⟨p, 0, none⟩))] 69)).trans (hT8.below (fun k hk => by
              rcases hk with (h | h) | h
              · omega
              · omega
              · omega) (by simp; omega))
            have hB8 := (hB7.alloc (.cells #[.iface 52 (.pointer (some ⟨p, 0, none⟩))] 69)).touch hT8 (by rintro ((h | h) | h) <;> omega)
            have hP8 := (hP7.alloc (.cells #[.iface 52 (.pointer (some ⟨p, 0, none⟩))] 69)).touch hT8 (by rintro ((h | h) | h) <;> omega)
            clear hrun hT8 hB7 hP7 hM7 hbw7 c0 c1 cf
            go_wp2_with (with_reducible refine wpList_drop_b rfl _ _ rfl (q + 1) j f rfl hP8 x rfl hxi ?_)
            intro w9 hP9 hT9
            have hM9 := hM8.touch hT9 (fun h => by omega) (fun h => by omega)
            have hB9 := hB8.touch hT9 (fun h => by omega)
            have hbw9 := hbw8.trans (hT9.below (fun k h => by omega) hbw8.size)
            have HP9 := hid (hP9.mono (Nat.le_succ j))
            clear hP8 hM8 hB8 hbw8 hT9 hP9
            go_wp2
            go_meet
            exact ⟨V8, _, hbw9, hM9, HP9.out.congr (g := fun c => if c = x then false else f c) (fun c => by by_cases e : c = x <;> simp [e]), hB9, HNX.out, HYY.out⟩
        case rest =>
        clear hbw hM hP hB hVa hsz
        obtain ⟨V2, f2, hbw, hM, hP, hB, hag, hyy⟩ := hcut
        obtain ⟨c0, c1, cf⟩ := hB.two
        have hV2 := hag.ok
        have g1 := fun d os => Calls.regrown_of (life_any 2 n x ⟨by omega, by omega⟩ ⟨by omega, by omega⟩ (by unfold smallI; omega) (grow (redrawn wc d) os))
        have g2 := fun d os => Calls.regrown_of (peek_any g b V2 (lifeA n x) (grow (redrawn wc d) os) (hM.below_ (below_regrown wc d os)))
        have g3 := fun d os => Calls.regrown_of (taken_any g b V2 2 n x hlay (by unfold i64s; omega) (grow (redrawn wc d) os) (hM.below_ (below_regrown wc d os)) hV2)
        have g4 := fun d os => (hP.below_ (below_regrown wc d os)).look x hxi
        obtain ⟨B2, hB2⟩ : ∃ B2, f2 x = B2 := ⟨_, rfl⟩
        have htk : decide (1 ≤ x ∧ x ≤ n ∧ V2.at (lifeA n x) % 2 = 1) = B2 := by
          rw [← hB2]
          have := hag.is x x1 x2
          cases hfx : f2 x
          · rw [hfx] at this
            refine decide_eq_false (fun h => by have := this.2 h.2.2; simp at this)
          · exact decide_eq_true ⟨x1, x2, this.1 hfx⟩
        simp only [htk] at g3
        simp only [hyy] at g2
        simp only [hB2] at g4
        unfold lifeA at g2
        have m0 := cell_regrown c0
        have m1' := cell_regrown c1
        have hwa : IntKind.u64.wrap (y + 1) = y + 1 := by rw [IntKind.wrap_u64]; omega
        have hne : (y + 1 != y + 1) = false := by simp
        have hbb2 : (B2 != B2) = false := by cases B2 <;> rfl
        have HAG2 := hid hag
        clear hag hyy hB2 htk hV2
        go_wp2
        refine wp_region_quiet_below (by kernel_rfl) (by kernel_rfl) ?_
        repeat (first | go_big_quiet_step (first | exact g1 _ _ | exact g2 _ _ | exact g3 _ _) | quiet_step (first | exact g1 _ _ | exact g2 _ _ | exact g3 _ _))
        refine wpQuiet_nil ?_
        intro _ hw'
        obtain ⟨⟨dq, osq⟩, hw''⟩ := hw'
        subst hw''
        have hbq := below_regrown wc dq osq
        have hM7 := hM.below_ hbq
        have hB7 := hB.below hbq hB.lt
        have hP7 := hP.below_ hbq
        have hbw7 := hbw.trans (hbq.mono hbw.size)
        clear hbq hM hB hP hbw c0 c1 cf m0 m1' g1 g2 g3 g4
        generalize grow (redrawn wc dq) osq = w7 at *
        go_wp2
        go_roundw
        case rel => exact ⟨j + 1, V2, f2, by go_num, by omega, hbw7, hM7, hP7, hB7, HAG2.out⟩
        case measure => simp [intOf]; omega
      · obtain ⟨m, hmn⟩ : ∃ m : Nat, n = (m : Int) := ⟨n.toNat, by omega⟩
        have hm4 : m ≤ 40 := by omega
        have HMN := hid hmn
        have HAGR := hid hag
        clear hag hmn HAG
        go_wp2
        go_loopw [19, 18] (fun i v wr => ListRel w g b q (q + 1) n V1 f j m i v wr) (fun i _ _ => m + 1 - (intOf i).toNat)
        case atStart => exact ⟨0, rfl, Nat.zero_le _, World.ownsRow_nil _ _ _ _, fun _ => rfl, hbw, hM, hP, hB⟩
        case round =>
          clear hbw hM hP hB hsz
          obtain ⟨c, rfl, hc, hown, hnil, hbw, hM, hP, hB⟩ := hrel
          have hsz := hbw.size
          have hll := freeL_len f c
          by_cases hlt2 : c < m
          · have gk : decide ((c : Int) + 1 ≤ n) = true := decide_eq_true (by have := HMN.out; omega)
            have hlook := hP.look ((c : Int) + 1) (by unfold i64; omega)
            cases hfc : f ((c : Int) + 1)
            · have hfl : freeL f (c + 1) = freeL f c := by
                have : f ((c + 1 : Nat) : Int) = false := by rw [← hfc]; rfl
                simp only [freeL, this]; simp
              rw [hfc] at hlook
              rw [← hfl] at hown hnil
              have HNIL := hid hnil
              have HFC := hid hfc
              clear hfl hfc hnil
              go_wp2
              go_roundw
              case rel => exact ⟨c + 1, by go_num, by omega, hown, HNIL.out, hbw, hM, hP, hB⟩
              case measure => simp [intOf]; omega
            · have hfl : freeL f (c + 1) = freeL f c ++ [(c : Int) + 1] := by
                have : f ((c + 1 : Nat) : Int) = true := by rw [← hfc]; rfl
                simp only [freeL, this]; simp
              rw [hfc] at hlook
              have HL := hid hfl
              have HFC := hid hfc
              clear hfl hfc hnil
              generalize freeL f c = L at *
              go_wp2_with (at_builtin; refine wpList_append_own _ rfl _ _ 42 rfl w.heap.size 3 i0 (.int .i64 0) 1 8 Try.underlying42 hi hz0 hz1 hz2 rfl (by decide) _ _ _ rfl (hown.alloc _) ⟨wr.heap.size, 0, none⟩ 1 1 [.int .i64 ((c : Int) + 1)] rfl rfl ?c1 ?c2 ?c3 ?c4 ?c5 ?_)
              try (case c1 => exact cell_one_new _ _ _)
              case c2 => simp [Value.oneCell']
              case c3 => unfold maxLen; omega
              case c4 => omega
              case c5 => first | omega | (simp; omega)
              intro v' w' hown' hgrow _
              have hown2 := hown.alloc (.cells #[.int .i64 ((c : Int) + 1)] 3)
              have hM2 := hM.alloc (.cells #[.int .i64 ((c : Int) + 1)] 3)
              have hB2 := hB.alloc (.cells #[.int .i64 ((c : Int) + 1)] 3)
              have hP2 := hP.alloc (.cells #[.int .i64 ((c : Int) + 1)] 3)
              have hM' : MemAt w' g b V1 := ⟨hM2.mem.grown hgrow (hM2.mem.own_ne hown2 (by decide)), hM2.words.grown hgrow (hM2.words.own_ne hown2 (by decide)), hM.ne⟩
              have hB' := hB2.grown hgrow (hB2.own_ne hown2 (by decide))
              have hP' := hP2.of_block (hgrow.block (q + 1) hP2.lt (hP2.own_ne hown2))
              have hbw' := (hbw.alloc hsz (.cells #[.int .i64 ((c : Int) + 1)] 3)).grown hgrow (by simp; omega) (fun k hk => ownsRow_ge hown hk)
              clear hown hown2 hgrow hbw hM hB hM2 hB2 hP2 hP hlook
              have hmap : L.map (Value.int .i64) ++ [.int .i64 ((c : Int) + 1)] = (L ++ [(c : Int) + 1]).map (Value.int .i64) := by simp
              have hlen : L.length + 1 = (L ++ [(c : Int) + 1]).length := by simp
              rw [hmap, hlen, ← HL.out] at hown'
              clear hmap hlen
              go_wp2
              go_roundw
              case rel => exact ⟨c + 1, by go_num, by omega, hown', fun h => by rw [HL.out] at h; simp at h, hbw', hM', hP', hB'⟩
              case measure => simp [intOf]; omega
          · obtain rfl : c = m := by omega
            have gk : decide ((c : Int) + 1 ≤ n) = false := decide_eq_false (by have := HMN.out; omega)
            have hcn : n.toNat = c := by have := HMN.out; omega
            have hfree := free_any g b V1 2 n hlay wr hM HAGR.out.ok
            rw [hcn] at hfree
            have hcnt := free_not f (evenB V1 n) c (fun i h1 h2 => by
              have h3 := HAGR.out.is i h1 (by have := HMN.out; omega)
              unfold evenB
              cases hfi : f i
              · rw [hfi] at h3
                refine decide_eq_true ?_
                have : ¬ V1.at (lifeA n i) % 2 = 1 := fun h => by have := h3.2 h; simp at this
                omega
              · have := h3.1 hfi
                exact decide_eq_false (by omega))
            obtain ⟨Lf, hLf⟩ : ∃ Lf, Lf = freeL (evenB V1 n) c := ⟨_, rfl⟩
            rw [← hLf] at hfree hcnt
            obtain ⟨L, hLd⟩ : ∃ L, L = freeL f c := ⟨_, rfl⟩
            rw [← hLd] at hown hnil hcnt hll
            have hLn : L.Nodup := by rw [hLd, freeL_seg]; exact (seg_nodup 1 c).filter f
            have hLm : ∀ i, i ∈ L ↔ 1 ≤ i ∧ i ≤ n ∧ f i = true := fun i => by rw [hLd, freeL_mem, ← HMN.out]
            have HLM := hid hLm
            have HLN := hid hLn
            have HNIL := hid hnil
            have HCNT := hid hcnt
            have hown0 := hown
            obtain ⟨A', rb, cap', rfl, hA', hrb, hcs⟩ := own_slice hown
            have HCS := hid hcs
            have HA' := hid hA'
            have HRB := hid hrb
            clear hLd hLf hnil hcnt hLm hLn hlt2 hlt hi hz0 hz1 hz2 hcs hA' hrb hown
            obtain ⟨c0, c1, cf⟩ := hB.two
            go_wp2_with fail
            refine hfree.mono ?_
            rintro e w5 ⟨v5, rfl, hown5, hb5⟩
            obtain ⟨A5, rb5, cap5, rfl, _, _, _⟩ := own_slice hown5
            replace hbw := hbw.trans (hb5.mono hsz)
            replace hM := hM.below_ hb5
            replace hB := hB.below hb5 hB.lt
            replace hown0 := row_below hown0 hb5
            have hqq := hP.lt
            have hww5 := hb5.size
            clear hfree hown5 c0 c1 cf hP hsz
            have hnn : ((Lf.length : Int) != n - (L.length : Int)) = false := by
              have h1 := HCNT.out
              have h2 := HMN.out
              simp; omega
            have HCS5 := hid (fun i (hi : i < L.length) => (hb5.cell (p := ⟨rb, i, none⟩) (HRB.out (by omega)).2).trans (HCS.out i hi))
            clear hb5
            have hsz := hbw.size
            go_upto_region 34 with (fail)
            go_cut [20, 21] (fun k ok wx => AllRel w g b q n L.length k ok wx)
            case first =>
              obtain ⟨c0, c1, cf⟩ := hB.two
              by_cases hL0 : L.length = 0
              · have hnil := HNIL.out (List.length_eq_zero_iff.1 hL0)
                injection hnil with h1 h2 h3
                subst h1
                subst h3
                clear h2
                have hbk : Calls Try.prog 21 #[.agg #[.int .i64 2, .int .i64 n], .slice none L.length 0] w5 fun e w' => ∃ p, e = .returned (.pointer (some ⟨p, 0, none⟩)) ∧ w5.heap.size ≤ p ∧ Blk w' p 77 #[.int .i64 2, .int .i64 n, .slice none 0 0, .bool false] ∧ Below w5.heap.size w5 w' := by
                  rw [hL0]; exact back_nil 2 n w5
                have HL0 := hid hL0
                clear hL0
                go_wp2_with fail
                refine hbk.mono ?_
                rintro e w7 ⟨p, rfl, hp, hG, hb7⟩
                have hM7 := hM.below_ hb7
                have hB7 := hB.below hb7 hB.lt
                have hbw7 := hbw.trans (hb7.mono hsz)
                have hs7 := hbw7.size
                have hrun := run_give0 g b p w7.heap.size V1 2 n 100 1 (w7.alloc (.cells #[.iface 52 (.pointer (some ⟨p, 0, none⟩))] 69)) (hM7.alloc _) (hG.alloc _) (Blk.new _ _ _) ⟨HAGR.out.a.1, by have := HAGR.out.a.2; omega⟩ (by omega)
                have hld := fun i => MV.load_at V1 0 i
                have hlen8 := MV.load_len V1 0
                generalize V1.load 0 = V8 at *
                have hok8 : V8.okL n := ⟨fun i h1 h2 => (MV.has_of_len hlen8).2 (HAGR.out.ok.has i h1 h2), fun i h1 h2 => by rw [hld]; exact HAGR.out.ok.word i h1 h2⟩
                have hev8 : ∀ i, 1 ≤ i → i ≤ n → V8.at (lifeA n i) % 2 = 0 := fun i h1 h2 => by
                  rw [hld]
                  have h3 := HAGR.out.is i h1 h2
                  have h4 : ¬ f i = true := fun h => by
                    have := (HLM.out i).2 ⟨h1, h2, h⟩
                    rw [List.length_eq_zero_iff.1 HL0.out] at this
                    simp at this
                  have : ¬ V1.at (lifeA n i) % 2 = 1 := fun h => h4 (h3.2 h)
                  omega
                have HE8 := hid hev8
                have HO8 := hid hok8
                clear hbk hM hB hbw hb7 hG hM7 hld hlen8 hev8 hok8 c0 c1 cf
                obtain ⟨c0, c1, cf⟩ := hB7.two
                go_wp2_with fail
                refine hrun.mono ?_
                rintro e w8 ⟨rfl, hM8, hT8⟩
                have hbw8 : Below w.heap.size w w8 := (hbw7.alloc hs7 (.cells #[.iface 52 (.pointer (some ⟨p, 0, none⟩))] 69)).trans (hT8.below (fun k hk => by
                  rcases hk with (h | h) | h
                  · omega
                  · omega
                  · omega) (by simp; omega))
                have hB8 := (hB7.alloc (.cells #[.iface 52 (.pointer (some ⟨p, 0, none⟩))] 69)).touch hT8 (by rintro ((h | h) | h) <;> omega)
                go_wp2
                go_meet
                exact ⟨V8, 1, rfl, rfl, Or.inl ⟨HL0.out, rfl⟩, hbw8, hM8, hB8, HO8.out, HE8.out⟩
              · obtain rfl := HA'.out.resolve_left hL0
                have hbk := back_any 2 n rb 0 L cap' w5 (by omega) (by omega) (by have := (HRB.out (by omega)).2; omega) (fun i hi => by
                  rw [Nat.zero_add, HCS5.out i hi]; simp [List.getElem?_map, List.getD, hi])
                have hLpos : 0 < L.length := by omega
                have hLL : 1 ≤ L.length ∧ L.length ≤ 40 := by omega
                clear hL0
                go_wp2_with fail
                refine hbk.mono ?_
                rintro e w7 ⟨p, nb, LL, rfl, hp, hnb, hG, hb7⟩
                have hM7 := hM.below_ hb7
                have hB7 := hB.below hb7 hB.lt
                have hbw7 := hbw.trans (hb7.mono hsz)
                have hs7 := hbw7.size
                have hG7 : GiveAt (w7.alloc (.cells #[.iface 52 (.pointer (some ⟨p, 0, none⟩))] 69)) p nb LL 2 n L false := by
                  obtain ⟨k1, off, cp, k2, k3, k4⟩ := hG
                  exact ⟨k1.alloc _, off, cp, k2, k3.alloc _, k4⟩
                have hrun := run_give g b p nb w7.heap.size LL V1 2 n 100 L 1 (w7.alloc (.cells #[.iface 52 (.pointer (some ⟨p, 0, none⟩))] 69)) hlay hLpos (by omega) (fun i hi => by have := (HLM.out i).1 hi; unfold smallI; omega) (hM7.alloc _) hG7 (Blk.new _ _ _) ⟨HAGR.out.a.1, by have := HAGR.out.a.2; omega⟩ (by omega) (by omega)
                obtain ⟨f1, f2, f3, f4⟩ := giveAll_facts n L V1
                generalize giveAll n V1 L = V8 at *
                have hat8 : ∀ i, 1 ≤ i → i ≤ n → V8.at (lifeA n i) = if f i = true then (V1.at (lifeA n i) + 1) % 18446744073709551616 else V1.at (lifeA n i) := fun i h1 h2 => by
                  by_cases hfi : f i = true
                  · rw [if_pos hfi]
                    exact f4 HLN.out i ((HLM.out i).2 ⟨h1, h2, hfi⟩) (HAGR.out.ok.has i h1 h2)
                  · rw [if_neg hfi]
                    refine f3 i (fun hc => ?_)
                    obtain ⟨y, hy, hyi⟩ := List.mem_map.1 hc
                    have : y = i := by unfold lifeA at hyi; omega
                    exact hfi ((HLM.out i).1 (this ▸ hy)).2.2
                have hok8 : V8.okL n := ⟨fun i h1 h2 => (MV.has_of_len f1).2 (HAGR.out.ok.has i h1 h2), fun i h1 h2 => by
                  rw [hat8 i h1 h2]
                  have := HAGR.out.ok.word i h1 h2
                  unfold u64R at *
                  split <;> omega⟩
                have hev8 : ∀ i, 1 ≤ i → i ≤ n → V8.at (lifeA n i) % 2 = 0 := fun i h1 h2 => by
                  rw [hat8 i h1 h2]
                  have h3 := HAGR.out.is i h1 h2
                  by_cases hfi : f i = true
                  · rw [if_pos hfi]
                    have := h3.1 hfi
                    omega
                  · rw [if_neg hfi]
                    have : ¬ V1.at (lifeA n i) % 2 = 1 := fun h => hfi (h3.2 h)
                    omega
                have HE8 := hid hev8
                have HO8 := hid hok8
                clear hbk hM hB hbw hb7 hG hG7 hM7 f1 f2 f3 f4 hat8 hev8 hok8 c0 c1 cf
                obtain ⟨c0, c1, cf⟩ := hB7.two
                go_wp2_with fail
                refine hrun.mono ?_
                rintro e w8 ⟨rfl, hM8, hT8⟩
                have hbw8 : Below w.heap.size w w8 := (hbw7.alloc hs7 (.cells #[.iface 52 (.pointer (some ⟨p, 0, none⟩))] 69)).trans (hT8.below (fun k hk => by
                  rcases hk with (h | h) | h
                  · omega
                  · omega
                  · omega) (by simp; omega))
                have hB8 := (hB7.alloc (.cells #[.iface 52 (.pointer (some ⟨p, 0, none⟩))] 69)).touch hT8 (by rintro ((h | h) | h) <;> omega)
                go_wp2
                go_meet
                exact ⟨V8, L.length, rfl, rfl, Or.inr ⟨hLpos, rfl⟩, hbw8, hM8, hB8, HO8.out, HE8.out⟩
            case rest =>
            clear hbw hM hB hsz hnn
            obtain ⟨V8, kk, rfl, rfl, hkk, hbw, hM, hB, hok, hev⟩ := hcut
            have hfr := fun W hM => free_any g b V8 2 n hlay W hM hok
            have hall := free_all (evenB V8 n) c (fun i h1 h2 => decide_eq_true (hev i h1 (by have := HMN.out; omega)))
            rw [hcn] at hfr
            have ht0 := fun W hM => taken_any g b V8 2 n 0 hlay (by unfold i64s; omega) W hM hok
            have ht1 := fun W hM => taken_any g b V8 2 n (n + 1) hlay (by unfold i64s; omega) W hM hok
            have hd0 : decide (1 ≤ (0 : Int) ∧ (0 : Int) ≤ n ∧ V8.at (lifeA n 0) % 2 = 1) = false := decide_eq_false (fun h => by omega)
            have hd1 : decide (1 ≤ n + 1 ∧ n + 1 ≤ n ∧ V8.at (lifeA n (n + 1)) % 2 = 1) = false := decide_eq_false (fun h => by omega)
            rw [hd0] at ht0
            rw [hd1] at ht1
            obtain ⟨c0, c1, cf⟩ := hB.two
            have hkq : ∀ a : Int, a = kk → (kk == a) = true := fun a h => beq_iff_eq.2 h.symm
            generalize freeL (evenB V8 n) c = L8 at *
            have hq8 : ((L8.length : Int) == n) = true := beq_iff_eq.2 (by have := HMN.out; omega)
            have HALL := hid hall
            clear hall hd0 hd1 hev hok
            rcases hkk with ⟨hk0, rfl⟩ | ⟨hk0, rfl⟩
            · rw [hk0]
              go_wp2_with fail
              refine (hfr _ hM).mono ?_
              rintro e w6 ⟨v6, rfl, hown6, hb6⟩
              obtain ⟨A6, rb6, cap6, rfl, _, _, _⟩ := own_slice hown6
              replace hbw := hbw.trans (hb6.mono hbw.size)
              replace hM := hM.below_ hb6
              replace hB := hB.below hb6 hB.lt
              clear c0 c1 cf hown6 hfr hb6
              obtain ⟨c0, c1, cf⟩ := hB.two
              go_wp2_with fail
              refine (ht0 _ hM).mono ?_
              rintro e w7 ⟨rfl, hb7⟩
              replace hbw := hbw.trans (hb7.mono hbw.size)
              replace hM := hM.below_ hb7
              replace hB := hB.below hb7 hB.lt
              clear c0 c1 cf ht0 hb7
              obtain ⟨c0, c1, cf⟩ := hB.two
              go_wp2_with fail
              refine (ht1 _ hM).mono ?_
              rintro e w8 ⟨rfl, hb8⟩
              replace hbw := hbw.trans (hb8.mono hbw.size)
              go_wp2
              go_ret
              exact ⟨by first | rfl | simp, hbw⟩
            · have hq1 : ((L.length : Int) == (L.length : Int)) = true := by simp
              have hge : decide ((L.length : Int) < 1) = false := decide_eq_false (by omega)
              have hge2 : decide ((1 : Int) ≤ (L.length : Int)) = true := decide_eq_true (by omega)
              go_wp2_with fail
              refine (hfr _ hM).mono ?_
              rintro e w6 ⟨v6, rfl, hown6, hb6⟩
              obtain ⟨A6, rb6, cap6, rfl, _, _, _⟩ := own_slice hown6
              replace hbw := hbw.trans (hb6.mono hbw.size)
              replace hM := hM.below_ hb6
              replace hB := hB.below hb6 hB.lt
              clear c0 c1 cf hown6 hfr hb6
              obtain ⟨c0, c1, cf⟩ := hB.two
              go_wp2_with fail
              refine (ht0 _ hM).mono ?_
              rintro e w7 ⟨rfl, hb7⟩
              replace hbw := hbw.trans (hb7.mono hbw.size)
              replace hM := hM.below_ hb7
              replace hB := hB.below hb7 hB.lt
              clear c0 c1 cf ht0 hb7
              obtain ⟨c0, c1, cf⟩ := hB.two
              go_wp2_with fail
              refine (ht1 _ hM).mono ?_
              rintro e w8 ⟨rfl, hb8⟩
              replace hbw := hbw.trans (hb8.mono hbw.size)
              go_wp2
              go_ret
              exact ⟨by first | rfl | simp, hbw⟩
  · clear hR
    go_enter Try.func5, Try.ntmps5
    go_wp2_with fail
    refine (lawake_any _).mono ?_
    rintro e w1 ⟨rfl, hb1⟩
    go_wp2
    go_ret
    exact ⟨rfl, hb1⟩
end Go.Proofs.Ytdnonnehglhjbaa
