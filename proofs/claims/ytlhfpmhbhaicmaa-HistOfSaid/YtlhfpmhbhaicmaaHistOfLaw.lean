/- The law HistOf (by bin/gen_hof.py). -/
import Derived.Test.YtlhfpmhbhaicmaaHistPlays
namespace Go.Proofs.Ytlhfpmhbhaicmaa
open Go.RowKit Go.Sort
set_option maxHeartbeats 8000000
set_option maxRecDepth 100000

/-- Another list across an append. -/
theorem RowG.beside {α β : Type} {e e' : TypeId} {k k' B B' : Nat} {f : α → List Value} {f' : β → List Value} {w w' : World} {v u : Value} {l : List α} {m : List β} (h : RowG e k f w B v l) (h' : RowG e' k' f' w B' u m) (hne : e' ≠ e) (hT : Touch (fun c => u.ownBlock = some c) w w') : RowG e k f w' B v l :=
  h.touch hT (fun c hc e1 => by
    rcases h'.own.2 with ⟨h1, _⟩ | ⟨g, cp, cur, h1, _, hh, _⟩
    · rw [h1] at e1; simp [Value.ownBlock] at e1
    · rw [h1] at e1; simp [Value.ownBlock] at e1
      subst e1
      exact h.ne (show Blk _ g e' cur from hh) hne _ hc rfl)

structure HOAt (w0 : World) (l : List Ev) (uE uT : Value) (W : Int) (j : Nat) (D : List Ev) (w : World) : Prop where
  ev : EvRow w w0.heap.size uE (l.take j)
  took : RefRow w w0.heap.size uT D
  yes : W = 0 → Hok D ∧ D.length = j ∧ ofL D (l.drop j) = ofL [] l
  no : W ≠ 0 → (ofL [] l).1 = W
  len : D.length ≤ j
  b : Below w0.heap.size w0 w
def HORel (w0 : World) (l : List Ev) (uE uT wv i : Value) (w : World) : Prop :=
  ∃ (j : Nat) (D : List Ev) (W : Int), (j ≤ l.length ∧ i = .int .i64 j ∧ wv = .int .i64 W) ∧ HOAt w0 l uE uT W j D w

theorem hof_walk (A : Option Addr) (l : List Ev) (cap : Nat) (w : World) (hrd : RdE w A l) :
    Calls Try.prog 4 #[.slice A l.length cap] w fun e w' => e = .returned (.bool true) ∧ Below w.heap.size w w' := by
  have HR := hid hrd
  clear hrd
  by_cases h60 : l.length ≤ 60
  · go_enter Try.func4, Try.ntmps4
    go_wp2_with fail
    refine (h8awake_any _).mono ?_
    rintro e w1 ⟨rfl, hb1⟩
    go_wp2
    go_loopw [3, 4, 5, 17] (fun uE uT wv i wr => HORel w l uE uT wv i wr) (fun _ _ _ i _ => l.length - (intOf i).toNat)
    case atStart => exact ⟨0, [], 0, ⟨Nat.zero_le _, rfl, rfl⟩, RowG.none _ _, RowG.none _ _, fun _ => ⟨Hok.nil, rfl, rfl⟩, fun h => absurd rfl h, Nat.le_refl _, hb1⟩
    case round =>
      obtain ⟨j, D, W, ⟨hj, rfl, rfl⟩, hH⟩ := hrel
      clear hb1
      have hbw := hH.b
      have hsz := hbw.size
      by_cases hlt : j < l.length
      · obtain ⟨b1, o1, rfl, -, hc1⟩ := (HR.out.below hbw (Nat.le_refl _)).resolve_left (fun h => by subst h; simp at hlt)
        have hget : l[j]? = some (l.getD j default) := by simp [List.getD, hlt]
        obtain ⟨x0, x1, x2, x3, x4, x5, x6⟩ := hc1 j _ hget
        have htk := take_snocE hget
        have hdr := ofL_drop (acc := D) hget
        have hK := hH.ev
        have hR := hH.took
        have hyes := hH.yes
        have hno := hH.no
        have hDl := hH.len
        have HOWN := hid (fun c hc => (hR.ge c hc).2)
        have hEl : (l.take j).length ≤ 1000000 := by rw [List.length_take]; omega
        clear hc1 hget hH
        generalize l.getD j default = V at *
        obtain ⟨vt, ve, vk, vy, vc, vo, vz⟩ := V
        dsimp only at x0 x1 x2 x3 x4 x5 x6
        have hL := (Blk.new wr 32 #[.int .i64 vt, .bool ve, .int .i64 vk, .int .i64 vy, .int .i64 vc, .bool vo, .int .i64 vz]).alloc (.cells #[.int .i64 vt, .bool ve, .int .i64 vk, .int .i64 vy, .int .i64 vc, .bool vo, .int .i64 vz] 42)
        have hbo := (hbw.alloc hsz (.cells #[.int .i64 vt, .bool ve, .int .i64 vk, .int .i64 vy, .int .i64 vc, .bool vo, .int .i64 vz] 32)).alloc (by simp; omega) (.cells #[.int .i64 vt, .bool ve, .int .i64 vk, .int .i64 vy, .int .i64 vc, .bool vo, .int .i64 vz] 42)
        have hKo := (hK.alloc (.cells #[.int .i64 vt, .bool ve, .int .i64 vk, .int .i64 vy, .int .i64 vc, .bool vo, .int .i64 vz] 32)).alloc (.cells #[.int .i64 vt, .bool ve, .int .i64 vk, .int .i64 vy, .int .i64 vc, .bool vo, .int .i64 vz] 42)
        have hRo := (hR.alloc (.cells #[.int .i64 vt, .bool ve, .int .i64 vk, .int .i64 vy, .int .i64 vc, .bool vo, .int .i64 vz] 32)).alloc (.cells #[.int .i64 vt, .bool ve, .int .i64 vk, .int .i64 vy, .int .i64 vc, .bool vo, .int .i64 vz] 42)
        have hnew := Blk.new1 wr (.cells #[.int .i64 vt, .bool ve, .int .i64 vk, .int .i64 vy, .int .i64 vc, .bool vo, .int .i64 vz] 32) 42 #[.int .i64 vt, .bool ve, .int .i64 vk, .int .i64 vy, .int .i64 vc, .bool vo, .int .i64 vz]
        have hB5 : w.heap.size ≤ ((wr.alloc (.cells #[.int .i64 vt, .bool ve, .int .i64 vk, .int .i64 vy, .int .i64 vc, .bool vo, .int .i64 vz] 32)).alloc (.cells #[.int .i64 vt, .bool ve, .int .i64 vk, .int .i64 vy, .int .i64 vc, .bool vo, .int .i64 vz] 42)).heap.size := hbo.size
        have HF := hid (And.intro htk (And.intro hdr (And.intro hyes (And.intro hno (And.intro hL (And.intro hbo hRo))))))
        clear htk hdr hyes hno hL hbo hRo hK hR hbw
        generalize hTE : l.take j = TE at *
        clear hTE
        go_wp2_with (at_builtin; refine wpList_snocG rfl _ _ 41 rfl Try.underlying41 (.agg #[.int .i64 0, .bool false, .int .i64 0, .int .i64 0, .int .i64 0, .bool false, .int .i64 0]) 56 info_ev rfl (by decide) (by decide) (fun _ => rfl) (by simp [evC, Value.oneCell']) w.heap.size _ TE (wr.heap.size + 1) ⟨vt, ve, vk, vy, vc, vo, vz⟩ rfl rfl hKo 42 hnew hEl hB5 ?_)
        intro uE2 w2 hK2 hT hat
        obtain ⟨htk, hdr, hyes, hno, hL, hbo, hRo⟩ := HF.out
        have hb2 : Below w.heap.size w w2 := hbo.trans (hT.below (fun k hk => (hKo.ge k hk).1) hB5)
        have hR2 := hRo.beside hKo (by decide) hT
        have hL2 := hL.touch hT (fun e => hKo.ne hL (by decide) _ e rfl)
        rw [← htk] at hK2
        clear htk hL hbo hRo HF hT hat hKo hnew hB5 x0 x1 x2 x3 x4 x5 x6
        generalize wr.heap.size + 1 = q1 at *
        generalize wr.heap.size = q0 at *
        by_cases hW : W = 0
        · subst hW
          obtain ⟨hok, hlen, hof⟩ := hyes rfl
          rw [hof] at hdr
          obtain ⟨A3, cap3, rfl, hrd3⟩ := RefRow.rde hR2
          have her := rerror_any A3 D cap3 (⟨vt, ve, vk, vy, vc, vo, vz⟩ : Ev) w2 (by omega) hrd3
          obtain ⟨E, hE⟩ : ∃ E, E = errL D (⟨vt, ve, vk, vy, vc, vo, vz⟩ : Ev) := ⟨_, rfl⟩
          rw [← hE] at her hdr
          have HE := hid (And.intro hE (And.intro hok (And.intro hdr (And.intro hK2 (And.intro hR2 hb2)))))
          have HLEN := hid hlen
          dsimp only at her
          clear hE hok hlen hdr hrd3 hof hyes hno hK2 hR2 hb2
          obtain ⟨c0, c1, c2, c3, c4, c5, c6, -⟩ := hL2.seven
          go_wp2_with fail
          refine her.mono ?_
          rintro e w3 ⟨rfl, hb3⟩
          replace hL2 := hL2.below hb3 hL2.lt
          have hba := bare_any (⟨vt, ve, vk, vy, vc, vo, vz⟩ : Ev) w3
          obtain ⟨B, hB⟩ : ∃ B, B = Ev.bare (⟨vt, ve, vk, vy, vc, vo, vz⟩ : Ev) := ⟨_, rfl⟩
          rw [← hB] at hba
          have HB := hid hB
          obtain ⟨bt, be, bk, bY, bc, bo, bz⟩ := B
          dsimp only at hba
          clear her hB c0 c1 c2 c3 c4 c5 c6
          obtain ⟨c0, c1, c2, c3, c4, c5, c6, -⟩ := hL2.seven
          go_wp2_with fail
          refine hba.mono ?_
          rintro e w4 ⟨rfl, hb4⟩
          obtain ⟨hE, hok, hdr, hK2, hR2, hb2⟩ := HE.out
          have hK4 := (hK2.below hb3).below hb4
          have hR4 := (hR2.below hb3).below hb4
          have hb5 := hb2.trans (hb3.mono hb2.size)
          replace hb5 := hb5.trans (hb4.mono hb5.size)
          have hsz4 := hb5.size
          clear hba hb3 hb4 hK2 hR2 hb2 HE c0 c1 c2 c3 c4 c5 c6
          have hnew := Blk.new w4 32 #[.int .i64 bt, .bool be, .int .i64 bk, .int .i64 bY, .int .i64 bc, .bool bo, .int .i64 bz]
          have hR5 := hR4.alloc (.cells #[.int .i64 bt, .bool be, .int .i64 bk, .int .i64 bY, .int .i64 bc, .bool bo, .int .i64 bz] 32)
          have hB5 : w.heap.size ≤ (w4.alloc (.cells #[.int .i64 bt, .bool be, .int .i64 bk, .int .i64 bY, .int .i64 bc, .bool bo, .int .i64 bz] 32)).heap.size := by simp; omega
          have HP := hid (And.intro hE (And.intro hok (And.intro hdr (And.intro (hK4.alloc (.cells #[.int .i64 bt, .bool be, .int .i64 bk, .int .i64 bY, .int .i64 bc, .bool bo, .int .i64 bz] 32)) (hb5.alloc hsz4 (.cells #[.int .i64 bt, .bool be, .int .i64 bk, .int .i64 bY, .int .i64 bc, .bool bo, .int .i64 bz] 32))))))
          have hD6 : D.length ≤ 1000000 := by omega
          clear hR4 hE hok hdr hK4 hb5 hL2
          go_wp2_with (at_builtin; refine wpList_snocG rfl _ _ 22 rfl Try.underlying22 (.agg #[.int .i64 0, .bool false, .int .i64 0, .int .i64 0, .int .i64 0, .bool false, .int .i64 0]) 56 info_rev rfl (by decide) (by decide) (fun _ => rfl) (by simp [evC, Value.oneCell']) w.heap.size _ D w4.heap.size ⟨bt, be, bk, bY, bc, bo, bz⟩ rfl rfl hR5 32 hnew hD6 hB5 ?_)
          intro uT2 w5 hR6 hT hat
          obtain ⟨hE, hok, hdr, hK5, hb5⟩ := HP.out
          have hK6 := hK5.beside hR5 (by decide) hT
          have hb6 : Below w.heap.size w w5 := hb5.trans (hT.below (fun k hk => (hR5.ge k hk).1) hB5)
          have hfin : HOAt w l uE2 uT2 E (j + 1) (D ++ [⟨bt, be, bk, bY, bc, bo, bz⟩]) w5 := by
            refine ⟨hK6, hR6, fun h0 => ?_, fun h0 => ?_, by simp; omega, hb6⟩
            · rw [if_pos h0, ← HB.out] at hdr
              rw [hE] at h0
              exact ⟨by rw [HB.out]; exact hok.snoc h0, by simp [HLEN.out], hdr.symm⟩
            · rw [if_neg h0] at hdr
              rw [hdr]
          have HFIN := hid hfin
          clear hfin hK5 hK6 hb5 hb6 hdr hok hE HP hT hat hR5 hR6 hnew hB5 HB HOWN
          go_wp2
          go_roundw
          case rel => exact ⟨j + 1, _, E, ⟨by omega, by go_num, rfl⟩, HFIN.out⟩
          case measure => first | (simp [intOf]; done) | (simp [intOf]; omega)
        · have hq : (W == 0) = false := by simpa using hW
          have hno2 := hno hW
          have hfin : HOAt w l uE2 u4 W (j + 1) D w2 := ⟨hK2, hR2, fun h0 => absurd h0 hW, fun _ => hno2, by omega, hb2⟩
          have HFIN := hid hfin
          clear hno2 hfin hyes hno hK2 hR2 hb2 hL2 hdr hW HOWN
          go_wp2
          go_roundw
          case rel => exact ⟨j + 1, D, W, ⟨by omega, by go_num, rfl⟩, HFIN.out⟩
          case measure => first | (simp [intOf]; done) | (simp [intOf]; omega)
      · obtain rfl : j = l.length := by omega
        have hK := hH.ev
        have hR := hH.took
        have hyes := hH.yes
        have hno := hH.no
        rw [List.take_length] at hK
        rw [List.drop_length] at hyes
        have hof := hof_any wr w.heap.size _ l hK (by omega)
        clear hK hH
        by_cases hW : W = 0
        · subst hW
          obtain ⟨hok, hlen, hofl⟩ := hyes rfl
          simp only [ofL] at hofl
          obtain ⟨A3, cap3, rfl, hrd3⟩ := RefRow.rde hR
          have HF := hid (And.intro hok (And.intro hlen hofl))
          clear hyes hno hR hok hlen hofl
          go_wp2_with fail
          refine hof.mono ?_
          rintro e w3 ⟨h1, hb3⟩
          obtain ⟨hok, hlen, hofl⟩ := HF.out
          rcases h1 with ⟨-, -, -, h, v, rfl, hA⟩ | ⟨h1, _⟩
          rotate_left
          · rw [← hofl] at h1; exact absurd rfl h1
          rw [← hofl] at hA
          replace hA := hA.mono hsz
          have hsa := same_any w3 _ h v D A3 cap3 hA hok (by omega) (hrd3.below hb3 (Nat.le_refl _))
          replace hbw := hbw.trans (hb3.mono hbw.size)
          have hrd4 := hrd3.below hb3 (Nat.le_refl _)
          have HX := hid (And.intro hA (And.intro hok (And.intro hrd4 hbw)))
          have hDl2 : D.length ≤ 100000 := by omega
          clear hof hofl HF hb3 hrd3 hA hok hrd4 hbw hlen
          go_wp2_with fail
          refine hsa.mono ?_
          rintro e w5 ⟨rfl, hb5⟩
          obtain ⟨hA, hok, hrd4, hbw⟩ := HX.out
          have hca := calls_any w5 _ h v D A3 cap3 (hA.below hb5) hok (by omega) (hrd4.below hb5 (Nat.le_refl _))
          have hbz := hbw.trans (hb5.mono hbw.size)
          clear hsa hA hrd4 hb5 hbw HX
          go_wp2_with fail
          refine hca.mono ?_
          rintro e w6 ⟨rfl, hb6⟩
          replace hbz := hbz.trans (hb6.mono hbz.size)
          clear hca hb6
          go_wp2
          go_ret
          exact ⟨rfl, hbz⟩
        · have hofl := hno hW
          have hq : (W != 0) = true := by simpa using hW
          have HF := hid (And.intro hofl hW)
          clear hyes hno hofl hR hW
          go_wp2_with fail
          refine hof.mono ?_
          rintro e w3 ⟨h1, hb3⟩
          rcases h1 with ⟨h1, _⟩ | ⟨-, rfl⟩
          · exact absurd (HF.out.1.symm.trans h1) HF.out.2
          have hbz := hbw.trans (hb3.mono hbw.size)
          rw [HF.out.1]
          clear hof hb3 hbw
          go_wp2
          go_ret
          exact ⟨rfl, hbz⟩
  · go_enter Try.func4, Try.ntmps4
    go_wp2_with fail
    refine (h8awake_any _).mono ?_
    rintro e w1 ⟨rfl, hb1⟩
    go_wp2
    go_ret
    exact ⟨by first | rfl | (simp; done), hb1⟩
end Go.Proofs.Ytlhfpmhbhaicmaa
