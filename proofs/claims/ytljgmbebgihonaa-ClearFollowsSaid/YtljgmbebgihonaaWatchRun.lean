/- A machine that is watched: law 10's Watch, for any machine. -/
import Derived.Test.YtljgmbebgihonaaWatch
namespace Go.Proofs.Ytljgmbebgihonaa
set_option maxRecDepth 100000
open Go.RowKit Go.Sort
set_option maxHeartbeats 16000000

section
variable {σ : Type} (step : MV → σ → MV × σ) (ended : σ → Bool) {Lies : World → σ → (Nat → Prop) → Prop} (Inv : MV → σ → Prop) (w0 : World) (g b : Nat) (s0 : σ) (A0 : Int)

theorem watch_any (hLw : Lawful Lies) (T : TypeId) (F : FuncId) (p : Nat) (A : Option Addr) (pk : List PokeV) (cap : Nat) (most : Int) (hm : 0 ≤ most ∧ most ≤ 50000) (hpk : pk.length ≤ 1000000) (hA0 : 0 ≤ A0 ∧ A0 ≤ 1000000000)
    (hmeth : ∀ (N a : Nat) (w : World), (method (N + 1) T (.pointer (some ⟨a, 0, none⟩)) "Step").run Try.prog w = .ok (F, .pointer (some ⟨a, 0, none⟩)) w)
    (hE : ∀ (args : Array Value) (w : World), (callFunc F args).run Try.prog w = .ok (.enter F args) w)
    (hW : ∀ V s, Inv V s → V.okW)
    (hI : ∀ V s, Inv V s → ended s = false → Inv (step V s).1 (step V s).2)
    (hPk : ∀ q ∈ pk, ∀ V s, Inv V s → Inv (V.store q.ad q.x) s)
    (hSa : ∀ V s, Inv V s → ended s = false → (step V s).1.a = V.a + 1)
    (hSt : ∀ V s K w, Inv V s → ended s = false → actsOk V → MemAt w g b V → Lies w s K → Calls Try.prog F #[.pointer (some ⟨p, 0, none⟩), .pointer (some ⟨g, 0, none⟩)] w fun e w' => ∃ K', e = .returned (.bool (ended (step V s).2)) ∧ MemAt w' g b (step V s).1 ∧ Lies w' (step V s).2 K' ∧ Touch (fun k => two g b k ∨ K k) w w' ∧ ∀ k, K' k → K k ∨ w.heap.size ≤ k)
    (V0 : MV) (K0 : Nat → Prop) (w1 : World) (hb0 : Below w0.heap.size w0 w1) (hM : MemAt w1 g b V0) (hV0 : 0 ≤ V0.a ∧ V0.a ≤ A0) (hL : Lies w1 s0 K0) (hV : Inv V0 s0) (hs0 : ended s0 = false) (hR : RdS 2 pokeC w0 A pk) (hge : w0.heap.size ≤ g ∧ w0.heap.size ≤ b ∧ ∀ k, K0 k → w0.heap.size ≤ k) :
    Calls Try.prog 10 #[.pointer (some ⟨g, 0, none⟩), .iface T (.pointer (some ⟨p, 0, none⟩)), .slice A pk.length cap, .int .i64 most] w1 (WatchPost step ended Lies Inv w0 g b s0 A0 w1 K0 most) := by
  obtain ⟨m0, m1⟩ := hm
  have HW := hid hW
  have HI := hid hI
  have HPK := hid hPk
  have HSA := hid hSa
  have HST := hid hSt
  have HR := hid hR
  have HLW := hid hLw
  have hs1 := hb0.size
  have HG := hid hge
  have HA0 := hid hA0
  have hnot : ∀ (x : Bool) (w : World), (Op.unary .not (.bool x)).run Try.prog w = .ok (.bool (!x)) w := fun _ _ => rfl
  have hAt0 : WatchAt step ended Lies Inv w0 g b s0 A0 w1 K0 w1.heap.size 0 V0 s0 K0 (.slice none 0 0) [] (w1.alloc (.cells #[.slice none 0 0, .int .i64 0, .bool false, .bool false] 83)) :=
    ⟨hM.alloc _, by simpa using hV0, hV, hs0, hLw.below hL ((Below.refl _ _).alloc (Nat.le_refl _) _), ⟨Blk.new _ _ _, RowG.none _ _, by simp [TV.new], by simp [TV.new]⟩, rfl, fun l' b' s' h => by simpa using h, hb0.alloc hs1 _, ⟨hge.1, hge.2.1, Nat.le_refl _, hge.2.2⟩, (Touch.refl _ w1).alloc _, fun k hk => Or.inl hk⟩
  clear hW hI hPk hSa hSt hR hLw hb0 hM hV0 hL hV hs0 hge hA0
  go_enter Try.func10, Try.ntmps10
  go_wp2
  generalize w1.alloc (.cells #[.slice none 0 0, .int .i64 0, .bool false, .bool false] 83) = w2 at *
  obtain ⟨p0, hp0⟩ : ∃ p0, w1.heap.size = p0 := ⟨_, rfl⟩
  have hAt1 : WatchAt step ended Lies Inv w0 g b s0 A0 w1 K0 p0 0 V0 s0 K0 (.slice none 0 0) [] w2 := hp0 ▸ hAt0
  rw [hp0]
  clear hAt0 hp0
  go_loopw [12] (fun i wr => WatchRel step ended Lies Inv w0 g b s0 A0 w1 K0 p0 most i wr) (fun i _ => (most - intOf i).toNat)
  case atStart => exact ⟨0, V0, s0, K0, _, [], rfl, by simpa using m0, hAt1⟩
  case round =>
    clear hAt1
    obtain ⟨j, V, s, K, v, l, rfl, hj, hA⟩ := hrel
    by_cases hlt : (j : Int) < most
    · have hjm : (j : Int) ≤ 50000 := by omega
      have hd1 : decide ((j : Int) < most) = true := decide_eq_true hlt
      have HA := hid hA
      clear hA
      go_upto_if 25 with (fail)
      go_cut [] (fun wx => ∃ V1, Inv V1 s ∧ MemAt wx g b V1 ∧ (0 ≤ V1.a ∧ V1.a ≤ A0 + 2 * (j : Int) + 1) ∧ Lies wx s K ∧ TapeAt wx w1.heap.size p0 v (TV.new l) ∧ Below w0.heap.size w0 wx ∧ Touch (fun k => two g b k ∨ K0 k) w1 wx)
      case first =>
        by_cases hp : j < pk.length
        · have g1 : decide (j < pk.length) = true := decide_eq_true hp
          have g2 : decide ((j : Int) < (pk.length : Int)) = true := decide_eq_true (by omega)
          have hji : (j : Int) < (pk.length : Int) := by omega
          obtain ⟨bb, off, rfl, hbb, hcell⟩ := HR.out.resolve_left (fun h => by rw [h] at hp; simp at hp)
          obtain ⟨q, hq⟩ : ∃ q, pk[j]? = some q := ⟨_, List.getElem?_eq_getElem hp⟩
          have hqm : q ∈ pk := List.mem_of_getElem? hq
          have hA := HA.out
          have hbl := hA.below
          have x0 : wr.cell? ⟨bb, off + j * 2, none⟩ = some (.int .i64 q.ad) := (hbl.cell (p := ⟨bb, off + j * 2, none⟩) hbb).trans (hcell j q hq 0 (by omega))
          have x1 : wr.cell? ⟨bb, off + j * 2 + 1, none⟩ = some (.int .u64 q.x) := (hbl.cell (p := ⟨bb, off + j * 2 + 1, none⟩) hbb).trans (hcell j q hq 1 (by omega))
          have hVI := HPK.out q hqm V s hA.inv
          have hva := hA.a
          have hMd : MemAt wr.drew g b V := hA.mem.drewN 1
          have hst := store_any g b V q.ad q.x wr.drew hMd (by have := HA0.out; unfold actsOk; omega)
          have HVI := hid hVI
          have HVA : Hid (0 ≤ (V.store q.ad q.x).a ∧ (V.store q.ad q.x).a ≤ A0 + 2 * (j : Int) + 1) := hid (by rw [MV.store_a]; omega)
          have HB := hid hbb
          have HC := hid hcell
          have HQ := hid hq
          clear hA hbl hVI hva hMd hcell hq hqm hbb hp
          obtain ⟨qa, qx⟩ := q
          simp only [] at x0 x1 hst
          generalize V.store qa qx = V1 at *
          go_wp2_with fail
          go_region_held3 (fun w' => w'.cell? ⟨bb, off + j * 2, none⟩ = some (.int .i64 qa) ∧ w'.cell? ⟨bb, off + j * 2 + 1, none⟩ = some (.int .u64 qx))
            (first | go_keep | exact ⟨c0, c1⟩)
            (first | (go_at_call 30; (with_reducible refine hst.mono ?_); rintro e w3 ⟨rfl, hM3, hT3⟩; have hb3 : Below w0.heap.size w0 w3 := (HA.out.below.drew).trans (hT3.below2 HG.out.1 HG.out.2.1 HA.out.below.size); have c0 : w3.cell? ⟨bb, off + j * 2, none⟩ = some (.int .i64 qa) := (hb3.cell (p := ⟨bb, off + j * 2, none⟩) HB.out).trans (HC.out j _ HQ.out 0 (by omega)); have c1 : w3.cell? ⟨bb, off + j * 2 + 1, none⟩ = some (.int .u64 qx) := (hb3.cell (p := ⟨bb, off + j * 2 + 1, none⟩) HB.out).trans (HC.out j _ HQ.out 1 (by omega))))
          rename_i hheld
          clear hheld hst x0 x1 c0 c1
          have hL3 : Lies w3 s K := by
            have hL : Lies wr.drew s K := HLW.out.frame (fun _ => False) _ _ _ _ HA.out.lies (Touch.refl _ _).drew (fun _ _ f => f)
            refine HLW.out.frame _ _ _ _ _ hL hT3 (fun k hk e => ?_)
            rcases e with e | e
            · exact (HLW.out.types _ _ _ k _ _ HA.out.lies hk (e ▸ HA.out.mem.mem)).2.2.1 rfl
            · exact (HLW.out.types _ _ _ k _ _ HA.out.lies hk (e ▸ HA.out.mem.words)).2.2.2 rfl
          have hT3t : Touch (fun k => two g b k ∨ K0 k) w1 w3 := HA.out.touch.drew.step hT3 (fun i _ e => Or.inl e)
          have hT3' : TapeAt w3 w1.heap.size p0 v (TV.new l) := by
            have hA := HA.out
            refine (hA.tape.drewN 1).touch hT3 (fun e => ?_) (fun c hc e => ?_)
            · rcases e with e | e
              · exact hA.tape.blk.ne hA.mem.mem (by decide) e
              · exact hA.tape.blk.ne hA.mem.words (by decide) e
            · rcases e with e | e
              · exact hA.tape.row.ne hA.mem.mem (by decide) c hc e
              · exact hA.tape.row.ne hA.mem.words (by decide) c hc e
          go_wp2
          go_meet
          exact ⟨V1, HVI.out, hM3, HVA.out, hL3, hT3', hb3, hT3t⟩
        · have g1 : decide (j < pk.length) = false := decide_eq_false hp
          have g2 : decide ((j : Int) < (pk.length : Int)) = false := decide_eq_false (by omega)
          have g3 : pk.length ≤ j := by omega
          go_wp2
          go_meet
          exact ⟨V, HA.out.inv, HA.out.mem, ⟨HA.out.a.1, by have := HA.out.a.2; omega⟩, HA.out.lies, HA.out.tape, HA.out.below, HA.out.touch⟩
      case rest =>
      obtain ⟨V1, hV1, hM1, hVa, hL1, hTp, hbw, htt⟩ := hcut
      have HOWN := hid HA.out.own
      have hsa := HSA.out V1 s hV1 HA.out.nend
      have hin := HI.out V1 s hV1 HA.out.nend
      have hst := fun W hM hL => HST.out V1 s K W hV1 HA.out.nend (by have := HA0.out; unfold actsOk; omega) hM hL
      have hlg1 := HA.out.log
      have hlg : ∀ l' b' s', Log step ended s l' b' s' → Log step ended s0 (l ++ l') b' s' := hlg1
      have hokW := HW.out V1 s hV1
      have hlen := HA.out.len
      have hgeK := HG.out
      have hKge := HA.out.ge
      have hac := acts_any g b V1 _ hM1
      obtain ⟨V2, hV2⟩ : ∃ V2, V2 = (step V1 s).1 := ⟨_, rfl⟩
      obtain ⟨s2, hs2⟩ : ∃ s2, s2 = (step V1 s).2 := ⟨_, rfl⟩
      have HLG1 : Hid (ended s2 = false → ∀ l' b' s', Log step ended s2 l' b' s' → Log step ended s0 ((l ++ [V2.last]) ++ l') b' s') := hid (fun he l' b' s' h => by
        have h1 := Log.more (step := step) (ended := ended) (s := s) hokW (hs2 ▸ he) (hs2 ▸ h)
        have h2 := hlg _ _ _ h1
        rw [List.append_assoc]
        rw [hV2]
        exact h2)
      have HLG2 : Hid (ended s2 = true → Log step ended s0 (l ++ [V2.last]) true s2) := hid (fun he => by
        have h1 := Log.last (step := step) (ended := ended) (s := s) hokW (hs2 ▸ he)
        have h2 := hlg _ _ _ h1
        rw [hV2, hs2]
        exact h2)
      rw [← hV2] at hsa hin hst
      rw [← hs2] at hin hst
      have HIN := hid hin
      have HKG := hid hKge
      have HLEN := hid hlen
      have HVA := hid hVa
      have hva1 := hVa.1
      have hva2 := hVa.2
      have HSA2 := hid hsa
      clear hlg hlg1 hokW hin hlen hgeK hKge hV2 hs2 HA hV1 hVa
      have hm1 := hmeth (Try.prog.types.size + Made.depth - 1) p
      have hacs : V1.a + 1 ≤ 9000000000000000000 := by have := HA0.out; omega
      go_wp2_with fail
      refine hac.mono ?_
      rintro e w3 ⟨rfl, hb3⟩
      have hM3 := hM1.below_ hb3
      have hL3 := HLW.out.below hL1 hb3
      have hTp3 := hTp.below hb3
      have hbw3 := hbw.trans (hb3.mono hbw.size)
      have htt3 := htt.trans (Touch.of_below hb3)
      clear hM1 hL1 hTp hbw hb3 hac htt
      generalize V1.a = a1 at *
      go_wp2_with fail
      refine (hst _ hM3 hL3).mono ?_
      rintro e w4 ⟨K', rfl, hM4, hL4, hT4, hK4⟩
      have hTp4 := watch_keep (g := g) (b := b) HLW.out hM3 hL3 hTp3 hT4
      have hbw4 : Below w0.heap.size w0 w4 := hbw3.trans (hT4.below (fun k hk => by
        rcases hk with (e | e) | e
        · rw [e]; exact HG.out.1
        · rw [e]; exact HG.out.2.1
        · exact HKG.out.2.2.2 k e) hbw3.size)
      have htt4 : Touch (fun k => two g b k ∨ K0 k) w1 w4 := htt3.step hT4 (fun i hi e => by
        rcases e with e | e
        · exact Or.inl e
        · rcases HOWN.out i e with e2 | e2
          · exact Or.inr e2
          · omega)
      have HOWN4 : Hid (∀ k, K' k → K0 k ∨ w1.heap.size ≤ k) := hid (fun k hk => (hK4 k hk).elim (HOWN.out k) (fun h => Or.inr (Nat.le_trans htt3.size h)))
      have HK4 : Hid (∀ k, K' k → w0.heap.size ≤ k) := hid (fun k hk => (hK4 k hk).elim (HKG.out.2.2.2 k) (fun h => Nat.le_trans hbw3.size h))
      clear hM3 hL3 hTp3 hbw3 hT4 hK4 hst htt3 HOWN
      have hac := acts_any g b V2 _ hM4
      rw [hsa] at hac
      obtain ⟨en, hen⟩ : ∃ en, en = ended s2 := ⟨_, rfl⟩
      rw [← hen]
      have HEN := hid hen.symm
      clear hen hsa
      have hq : (a1 + 1 != a1 + 1) = false := by simp
      go_wp2_with fail
      refine hac.mono ?_
      rintro e w5 ⟨rfl, hb5⟩
      have hM5 := hM4.below_ hb5
      have hL5 := HLW.out.below hL4 hb5
      have hTp5 := hTp4.below hb5
      have hbw5 := hbw4.trans (hb5.mono hbw4.size)
      have htt5 := htt4.trans (Touch.of_below hb5)
      clear hM4 hL4 hTp4 hbw4 hb5 hac htt4
      go_upto_region 11 with (fail)
      have hla := llast_any g b V2 w5.drew (hM5.drewN 1)
      obtain ⟨la, hla2⟩ : ∃ la, la = V2.last := ⟨_, rfl⟩
      rw [← hla2] at hla
      have HLA := hid hla2
      obtain ⟨lk, lad, lo, lx, lok⟩ := la
      simp only [taV] at hla
      have c0 : w5.cell? ⟨p0, 0, none⟩ = some v := hTp5.blk.cell 0
      have hll : l.length < 100000 := by rw [HLEN.out]; omega
      have HF5 := hid (And.intro hM5 (And.intro hL5 (And.intro hTp5 (And.intro hbw5 htt5))))
      have hsz5 : w1.heap.size ≤ w5.heap.size := htt5.size
      clear hla2 hM5 hL5 hTp5 hbw5 hq hm1 htt5
      go_region_law
        (first
          | (refine step_snocG rfl _ _ 81 rfl Try.underlying81 (.agg #[.int .i64 0, .int .i64 0, .int .u64 0, .int .u64 0, .bool false]) 40 info_act rfl (by decide) (by decide) (fun _ => rfl) (by simp [actC, Value.oneCell']) w1.heap.size v l w6.heap.size (⟨lk, lad, lo, lx, lok⟩ : TA) rfl rfl hrow6 87 hnew (by omega) hsz6 ?_; intro g9 cap9 w7 hrow7 hT7 hat7; have c7 : w7.cell? ⟨p0, 0, none⟩ = some v := (hblk6.touch hT7 (fun e => HNE6.out _ e rfl)).cell 0; have cf7 : ∀ i, w7.frozen? ⟨p0, i, none⟩ = false := (hblk6.touch hT7 (fun e => HNE6.out _ e rfl)).frozen)
          | (go_simp; go_at_call 33; (with_reducible refine hla.mono ?_); rintro e w6 ⟨rfl, hb6⟩; have hb6' : Below w5.heap.size w5 w6 := ⟨hb6.os, hb6.tape, hb6.output, hb6.size, hb6.block⟩; have hTp6 := HF5.out.2.2.1.below hb6'; have c6 : w6.cell? ⟨p0, 0, none⟩ = some v := hTp6.blk.cell 0; have c6a := cell_alloc_keep c6 (.cells #[.int .i64 lk, .int .i64 lad, .int .u64 lo, .int .u64 lx, .bool lok] 87); have hTp6a := hTp6.alloc (.cells #[.int .i64 lk, .int .i64 lad, .int .u64 lo, .int .u64 lx, .bool lok] 87); have hrow6 : RowG 87 5 actC (w6.alloc (.cells #[.int .i64 lk, .int .i64 lad, .int .u64 lo, .int .u64 lx, .bool lok] 87)) w1.heap.size v l := hTp6a.row; have hnew : Blk (w6.alloc (.cells #[.int .i64 lk, .int .i64 lad, .int .u64 lo, .int .u64 lx, .bool lok] 87)) w6.heap.size 87 (actC ⟨lk, lad, lo, lx, lok⟩).toArray := Blk.new _ _ _; have hsz6 : w1.heap.size ≤ (w6.alloc (.cells #[.int .i64 lk, .int .i64 lad, .int .u64 lo, .int .u64 lx, .bool lok] 87)).heap.size := Nat.le_trans hsz5 (Nat.le_trans hb6'.size (by simp)); have hblk6 := hTp6a.blk; have HNE6 := hid hTp6a.row_p; have HT6 := hid hTp6a; clear hTp6 hTp6a))
      all_goals
        have hM6 : MemAt (w6.alloc (.cells #[.int .i64 lk, .int .i64 lad, .int .u64 lo, .int .u64 lx, .bool lok] 87)) g b V2 := (HF5.out.1.below_ hb6').alloc _
        have hL6 : Lies (w6.alloc (.cells #[.int .i64 lk, .int .i64 lad, .int .u64 lo, .int .u64 lx, .bool lok] 87)) s2 K' := HLW.out.below HF5.out.2.1 ((⟨hb6'.os, hb6'.tape, hb6'.output, hb6'.size, hb6'.block⟩ : Below w5.heap.size w5 w6).alloc hb6'.size _)
        have hb6a : Below w0.heap.size w0 (w6.alloc (.cells #[.int .i64 lk, .int .i64 lad, .int .u64 lo, .int .u64 lx, .bool lok] 87)) := (HF5.out.2.2.2.1.trans (hb6'.mono (Nat.le_trans hs1 hsz5))).alloc (Nat.le_trans hs1 (Nat.le_trans hsz5 hb6'.size)) _
        have htt6 : Touch (fun k => two g b k ∨ K0 k) w1 (w6.alloc (.cells #[.int .i64 lk, .int .i64 lad, .int .u64 lo, .int .u64 lx, .bool lok] 87)) := (HF5.out.2.2.2.2.trans (Touch.of_below (⟨hb6'.os, hb6'.tape, hb6'.output, hb6'.size, hb6'.block⟩ : Below w5.heap.size w5 w6))).alloc _
        obtain ⟨hM8, hL8, hT8, hb8, htt8⟩ := watch_close (w0 := w0) (g := g) (b := b) HLW.out hM6 hL6 HT6.out hll hrow7 hT7 hb6a ⟨hs1, Nat.le_trans hs1 HKG.out.2.2.1⟩ HKG.out.2.2.1 rfl htt6
        clear hM6 hL6 hb6a htt6 HF5 c0 c6 c6a hrow6 hnew hsz6 hblk6 HNE6 HT6 hrow7 hT7 hat7 c7 cf7 hb6 hb6' hla
        generalize w7.setCell ⟨p0, 0, none⟩ (.slice (some ⟨g9, 0, none⟩) (l.length + 1) cap9) = w8 at *
        cases en
        · go_wp2
          go_roundw
          case rel => exact ⟨j + 1, V2, s2, K', _, l ++ [⟨lk, lad, lo, lx, lok⟩], by go_num, by omega, ⟨hM8, by rw [HSA2.out]; have := HVA.out; push_cast; omega, HIN.out, HEN.out, hL8, hT8, by simp [HLEN.out], by rw [HLA.out]; exact HLG1.out HEN.out, hb8, ⟨HKG.out.1, HKG.out.2.1, HKG.out.2.2.1, HK4.out⟩, htt8, HOWN4.out⟩⟩
          case measure => simp [intOf]; omega
        · go_wp2
          refine bodyPost_ret (v := .tuple #[.pointer (some ⟨p0, 0, none⟩), .bool true, .bool true]) (by simp [results, Try.results10, go_sem]) rfl ?_
          exact ⟨true, V2, s2, K', _, l ++ [⟨lk, lad, lo, lx, lok⟩], p0, rfl, hM8, by rw [HSA2.out]; have := HVA.out; omega, HIN.out, HEN.out, hL8, hT8, by rw [HLA.out]; exact HLG2.out HEN.out, fun h => by simp at h, hb8, HKG.out.2.2.1, HK4.out, htt8, HOWN4.out⟩
    · have hjm : (j : Int) = most := by omega
      have hd1 : decide ((j : Int) < most) = false := decide_eq_false hlt
      have HJ := hid hjm
      clear hjm hlt
      go_wp2
      refine bodyPost_ret (v := .tuple #[.pointer (some ⟨p0, 0, none⟩), .bool false, .bool true]) (by simp [results, Try.results10, go_sem]) rfl ?_
      exact ⟨false, V, s, K, v, l, p0, rfl, hA.mem, ⟨hA.a.1, by rw [← HJ.out]; exact hA.a.2⟩, hA.inv, hA.nend, hA.lies, hA.tape, by have := hA.log [] false s Log.cut; simpa using this, fun _ => by rw [hA.len]; exact HJ.out, hA.below, hA.ge.2.2.1, hA.ge.2.2.2, hA.touch, hA.own⟩
end
end Go.Proofs.Ytljgmbebgihonaa
