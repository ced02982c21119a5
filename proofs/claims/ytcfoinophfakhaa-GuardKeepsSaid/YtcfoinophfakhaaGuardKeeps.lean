/- The law GuardKeeps. -/
import Derived.Test.YtcfoinophfakhaaKeepMath
import Derived.Test.YtcfoinophfakhaaAppendBytes
import Derived.Test.YtcfoinophfakhaaOpenArrs
import Derived.Test.YtcfoinophfakhaaGuardScans
namespace Go.Proofs.Ytcfoinophfakhaa
open Go.RowKit Go.Sort
set_option maxHeartbeats 16000000
set_option maxRecDepth 100000

/-- Between two steps: the scan's step is done, unless it has ended; others store. -/
def KpRel (w0 : World) (g b q p B : Nat) (at_ : Nat) (k : Int) (N : List Int) (av : Value) (m : Nat) (top : Int) (i d : Value) (w : World) : Prop :=
  ∃ (j : Nat) (V : MV) (S : SV), i = .int .i64 j ∧ j ≤ m ∧ d = .bool S.ended ∧ Below w0.heap.size w0 w ∧ B ≤ w.heap.size ∧ MemAt w g b V ∧ ScanAt w B p S ∧ KeepInv V S at_ k N ∧ Blk w q 28 #[.int .i64 4, .int .i64 40] ∧ RowI w w0.heap.size av N ∧ 0 ≤ V.a ∧ V.a ≤ top + 2 * j
/-- The same, with what is left. -/
def KpRun (w0 : World) (g b q p B : Nat) (at_ : Nat) (k : Int) (N : List Int) (av : Value) (i d : Value) (w : World) : Prop :=
  ∃ (j : Nat) (V : MV) (S : SV), i = .int .i64 j ∧ j ≤ 100 ∧ d = .bool S.ended ∧ Below w0.heap.size w0 w ∧ B ≤ w.heap.size ∧ MemAt w g b V ∧ ScanAt w B p S ∧ KeepInv V S at_ k N ∧ Blk w q 28 #[.int .i64 4, .int .i64 40] ∧ RowI w w0.heap.size av N ∧ 0 ≤ V.a ∧ V.a ≤ 1000 + j ∧ j + S.left ≤ 99
/-- Behind the others' store. -/
def KpMid (w0 : World) (g b q p B : Nat) (at_ : Nat) (k : Int) (N : List Int) (av : Value) (S : SV) (top : Int) (w : World) : Prop :=
  ∃ V : MV, Below w0.heap.size w0 w ∧ B ≤ w.heap.size ∧ MemAt w g b V ∧ ScanAt w B p S ∧ KeepInv V S at_ k N ∧ Blk w q 28 #[.int .i64 4, .int .i64 40] ∧ RowI w w0.heap.size av N ∧ 0 ≤ V.a ∧ V.a ≤ top
/-- So many of the nodes were asked for. -/
def KpEnd (w0 : World) (g b q p : Nat) (C : Array Value) (V : MV) (N K : List Int) (av : Value) (Ak : Option Addr) (i : Value) (w : World) : Prop :=
  ∃ j : Nat, i = .int .i64 j ∧ j ≤ N.length ∧ Below w0.heap.size w0 w ∧ MemAt w g b V ∧ Blk w q 28 #[.int .i64 4, .int .i64 40] ∧ Blk w p 49 C ∧ RdI w .i64 Ak K ∧ RowI w w0.heap.size av N
theorem left_le {V : MV} {S : SV} {at_ : Nat} {k : Int} {N : List Int} (h : KeepInv V S at_ k N) : S.left ≤ 8 + N.length := by
  unfold SV.left
  split
  · omega
  · split
    · rw [h.nodes]; omega
    · rename_i hl
      obtain ⟨D, d1, _⟩ := h.livesD (by omega)
      have h1 : S.freed.length ≤ N.length := by rw [← h.nodes]; exact freedOf_len _ _
      rw [d1, List.length_append] at h1
      omega

theorem keeps_walk (A A' : Option Addr) (sl : List (Int × Int)) (l : List Int) (cap cap' : Nat) (x0 y0 : Int) (hm : sl.length ≤ maxLen) (hm' : l.length ≤ maxLen) (hw : ∀ z ∈ sl, (0 ≤ z.1 ∧ z.1 ≤ 255) ∧ (0 ≤ z.2 ∧ z.2 ≤ 255)) (hw' : ∀ z ∈ l, 0 ≤ z ∧ z ≤ 255) (m1 : 0 ≤ x0 ∧ x0 ≤ 255) (m2 : 0 ≤ y0 ∧ y0 ≤ 255) (w : World) (hR : RdA w A sl) (hR' : RdI w .u8 A' l) :
    Calls Try.prog 5 #[.agg #[.int .u8 x0, .int .u8 y0], .slice A sl.length cap, .slice A' l.length cap'] w fun e w' => e = .returned (.bool true) ∧ Below w.heap.size w w' := by
  obtain ⟨a1, a2⟩ := m1
  obtain ⟨b1, b2⟩ := m2
  by_cases hlen : sl.length ≤ 60 ∧ l.length ≤ 60
  · clear hm hm'
    obtain ⟨hlen1, hlen2⟩ := hlen
    have HR := hid hR
    have HW := hid hw
    have HR' := hid hR'
    have HW' := hid hw'
    clear hR hw hR' hw'
    obtain ⟨k, hk⟩ : ∃ k : Int, x0.tmod 40 = k - 1 := ⟨x0.tmod 40 + 1, by omega⟩
    have hk' : x0 % 40 = k - 1 := by rw [← hk, Int.tmod_eq_emod_of_nonneg a1]
    have hkb : 1 ≤ k ∧ k ≤ 40 := by omega
    obtain ⟨at_, hat⟩ : ∃ at_ : Nat, y0.tmod 8 = (at_ : Int) := ⟨(y0 % 8).toNat, by rw [Int.tmod_eq_emod_of_nonneg b1]; omega⟩
    have hat' : y0 % 8 = (at_ : Int) := by rw [← hat, Int.tmod_eq_emod_of_nonneg b1]
    have hatb : at_ < 8 := by omega
    have hlay : layR 4 40 := by unfold layR; omega
    have hmk := make40
    have d1 : decide ((sl.length : Int) > 60) = false := decide_eq_false (by omega)
    have d2 : decide ((l.length : Int) > 60) = false := decide_eq_false (by omega)
    have hX := Blk.new w 55 #[.int .u8 x0, .int .u8 y0]
    have hbx := (Below.refl w.heap.size w).alloc (Nat.le_refl _) (.cells #[.int .u8 x0, .int .u8 y0] 55)
    go_enter Try.func5, Try.ntmps5
    go_wp2_with fail
    refine (gawake_any _).mono ?_
    rintro e w1 ⟨rfl, hb1⟩
    have s1 := hb1.size
    have hX1 := hX.below hb1 hX.lt
    have hbw1 := hbx.trans (hb1.mono (by simp))
    have hxl := hX1.lt
    clear hX hbx hb1
    obtain ⟨c0, c1, cf⟩ := hX1.two
    go_wp2
    go_quiet (fail)
    clear c0 c1 cf hX1 hxl
    have hbw2 : Below w.heap.size w (w1.drewN nq) := below_drewN hbw1 nq
    generalize w1.drewN nq = w2 at *
    have hs2 := hbw2.size
    have hO1 := Blk.new w2 25 (onesA 0)
    have hbw3 := hbw2.alloc hs2 (.cells (onesA 0) 25)
    clear hbw1 s1
    go_wp2
    clear hmk d1 d2 hbw2
    generalize w2.alloc (.cells (onesA 0) 25) = w3 at *
    generalize hlb : w2.heap.size = lb at *
    go_loopw [41] (fun k wr => OnesRel w lb k wr) (fun k _ => 40 - (intOf k).toNat)
    case atStart => exact ⟨0, by omega, rfl, hbw3, hO1⟩
    case round =>
      clear hbw3 hO1
      obtain ⟨j, hj, rfl, hbw, hO⟩ := hrel
      by_cases hj4 : j < 40
      · have hcj := hO.cell j
        rw [onesA_at j hj4] at hcj
        have hfr := hO.frozen j
        have hO2 := hO.set_ j (.int .u64 1)
        rw [onesA_set j hj4] at hO2
        have hbw2 := hbw.setCell (p := ⟨lb, j, none⟩) (by show w.heap.size ≤ lb; omega) (.int .u64 1)
        go_wp2
        go_roundw
        case rel => exact ⟨j + 1, by omega, by go_num, hbw2, hO2⟩
        case measure => simp [intOf]; omega
      · obtain rfl : j = 40 := by omega
        have hme := memory_any 4 40 (some ⟨lb, 0, none⟩) (List.replicate 40 1) 40 hlay (by rw [List.length_replicate]; omega) wr (onesA_rdi hO)
        rw [List.length_replicate] at hme
        have hsz := hbw.size
        clear hO hj4 hj
        go_wp2_with fail
        refine hme.mono ?_
        rintro e w3 ⟨g, b, V, rfl, hg, hb, hM, hL, hb3⟩
        replace hbw := hbw.trans (hb3.mono hsz)
        have hgw : w.heap.size ≤ g := by omega
        have hbw' : w.heap.size ≤ b := by omega
        have hst := ScanLaid.start ⟨by omega, by omega⟩ hL
        have hs3 := hbw.size
        have hbw4 := hbw.alloc hs3 (.cells #[.int .i64 4, .int .i64 40] 28)
        have hM4 := hM.alloc (.cells #[.int .i64 4, .int .i64 40] 28)
        have hB4 := Blk.new w3 28 #[.int .i64 4, .int .i64 40]
        have hVa := hst.laid.a
        have HST := hid hst
        have hwk : IntKind.u64.wrap k = k := by rw [IntKind.wrap_u64]; omega
        have hwk8 : IntKind.u8.wrap (k - 1) = k - 1 := by rw [IntKind.wrap_u8]; omega
        have hk1 : 1 + (k - 1) = k := by omega
        obtain ⟨u, hu⟩ : ∃ u : Int, (at_ : Int).tdiv 2 = u := ⟨_, rfl⟩
        obtain ⟨r, hr⟩ : ∃ r : Int, (at_ : Int).tmod 2 = r := ⟨_, rfl⟩
        have hu' : (at_ : Int) / 2 = u := by rw [← hu, Int.tdiv_eq_ediv_of_nonneg (by omega)]
        have hr' : (at_ : Int) % 2 = r := by rw [← hr, Int.tmod_eq_emod_of_nonneg (by omega)]
        have hwu : IntKind.i64.wrap u = u := by rw [IntKind.wrap_i64]; omega
        have had : 5 + 2 * 40 + 2 * u + r = slotA 40 at_ := by unfold slotA; omega
        have hsl := fun W => slot_any 4 40 u r ⟨by omega, by omega⟩ ⟨by omega, by omega⟩ (by unfold smallI; omega) (by unfold smallI; omega) W
        rw [had] at hsl
        have hsto := fun W hM => store_any g b V (slotA 40 at_) k W hM (by unfold actsOk; omega)
        clear hme hg hb hL hb3 hM hbw hlb hsz had hst
        go_wp2_with fail
        refine (hsl _).mono ?_
        rintro e w5 ⟨rfl, hb5⟩
        have hM5 := hM4.below_ hb5
        have hB5 := hB4.below hb5 hB4.lt
        have hbw5 := hbw4.trans (hb5.mono hbw4.size)
        clear hsl hM4 hB4 hbw4 hb5
        go_wp2_with fail
        refine (hsto _ hM5).mono ?_
        rintro e w6 ⟨rfl, hM6, hT6⟩
        have hB6 := hB5.touch hT6 (not_two (hB5.ne hM5.mem (by decide)) (hB5.ne hM5.words (by decide)))
        have hbw6 := hbw5.trans (hT6.below2 hgw hbw' hbw5.size)
        clear hsto hM5 hB5 hbw5 hT6
        obtain ⟨V1, hV1⟩ : ∃ V1, V1 = V.store (slotA 40 at_) k := ⟨_, rfl⟩
        rw [← hV1] at hM6
        have hs6 := hbw6.size
        have hgl := hM6.mem.lt
        have hbl := hM6.words.lt
        have hql := hB6.lt
        have hM7 := hM6.alloc (.cells #[.int .u8 (k - 1)] 5)
        have hB7 := hB6.alloc (.cells #[.int .u8 (k - 1)] 5)
        have hbw7 := hbw6.alloc hs6 (.cells #[.int .u8 (k - 1)] 5)
        have hZ7 := Blk.new w6 5 #[.int .u8 (k - 1)]
        have hR7 := HR'.out.keep hbw7 (Nat.le_refl _)
        clear hM6 hB6 hbw6 hu hr hu' hr' hwu hwk
        go_wp2_with (at_builtin; refine wpList_bytes rfl _ _ rfl w6.heap.size (k - 1) A' l cap' rfl rfl hZ7 hR7 (by omega) ?_)
        intro A2 cap2 w8 hR8 hT8
        have hM8 := hM7.touch hT8 (by omega) (by omega)
        have hB8 := hB7.touch hT8 (by omega)
        have hbw8 := hbw7.trans (hT8.below (fun c hc => by omega) hbw7.size)
        have hnd := nodes_any A2 ((k - 1) :: l) cap2 40 w8 ⟨by omega, by omega⟩ (by simp; omega) (fun z hz => by
          rcases List.mem_cons.1 hz with rfl | h
          · omega
          · exact HW'.out z h) hR8
        have hNf := nodes_facts 40 (by omega) ((k - 1) :: l)
        have hkN : k ∈ nodesOf 40 ((k - 1) :: l) := by
          have := nodes_head 40 (k - 1) l
          rwa [Int.emod_eq_of_lt (by omega) (by omega), hk1] at this
        simp only [List.length_cons] at hnd hNf
        obtain ⟨N, hN⟩ : ∃ N, N = nodesOf 40 ((k - 1) :: l) := ⟨_, rfl⟩
        rw [← hN] at hnd hNf hkN
        have hlenN : N.length ≤ 61 := by omega
        have HNF := hid hNf
        have HKN := hid hkN
        clear hZ7 hR7 hM7 hB7 hbw7 hT8 hR8 hN hNf hkN
        have hs8 := hbw8.size
        go_wp2_with fail
        refine hnd.mono ?_
        rintro e w9 ⟨av, rfl, hA9, hb9⟩
        replace hA9 := hA9.mono hs8
        have hM9 := hM8.below_ hb9
        have hB9 := hB8.below hb9 hB8.lt
        have hbw9 := hbw8.trans (hb9.mono hs8)
        obtain ⟨AN, cN, rfl, _, _⟩ := hA9.rdi
        have hs9 := hbw9.size
        clear hnd hM8 hB8 hbw8 hb9 hs8
        have hnew := gnew_any 4 40 N _ _ w9 (by omega) hA9
        obtain ⟨c0, c1, cff⟩ := hB9.two
        go_wp2_with fail
        refine hnew.mono ?_
        rintro e w10 ⟨p, rfl, hp, hS10, hb10⟩
        have hpw : w.heap.size ≤ p := by omega
        have hM10 := hM9.below_ hb10
        have hB10 := hB9.below hb10 hB9.lt
        have hA10 := hA9.below hb10
        have hbw10 := hbw9.trans (hb10.mono hs9)
        have hs10 := hbw10.size
        clear hnew hM9 hB9 hA9 hbw9 hb10 c0 c1 cff
        obtain ⟨Bn, hBn⟩ : ∃ Bn, Bn = w10.heap.size := ⟨_, rfl⟩
        rw [← hBn] at hS10
        have hBw : w.heap.size ≤ Bn := by omega
        obtain ⟨Cp, hCp⟩ := hS10.blk
        have hpg : p ≠ g ∧ p ≠ b ∧ p ≠ w3.heap.size := ⟨hCp.ne hM10.mem (by decide), hCp.ne hM10.words (by decide), hCp.ne hB10 (by decide)⟩
        have hqg : w3.heap.size ≠ g ∧ w3.heap.size ≠ b := ⟨hB10.ne hM10.mem (by decide), hB10.ne hM10.words (by decide)⟩
        have hB0 : w3.heap.size < Bn := by have := hB10.lt; omega
        have hAB : ∀ c, (Value.slice AN N.length cN).ownBlock = some c → c < Bn := fun c hc => by have := (hA10.ge c hc).2; omega
        have hBle : Bn ≤ w10.heap.size := by omega
        have hKI : KeepInv V1 (SV.new 4 40 N) at_ k N := by
          have hl := HST.out
          have hh := hl.laid.has_slot ⟨by omega, by omega⟩ at_ (by omega)
          have hat2 : ∀ j : Nat, V1.at (slotA 40 j) = if j = at_ then k else V.at (slotA 40 j) := fun j => by
            rw [hV1, MV.store_at]
            by_cases e : j = at_
            · rw [if_pos ⟨hh, by rw [e]⟩, if_pos e]
            · rw [if_neg (fun h => e (slotA_inj h.2)), if_neg e]
          refine KeepInv.start (by rw [hV1, MV.store_len]; have := hl.laid.len; omega) HNF.out.2.2 (by omega) (by rw [hat2, if_pos rfl]) (fun j hj => ?_) (fun x hx => ?_) (fun x a c => ?_)
          · rw [hat2]; split
            · omega
            · exact hl.word j (by omega)
          · have hxb := HNF.out.2.2 x hx
            rw [hV1, MV.store_at, if_neg (fun h => slot_not_life 40 x at_ hxb h.2.symm)]
            exact hl.life x hxb.1 hxb.2
          · rw [hV1, MV.store_at, if_neg (fun h => slot_not_life 40 x at_ ⟨a, c⟩ h.2.symm)]
            exact hl.life x a c
        have hV1a : 0 ≤ V1.a ∧ V1.a ≤ 41 := by rw [hV1, MV.store_a]; simp at hVa; omega
        have HKI := hid hKI
        obtain ⟨q, hq⟩ : ∃ q, q = w3.heap.size := ⟨_, rfl⟩
        rw [← hq] at hB10 hpg hqg hB0 hs3
        clear hKI hCp hBn hVa hV1 HST hwk8 hgl hbl hql hs6 hs9 hk hk' hat hat' hk1
        rw [← hq]
        have HQ := hid hq
        clear hq
        go_wp2
        go_loopw [82, 17] (fun i d wr => KpRel w g b q p Bn at_ k N (.slice AN N.length cN) sl.length 100 i d wr) (fun i _ _ => sl.length - (intOf i).toNat)
        case atStart => exact ⟨0, V1, SV.new 4 40 N, rfl, Nat.zero_le _, rfl, hbw10, hBle, hM10, hS10, HKI.out, hB10, hA10, hV1a.1, by simp; omega⟩
        case round =>
          clear hbw10 hM10 hS10 HKI hB10 hA10 hV1a hs10
          obtain ⟨j, V2, S2, rfl, hj, rfl, hbw, hBs, hM, hS, hK, hB, hA, hva0, hva1⟩ := hrel
          have hsz := hbw.size
          by_cases hlt : j < sl.length
          · obtain ⟨bb, off, rfl, hbb, hcell⟩ := HR.out.resolve_left (fun h => by subst h; simp at hlt)
            obtain ⟨xa, xb⟩ := hcell j hlt
            clear hcell
            rw [← hbw.cell (p := ⟨bb, off + j * 2, none⟩) hbb] at xa
            rw [← hbw.cell (p := ⟨bb, off + j * 2 + 1, none⟩) hbb] at xb
            have hzj := HW.out (sl.getD j (0, 0)) (by rw [List.getD_eq_getElem?_getD, List.getElem?_eq_getElem hlt]; exact List.getElem_mem hlt)
            generalize sl.getD j (0, 0) = zz at *
            obtain ⟨z, z2⟩ := zz
            simp only at xa xb hzj
            obtain ⟨⟨z0, z1⟩, z3, z4⟩ := hzj
            obtain ⟨i, hi⟩ : ∃ i : Nat, z.tmod 8 = (i : Int) := ⟨(z % 8).toNat, by rw [Int.tmod_eq_emod_of_nonneg z0]; omega⟩
            have hi' : z % 8 = (i : Int) := by rw [← hi, Int.tmod_eq_emod_of_nonneg z0]
            have hi8 : i < 8 := by omega
            have hZ := Blk.new wr 55 #[.int .u8 z, .int .u8 z2]
            have hbw2 := hbw.alloc hsz (.cells #[.int .u8 z, .int .u8 z2] 55)
            have hM2 := hM.alloc (.cells #[.int .u8 z, .int .u8 z2] 55)
            have hS2 := hS.below ((Below.refl wr.heap.size wr).alloc (Nat.le_refl _) (.cells #[.int .u8 z, .int .u8 z2] 55))
            have hB2 := hB.alloc (.cells #[.int .u8 z, .int .u8 z2] 55)
            have hA2 := hA.alloc (.cells #[.int .u8 z, .int .u8 z2] 55)
            have hBs2 : Bn ≤ (wr.alloc (.cells #[.int .u8 z, .int .u8 z2] 55)).heap.size := by simp; omega
            obtain ⟨nb, hnb⟩ : ∃ nb : Bool, ((i : Int) != (at_ : Int)) = nb := ⟨_, rfl⟩
            have HNB := hid (show nb = true ↔ i ≠ at_ from by rw [← hnb]; simp only [bne_iff_ne, ne_eq, Int.natCast_inj])
            have HKp := hid hK
            clear hbw hM hS hB hA hBs hK
            go_upto_if 92 with (fail)
            clear xa xb hnb
            have hlit : wr.heap.size < (wr.alloc (.cells #[.int .u8 z, .int .u8 z2] 55)).heap.size := by simp
            generalize hwa : wr.alloc (.cells #[.int .u8 z, .int .u8 z2] 55) = wa at *
            generalize hzb : wr.heap.size = zb at *
            clear hwa
            go_cut [] (fun wx => KpMid w g b q p Bn at_ k N (.slice AN N.length cN) S2 (101 + 2 * (j : Int)) wx)
            case first =>
              cases nb
              · skip
                go_wp2
                go_meet
                exact ⟨V2, hbw2, hBs2, hM2, hS2, HKp.out, hB2, hA2, hva0, by omega⟩
              · have hia : i ≠ at_ := HNB.out.1 rfl
                obtain ⟨u2, hu⟩ : ∃ u2 : Int, (i : Int).tdiv 2 = u2 := ⟨_, rfl⟩
                obtain ⟨r2, hr⟩ : ∃ r2 : Int, (i : Int).tmod 2 = r2 := ⟨_, rfl⟩
                have hu' : (i : Int) / 2 = u2 := by rw [← hu, Int.tdiv_eq_ediv_of_nonneg (by omega)]
                have hr' : (i : Int) % 2 = r2 := by rw [← hr, Int.tmod_eq_emod_of_nonneg (by omega)]
                have hwu : IntKind.i64.wrap u2 = u2 := by rw [IntKind.wrap_i64]; omega
                have hwz : IntKind.u64.wrap z2 = z2 := by rw [IntKind.wrap_u64]; omega
                obtain ⟨y, hy⟩ : ∃ y : Int, z2.tmod 41 = y := ⟨_, rfl⟩
                have hy' : z2 % 41 = y := by rw [← hy, Int.tmod_eq_emod_of_nonneg z3]
                have hyb : 0 ≤ y ∧ y ≤ 40 := by omega
                have hsl := fun W => slot_any 4 40 u2 r2 ⟨by omega, by omega⟩ ⟨by omega, by omega⟩ (by unfold smallI; omega) (by unfold smallI; omega) W
                rw [show 5 + 2 * 40 + 2 * u2 + r2 = slotA 40 i by unfold slotA; omega] at hsl
                have hsto := fun W hM => store_any g b V2 (slotA 40 i) y W hM (by unfold actsOk; omega)
                have hkn := HKp.out.store HNF.out.2.2 i hia y hyb
                have hvn : (V2.store (slotA 40 i) y).a = V2.a + 1 := MV.store_a ..
                have HKN2 := hid (And.intro hkn hvn)
                clear hkn hvn hia
                generalize V2.store (slotA 40 i) y = V3 at *
                generalize slotA 40 i = ad at *
                have hql := hB2.lt
                have hzl := hZ.lt
                obtain ⟨c0, c1, cff⟩ := hB2.two
                obtain ⟨e0, e1, eff⟩ := hZ.two
                go_wp2
                go_region_held3 (fun w' => w'.cell? ⟨q, 0, none⟩ = some (.int .i64 4) ∧ w'.cell? ⟨q, 1, none⟩ = some (.int .i64 40) ∧ w'.cell? ⟨zb, 1, none⟩ = some (.int .u8 z2))
                  (first | go_keep | exact ⟨d0, d1, d2⟩ | exact ⟨f0, f1, f2⟩)
                  (first | (go_at_call 10; (with_reducible refine (hsl _).mono ?_); rintro e w20 ⟨rfl, hb20⟩; have hM20 : MemAt w20 g b V2 := (hM2.drewN 1).below_ hb20; have hB20 : Blk w20 q 28 #[.int .i64 4, .int .i64 40] := (hB2.drewN 1).below hb20 hql; have hZ20 : Blk w20 zb 55 #[.int .u8 z, .int .u8 z2] := (hZ.drewN 1).below hb20 hzl; obtain ⟨d0, d1, dff⟩ := hB20.two; have d2 := hZ20.two.2.1)
                         | (go_at_call 9; (with_reducible refine (hsto _ hM20).mono ?_); rintro e w21 ⟨rfl, hM21, hT21⟩; have hB21 := hB20.touch hT21 (not_two (hB20.ne hM20.mem (by decide)) (hB20.ne hM20.words (by decide))); have hZ21 := hZ20.touch hT21 (not_two (hZ20.ne hM20.mem (by decide)) (hZ20.ne hM20.words (by decide))); obtain ⟨f0, f1, fff⟩ := hB21.two; have f2 := hZ21.two.2.1))
                rename_i hheld
                have hw20 : Below wa.heap.size wa w20 := ⟨hb20.os, hb20.tape, hb20.output, hb20.size, hb20.block⟩
                have hbw20 := hbw2.trans (hw20.mono hbw2.size)
                have hbw21 := hbw20.trans (hT21.below2 hgw hbw' hbw20.size)
                have hS20 := hS2.below hw20
                have hS21 := hS20.mem hM20 hT21
                have hA20 := hA2.below hw20
                have hA21 := hA20.touch hT21 (fun c hc => not_two (hA20.ne hM20.mem (by decide) c hc) (hA20.ne hM20.words (by decide) c hc))
                have hBs21 : Bn ≤ w21.heap.size := Nat.le_trans hBs2 (Nat.le_trans hw20.size hT21.size)
                clear hheld c0 c1 cff e0 e1 eff d0 d1 d2 dff f0 f1 f2 fff hsl hsto hM20 hB20 hZ20 hT21 hw20 hbw20 hS20 hA20 hb20 hM2 hB2 hZ hS2 hA2 hbw2 hBs2 hu hr hu' hr' hwu hwz hy hy' hZ21
                go_wp2
                go_meet
                exact ⟨V3, hbw21, hBs21, hM21, hS21, HKN2.out.1, hB21, hA21, by have := HKN2.out.2; omega, by have := HKN2.out.2; omega⟩
            case rest =>
              clear hbw2 hM2 hS2 hB2 hA2 hBs2 hZ HKp
              obtain ⟨V3, hbw, hBs, hM, hS, hK, hB, hA, hva2, hva3⟩ := hcut
              have HKp := hid hK
              cases he : S2.ended
              · have hst := sstep_any Bn g b p V3 S2 wc hM (by unfold actsOk; omega) hS hK.ok hK.okS hBs
                have hkn := hK.step HNF.out.2.2 HNF.out.2.1
                have hva := SV.step_a V3 S2
                have HN := hid (And.intro hkn hva)
                clear hK hkn hva
                generalize hres : SV.step V3 S2 = res at *
                clear hres
                obtain ⟨V4, S4⟩ := res
                go_wp2_with fail
                refine hst.mono ?_
                rintro e w22 ⟨rfl, hM22, hS22, hT22⟩
                have hns : ∀ c, c ≠ g → c ≠ b → c ≠ p → c < Bn → ¬ scanS Bn g b p c := fun c a1 a2 a3 a4 h => by
                  rcases h with (h | h) | h | h
                  · exact a1 h
                  · exact a2 h
                  · exact a3 h
                  · omega
                have hB22 := hB.touch hT22 (hns _ hqg.1 hqg.2 (Ne.symm hpg.2.2) hB0)
                obtain ⟨Cp2, hCp2⟩ := hS.blk
                have hA22 := hA.touch hT22 (fun c hc => hns _ (hA.ne hM.mem (by decide) c hc) (hA.ne hM.words (by decide) c hc) (hA.ne hCp2 (by decide) c hc) (hAB c hc))
                have hbw22 : Below w.heap.size w w22 := hbw.trans (hT22.below (fun c hc => by
                  rcases hc with (h | h) | h | h <;> omega) hbw.size)
                have hBs22 := Nat.le_trans hBs hT22.size
                clear hst hM hS hB hA hbw hT22 hCp2
                go_wp2
                go_roundw
                case rel => exact ⟨j + 1, V4, S4, by go_num, by omega, rfl, hbw22, hBs22, hM22, hS22, HN.out.1, hB22, hA22, by have := HN.out.2; omega, by have := HN.out.2; push_cast; omega⟩
                case measure => simp [intOf]; omega
              · clear hK
                go_wp2
                go_roundw
                case rel => exact ⟨j + 1, V3, S2, by go_num, by omega, by rw [he], hbw, hBs, hM, hS, HKp.out, hB, hA, hva2, by push_cast; omega⟩
                case measure => simp [intOf]; omega
          · obtain rfl : j = sl.length := by omega
            have hle := left_le hK
            have HKp := hid hK
            clear hK
            go_wp2
            go_loopw [21, 17] (fun i d wr => KpRun w g b q p Bn at_ k N (.slice AN N.length cN) i d wr) (fun i _ _ => 100 - (intOf i).toNat)
            case atStart => exact ⟨0, V2, S2, rfl, by omega, rfl, hbw, hBs, hM, hS, HKp.out, hB, hA, hva0, by omega, by omega⟩
            case round =>
              clear hbw hM hS hB hA hBs hva0 hva1 hle HKp hsz
              obtain ⟨j, V3, S3, rfl, hj, rfl, hbw, hBs, hM, hS, hK, hB, hA, hva2, hva3, hlf⟩ := hrel
              have HKp := hid hK
              have hsz := hbw.size
              cases he : S3.ended
              · have hls := (left_step V3 S3 hK.ok hK.tt).resolve_right (by rw [he]; simp)
                have hst := sstep_any Bn g b p V3 S3 wr hM (by unfold actsOk; omega) hS hK.ok hK.okS hBs
                have hkn := hK.step HNF.out.2.2 HNF.out.2.1
                have hva := SV.step_a V3 S3
                have HN := hid (And.intro hkn (And.intro hva hls))
                have hj100 : j < 100 := by omega
                have g1 : decide ((j : Int) < 100) = true := decide_eq_true (by omega)
                clear hK hkn hva hls
                generalize hres : SV.step V3 S3 = res at *
                clear hres
                obtain ⟨V4, S4⟩ := res
                go_wp2_with fail
                refine hst.mono ?_
                rintro e w22 ⟨rfl, hM22, hS22, hT22⟩
                have hns : ∀ c, c ≠ g → c ≠ b → c ≠ p → c < Bn → ¬ scanS Bn g b p c := fun c a1 a2 a3 a4 h => by
                  rcases h with (h | h) | h | h
                  · exact a1 h
                  · exact a2 h
                  · exact a3 h
                  · omega
                have hB22 := hB.touch hT22 (hns _ hqg.1 hqg.2 (Ne.symm hpg.2.2) hB0)
                obtain ⟨Cp2, hCp2⟩ := hS.blk
                have hA22 := hA.touch hT22 (fun c hc => hns _ (hA.ne hM.mem (by decide) c hc) (hA.ne hM.words (by decide) c hc) (hA.ne hCp2 (by decide) c hc) (hAB c hc))
                have hbw22 : Below w.heap.size w w22 := hbw.trans (hT22.below (fun c hc => by
                  rcases hc with (h | h) | h | h <;> omega) hbw.size)
                have hBs22 := Nat.le_trans hBs hT22.size
                clear hst hM hS hB hA hbw hT22 hCp2
                go_wp2
                go_roundw
                case rel => exact ⟨j + 1, V4, S4, by go_num, by omega, rfl, hbw22, hBs22, hM22, hS22, HN.out.1, hB22, hA22, by have := HN.out.2.1; omega, by have := HN.out.2.1; push_cast; omega, by have := HN.out.2.2; omega⟩
                case measure => simp [intOf]; omega
              · have g1 : decide ((j : Int) < 100) = true := decide_eq_true (by omega)
                obtain ⟨f1, f2, f3, f4⟩ := hK.fin hatb he HKN.out
                have hokL := hK.okL
                have hklen : S3.kept.length ≤ 61 ∧ S3.freed.length ≤ 61 := by omega
                obtain ⟨kv, fv, ⟨A9, cap9, sv9, gv9, k9, _⟩, hrows⟩ := hS
                obtain ⟨_, hK9, hF9⟩ := hrows.resolve_left (fun h => by rw [he] at h; simp at h)
                obtain ⟨Ak, ck, rfl, hKr, _⟩ := hK9.rdi
                obtain ⟨Af, cf, rfl, hFr, _⟩ := hF9.rdi
                generalize S3.kept = K at *
                generalize S3.freed = F at *
                have hc1 : Calls Try.prog 23 #[.slice Ak K.length ck, .int .i64 k] wr.drew fun e w' => e = .returned (.bool (decide (k ∈ K))) ∧ Below wr.drew.heap.size wr.drew w' := contains_any Ak K ck k wr.drew (by omega) hKr
                rw [decide_eq_true f1] at hc1
                have hc2 := fun W (h : RdI W .i64 Af F) => contains_any Af F cf k W (by omega) h
                rw [decide_eq_false f2] at hc2
                have hlq : (IntKind.i64.wrap ((K.length : Int) + (F.length : Int)) != (N.length : Int)) = false := by rw [IntKind.wrap_i64, ← f3]; push_cast; simp; omega
                generalize hCe : #[Value.int .i64 S3.t, .int .i64 S3.n, .slice Ak K.length ck, .slice Af F.length cf, .slice A9 S3.nodes.length cap9, sv9, .int .i64 S3.told.length, gv9, .bool S3.ended] = C9 at *
                have HCE := hid hCe
                have cp2 : wr.cell? ⟨p, 2, none⟩ = some (.slice Ak K.length ck) := by rw [k9.cell, ← HCE.out]; rfl
                have cp3 : wr.cell? ⟨p, 3, none⟩ = some (.slice Af F.length cf) := by rw [k9.cell, ← HCE.out]; rfl
                have hpl := k9.lt
                have HFIN := hid (And.intro f4 hokL)
                have hlenK : (0 : Int) ≤ (K.length : Int) ∧ (K.length : Int) ≤ 61 := by omega
                clear hCe f1 f2 f3 f4 hokL hK hrows hK9 hF9
                go_wp2
                go_region_held3 (fun w' => w'.cell? ⟨p, 2, none⟩ = some (.slice Ak K.length ck) ∧ w'.cell? ⟨p, 3, none⟩ = some (.slice Af F.length cf))
                  (first | go_keep | exact ⟨e0, e1⟩ | exact ⟨d0, d1⟩)
                  (first | (go_at_call 23; (with_reducible refine hc1.mono ?_); rintro e w30 ⟨rfl, hb30⟩; have d0 : w30.cell? ⟨p, 2, none⟩ = some (.slice Ak K.length ck) := (hb30.cell (p := ⟨p, 2, none⟩) hpl).trans cp2; have d1 : w30.cell? ⟨p, 3, none⟩ = some (.slice Af F.length cf) := (hb30.cell (p := ⟨p, 3, none⟩) hpl).trans cp3; have hw30 : Below wr.heap.size wr w30 := ⟨hb30.os, hb30.tape, hb30.output, hb30.size, hb30.block⟩; have hF30 := hFr.keep hw30 (Nat.le_refl _); have hc3 := hc2 w30 hF30)
                         | (go_at_call 23; (with_reducible refine hc3.mono ?_); rintro e w31 ⟨rfl, hb31⟩; have hpl30 : p < w30.heap.size := Nat.lt_of_lt_of_le hpl hw30.size; have e0 : w31.cell? ⟨p, 2, none⟩ = some (.slice Ak K.length ck) := (hb31.cell (p := ⟨p, 2, none⟩) hpl30).trans d0; have e1 : w31.cell? ⟨p, 3, none⟩ = some (.slice Af F.length cf) := (hb31.cell (p := ⟨p, 3, none⟩) hpl30).trans d1))
                rename_i hheld
                have hw31 : Below wr.heap.size wr w31 := hw30.trans (hb31.mono hw30.size)
                have hM31 := hM.below_ hw31
                have hB31 := hB.below hw31 hB.lt
                have hA31 := hA.below hw31
                have hK31 := hKr.keep hw31 (Nat.le_refl _)
                have k31 := k9.below hw31 k9.lt
                have hbw31 := hbw.trans (hw31.mono hsz)
                clear hheld hc1 hc2 hc3 hb30 hw30 hF30 hb31 hpl30 hw31 hM hB hA hKr hFr k9 hbw cp2 cp3 d0 d1 e0 e1 hpl hBs
                go_wp2
                clear hlq
                go_loopw [159] (fun i wr => KpEnd w g b q p C9 V3 N K (.slice AN N.length cN) Ak i wr) (fun i _ => N.length - (intOf i).toNat)
                case atStart => exact ⟨0, rfl, Nat.zero_le _, hbw31, hM31, hB31, k31, hK31, hA31⟩
                case round =>
                  clear hbw31 hM31 hB31 k31 hK31 hA31 hsz
                  obtain ⟨j2, rfl, hj2, hbw, hM, hB, hC, hKr, hA⟩ := hrel
                  have hsz := hbw.size
                  by_cases hlt : j2 < N.length
                  · obtain ⟨bb, o1, rfl, hb1, hcell⟩ := hA.rd.resolve_left (fun h => by subst h; simp at hlt)
                    have x1 := hcell j2 hlt
                    clear hcell
                    have hxb := HNF.out.2.2 (N.getD j2 0) (by rw [List.getD_eq_getElem?_getD, List.getElem?_eq_getElem hlt]; exact List.getElem_mem hlt)
                    have hxl := HFIN.out.1 (N.getD j2 0) (by rw [List.getD_eq_getElem?_getD, List.getElem?_eq_getElem hlt]; exact List.getElem_mem hlt)
                    generalize N.getD j2 0 = x at *
                    obtain ⟨x2, x3⟩ := hxb
                    obtain ⟨Bv, hBv⟩ : ∃ Bv, decide (x ∈ K) = Bv := ⟨_, rfl⟩
                    have htb : decide (1 ≤ x ∧ x ≤ 40 ∧ V3.at (lifeA 40 x) % 2 = 1) = Bv := by
                      rw [← hBv]
                      refine decide_eq_decide.2 ⟨fun h => ?_, fun h => ⟨x2, x3, ?_⟩⟩
                      · have h3 := h.2.2
                        rw [hxl] at h3
                        by_cases hm : x ∈ K
                        · exact hm
                        · rw [if_neg hm] at h3; simp at h3
                      · rw [hxl, if_pos h]; rfl
                    have htk := fun W hM => taken_any g b V3 4 40 x hlay (by unfold i64s; omega) W hM HFIN.out.2
                    rw [htb] at htk
                    have hct := fun W (h : RdI W .i64 Ak K) => contains_any Ak K ck x W (by omega) h
                    rw [hBv] at hct
                    have qT := fun d os => Calls.regrown_of (htk (grow (redrawn wr d) os) (hM.below_ (below_regrown wr d os)))
                    have qC := fun d os => Calls.regrown_of (hct (grow (redrawn wr d) os) (hKr.keep (below_regrown wr d os) (Nat.le_refl _)))
                    obtain ⟨c0, c1, cff⟩ := hB.two
                    have cp2 : wr.cell? ⟨p, 2, none⟩ = some (.slice Ak K.length ck) := by rw [hC.cell, ← HCE.out]; rfl
                    have k0 := cell_regrown c0
                    have k1 := cell_regrown c1
                    have k2 := cell_regrown cp2
                    have hbb : (Bv != Bv) = false := by cases Bv <;> rfl
                    clear htk hct htb hBv hxl
                    have HH := hid (And.intro hM (And.intro hB (And.intro hC (And.intro hKr hA))))
                    go_wp2
                    clear hM hB hC hKr hA c0 c1 cp2
                    refine wp_region_quiet_below (by kernel_rfl) (by kernel_rfl) ?_
                    repeat (quiet_step (first | exact qT _ _ | exact qC _ _))
                    refine wpQuiet_nil ?_
                    intro _ hw'
                    obtain ⟨⟨dq, osq⟩, hw''⟩ := hw'
                    subst hw''
                    have hbq := below_regrown wr dq osq
                    obtain ⟨hM, hB, hC, hKr, hA⟩ := HH.out
                    replace hM := hM.below_ hbq
                    replace hB := hB.below hbq hB.lt
                    replace hC := hC.below hbq hC.lt
                    replace hKr := hKr.keep hbq (Nat.le_refl _)
                    replace hA := hA.below hbq
                    replace hbw := hbw.trans (hbq.mono hsz)
                    clear qT qC k0 k1 k2 HH hbq
                    generalize grow (redrawn wr dq) osq = w40 at *
                    go_wp2
                    go_roundw
                    case rel => exact ⟨j2 + 1, by go_num, by omega, hbw, hM, hB, hC, hKr, hA⟩
                    case measure => simp [intOf]; omega
                  · obtain rfl : j2 = N.length := by omega
                    go_wp2
                    go_ret
                    exact ⟨rfl, hbw⟩
  · clear hm hm' hw hw' hR hR'
    have hX := Blk.new w 55 #[.int .u8 x0, .int .u8 y0]
    have hbx := (Below.refl w.heap.size w).alloc (Nat.le_refl _) (.cells #[.int .u8 x0, .int .u8 y0] 55)
    by_cases hs : sl.length ≤ 60
    · have d1 : decide ((sl.length : Int) > 60) = false := decide_eq_false (by omega)
      have d2 : decide ((l.length : Int) > 60) = true := decide_eq_true (by omega)
      go_enter Try.func5, Try.ntmps5
      go_wp2_with fail
      refine (gawake_any _).mono ?_
      rintro e w1 ⟨rfl, hb1⟩
      have hX1 := hX.below hb1 hX.lt
      have hbw1 := hbx.trans (hb1.mono (by simp))
      clear hX hbx hb1
      obtain ⟨c0, c1, cf⟩ := hX1.two
      go_wp2
      go_quiet (fail)
      have hbw2 : Below w.heap.size w (w1.drewN nq) := below_drewN hbw1 nq
      clear c0 c1 cf hX1 hbw1
      generalize w1.drewN nq = w2 at *
      go_wp2
      go_ret
      exact ⟨rfl, hbw2⟩
    · have d1 : decide ((sl.length : Int) > 60) = true := decide_eq_true (by omega)
      go_enter Try.func5, Try.ntmps5
      go_wp2_with fail
      refine (gawake_any _).mono ?_
      rintro e w1 ⟨rfl, hb1⟩
      have hX1 := hX.below hb1 hX.lt
      have hbw1 := hbx.trans (hb1.mono (by simp))
      clear hX hbx hb1
      obtain ⟨c0, c1, cf⟩ := hX1.two
      go_wp2
      go_quiet (fail)
      have hbw2 : Below w.heap.size w (w1.drewN nq) := below_drewN hbw1 nq
      clear c0 c1 cf hX1 hbw1
      generalize w1.drewN nq = w2 at *
      go_wp2
      go_ret
      exact ⟨rfl, hbw2⟩
end Go.Proofs.Ytcfoinophfakhaa
