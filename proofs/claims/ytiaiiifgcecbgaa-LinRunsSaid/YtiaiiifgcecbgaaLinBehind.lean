/- lin: Behind, Legal. -/
import Derived.Test.YtiaiiifgcecbgaaHA
import Derived.Test.YtiaiiifgcecbgaaLinLong
set_option linter.all false
namespace Go.Proofs.Ytiaiiifgcecbgaa
open Go.RowKit Go.Sort
set_option maxHeartbeats 4000000
set_option maxRecDepth 100000
theorem rdi_below {w w' : World} {A : Option Addr} {l : List Int} (h : RdI w .i64 A l) (hb : Below w.heap.size w w') : RdI w' .i64 A l := by
  rcases h with h | ⟨b, off, hA, hlt, hc⟩
  · exact Or.inl h
  · exact Or.inr ⟨b, off, hA, Nat.lt_of_lt_of_le hlt hb.size, fun i hi => (hb.cell (p := ⟨b, off + i, none⟩) hlt).trans (hc i hi)⟩
theorem BoolPost.is {w : World} {P : Prop} {e : Ending} {w' : World} (h : BoolPost w P e w') (b : Bool) (hb : b = true ↔ P) : e = .returned (.bool b) ∧ Below w.heap.size w w' := by
  obtain ⟨b', rfl, h2, h3⟩ := h
  have : b' = b := by rw [Bool.eq_iff_iff, h2, hb]
  rw [this]
  exact ⟨rfl, h3⟩
def BehPost (w : World) (K : Int) (cs : List Cl) (o : List Int) (e : Ending) (w' : World) : Prop :=
  ∃ (v : Value) (b : Bool), e = .returned (.tuple #[v, .bool b]) ∧ Below w.heap.size w w' ∧ ((b = true ∧ legalM K cs o ∧ RowO w' w.heap.size v (itemsM K cs o)) ∨ (b = false ∧ v = .slice none 0 0 ∧ ¬ legalM K cs o))
theorem behind_any (w : World) (B h : Nat) (v : Value) (l : List Ev) (K : Int) (A : Option Addr) (o : List Int) (cap : Nat) (hA : HistAt w B h v l) (hK : 1 ≤ K ∧ K ≤ 4) (hn : (callsL l).length ≤ 1000) (hrd : RdI w .i64 A o) (ho : o.length ≤ 1000) :
    Calls Try.prog 21 #[.int .i64 K, .pointer (some ⟨h, 0, none⟩), .slice A o.length cap] w (BehPost w K (callsL l) o) := by
  have hnew := snew_yes K w hK
  have HA := hid hA
  have HR := hid hrd
  clear hA hK hrd
  go_enter Try.func21, Try.ntmps21
  go_upto_region 4 with (go_at_call 22; (with_reducible refine hnew.mono ?_); rintro e w1 ⟨s, rfl, hS1, hb1⟩)
  have hcalls := hcalls_any w1 B h v l (HA.out.below hb1) (by omega)
  have HS1 := hid hS1
  have HB1 := hid hb1
  clear hS1 hb1 hnew
  go_upto_region 5 with (go_at_call 23; (with_reducible refine hcalls.mono ?_); rintro e w2 ⟨u, rfl, hU, hb2⟩; obtain ⟨A0, cap0, rfl, _⟩ := hU.out (fun _ => rfl))
  have HB2 := hid (HB1.out.trans (hb2.mono HB1.out.size))
  have HS2 := hid (HS1.out.below hb2)
  have HU := hid hU
  have hwh := whole_any w2 w1.heap.size _ (callsL l) A o cap hU hn (rdi_below HR.out HB2.out) (by omega)
  clear hU hb2 hcalls HS1
  generalize hcs : callsL l = cs at *
  by_cases hW : wholeP cs o
  · have hnum := hW.1
    have HNUM := hid hnum
    have HW := hid hW
    clear hnum hW
    have hwh2 := hwh.mono (fun e w' hp => hp.is true ⟨fun _ => HW.out, fun _ => rfl⟩)
    have htimely := fun w3 (hb : Below w2.heap.size w2 w3) => timely_any w3 w1.heap.size _ cs A o cap (HU.out.below hb) hn (rdi_below HR.out (HB2.out.trans (hb.mono HB2.out.size))) (by omega) HNUM.out
    have hplay := fun w4 (hb : Below w2.heap.size w2 w4) => play_any w w4 w1.heap.size s _ K cs A o cap (HS2.out.below hb) (HU.out.below hb) hn HR.out (HB2.out.trans (hb.mono HB2.out.size)) ho HNUM.out
    have HPL := hid hplay
    clear hplay
    by_cases hT : preP (timF cs) o
    · have HT := hid hT
      clear hT
      have htm := fun w3 hb => (htimely w3 hb).mono (fun e w' hp => hp.is true ⟨fun _ => HT.out, fun _ => rfl⟩)
      have HTM := hid htm
      clear htm htimely hwh
      by_cases hP : preP (plyF K cs) o
      · have hleg : legalM K cs o := legal_iff.2 ⟨HW.out, HT.out, hP⟩
        have HP := hid hP
        have HLEG := hid hleg
        clear hP hleg
        have hil : (itemsM K cs o).length ≤ 1000000 := by have := items_le K cs o; omega
        go_wp2_with (first
          | (go_at_call 29; (with_reducible refine hwh2.mono ?_); rintro e w3 ⟨rfl, hb3⟩; have htm3 := HTM.out w3 hb3)
          | (go_at_call 30; (with_reducible refine htm3.mono ?_); rintro e w4 ⟨rfl, hb4⟩; have hpl4 := HPL.out w4 (hb3.trans (hb4.mono hb3.size)))
          | (go_at_call 31; (with_reducible refine hpl4.mono ?_); rintro e w5 hp5; obtain ⟨v5, hS5⟩ := hp5.2 HP.out; obtain ⟨rfl, hb5⟩ := hp5.1.is true ⟨fun _ => HP.out, fun _ => rfl⟩; have hit := sitems_any w5 _ s K v5 _ hS5 hil)
          | (go_at_call 32; (with_reducible refine hit.mono ?_); rintro e w6 ⟨u6, rfl, hR6, hb6⟩))
        refine bodyPost_ret (v := .tuple #[u6, .bool true]) (by simp [results, Try.results21, go_sem]) rfl ?_
        exact ⟨u6, true, rfl, hb5.trans (hb6.mono hb5.size), Or.inl ⟨rfl, HLEG.out, hR6.mono hb5.size⟩⟩
      · have hno : ¬ legalM K cs o := fun h => hP (legal_iff.1 h).2.2
        have HP := hid hP
        have HNO := hid hno
        clear hP hno
        go_wp2_with (first
          | (go_at_call 29; (with_reducible refine hwh2.mono ?_); rintro e w3 ⟨rfl, hb3⟩; have htm3 := HTM.out w3 hb3)
          | (go_at_call 30; (with_reducible refine htm3.mono ?_); rintro e w4 ⟨rfl, hb4⟩; have hpl4 := HPL.out w4 (hb3.trans (hb4.mono hb3.size)))
          | (go_at_call 31; (with_reducible refine hpl4.mono ?_); rintro e w5 hp5; obtain ⟨rfl, hb5⟩ := hp5.1.is false ⟨fun h => by simp at h, fun h => absurd h HP.out⟩))
        refine bodyPost_ret (v := .tuple #[.slice none 0 0, .bool false]) (by simp [results, Try.results21, go_sem]) rfl ?_
        exact ⟨_, false, rfl, hb5, Or.inr ⟨rfl, rfl, HNO.out⟩⟩
    · have hno : ¬ legalM K cs o := fun h => hT (legal_iff.1 h).2.1
      have HT := hid hT
      have HNO := hid hno
      clear hT hno
      have htm := fun w3 hb => (htimely w3 hb).mono (fun e w' hp => hp.is false ⟨fun h => by simp at h, fun h => absurd h HT.out⟩)
      have HTM := hid htm
      clear htm htimely hwh
      go_wp2_with (first
        | (go_at_call 29; (with_reducible refine hwh2.mono ?_); rintro e w3 ⟨rfl, hb3⟩; have htm3 := HTM.out w3 hb3)
        | (go_at_call 30; (with_reducible refine htm3.mono ?_); rintro e w4 ⟨rfl, hb4⟩))
      refine bodyPost_ret (v := .tuple #[.slice none 0 0, .bool false]) (by simp [results, Try.results21, go_sem]) rfl ?_
      have hb24 := hb3.trans (hb4.mono hb3.size)
      exact ⟨_, false, rfl, HB2.out.trans (hb24.mono HB2.out.size), Or.inr ⟨rfl, rfl, HNO.out⟩⟩
  · have hno : ¬ legalM K cs o := fun h => hW (legal_iff.1 h).1
    have HW := hid hW
    have HNO := hid hno
    clear hW hno
    have hwh2 := hwh.mono (fun e w' hp => hp.is false ⟨fun h => by simp at h, fun h => absurd h HW.out⟩)
    clear hwh
    go_wp2_with (go_at_call 29; (with_reducible refine hwh2.mono ?_); rintro e w3 ⟨rfl, hb3⟩)
    refine bodyPost_ret (v := .tuple #[.slice none 0 0, .bool false]) (by simp [results, Try.results21, go_sem]) rfl ?_
    exact ⟨_, false, rfl, HB2.out.trans (hb3.mono HB2.out.size), Or.inr ⟨rfl, rfl, HNO.out⟩⟩
theorem legal_any (w : World) (B h : Nat) (v : Value) (l : List Ev) (K : Int) (A : Option Addr) (o : List Int) (cap : Nat) (hA : HistAt w B h v l) (hK : 1 ≤ K ∧ K ≤ 4) (hn : (callsL l).length ≤ 1000) (hrd : RdI w .i64 A o) (ho : o.length ≤ 1000) :
    Calls Try.prog 12 #[.int .i64 K, .pointer (some ⟨h, 0, none⟩), .slice A o.length cap] w (BoolPost w (legalM K (callsL l) o)) := by
  have hbeh := behind_any w B h v l K A o cap hA hK hn hrd ho
  unfold BehPost at hbeh
  clear hA hK hn hrd ho
  go_enter Try.func12, Try.ntmps12
  go_wp2_with (go_at_call 21; (with_reducible refine hbeh.mono ?_); rintro e w4 ⟨v4, b4, rfl, hb4, hc4⟩)
  go_ret
  rcases hc4 with ⟨rfl, h2, _⟩ | ⟨rfl, _, h2⟩
  · exact .yes rfl h2 hb4
  · exact .no rfl h2 hb4
theorem behind_shape (w : World) (a : Addr) (K : Int) (hK : ¬ (1 ≤ K ∧ K ≤ 4)) (o : Value) :
    Calls Try.prog 21 #[.int .i64 K, .pointer (some a), o] w fun e w' => e = .returned (.tuple #[.slice none 0 0, .bool false]) ∧ Below w.heap.size w w' := by
  have hnew := snew_not K w hK
  clear hK
  go_enter Try.func21, Try.ntmps21
  go_wp2_with (go_at_call 22; (with_reducible refine hnew.mono ?_); rintro e w1 ⟨rfl, hb1⟩)
  refine bodyPost_ret (v := .tuple #[.slice none 0 0, .bool false]) (by simp [results, Try.results21, go_sem]) rfl ?_
  exact ⟨rfl, hb1⟩
theorem legal_shape (w : World) (a : Addr) (K : Int) (hK : ¬ (1 ≤ K ∧ K ≤ 4)) (o : Value) :
    Calls Try.prog 12 #[.int .i64 K, .pointer (some a), o] w fun e w' => e = .returned (.bool false) ∧ Below w.heap.size w w' := by
  have hbeh := behind_shape w a K hK o
  clear hK
  go_enter Try.func12, Try.ntmps12
  go_wp2_with (go_at_call 21; (with_reducible refine hbeh.mono ?_); rintro e w4 ⟨rfl, hb4⟩)
  go_ret
  exact ⟨rfl, hb4⟩
end Go.Proofs.Ytiaiiifgcecbgaa
