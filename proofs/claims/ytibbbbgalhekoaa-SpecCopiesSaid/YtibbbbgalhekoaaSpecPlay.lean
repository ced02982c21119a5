/- Package spec: Play. -/
import Derived.Test.YtibbbbgalhekoaaSpecRight
import Derived.Test.YtibbbbgalhekoaaKops
import Derived.Test.YtibbbbgalhekoaaRowG
namespace Go.Proofs.Ytibbbbgalhekoaa
open Go.RowKit
set_option maxHeartbeats 4000000

theorem items_sorted (s : Int) (ops : List (Int × Int)) (h : ∀ x ∈ ops, rightP s x.1 x.2) (hs : s = 1 ∨ s = 2) : (itemsL s ops).Pairwise (· < ·) :=
  runL_sorted s hs ops [] (fun x hx => by have := h x hx; unfold rightP at this; omega) List.Pairwise.nil

/-- A result's cells. -/
def resC (x : Bool × Int) : List Value := [.int .i64 0, .bool x.1, .int .i64 x.2]
abbrev ResRow (w : World) (B : Nat) (v : Value) (l : List (Bool × Int)) : Prop := RowG 37 3 resC w B v l
theorem info_res : (Try.prog.info? 37).map (fun i => (i.zero, i.size, i.bytes)) = some (some (.agg #[.int .i64 0, .bool false, .int .i64 0]), 3, 24) := by kernel_rfl

/-- A list of other things stays when a meaning is changed. -/
theorem RowG.stepped {α : Type} {e : TypeId} {k : Nat} {f : α → List Value} {w w' : World} {B C s : Nat} {u v v' : Value} {m : List α} {sh : Int} {l : List Int} (h : RowG e k f w B u m) (hS : SpecAt w C s sh v l) (hst : Stepped s v v' w w') (h1 : e ≠ 33) (h2 : e ≠ 3) : RowG e k f w' B u m :=
  h.touch hst.touch (fun c hc hk => by
    rcases h.own.2 with ⟨rfl, _⟩ | ⟨g, cap, cur, rfl, _, hh, _⟩
    · simp [Value.ownBlock] at hc
    · simp [Value.ownBlock] at hc
      subst hc
      have hB : Blk w g e cur := hh
      rcases hk with e1 | e1
      · exact hB.ne hS.blk h1 e1
      · exact hS.row.ne hB h2 _ e1 rfl)
theorem Stepped.below_ {w w' : World} {s : Nat} {v v' : Value} {B C : Nat} {sh : Int} {l : List Int} (h : Stepped s v v' w w') (hS : SpecAt w B s sh v l) (hC : C ≤ B) : Below C w w' := (h.below hS).mono hC

def PlayRel (w0 : World) (sh : Int) (s : Nat) (l : List (Int × Int)) (i u : Value) (w : World) : Prop :=
  ∃ j : Nat, j ≤ l.length ∧ i = .int .i64 j ∧ (∀ x ∈ l.take j, rightP sh x.1 x.2) ∧ ResRow w w0.heap.size u (toldL sh l j) ∧ (∃ v, SpecAt w w0.heap.size s sh v (itemsL sh (l.take j))) ∧ Below w0.heap.size w0 w

/-- What Play answers. -/
def PlayPost (w0 : World) (sh : Int) (l : List (Int × Int)) (e : Ending) (w : World) : Prop :=
  (((1 ≤ sh ∧ sh ≤ 4) ∧ (∀ x ∈ l, rightP sh x.1 x.2)) ∧ (∃ u s v, e = .returned (.tuple #[u, .pointer (some ⟨s, 0, none⟩), .int .i64 0]) ∧ ResRow w w0.heap.size u (toldL sh l l.length) ∧ SpecAt w w0.heap.size s sh v (itemsL sh l)) ∨
   ¬ ((1 ≤ sh ∧ sh ≤ 4) ∧ (∀ x ∈ l, rightP sh x.1 x.2)) ∧ e = .returned (.tuple #[.slice none 0 0, .pointer none, .int .i64 1])) ∧ Below w0.heap.size w0 w

theorem splay_any (sh : Int) (A : Option Addr) (l : List (Int × Int)) (cap : Nat) (w : World) (hl : l.length ≤ 100000) (hrd : RdK w A l) :
    Calls Try.prog 18 #[.int .i64 sh, .slice A l.length cap] w (PlayPost w sh l) := by
  have HR := hid hrd
  clear hrd
  by_cases hsh : 1 ≤ sh ∧ sh ≤ 4
  · have HS := hid hsh
    clear hsh
    go_enter Try.func18, Try.ntmps18
    go_wp2_with fail
    refine (snew_yes sh _ HS.out).mono ?_
    rintro e w1 ⟨s, rfl, hN, hbN⟩
    go_wp2
    go_loopw [24, 9] (fun i u wr => PlayRel w sh s l i u wr) (fun i _ _ => l.length - (intOf i).toNat)
    case atStart => exact ⟨0, Nat.zero_le _, rfl, fun x hx => by simp at hx, RowG.none _ _, ⟨_, hN⟩, hbN⟩
    case round =>
      obtain ⟨j, hj, rfl, hall, hK, ⟨v, hA⟩, hbw⟩ := hrel
      clear hN hbN
      have hsz := hbw.size
      by_cases hlt : j < l.length
      · have hRr := HR.out.below hbw (Nat.le_refl _)
        obtain ⟨b1, o1, rfl, hb1, hc1⟩ := hRr.resolve_left (fun h => by subst h; simp at hlt)
        obtain ⟨x1, x2⟩ := hc1 j hlt
        clear hc1 hRr
        have htk := take_snocK hlt
        have hmem : l.getD j (0, 0) ∈ l := by rw [List.getD_eq_getElem?_getD, List.getElem?_eq_getElem hlt]; exact List.getElem_mem hlt
        have hit := itemsL_snoc sh (l.take j) (l.getD j (0, 0))
        rw [← htk] at hit
        have hto := toldL_succ sh l j
        have hta : toldAt sh l j = (stepOk (l.getD j (0, 0)).1 (l.getD j (0, 0)).2 (itemsL sh (l.take j)), stepVal (l.getD j (0, 0)).1 (itemsL sh (l.take j))) := rfl
        rw [hta] at hto
        have hil := itemsL_len sh (l.take j)
        rw [List.length_take] at hil
        have hil2 : (itemsL sh (l.take j)).length ≤ 1000000 := by omega
        have hsrt := fun h => items_sorted sh (l.take j) hall h
        have hkl : (toldL sh l j).length ≤ 1000000 := by rw [toldL_len]; omega
        have HT := hid (And.intro htk (And.intro hmem (And.intro hall (And.intro hit hto))))
        have HI := hid (And.intro hil2 hsrt)
        clear htk hmem hall hit hto hta hil hil2 hsrt
        generalize toldL sh l j = TL at *
        generalize itemsL sh (l.take j) = L at *
        generalize l.getD j (0, 0) = z at *
        obtain ⟨zk, zy⟩ := z
        have hOp := Blk.new wr 35 #[.int .i64 zk, .int .i64 zy]
        have hbo := hbw.alloc hsz (.cells #[.int .i64 zk, .int .i64 zy] 35)
        have hKo := hK.alloc (.cells #[.int .i64 zk, .int .i64 zy] 35)
        have hAo := hA.alloc (.cells #[.int .i64 zk, .int .i64 zy] 35)
        obtain ⟨c0, c1, _⟩ := hOp.two
        clear hK hA hbw
        by_cases hr : rightP sh zk zy
        · have HD := hid hr
          clear hr
          have hdo := sdo_right _ w.heap.size s sh v L zk zy hAo HI.out.1 HI.out.2 HD.out
          obtain ⟨ok, hok⟩ : ∃ ok, ok = stepOk zk zy L := ⟨_, rfl⟩
          obtain ⟨val, hval⟩ : ∃ val, val = stepVal zk L := ⟨_, rfl⟩
          rw [← hok, ← hval] at hdo
          have HV := hid (And.intro hok hval)
          clear hok hval
          go_wp2_with fail
          refine hdo.mono ?_
          rintro e w2 ⟨rfl, v2, hA2, hs2⟩
          have hbe := hbo.trans (hs2.below_ hAo (Nat.le_refl _))
          have hsz2 := hbe.size
          have hK2 := hKo.stepped hAo hs2 (by decide) (by decide)
          clear hdo c0 c1 x1 x2 hOp hbo hKo hAo hs2
          have hX := Blk.new w2 37 #[.int .i64 0, .bool ok, .int .i64 val]
          have hbx := hbe.alloc hsz2 (.cells #[.int .i64 0, .bool ok, .int .i64 val] 37)
          have hKx := hK2.alloc (.cells #[.int .i64 0, .bool ok, .int .i64 val] 37)
          have hAx := hA2.alloc (.cells #[.int .i64 0, .bool ok, .int .i64 val] 37)
          obtain ⟨r0, r1, r2, _⟩ := hX.three
          have hY := Blk.new1 w2 (.cells #[.int .i64 0, .bool ok, .int .i64 val] 37) 37 #[.int .i64 0, .bool ok, .int .i64 val]
          clear hbe hK2 hA2
          go_wp2_with (at_builtin; refine wpList_snocG rfl _ _ 47 rfl Try.underlying47 (.agg #[.int .i64 0, .bool false, .int .i64 0]) 24 info_res rfl (by decide) (by decide) (fun _ => rfl) (by simp [resC, Value.oneCell']) w.heap.size _ TL (w2.heap.size + 1) (ok, val) rfl rfl (hKx.alloc _) 37 hY (by omega) ?c1 ?_)
          try (case c1 => simp; omega)
          intro u' w' hK' hT hat
          have hbw' : Below w.heap.size w w' := (hbx.alloc hbx.size _).trans (hT.below (fun k hk => (hKx.ge k hk).1) (by simp; omega))
          have hAy := hAx.alloc (.cells #[.int .i64 0, .bool ok, .int .i64 val] 37)
          have hKy := hKx.alloc (.cells #[.int .i64 0, .bool ok, .int .i64 val] 37)
          have hA' : SpecAt w' w.heap.size s sh v2 (stepL sh zk zy L) := ⟨hAy.blk.touch hT (fun e => hKy.ne hAy.blk (by decide) _ e rfl), hAy.row.touch hT (fun c hc e => by
            rcases hKy.own.2 with ⟨rfl, _⟩ | ⟨g, cap, cur, rfl, _, hh, _⟩
            · simp [Value.ownBlock] at e
            · simp [Value.ownBlock] at e
              subst e
              exact hAy.row.ne (show Blk _ g 37 cur from hh) (by decide) _ hc rfl), hAy.ge⟩
          clear hT hat hbx hX hY hKx hAx hAy hKy r0 r1 r2
          go_wp2
          go_roundw
          case rel =>
            obtain ⟨htk, hmem, hall, hit, hto⟩ := HT.out
            obtain ⟨hok, hval⟩ := HV.out
            refine ⟨j + 1, by omega, by go_num, ?_, by rw [hto, ← hok, ← hval]; exact hK', ⟨v2, by rw [hit]; exact hA'⟩, hbw'⟩
            rw [htk]
            intro x hx
            rcases List.mem_append.1 hx with h | h
            · exact hall x h
            · have := List.mem_singleton.1 h
              subst this
              exact HD.out
          case measure => simp [intOf]; omega
        · have HD := hid (show ¬ ((1 ≤ sh ∧ sh ≤ 4) ∧ ∀ x ∈ l, rightP sh x.1 x.2) from fun h => hr (h.2 (zk, zy) HT.out.2.1))
          have hdo := sdo_not _ w.heap.size s sh v L zk zy hAo hr
          clear hr
          go_wp2_with fail
          refine hdo.mono ?_
          rintro e w2 ⟨rfl, hA2, hs2⟩
          have hbe := hbo.trans (hs2.below_ hAo (Nat.le_refl _))
          have hbx := hbe.alloc hbe.size (.cells #[.int .i64 0, .bool false, .int .i64 0] 37)
          clear hdo c0 c1 x1 x2 hOp hbo hKo hAo hs2 hA2
          go_wp2
          exact bodyPost_ret (v := .tuple #[.slice none 0 0, .pointer none, .int .i64 1]) (by simp [results, Try.results18, go_sem]) rfl ⟨Or.inr ⟨HD.out, rfl⟩, hbx⟩
      · obtain rfl : j = l.length := by omega
        rw [List.take_length] at hA hall
        have HA := hid (And.intro HS.out hall)
        clear hall
        go_wp2
        exact bodyPost_ret (v := .tuple #[_, .pointer (some ⟨s, 0, none⟩), .int .i64 0]) (by simp [results, Try.results18, go_sem]) rfl ⟨Or.inl ⟨HA.out, _, _, _, rfl, hK, hA⟩, hbw⟩
  · have HD := hid (show ¬ ((1 ≤ sh ∧ sh ≤ 4) ∧ ∀ x ∈ l, rightP sh x.1 x.2) from fun h => hsh h.1)
    have HS := hid hsh
    clear hsh
    go_enter Try.func18, Try.ntmps18
    go_wp2_with fail
    refine (snew_not sh _ HS.out).mono ?_
    rintro e w1 ⟨rfl, hb1⟩
    go_wp2
    exact bodyPost_ret (v := .tuple #[.slice none 0 0, .pointer none, .int .i64 1]) (by simp [results, Try.results18, go_sem]) rfl ⟨Or.inr ⟨HD.out, rfl⟩, hb1⟩
end Go.Proofs.Ytibbbbgalhekoaa
