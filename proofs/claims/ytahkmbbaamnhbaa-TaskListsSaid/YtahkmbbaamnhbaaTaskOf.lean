/- Package task: Of. -/
import Derived.Test.YtahkmbbaamnhbaaTask
import Derived.Test.YtahkmbbaamnhbaaTaskOpen
import Derived.Test.YtahkmbbaamnhbaaRowG
namespace Go.Proofs.Ytahkmbbaamnhbaa
open Go.RowKit
set_option maxHeartbeats 1000000

/-- A task's cells: of shape s, an operation. -/
def taskC (s : Int) (x : Int × Int) : List Value := [.int .i64 s, .int .i64 x.1, .int .i64 x.2]
abbrev TaskRow (s : Int) (w : World) (B : Nat) (v : Value) (l : List (Int × Int)) : Prop := RowG 25 3 (taskC s) w B v l

theorem RdK.below {w w' : World} {B : Nat} {A : Option Addr} {l : List (Int × Int)} (h : RdK w A l) (hb : Below B w w') (hB : w.heap.size ≤ B) : RdK w' A l := by
  rcases h with h | ⟨b, off, hA, hlt, hc⟩
  · exact Or.inl h
  · exact Or.inr ⟨b, off, hA, Nat.lt_of_lt_of_le hlt (hb.mono hB).size, fun i hi => ⟨by rw [hb.cell (p := ⟨b, off + i * 2, none⟩) (Nat.lt_of_lt_of_le hlt hB)]; exact (hc i hi).1, by rw [hb.cell (p := ⟨b, off + i * 2 + 1, none⟩) (Nat.lt_of_lt_of_le hlt hB)]; exact (hc i hi).2⟩⟩

theorem take_snocK {l : List (Int × Int)} {j : Nat} (h : j < l.length) : l.take (j + 1) = l.take j ++ [l.getD j (0, 0)] := by
  rw [List.take_succ_eq_append_getElem h]; simp [List.getD, h]

theorem info_task : (Try.prog.info? 25).map (fun i => (i.zero, i.size, i.bytes)) = some (some (.agg #[.int .i64 0, .int .i64 0, .int .i64 0]), 3, 24) := by kernel_rfl

def OfRel (w0 : World) (s : Int) (l : List (Int × Int)) (i v : Value) (w : World) : Prop :=
  ∃ j : Nat, j ≤ l.length ∧ i = .int .i64 j ∧ (∀ x ∈ l.take j, rightP s x.1 x.2) ∧ TaskRow s w w0.heap.size v (l.take j) ∧ Below w0.heap.size w0 w

/-- What Of answers. -/
def OfPost (w0 : World) (s : Int) (l : List (Int × Int)) (e : Ending) (w : World) : Prop :=
  ((∀ x ∈ l, rightP s x.1 x.2) ∧ (∃ v, e = .returned (.tuple #[v, .int .i64 0]) ∧ TaskRow s w w0.heap.size v l) ∨
   (¬ ∀ x ∈ l, rightP s x.1 x.2) ∧ e = .returned (.tuple #[.slice none 0 0, .int .i64 1])) ∧ Below w0.heap.size w0 w

theorem tof_any (s : Int) (A : Option Addr) (l : List (Int × Int)) (cap : Nat) (w : World) (hl : l.length ≤ 1000000) (hrd : RdK w A l) :
    Calls Try.prog 18 #[.int .i64 s, .slice A l.length cap] w (OfPost w s l) := by
  have HR := hid hrd
  clear hrd
  go_enter Try.func18, Try.ntmps18
  go_wp2
  go_loopw [11, 6] (fun i v wr => OfRel w s l i v wr) (fun i _ _ => l.length - (intOf i).toNat)
  case atStart => exact ⟨0, Nat.zero_le _, rfl, fun x hx => by simp at hx, RowG.none _ _, Below.refl _ _⟩
  case round =>
    obtain ⟨j, hj, rfl, hall, hK, hbw⟩ := hrel
    have hsz := hbw.size
    by_cases hlt : j < l.length
    · have hRr := HR.out.below hbw (Nat.le_refl _)
      obtain ⟨b1, o1, rfl, hb1, hc1⟩ := hRr.resolve_left (fun h => by subst h; simp at hlt)
      obtain ⟨x1, x2⟩ := hc1 j hlt
      clear hc1 hRr
      have htk := take_snocK hlt
      have hmem : l.getD j (0, 0) ∈ l := by rw [List.getD_eq_getElem?_getD, List.getElem?_eq_getElem hlt]; exact List.getElem_mem hlt
      have hlj : (l.take j).length ≤ 1000000 := by rw [List.length_take]; omega
      have HT := hid htk
      have HM := hid hmem
      have HA := hid hall
      clear htk hmem hall
      generalize l.getD j (0, 0) = z at *
      obtain ⟨zk, zy⟩ := z
      have hOp := Blk.new wr 23 #[.int .i64 zk, .int .i64 zy]
      have hbo := hbw.alloc hsz (.cells #[.int .i64 zk, .int .i64 zy] 23)
      have hKo := hK.alloc (.cells #[.int .i64 zk, .int .i64 zy] 23)
      obtain ⟨c0, c1, _⟩ := hOp.two
      by_cases hr : rightP s zk zy
      · have hd : decide (rightP s zk zy) = true := by simpa using hr
        have HD := hid hr
        clear hr
        go_wp2_with fail
        refine (tright_any _ _ _ _).mono ?_
        rintro e w2 ⟨rfl, hb2⟩
        rw [hd]
        have hbe := hbo.trans (hb2.mono hbo.size)
        have hs2 := hbe.size
        replace hOp := hOp.below hb2 hOp.lt
        have hK2 := hKo.below hb2
        clear c0 c1 x1 x2 hb2 hbo hKo hK hbw
        obtain ⟨c0, c1, _⟩ := hOp.two
        generalize List.take j l = L at *
        have hnew := Blk.new w2 25 #[.int .i64 s, .int .i64 zk, .int .i64 zy]
        go_wp2_with (at_builtin; refine wpList_snocG rfl _ _ 41 rfl Try.underlying41 (.agg #[.int .i64 0, .int .i64 0, .int .i64 0]) 24 info_task rfl (by decide) (by decide) (fun _ => rfl) (by simp [taskC, Value.oneCell']) w.heap.size _ L w2.heap.size (zk, zy) rfl rfl (hK2.alloc _) 25 hnew (by omega) ?c1 ?_)
        try (case c1 => simp; omega)
        intro v' w' hK' hT hat
        have hbw' : Below w.heap.size w w' := (hbe.alloc hs2 _).trans (hT.below (fun k hk => (hK2.ge k hk).1) (by simp; omega))
        clear hT hat hbe hK2 hnew
        go_wp2
        go_roundw
        case rel =>
          refine ⟨j + 1, by omega, by go_num, ?_, by rw [HT.out]; exact hK', hbw'⟩
          rw [HT.out]
          intro x hx
          rcases List.mem_append.1 hx with h | h
          · exact HA.out x h
          · have := List.mem_singleton.1 h
            subst this
            exact HD.out
        case measure => simp [intOf]; omega
      · have hd : decide (rightP s zk zy) = false := by simpa using hr
        have HD := hid (show ¬ ∀ x ∈ l, rightP s x.1 x.2 from fun h => hr (h (zk, zy) HM.out))
        clear hr
        go_wp2_with fail
        refine (tright_any _ _ _ _).mono ?_
        rintro e w2 ⟨rfl, hb2⟩
        rw [hd]
        have hbe := hbo.trans (hb2.mono hbo.size)
        go_wp2
        exact bodyPost_ret (v := .tuple #[.slice none 0 0, .int .i64 1]) (by simp [results, Try.results18, go_sem]) rfl ⟨Or.inr ⟨HD.out, rfl⟩, hbe⟩
    · obtain rfl : j = l.length := by omega
      rw [List.take_length] at hK hall
      have HA := hid hall
      clear hall
      go_wp2
      exact bodyPost_ret (v := .tuple #[_, .int .i64 0]) (by simp [results, Try.results18, go_sem]) rfl ⟨Or.inl ⟨HA.out, _, rfl, hK⟩, hbw⟩
end Go.Proofs.Ytahkmbbaamnhbaa
