/- The law TaskLists. -/
import Derived.Test.YtahkmbbaamnhbaaTaskLaw
import Derived.Test.YtahkmbbaamnhbaaTaskOf
namespace Go.Proofs.Ytahkmbbaamnhbaa
open Go.RowKit
set_option maxHeartbeats 4000000

def allR (s : Int) (l : List (Int × Int)) : Bool := l.all (fun x => decide (rightP s x.1 x.2))
theorem allR_iff (s : Int) (l : List (Int × Int)) : allR s l = true ↔ ∀ x ∈ l, rightP s x.1 x.2 := by simp [allR]
theorem allR_snoc (s : Int) (l : List (Int × Int)) (z : Int × Int) : allR s (l ++ [z]) = (allR s l && decide (rightP s z.1 z.2)) := by simp [allR]

theorem tof_yes (s : Int) (A : Option Addr) (l : List (Int × Int)) (cap : Nat) (w : World) (hl : l.length ≤ 1000000) (hrd : RdK w A l) (h : allR s l = true) :
    Calls Try.prog 18 #[.int .i64 s, .slice A l.length cap] w fun e w' => ∃ v, e = .returned (.tuple #[v, .int .i64 0]) ∧ TaskRow s w' w.heap.size v l ∧ Below w.heap.size w w' :=
  (tof_any s A l cap w hl hrd).mono fun e w' ⟨h1, h2⟩ => by
    rcases h1 with ⟨_, v, he, hK⟩ | ⟨hn, _⟩
    · exact ⟨v, he, hK, h2⟩
    · exact absurd ((allR_iff s l).1 h) hn
theorem tof_no (s : Int) (A : Option Addr) (l : List (Int × Int)) (cap : Nat) (w : World) (hl : l.length ≤ 1000000) (hrd : RdK w A l) (h : allR s l = false) :
    Calls Try.prog 18 #[.int .i64 s, .slice A l.length cap] w fun e w' => e = .returned (.tuple #[.slice none 0 0, .int .i64 1]) ∧ Below w.heap.size w w' :=
  (tof_any s A l cap w hl hrd).mono fun e w' ⟨h1, h2⟩ => by
    rcases h1 with ⟨ha, _⟩ | ⟨_, he⟩
    · rw [(allR_iff s l).2 ha] at h; simp at h
    · exact ⟨he, h2⟩

def ListsRel (w0 : World) (s : Int) (l : List (Int × Int)) (i a : Value) (w : World) : Prop :=
  ∃ j : Nat, j ≤ l.length ∧ i = .int .i64 j ∧ a = .bool (allR s (l.take j)) ∧ Below w0.heap.size w0 w

theorem tlists_walk (s : Int) (A : Option Addr) (l : List (Int × Int)) (cap : Nat) (hl : l.length ≤ maxLen) (w : World) (hrd : RdK w A l) :
    Calls Try.prog 5 #[.int .i64 s, .slice A l.length cap] w fun e w' => e = .returned (.bool true) ∧ Below w.heap.size w w' := by
  unfold maxLen at hl
  have HR := hid hrd
  clear hrd
  by_cases h60 : l.length ≤ 60
  · clear hl
    go_enter Try.func5, Try.ntmps5
    go_wp2_with fail
    refine (tawake_any _).mono ?_
    rintro e w1 ⟨rfl, hb1⟩
    go_wp2
    go_loopw [19, 5] (fun i a wr => ListsRel w s l i a wr) (fun i _ _ => l.length - (intOf i).toNat)
    case atStart => exact ⟨0, Nat.zero_le _, rfl, rfl, hb1⟩
    case round =>
      obtain ⟨j, hj, rfl, rfl, hbw⟩ := hrel
      have hsz := hbw.size
      clear hb1
      by_cases hlt : j < l.length
      · have hRr := HR.out.below hbw (Nat.le_refl _)
        obtain ⟨b1, o1, rfl, hb1, hc1⟩ := hRr.resolve_left (fun h => by subst h; simp at hlt)
        obtain ⟨x1, x2⟩ := hc1 j hlt
        clear hc1 hRr
        have hsn := allR_snoc s (l.take j) (l.getD j (0, 0))
        rw [← take_snocK hlt] at hsn
        generalize l.getD j (0, 0) = z at *
        obtain ⟨zk, zy⟩ := z
        have hOp := Blk.new wr 23 #[.int .i64 zk, .int .i64 zy]
        have hbo := hbw.alloc hsz (.cells #[.int .i64 zk, .int .i64 zy] 23)
        obtain ⟨c0, c1, _⟩ := hOp.two
        have HS := hid hsn
        clear hsn
        generalize allR s (l.take j) = b at *
        cases b
        · go_wp2
          go_roundw
          case rel => exact ⟨j + 1, by omega, by go_num, by rw [HS.out]; rfl, hbo⟩
          case measure => simp [intOf]; omega
        · go_wp2_with fail
          refine (may_any _ _ _ _).mono ?_
          rintro e w2 ⟨rfl, hb2⟩
          have hbe := hbo.trans (hb2.mono hbo.size)
          clear c0 c1 x1 x2 hb2 hbo hOp hbw
          go_wp2
          go_roundw
          case rel => exact ⟨j + 1, by omega, by go_num, by rw [HS.out]; simp, hbe⟩
          case measure => simp [intOf]; omega
      · obtain rfl : j = l.length := by omega
        have hRr := HR.out.below hbw (Nat.le_refl _)
        rw [List.take_length]
        cases hb : allR s l
        · have HC := hid (tof_no s A l cap wr (by omega) hRr hb)
          go_wp2_with fail
          refine HC.out.mono ?_
          rintro e w2 ⟨rfl, hb2⟩
          have hbe := hbw.trans (hb2.mono hbw.size)
          clear HC hb hRr hb2 hbw
          go_wp2
          go_ret
          exact ⟨by first | rfl | (simp; done), hbe⟩
        · have HC := hid (tof_yes s A l cap wr (by omega) hRr hb)
          go_wp2_with fail
          refine HC.out.mono ?_
          rintro e w2 ⟨v, rfl, hK, hb2⟩
          have hbe := hbw.trans (hb2.mono hbw.size)
          clear HC hb hRr hb2 hbw
          obtain ⟨A2, cap2, rfl, _, hcells⟩ := hK.out (fun _ => rfl)
          have HCL := hid hcells
          clear hcells
          generalize wr.heap.size = Bn at *
          clear hsz hj hlt hK
          have hRr2 := HR.out.below hbe (Nat.le_refl _)
          have HR2 := hid hRr2
          clear hRr2
          go_wp2_with fail
          go_loopw [56] (fun i wx => ∃ j : Nat, j ≤ l.length ∧ i = .int .i64 j ∧ Below w2.heap.size w2 wx) (fun i _ => l.length - (intOf i).toNat)
          case atStart => exact ⟨0, Nat.zero_le _, rfl, Below.refl _ _⟩
          case round =>
            obtain ⟨j, hj, rfl, hbx⟩ := hrel
            have hsx := hbx.size
            by_cases hlt : j < l.length
            · obtain ⟨b1, o1, rfl, hb1, hc1⟩ := HR2.out.resolve_left (fun h => by subst h; simp at hlt)
              obtain ⟨x1, x2⟩ := hc1 j hlt
              obtain ⟨g, rfl, _, hg, _, hcs⟩ := HCL.out (fun h => by subst h; simp at hlt)
              have hget : l[j]? = some (l.getD j (0, 0)) := by simp [List.getD, hlt]
              have y0 := hcs j _ hget 0 (by omega)
              have y1 := hcs j _ hget 1 (by omega)
              have y2 := hcs j _ hget 2 (by omega)
              clear hc1 hcs hget HCL HR2 HR
              generalize l.getD j (0, 0) = z at *
              obtain ⟨zk, zy⟩ := z
              rw [← hbx.cell (p := ⟨b1, o1 + j * 2, none⟩) hb1] at x1
              rw [← hbx.cell (p := ⟨b1, o1 + j * 2 + 1, none⟩) hb1] at x2
              rw [← hbx.cell (p := ⟨g, j * 3 + 0, none⟩) hg] at y0
              rw [← hbx.cell (p := ⟨g, j * 3 + 1, none⟩) hg] at y1
              rw [← hbx.cell (p := ⟨g, j * 3 + 2, none⟩) hg] at y2
              simp only [taskC, List.getElem?_cons_zero, List.getElem?_cons_succ, Nat.add_zero] at y0 y1 y2
              have X1 := cell_alloc_keep x1 (.cells #[.int .i64 s, .int .i64 zk, .int .i64 zy] 25)
              have X2 := cell_alloc_keep x2 (.cells #[.int .i64 s, .int .i64 zk, .int .i64 zy] 25)
              have hT := Blk.new wr 25 #[.int .i64 s, .int .i64 zk, .int .i64 zy]
              have hbt := hbx.alloc hsx (.cells #[.int .i64 s, .int .i64 zk, .int .i64 zy] 25)
              obtain ⟨c0, c1, c2, _⟩ := hT.three
              have hne : (s != s) = false := by simp
              have wn := top_neq zk zy zk zy
              simp only [and_self, decide_true, Bool.not_true] at wn
              go_wp2_with fail
              go_quiet (fail)
              go_wp2
              go_roundw
              case rel => exact ⟨j + 1, by omega, by go_num, below_drewN hbt _⟩
              case measure => simp [intOf]; omega
            · obtain rfl : j = l.length := by omega
              go_wp2
              go_ret
              exact ⟨rfl, hbe.trans (hbx.mono hbe.size)⟩
  · go_enter Try.func5, Try.ntmps5
    go_wp2_with fail
    refine (tawake_any _).mono ?_
    rintro e w1 ⟨rfl, hb1⟩
    go_wp2
    go_ret
    exact ⟨by first | rfl | (simp; done), hb1⟩
end Go.Proofs.Ytahkmbbaamnhbaa
