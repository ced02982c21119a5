/- Package guard: part; New. -/
import Derived.Test.YtcfoinophfakhaaScan
namespace Go.Proofs.Ytcfoinophfakhaa
open Go.RowKit Go.Sort
set_option maxHeartbeats 4000000

def PartRel (w0 : World) (l : List Int) (f : Int → Int) (i v u : Value) (w : World) : Prop :=
  ∃ j : Nat, j ≤ l.length ∧ i = .int .i64 j ∧ RowI w w0.heap.size v ((l.take j).filter (fun x => decide (f x > 0))) ∧ RowI w w0.heap.size u ((l.take j).filter (fun x => !decide (f x > 0))) ∧ apartV v u ∧ Below w0.heap.size w0 w

theorem part_any (p mb m cap : Nat) (x0 x1 x2 x3 x6 x7 x8 : Value) (A : Option Addr) (l : List Int) (f : Int → Int) (w : World) (hB : Blk w p 49 #[x0, x1, x2, x3, .slice A l.length cap, .map (some mb), x6, x7, x8]) (hR : RdI w .i64 A l) (hl : l.length ≤ 1000000) (hM : MapI w mb m f) (hx : ∀ x ∈ l, i64 x) :
    Calls Try.prog 39 #[.pointer (some ⟨p, 0, none⟩)] w fun e w' => ∃ kv fv, e = .returned (.tuple #[kv, fv]) ∧ RowI w' w.heap.size kv (l.filter (fun x => decide (f x > 0))) ∧ RowI w' w.heap.size fv (l.filter (fun x => !decide (f x > 0))) ∧ apartV kv fv ∧ Below w.heap.size w w' := by
  obtain ⟨c0, c1, c2, c3, c4, c5, c6, c7, c8, cf⟩ := hB.nine
  have hpl := hB.lt
  have HR := hid hR
  have HX := hid hx
  clear hR hx
  go_enter Try.func39, Try.ntmps39
  go_wp2
  go_loopw [11, 2, 3] (fun i v u wr => PartRel w l f i v u wr) (fun i _ _ _ => l.length - (intOf i).toNat)
  case atStart => exact ⟨0, Nat.zero_le _, rfl, RowI.none _ _, RowI.none _ _, apartV.nil _, Below.refl _ _⟩
  case round =>
    obtain ⟨j, hj, rfl, hK, hF, hap, hbw⟩ := hrel
    have hsz := hbw.size
    have hBr := hB.below hbw hpl
    have hMr := hM.below hbw hM.lt
    clear c0 c1 c2 c3 c4 c5 c6 c7 c8 cf
    obtain ⟨c0, c1, c2, c3, c4, c5, c6, c7, c8, cf⟩ := hBr.nine
    by_cases hlt : j < l.length
    · obtain ⟨b1, o1, rfl, hb1, hc1⟩ := HR.out.resolve_left (fun h => by subst h; simp at hlt)
      have x1 := hc1 j hlt
      rw [← hbw.cell (p := ⟨b1, o1 + j, none⟩) hb1] at x1
      clear hc1
      have hzx : i64 (l.getD j 0) := HX.out _ (by rw [List.getD_eq_getElem?_getD, List.getElem?_eq_getElem hlt]; exact List.getElem_mem hlt)
      have htk : l.take (j + 1) = l.take j ++ [l.getD j 0] := by
        rw [List.take_succ_eq_append_getElem hlt]; simp [List.getD, hlt]
      have hlj : (l.take j).length ≤ 1000000 := by rw [List.length_take]; omega
      have hlk := List.length_filter_le (fun x => decide (f x > 0)) (l.take j)
      have hlf := List.length_filter_le (fun x => !decide (f x > 0)) (l.take j)
      have hlook := hMr.look (l.getD j 0) hzx
      have hfK := fun h => filter_snoc_yes (f := fun x => decide (f x > 0)) (L := l.take j) (z := l.getD j 0) h
      have hfF := fun h => filter_snoc_no (f := fun x => !decide (f x > 0)) (L := l.take j) (z := l.getD j 0) h
      have hfK2 := fun h => filter_snoc_no (f := fun x => decide (f x > 0)) (L := l.take j) (z := l.getD j 0) h
      have hfF2 := fun h => filter_snoc_yes (f := fun x => !decide (f x > 0)) (L := l.take j) (z := l.getD j 0) h
      rw [← htk] at hfK hfF hfK2 hfF2
      have HFK := hid hfK
      have HFF := hid hfF
      have HFK2 := hid hfK2
      have HFF2 := hid hfF2
      clear hfK hfF hfK2 hfF2 htk
      generalize l.getD j 0 = z at *
      generalize (l.take j).filter (fun x => decide (f x > 0)) = K at *
      generalize (l.take j).filter (fun x => !decide (f x > 0)) = F at *
      by_cases hf : f z > 0
      · have g1 : decide (f z > 0) = true := decide_eq_true hf
        have NK := hid (HFK.out g1)
        have NF := hid (HFF.out (by rw [g1]; rfl))
        clear hf HFK HFF HFK2 HFF2
        generalize f z = y at *
        go_wp2_with (at_builtin; refine wpList_snoc rfl _ _ rfl w.heap.size _ K wr.heap.size z rfl rfl (hK.alloc _) ?c1 (by omega) ?c2 ?_)
        try (case c1 => exact (Blk.new _ _ _).cell 0)
        try (case c2 => simp; omega)
        intro v' w' hK' hT hat
        have hF' := (hF.alloc (.cells #[.int .i64 z] 3)).beside hT hat hap (by simp)
        have hbw' : Below w.heap.size w w' := (hbw.alloc hsz (.cells #[.int .i64 z] 3)).trans (hT.below (fun k hk => (hK.ge k hk).1) (by simp; omega))
        clear hK hF hap hT hat hbw
        go_wp2
        go_roundw
        case rel => exact ⟨j + 1, by omega, by go_num, by rw [NK.out]; exact hK', by rw [NF.out]; exact hF'.1, hF'.2, hbw'⟩
        case measure => simp [intOf]; omega
      · have g1 : decide (f z > 0) = false := decide_eq_false hf
        have NK := hid (HFK2.out g1)
        have NF := hid (HFF2.out (by rw [g1]; rfl))
        clear hf HFK HFF HFK2 HFF2
        generalize f z = y at *
        go_wp2_with (at_builtin; refine wpList_snoc rfl _ _ rfl w.heap.size _ F wr.heap.size z rfl rfl (hF.alloc _) ?c1 (by omega) ?c2 ?_)
        try (case c1 => exact (Blk.new _ _ _).cell 0)
        try (case c2 => simp; omega)
        intro v' w' hF' hT hat
        have hK' := (hK.alloc (.cells #[.int .i64 z] 3)).beside hT hat hap.symm (by simp)
        have hbw' : Below w.heap.size w w' := (hbw.alloc hsz (.cells #[.int .i64 z] 3)).trans (hT.below (fun k hk => (hF.ge k hk).1) (by simp; omega))
        clear hK hF hap hT hat hbw
        go_wp2
        go_roundw
        case rel => exact ⟨j + 1, by omega, by go_num, by rw [NK.out]; exact hK'.1, by rw [NF.out]; exact hF', hK'.2.symm, hbw'⟩
        case measure => simp [intOf]; omega
    · obtain rfl : j = l.length := by omega
      rw [List.take_length] at hK hF
      go_wp2
      refine bodyPost_ret (v := .tuple #[_, _]) (by simp [results, Try.results39, go_sem]) rfl ⟨_, _, rfl, hK, hF, hap, hbw⟩

theorem gnew_any (t n : Int) (l : List Int) (v : Value) (B0 : Nat) (w : World) (hl : l.length ≤ 1000) (hv : RowI w B0 v l) :
    Calls Try.prog 16 #[.agg #[.int .i64 t, .int .i64 n], v] w fun e w' => ∃ p, e = .returned (.pointer (some ⟨p, 0, none⟩)) ∧ w.heap.size ≤ p ∧ ScanAt w' w'.heap.size p (SV.new t n l) ∧ Below w.heap.size w w' := by
  have hB : Blk (w.alloc (.cells #[.int .i64 t, .int .i64 n] 28)) w.heap.size 28 #[.int .i64 t, .int .i64 n] := Blk.new w 28 #[.int .i64 t, .int .i64 n]
  have hb0 := (Below.refl w.heap.size w).alloc (Nat.le_refl _) (.cells #[.int .i64 t, .int .i64 n] 28)
  have hv1 := hv.alloc (.cells #[.int .i64 t, .int .i64 n] 28)
  have hBl := hB.lt
  obtain ⟨c0, c1, cf⟩ := hB.two
  have hcl : Calls Try.prog 33 #[v] (w.alloc (.cells #[.int .i64 t, .int .i64 n] 28)).drew fun e w' => ∃ A cap, e = .returned (.slice A l.length cap) ∧ NodesAt w' w'.heap.size A l ∧ Below (w.alloc (.cells #[.int .i64 t, .int .i64 n] 28)).heap.size (w.alloc (.cells #[.int .i64 t, .int .i64 n] 28)).drew w' := by
    by_cases h0 : l = []
    · subst h0
      obtain rfl := hv.nil rfl
      refine (clonei_nil _).mono ?_
      rintro e w1 ⟨rfl, hb⟩
      exact ⟨none, 0, rfl, Or.inl rfl, hb⟩
    · obtain ⟨A, cap, rfl, hr, _⟩ := (hv1.drewN 1).rdi
      obtain ⟨bb, off, rfl, hbb, hcell⟩ := hr.resolve_left h0
      refine (clonei_any bb off l cap _ (List.length_pos_iff.2 h0) (by omega) hbb hcell).mono ?_
      rintro e w1 ⟨nb, sp, rfl, hnb, hC, hb⟩
      exact ⟨_, _, rfl, Or.inr ⟨nb, _, rfl, hC.lt, hC, fun i hi => by simp [List.getElem?_append_left, hi, List.getD]⟩, hb⟩
  clear hv hv1
  go_enter Try.func16, Try.ntmps16
  go_wp2
  generalize hw1 : w.alloc (.cells #[.int .i64 t, .int .i64 n] 28) = w1 at *
  clear hw1
  go_region_held3 (fun w' => w'.cell? ⟨w.heap.size, 0, none⟩ = some (.int .i64 t) ∧ w'.cell? ⟨w.heap.size, 1, none⟩ = some (.int .i64 n))
    (first | go_keep | exact ⟨d0, d1⟩ | (refine ⟨?_, ?_⟩ <;> (refine cell_alloc_keep ?_ _; assumption)))
    (first | (go_at_call 33; (with_reducible refine hcl.mono ?_); rintro e w2 ⟨A, cap, rfl, hN2, hb2⟩; have hB2 : Blk w2 w.heap.size 28 #[.int .i64 t, .int .i64 n] := (hB.drewN 1).below hb2 hBl; obtain ⟨d0, d1, df⟩ := hB2.two))
  rename_i hheld
  clear hheld hcl
  have hw2 : Below w.heap.size w w2 := hb0.trans ((⟨hb2.os, hb2.tape, hb2.output, hb2.size, hb2.block⟩ : Below w1.heap.size w1 w2).mono (Nat.le_of_lt hBl))
  have hs2 := hw2.size
  have hN : Blk (w2.alloc (.cells #[.int .i64 t, .int .i64 n, .slice none 0 0, .slice none 0 0, .slice A l.length cap, .map none, .int .i64 0, .pointer none, .bool false] 49)) w2.heap.size 49 #[.int .i64 t, .int .i64 n, .slice none 0 0, .slice none 0 0, .slice A l.length cap, .map none, .int .i64 0, .pointer none, .bool false] := Blk.new _ _ _
  have hN3 : NodesAt (w2.alloc (.cells #[.int .i64 t, .int .i64 n, .slice none 0 0, .slice none 0 0, .slice A l.length cap, .map none, .int .i64 0, .pointer none, .bool false] 49)) (w2.alloc (.cells #[.int .i64 t, .int .i64 n, .slice none 0 0, .slice none 0 0, .slice A l.length cap, .map none, .int .i64 0, .pointer none, .bool false] 49)).heap.size A l := by
    rcases hN2 with h | ⟨nb, L, k1, k2, k3, k4⟩
    · exact Or.inl h
    · exact Or.inr ⟨nb, L, k1, by simp; omega, k3.alloc _, k4⟩
  have hw3 := hw2.alloc hs2 (.cells #[.int .i64 t, .int .i64 n, .slice none 0 0, .slice none 0 0, .slice A l.length cap, .map none, .int .i64 0, .pointer none, .bool false] 49)
  clear hB hb0 hb2 hB2 hw2 hN2
  go_wp2
  go_ret
  exact ⟨_, rfl, hs2, ⟨_, _, ⟨A, cap, _, _, hN, by simp, hN3, Or.inl ⟨rfl, rfl⟩, Or.inl ⟨rfl, rfl⟩⟩, Or.inl ⟨rfl, rfl, rfl⟩⟩, hw3⟩
end Go.Proofs.Ytcfoinophfakhaa
