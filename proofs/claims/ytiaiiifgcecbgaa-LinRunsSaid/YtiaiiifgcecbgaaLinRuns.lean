/- The law LinRuns. -/
import Derived.Test.YtiaiiifgcecbgaaLinBehind
import Derived.Test.YtiaiiifgcecbgaaLinAlone
import Derived.Test.YtiaiiifgcecbgaaRunsMath
set_option linter.all false
namespace Go.Proofs.Ytiaiiifgcecbgaa
open Go.RowKit Go.Sort
set_option maxHeartbeats 8000000
set_option maxRecDepth 100000
def idA (n : Nat) (f : Nat → Nat) : Array Value := ((List.range n).map (fun i => Value.int .i64 ((f i : Nat) : Int))).toArray
theorem make_nts (n : Nat) (hn : n ≤ 100000) (w : World) : (Instr.makeSlice 32 (.int .i64 (n : Int)) (.int .i64 (n : Int))).run Try.prog w = .ok (.slice (some ⟨w.heap.size, 0, none⟩) n n) (w.alloc (.cells (Array.replicate n (Value.int .i64 0)) 3)) := by
  obtain ⟨i0, hi, hz0, hz1, hz2⟩ := info_parts info_int
  have h := run_make (P := Try.prog) w 32 3 i0 (.int .i64 0) Try.underlying32 hi hz0 .i64 .i64 n n (by omega) (Int.le_refl _) (by rw [hz2]; omega) (by omega)
  rw [hz1] at h
  simp only [Int.toNat_natCast, Nat.mul_one] at h
  rw [h]
  congr 3
  have h2 := toList_madeCells_one (.int .i64 0) n
  rw [← List.toArray_replicate, ← h2]
  simp [Value.cells]
theorem idA_zero (n : Nat) : Array.replicate n (Value.int .i64 0) = idA n (fun _ => 0) := by
  unfold idA
  rw [← List.toArray_replicate]
  congr 1
  refine List.ext_getElem (by simp) (fun i h1 h2 => by simp)
theorem idA_set (n q v : Nat) (f : Nat → Nat) : (idA n f).setIfInBounds q (.int .i64 (v : Int)) = idA n (updN f q v) := by
  unfold idA
  rw [List.setIfInBounds_toArray]
  congr 1
  refine List.ext_getElem (by simp) (fun i h1 h2 => ?_)
  rw [List.getElem_set]
  by_cases e : q = i
  · subst e; simp [updN]
  · rw [if_neg e]; simp [updN, Ne.symm e]
theorem idA_get (n q : Nat) (f : Nat → Nat) (h : q < n) : (idA n f)[q]? = some (.int .i64 ((f q : Nat) : Int)) := by
  unfold idA; simp [h]
theorem RunsI.many {K : Int} {l : List LapV} {P E : Nat → Prop} {el : List Ev} {ids : Nat → Nat} (h : RunsI K l P E el ids) : (callsL el).length ≤ l.length ∧ el.length ≤ 2 * l.length := by
  have h2 := nodup_len l.length ((callsL el).map (fun c => c.t)) (by
    rw [List.nodup_iff_pairwise_ne, List.pairwise_map, List.pairwise_iff_getElem]
    intro a b ha hb hab e
    obtain ⟨i, _, _, h3, h4⟩ := h.all a _ (List.getElem?_eq_getElem ha)
    obtain ⟨j, _, _, h5, h6⟩ := h.all b _ (List.getElem?_eq_getElem hb)
    have : i = j := by omega
    subst this
    omega) (fun x hx => by
    obtain ⟨c, hc, rfl⟩ := List.mem_map.1 hx
    obtain ⟨m, hm, e⟩ := List.getElem_of_mem hc
    obtain ⟨i, hi, _, _, h4⟩ := h.all m c (by rw [List.getElem?_eq_getElem hm, e])
    rw [h4]; omega)
  have h3 := h.ok.cnt
  simp at h2
  omega
def bgP (l : List LapV) (t : Int) (i : Nat) : Prop := 8 * (i : Int) - (lapAt l i).a < t
def enP (l : List LapV) (t : Int) (i : Nat) : Prop := 8 * (i : Int) + (lapAt l i).b < t
def bg1 (l : List LapV) (t : Int) (j : Nat) (i : Nat) : Prop := 8 * (i : Int) - (lapAt l i).a < t ∨ (8 * (i : Int) - (lapAt l i).a = t ∧ i < j)
def en1 (l : List LapV) (t : Int) (j : Nat) (i : Nat) : Prop := 8 * (i : Int) + (lapAt l i).b < t ∨ (8 * (i : Int) + (lapAt l i).b = t ∧ i < j)
theorem lap_bounds {l : List LapV} (h : ∀ x ∈ l, (0 ≤ x.a ∧ x.a ≤ 255) ∧ (0 ≤ x.b ∧ x.b ≤ 255)) (i : Nat) : (0 ≤ (lapAt l i).a ∧ (lapAt l i).a ≤ 255) ∧ (0 ≤ (lapAt l i).b ∧ (lapAt l i).b ≤ 255) := by
  by_cases hi : i < l.length
  · have : l[i]? = some (lapAt l i) := by simp [lapAt, List.getD, hi]
    exact h _ (List.mem_of_getElem? this)
  · have : lapAt l i = default := by simp [lapAt, List.getD, hi]
    rw [this]
    exact ⟨⟨Int.le_refl _, by decide⟩, ⟨Int.le_refl _, by decide⟩⟩
def RunAt (w0 w1 : World) (K : Int) (l : List LapV) (h q : Nat) (vo : Value) (P E : Nat → Prop) (vm : Value) (w : World) : Prop :=
  ∃ (v : Value) (el : List Ev) (ids : Nat → Nat), vm = .int .i64 (((callsL el).length : Nat) : Int) ∧ HistAt w w1.heap.size h v el ∧ RunsI K l P E el ids ∧ Blk w q 3 (idA l.length ids) ∧ OpRow w w1.heap.size vo (opsV l) ∧ Below w0.heap.size w0 w
theorem RunAt.congr {w0 w1 : World} {K : Int} {l : List LapV} {h q : Nat} {vo : Value} {P E P' E' : Nat → Prop} {vm : Value} {w : World} (r : RunAt w0 w1 K l h q vo P E vm w) (hP : ∀ i, i < l.length → (P i ↔ P' i)) (hE : ∀ i, i < l.length → (E i ↔ E' i)) : RunAt w0 w1 K l h q vo P' E' vm w := by
  obtain ⟨v, el, ids, h1, h2, h3, h4⟩ := r
  exact ⟨v, el, ids, h1, h2, h3.congr hP hE, h4⟩
theorem RunAt.below {w0 w1 : World} {K : Int} {l : List LapV} {h q : Nat} {vo : Value} {P E : Nat → Prop} {vm : Value} {w w' : World} (r : RunAt w0 w1 K l h q vo P E vm w) (hb : Below w.heap.size w w') : RunAt w0 w1 K l h q vo P E vm w' := by
  obtain ⟨v, el, ids, h1, h2, h3, h4, h5, h6⟩ := r
  exact ⟨v, el, ids, h1, h2.below hb, h3, h4.below hb h4.lt, h5.below hb, h6.trans (hb.mono h6.size)⟩
theorem HistAt.setInt {w : World} {B h q : Nat} {v : Value} {l : List Ev} {c : Array Value} (H : HistAt w B h v l) (hB : Blk w q 3 c) (i : Nat) (u : Value) : HistAt (w.setCell ⟨q, i, none⟩ u) B h v l :=
  ⟨H.blk.far (p := ⟨q, i, none⟩) (H.blk.ne hB (by decide)) u, H.row.touch (S := fun k => k = q) ((Touch.refl (fun k => k = q) w).setCell (p := ⟨q, i, none⟩) (fun _ => rfl) u) (fun c hc e => H.row.ne hB (by decide) c hc e), H.ge⟩
theorem OpRow.setInt {w : World} {B q : Nat} {v : Value} {D : List (Int × Int)} {c : Array Value} (H : OpRow w B v D) (hB : Blk w q 3 c) (i : Nat) (u : Value) : OpRow (w.setCell ⟨q, i, none⟩ u) B v D :=
  H.touch (S := fun k => k = q) ((Touch.refl (fun k => k = q) w).setCell (p := ⟨q, i, none⟩) (fun _ => rfl) u) (fun c hc e => H.ne hB (by decide) c hc e)
theorem rdk_take {w : World} {A : Option Addr} {l : List (Int × Int)} (h : RdK w A l) (i : Nat) : RdK w A (l.take i) := by
  rcases h with rfl | ⟨b, off, rfl, hb, hc⟩
  · exact Or.inl (by simp)
  · refine Or.inr ⟨b, off, rfl, hb, fun k hk => ?_⟩
    rw [List.length_take] at hk
    have e : (l.take i).getD k (0, 0) = l.getD k (0, 0) := by
      simp only [List.getD]
      rw [List.getElem?_take_of_lt (by omega)]
    rw [e]
    exact hc k (by omega)
def OpsRel (w0 w1 : World) (K : Int) (l : List LapV) (v6 vi : Value) (w : World) : Prop :=
  ∃ j : Nat, vi = .int .i64 j ∧ j ≤ l.length ∧ OpRow w w1.heap.size v6 ((opsV l).take j) ∧ (∀ i, i < j → rightP K (lapAt l i).k (lapAt l i).y) ∧ w1.heap.size ≤ w.heap.size ∧ Below w0.heap.size w0 w
theorem linruns_walk (x : Int) (hx : 0 ≤ x ∧ x ≤ 255) (A1 : Option Addr) (l : List LapV) (cap1 : Nat) (hlw : ∀ v ∈ l, (0 ≤ v.a ∧ v.a ≤ 255) ∧ (0 ≤ v.b ∧ v.b ≤ 255)) (w : World) (hR1 : RdS 5 lapC w A1 l) :
    Calls Try.prog 3 #[.int .u8 x, .slice A1 l.length cap1] w fun e w' => e = .returned (.bool true) ∧ Below w.heap.size w w' := by
  obtain ⟨K, hK⟩ : ∃ K : Int, 1 + x % 4 = K := ⟨_, rfl⟩
  have hKb : 1 ≤ K ∧ K ≤ 4 := by omega
  have htm : x.tmod 4 = x % 4 := Int.tmod_eq_emod_of_nonneg hx.1
  have haw := l9awake_any w
  have HK := hid hKb
  obtain ⟨hk1, hk2⟩ := hKb
  have HR1 := hid hR1
  have HLW := hid (lap_bounds hlw)
  have HLW0 := hid hlw
  clear hR1 hlw
  generalize hn : l.length = n at *
  have HN := hid hn
  clear hn
  by_cases hn8 : n ≤ 8
  · have g1 : decide ((n : Int) > 8) = false := decide_eq_false (by omega)
    have g1' : decide ((8 : Int) < (n : Int)) = false := decide_eq_false (by omega)
    go_enter Try.func3, Try.ntmps3
    go_upto_region 7 with (go_at_call 6; (with_reducible refine haw.mono ?_); rintro e w1 ⟨rfl, hb1⟩)
    have HB1 := hid hb1
    clear hb1 haw g1 g1'
    go_wp2
    go_loopw [6, 28] (fun v6 v28 wr => OpsRel w w1 K l v6 v28 wr) (fun _ v28 _ => n - (intOf v28).toNat)
    case atStart => exact ⟨0, rfl, by omega, by simpa using RowG.none _ _, fun i hi => absurd hi (by omega), Nat.le_refl _, HB1.out⟩
    case round =>
      obtain ⟨j, rfl, hj, hD, hright, hsz1, hb⟩ := hrel
      rw [HN.out] at hj
      have hsw1 : w.heap.size ≤ w1.heap.size := HB1.out.size
      by_cases hlt : j < n
      · obtain ⟨b1, o1, rfl, hb1l, hx1⟩ := lap_at HR1.out j (by rw [HN.out]; exact hlt)
        obtain ⟨x0, x1, x2, x3, x4⟩ := hx1 wr hb
        obtain ⟨L, hL⟩ : ∃ L, l.getD j default = L := ⟨_, rfl⟩
        rw [hL] at x0 x1 x2 x3 x4
        have HLL := hid hL
        obtain ⟨w3, hw3⟩ : ∃ w3, w3 = wr.alloc (.cells #[.int .i64 L.k, .int .i64 L.y, .int .i64 L.t, .int .u8 L.a, .int .u8 L.b] 28) := ⟨_, rfl⟩
        have b3 : Below wr.heap.size wr w3 := by rw [hw3]; exact (Below.refl _ _).alloc (Nat.le_refl _) _
        have X3 : Blk w3 wr.heap.size 28 #[.int .i64 L.k, .int .i64 L.y, .int .i64 L.t, .int .u8 L.a, .int .u8 L.b] := by rw [hw3]; exact Blk.new wr _ _
        have HD3 : Hid (OpRow w3 w1.heap.size u6 ((opsV l).take j)) := hD.below b3
        have HB3 := hid (hb.trans (b3.mono hb.size))
        have HX3 := hid X3
        have HRI := hid hright
        have hjn : (j : Int) < (n : Int) := by omega
        obtain ⟨p0, p1, p2, p3, p4, pf⟩ := X3.five
        obtain ⟨mb, hmb⟩ : ∃ mb, decide (rightP K L.k L.y) = mb := ⟨_, rfl⟩
        have hmay := smay_is K L.k L.y mb hmb
        have HMB := hid hmb
        have hsz3 : w1.heap.size ≤ w3.heap.size := Nat.le_trans hsz1 b3.size
        clear hD hb hright b3 X3 hx1 hmb hL
        go_upto_region 10 with (fail)
        rw [← hw3]
        generalize hgx : wr.heap.size = gx at *
        clear hw3 x0 x1 x2 x3 x4 hgx
        cases mb
        · go_wp2_with (go_at_call 7; (with_reducible refine (hmay _).mono ?_); rintro e w4 ⟨rfl, hb4⟩)
          go_ret
          exact ⟨rfl, HB3.out.trans (hb4.mono HB3.out.size)⟩
        · go_upto_region 12 with (go_at_call 7; (with_reducible refine (hmay _).mono ?_); rintro e w4 ⟨rfl, hb4⟩)
          have hD4 : OpRow w4 w1.heap.size u6 ((opsV l).take j) := HD3.out.below hb4
          obtain ⟨p0, p1, p2, -, -, -⟩ := (HX3.out.below hb4 HX3.out.lt).five
          have b8 : RowKit.Below w4.heap.size w4 (w4.alloc (.cells #[.int .i64 L.k, .int .i64 L.y] 26)) := (RowKit.Below.refl _ _).alloc (Nat.le_refl _) _
          have hD8 : OpRow (w4.alloc (.cells #[.int .i64 L.k, .int .i64 L.y] 26)) w1.heap.size u6 ((opsV l).take j) := hD4.below b8
          have hnew : Blk (w4.alloc (.cells #[.int .i64 L.k, .int .i64 L.y] 26)) w4.heap.size 26 #[.int .i64 L.k, .int .i64 L.y] := Blk.new w4 _ _
          have hsz8 : w1.heap.size ≤ (w4.alloc (.cells #[.int .i64 L.k, .int .i64 L.y] 26)).heap.size := Nat.le_trans hsz3 (Nat.le_trans hb4.size b8.size)
          have hdn : ((opsV l).take j).length ≤ 8 := by rw [List.length_take]; omega
          have HB8 := hid (HB3.out.trans ((hb4.trans (b8.mono hb4.size)).mono HB3.out.size))
          clear hmay p3 p4 pf hb4 hD4 HD3 HB3 HX3
          go_wp2_with (at_builtin; refine wpList_snocB rfl _ _ 24 rfl Try.underlying24 (.agg #[.int .i64 0, .int .i64 0]) 16 info_op rfl (by decide) (by decide) (fun _ => rfl) (by simp [opC, Value.oneCell']) w1.heap.size _ ((opsV l).take j) w4.heap.size (L.k, L.y) rfl rfl hD8 26 hnew (by omega) hsz8 ?_; intro v' w9 hr9 hT9 _)
          go_roundw
          case rel =>
            have hb9 := Touch.below_row hD8 hT9 hsz8
            have htk : (opsV l).take (j + 1) = (opsV l).take j ++ [(L.k, L.y)] := by
              have hjl : j < (opsV l).length := by simp [opsV, HN.out]; exact hlt
              rw [List.take_succ_eq_append_getElem hjl]
              congr 1
              have e : l[j]? = some L := by rw [← HLL.out]; simp [List.getD, show j < l.length by rw [HN.out]; exact hlt]
              have e2 := (List.getElem?_eq_some_iff.1 e).2
              simp [opsV, e2]
            refine ⟨j + 1, by go_num, by rw [HN.out]; omega, by rw [htk]; exact hr9, fun i hi => ?_, Nat.le_trans hsz8 hT9.size, HB8.out.trans (hb9.mono hsw1)⟩
            by_cases e : i = j
            · subst e
              show rightP K (l.getD i default).k (l.getD i default).y
              rw [HLL.out]; exact of_decide_eq_true HMB.out
            · exact HRI.out i (by omega)
          case measure => simp [intOf]; omega
      · obtain rfl : j = n := by omega
        have htk : (opsV l).take j = opsV l := List.take_of_length_le (by simp [opsV, HN.out])
        rw [htk] at hD
        have HRIGHT := hid hright
        have HD := hid hD
        have HB := hid hb
        obtain ⟨Ao, co, hvo, _⟩ := hD.out (fun _ => rfl)
        have hol : (opsV l).length = j := by simp [opsV, HN.out]
        rw [hol] at hvo
        subst hvo
        have hmk := make_nts j (by omega)
        clear hD hright hb htk hol
        go_upto_region 16 with (go_at_call 8; (with_reducible refine (hnew_any wr).mono ?_); rintro e w2 ⟨h, rfl, hA2, hb2⟩)
        have hN := Blk.new w2 3 (Array.replicate j (Value.int .i64 0))
        have hb23 : RowKit.Below w2.heap.size w2 (w2.alloc (.cells (Array.replicate j (Value.int .i64 0)) 3)) := (RowKit.Below.refl _ _).alloc (Nat.le_refl _) _
        have hrun0 : RunAt w w1 K l h w2.heap.size (.slice Ao j co) (bgP l (-256)) (enP l (-256)) (.int .i64 0) (w2.alloc (.cells (Array.replicate j (Value.int .i64 0)) 3)) := by
          have e0 := idA_zero j
          refine ⟨_, [], fun _ => 0, rfl, (hA2.mono hsz1).below hb23, RunsI.nil K l _ _ _ (fun i _ hp => by unfold bgP at hp; have := (HLW.out i).1; omega), by rw [HN.out, ← e0]; exact hN, ((HD.out.below hb2).below hb23), HB.out.trans ((hb2.trans (hb23.mono hb2.size)).mono HB.out.size)⟩
        have HRUN := hid hrun0
        have hqb : Hid (w1.heap.size ≤ w2.heap.size) := Nat.le_trans hsz1 hb2.size
        clear hmk hN hb23 hA2 hb2 hrun0 HD HB
        generalize w2.heap.size = q at *
        go_wp2
        generalize w2.alloc (.cells (Array.replicate j (Value.int .i64 0)) 3) = w3 at *
        go_loopw [11, 12] (fun v11 v12 wx => ∃ t : Int, v12 = .int .i64 t ∧ -256 ≤ t ∧ t ≤ 321 ∧ RunAt w w1 K l h q (.slice Ao j co) (bgP l t) (enP l t) v11 wx) (fun _ v12 _ => (321 - intOf v12).toNat)
        case atStart => exact ⟨-256, rfl, by omega, by omega, HRUN.out⟩
        case round =>
          clear HRUN
          obtain ⟨t, rfl, ht1, ht2, hrun⟩ := hrel
          by_cases htl : t ≤ 320
          · have HRUN := hid hrun
            clear hrun
            go_wp2
            go_loopw [11, 53] (fun v11 v53 wx => ∃ i : Nat, v53 = .int .i64 i ∧ i ≤ j ∧ RunAt w w1 K l h q (.slice Ao j co) (bg1 l t i) (enP l t) v11 wx) (fun _ v53 _ => j - (intOf v53).toNat)
            case atStart => exact ⟨0, rfl, by omega, HRUN.out.congr (fun i _ => by unfold bgP bg1; omega) (fun _ _ => Iff.rfl)⟩
            case round =>
              clear HRUN
              obtain ⟨i, rfl, hi, v, el, ids, rfl, hA, hRI, hids, hD, hb⟩ := hrel
              by_cases hil : i < j
              · obtain ⟨b1, o1, rfl, hb1l, hx1⟩ := lap_at HR1.out i (by rw [HN.out]; exact hil)
                obtain ⟨x0, x1, x2, x3, x4⟩ := hx1 wr hb
                obtain ⟨L, hL⟩ : ∃ L, l.getD i default = L := ⟨_, rfl⟩
                rw [hL] at x0 x1 x2 x3 x4
                have HLL : Hid (lapAt l i = L) := hL
                obtain ⟨w4, hw4⟩ : ∃ w4, w4 = wr.alloc (.cells #[.int .i64 L.k, .int .i64 L.y, .int .i64 L.t, .int .u8 L.a, .int .u8 L.b] 28) := ⟨_, rfl⟩
                have b4 : RowKit.Below wr.heap.size wr w4 := by rw [hw4]; exact (RowKit.Below.refl _ _).alloc (Nat.le_refl _) _
                have X4 : Blk w4 wr.heap.size 28 #[.int .i64 L.k, .int .i64 L.y, .int .i64 L.t, .int .u8 L.a, .int .u8 L.b] := by rw [hw4]; exact Blk.new wr _ _
                obtain ⟨hm1, hm2⟩ := hRI.many
                rw [HN.out] at hm1 hm2
                have hab := HLW.out i
                rw [HLL.out] at hab
                obtain ⟨⟨ha1, ha2⟩, hb1', hb2'⟩ := hab
                have HA4 := hid (hA.below b4)
                have HI4 := hid (hids.below b4 hids.lt)
                have HD4 : Hid (OpRow w4 w1.heap.size (.slice Ao j co) (opsV l)) := hD.below b4
                have HB4 := hid (hb.trans (b4.mono hb.size))
                have HRI := hid hRI
                obtain ⟨p0, p1, p2, p3, p4, pf⟩ := X4.five
                have hij : (i : Int) < (j : Int) := by omega
                clear hA hRI hids hD hb b4 X4 hx1 hL
                generalize hmc : (callsL el).length = mc at *
                have HMC := hid hmc
                clear hmc
                go_upto_region 23 with (fail)
                rw [← hw4]
                generalize hgx : wr.heap.size = gx at *
                clear hw4 x0 x1 x2 x3 x4 hgx
                by_cases heq : t = 8 * (i : Int) - L.a
                · have d0 : (t == 8 * (i : Int) - L.a) = true := by simp [heq]
                  have HEQ := hid heq
                  clear heq
                  have hbeg := hbegin_ok w4 _ h v el (i : Int) L.k L.y HA4.out HRI.out.ok (by omega) (HRI.out.begErr (by rw [HN.out]; exact hil) (by rw [HN.out]; exact hn8) (fun hp => by unfold bg1 at hp; rw [HLL.out] at hp; have := HEQ.out; omega) _ _)
                  go_upto_region 26 with (go_at_call 9; (with_reducible refine hbeg.mono ?_); rintro e w5 ⟨rfl, v5, hA5, hs5⟩)
                  have I5 := hs5.blk HA4.out HI4.out (by decide) (by decide)
                  have D5 : OpRow w5 w1.heap.size (.slice Ao j co) (opsV l) := hs5.row HA4.out HD4.out (by decide) (by decide)
                  have B5 := HB4.out.trans ((hs5.below HA4.out).mono hsw1)
                  have e0 : w5.cell? ⟨q, i, none⟩ = some (.int .i64 ((ids i : Nat) : Int)) := by rw [I5.cell, idA_get _ _ _ (by rw [HN.out]; exact hil)]
                  have ef := I5.frozen
                  have HA5 := hid hA5
                  have HI5 := hid I5
                  have HD5 : Hid (OpRow w5 w1.heap.size (.slice Ao j co) (opsV l)) := D5
                  have HB5 := hid B5
                  clear hA5 I5 D5 B5 hs5 hbeg p0 p1 p2 p3 p4 pf HA4 HI4 HD4 HB4
                  go_wp2
                  go_roundw
                  case rel =>
                    have hlen : (callsL (el ++ [⟨(i : Int), false, L.k, L.y, 0, false, 0⟩])).length = mc + 1 := by
                      rw [callsL_snoc]; simp [HMC.out]
                    have hrun := HRI.out.begin (i := i) (by rw [HN.out]; exact hil) (by rw [HN.out]; exact hn8) (fun hp => by unfold bg1 at hp; rw [HLL.out] at hp; have := HEQ.out; omega) (fun he => by unfold enP at he; rw [HLL.out] at he; have := HEQ.out; omega) (fun y _ hy => by unfold enP at hy; rw [HLL.out]; have := HEQ.out; omega) (fun y hy => by unfold enP at hy; unfold bg1; have := HLW.out y; omega)
                    rw [HLL.out, HMC.out] at hrun
                    have hids := HI5.out.set_ i (.int .i64 (mc : Int))
                    rw [idA_set] at hids
                    refine ⟨i + 1, by go_num, by omega, v5, _, updN ids i mc, by rw [hlen]; go_num, HA5.out.setInt HI5.out i _, hrun.congr (fun y _ => ?_) (fun _ _ => Iff.rfl), hids, HD5.out.setInt HI5.out i _, HB5.out.setCell (p := ⟨q, i, none⟩) (by show w.heap.size ≤ q; have := hqb.out; omega) _⟩
                    unfold bg1
                    by_cases e : y = i
                    · subst e; rw [HLL.out]; have := HEQ.out; omega
                    · omega
                  case measure => simp [intOf]; omega
                · have d0 : (t == 8 * (i : Int) - L.a) = false := by simp [heq]
                  have HEQ := hid heq
                  clear heq
                  go_wp2
                  go_roundw
                  case rel =>
                    refine ⟨i + 1, by go_num, by omega, RunAt.congr (P := bg1 l t i) (E := enP l t) ⟨v, el, ids, by rw [HMC.out], HA4.out, HRI.out, HI4.out, HD4.out, HB4.out⟩ (fun y hy => ?_) (fun _ _ => Iff.rfl)⟩
                    unfold bg1
                    by_cases e : y = i
                    · subst e; rw [HLL.out]; have := HEQ.out; omega
                    · omega
                  case measure => simp [intOf]; omega
              · obtain rfl : i = j := by omega
                have hrun : RunAt w w1 K l h q (.slice Ao i co) (bg1 l t i) (enP l t) (.int .i64 (((callsL el).length : Nat) : Int)) wr := ⟨v, el, ids, rfl, hA, hRI, hids, hD, hb⟩
                have hm := hRI.many
                rw [HN.out] at hm
                have HRUN := hid (hrun.congr (P' := bgP l (t + 1)) (E' := en1 l t 0) (fun y hy => by unfold bg1 bgP; rw [HN.out] at hy; omega) (fun y _ => by unfold enP en1; omega))
                clear hrun hA hRI hids hD hb
                generalize (callsL el).length = mc at *
                go_wp2
                go_loopw [81] (fun v81 wx => ∃ y : Nat, v81 = .int .i64 y ∧ y ≤ i ∧ RunAt w w1 K l h q (.slice Ao i co) (bgP l (t + 1)) (en1 l t y) (.int .i64 (mc : Int)) wx) (fun v81 _ => i - (intOf v81).toNat)
                case atStart => exact ⟨0, rfl, by omega, HRUN.out⟩
                case round =>
                  clear HRUN
                  obtain ⟨y, rfl, hy, v', el', ids', hmc', hA, hRI, hids, hD, hb⟩ := hrel
                  by_cases hyl : y < i
                  · obtain ⟨b1, o1, rfl, hb1l, hx1⟩ := lap_at HR1.out y (by rw [HN.out]; exact hyl)
                    obtain ⟨x0, x1, x2, x3, x4⟩ := hx1 wr hb
                    obtain ⟨L, hL⟩ : ∃ L, l.getD y default = L := ⟨_, rfl⟩
                    rw [hL] at x0 x1 x2 x3 x4
                    have HLL : Hid (lapAt l y = L) := hL
                    obtain ⟨w4, hw4⟩ : ∃ w4, w4 = wr.alloc (.cells #[.int .i64 L.k, .int .i64 L.y, .int .i64 L.t, .int .u8 L.a, .int .u8 L.b] 28) := ⟨_, rfl⟩
                    have b4 : RowKit.Below wr.heap.size wr w4 := by rw [hw4]; exact (RowKit.Below.refl _ _).alloc (Nat.le_refl _) _
                    have X4 : Blk w4 wr.heap.size 28 #[.int .i64 L.k, .int .i64 L.y, .int .i64 L.t, .int .u8 L.a, .int .u8 L.b] := by rw [hw4]; exact Blk.new wr _ _
                    have hm' := hRI.many
                    rw [HN.out] at hm'
                    obtain ⟨hm1, hm2⟩ := hm'
                    have hab := HLW.out y
                    rw [HLL.out] at hab
                    obtain ⟨⟨ha1, ha2⟩, hb1', hb2'⟩ := hab
                    have HA4 := hid (hA.below b4)
                    have HI4 := hid (hids.below b4 hids.lt)
                    have HD4 : Hid (OpRow w4 w1.heap.size (.slice Ao i co) (opsV l)) := hD.below b4
                    have HB4 := hid (hb.trans (b4.mono hb.size))
                    have HX4 := hid X4
                    have HRI := hid hRI
                    have HMC := hid hmc'
                    have hyi : (y : Int) < (i : Int) := by omega
                    obtain ⟨A', c', hv', hrdk, hle, hlm⟩ := OpRow.rdk hD
                    have hol : (opsV l).length = i := by simp [opsV, HN.out]
                    rw [hol] at hv' hle
                    simp only [Value.slice.injEq, true_and] at hv'
                    obtain ⟨rfl, rfl⟩ := hv'
                    have hw3 : IntKind.i64.wrap L.b = L.b := by rw [IntKind.wrap_i64]; omega
                    have hw1 : IntKind.i64.wrap (8 * (y : Int)) = 8 * (y : Int) := by rw [IntKind.wrap_i64]; omega
                    have hw2 : IntKind.i64.wrap (8 * (y : Int) + L.b) = 8 * (y : Int) + L.b := by rw [IntKind.wrap_i64]; omega
                    obtain ⟨p0, p1, p2, p3, p4, pf⟩ := X4.five
                    have hright := HRIGHT.out y hyl
                    rw [HLL.out] at hright
                    have HRI2 := hid hright
                    have HLM := hid hlm
                    have hyc : (y : Int) ≤ (co : Int) := by omega
                    have hyc2 : y ≤ co := by omega
                    clear hA hRI hids hD hb b4 X4 hx1 hL hright hmc' hrdk hlm hol
                    go_upto_region 32 with (fail)
                    rw [← hw4]
                    generalize hgx : wr.heap.size = gx at *
                    clear hw4 x0 x1 x2 x3 x4 hgx
                    by_cases heq : t = 8 * (y : Int) + L.b
                    · have d0 : (t == 8 * (y : Int) + L.b) = true := by simp [heq]
                      have HEQ := hid heq
                      clear heq
                      have bdr : RowKit.Below w4.heap.size w4 w4.drew := (RowKit.Below.refl _ _).drew
                      obtain ⟨_, _, hv', hrdk, -, -⟩ := OpRow.rdk (HD4.out.below bdr : OpRow w4.drew w1.heap.size (.slice Ao i co) (opsV l))
                      have hrdk' : RdK w4.drew Ao (opsV l) := by
                        simp only [Value.slice.injEq] at hv'
                        rw [hv'.1]; exact hrdk
                      have htl : ((opsV l).take y).length = y := by rw [List.length_take]; simp [opsV, HN.out]; omega
                      have hres := rres_any K Ao ((opsV l).take y) co L.k L.y w4.drew (by rw [htl]; omega) (by rw [htl]; exact hyc2) HLM.out (rdk_take hrdk' y)
                      obtain ⟨r1, r2⟩ := ref_res K ((opsV l).take y) (fun z hz => by
                        obtain ⟨v0, hv0, rfl⟩ := List.mem_map.1 (List.mem_of_mem_take hz)
                        obtain ⟨k0, hk0, e⟩ := List.getElem_of_mem hv0
                        have h9 := HRIGHT.out k0 (by rw [← HN.out]; exact hk0)
                        rw [show lapAt l k0 = v0 by simp [lapAt, List.getD, hk0, e]] at h9
                        exact h9) L.k L.y HRI2.out
                      rw [r1, r2, htl] at hres
                      obtain ⟨so, hso⟩ : ∃ so, stepOk L.k L.y (itemsL K ((opsV l).take y)) = so := ⟨_, rfl⟩
                      obtain ⟨sv, hsv⟩ : ∃ sv, stepVal L.k (itemsL K ((opsV l).take y)) = sv := ⟨_, rfl⟩
                      rw [hso, hsv] at hres
                      have HOV : Hid (okV K l y = so ∧ valV K l y = sv) := by unfold okV valV; rw [HLL.out]; exact ⟨hso, hsv⟩
                      have HEND := hid (fun w5 (hb5 : RowKit.Below w4.heap.size w4 w5) => hend_ok w5 w1.heap.size h v' el' (y : Int) 0 sv so (HA4.out.below hb5) HRI.out.ok (by omega) (HRI.out.endErr (by rw [HN.out]; exact hyl) (by rw [HN.out]; exact hn8) (by unfold bgP; rw [HLL.out]; have := HEQ.out; omega) (fun he => by unfold en1 at he; rw [HLL.out] at he; have := HEQ.out; omega) so sv))
                      have s4 : w4.drew.cell? ⟨gx, 0, none⟩ = some (.int .i64 L.k) ∧ w4.drew.cell? ⟨gx, 1, none⟩ = some (.int .i64 L.y) ∧ w4.drew.cell? ⟨gx, 4, none⟩ = some (.int .u8 L.b) := ⟨p0, p1, p4⟩
                      clear hso hsv r1 r2 htl hrdk hrdk' hv' pf p2 p3
                      go_region_held3 (fun w' => w'.cell? ⟨gx, 0, none⟩ = some (.int .i64 L.k) ∧ w'.cell? ⟨gx, 1, none⟩ = some (.int .i64 L.y) ∧ w'.cell? ⟨gx, 4, none⟩ = some (.int .u8 L.b))
                        (first | go_keep | exact s4 | exact s5 | exact s6)
                        (first
                          | (go_at_call 11; (with_reducible refine hres.mono ?_); rintro e w5 ⟨rfl, hb5⟩; have hb45 := bdr.trans hb5; have hend := HEND.out w5 hb45; have X5 := HX4.out.below hb45 HX4.out.lt; obtain ⟨p0, p1, -, -, p4, -⟩ := X5.five; have s5 := And.intro p0 (And.intro p1 p4))
                          | (go_at_call 10; (with_reducible refine hend.mono ?_); rintro e w6 ⟨rfl, v6, hA6, hs6⟩; have X6 := hs6.blk (HA4.out.below hb45) X5 (by decide) (by decide); obtain ⟨p0, p1, -, -, p4, -⟩ := X6.five; have s6 := And.intro p0 (And.intro p1 p4)))
                      have hA5 := HA4.out.below hb45
                      have I6 := hs6.blk hA5 (HI4.out.below hb45 HI4.out.lt) (by decide) (by decide)
                      have D6 : OpRow w6 w1.heap.size (.slice Ao i co) (opsV l) := hs6.row hA5 (HD4.out.below hb45) (by decide) (by decide)
                      have B6 := HB4.out.trans ((hb45.mono HB4.out.size).trans ((hs6.below hA5).mono hsw1))
                      have HA6 := hid hA6
                      have HI6 := hid I6
                      have HD6 : Hid (OpRow w6 w1.heap.size (.slice Ao i co) (opsV l)) := D6
                      have HB6 := hid B6
                      clear hA6 I6 D6 B6 hA5 s4 s5 s6 X5 X6 hs6 hend hres HEND p0 p1 p4
                      go_wp2
                      go_roundw
                      case rel =>
                        have hrun := HRI.out.end_ (i := y) (by rw [HN.out]; exact hyl) (by rw [HN.out]; exact hn8) (by unfold bgP; rw [HLL.out]; have := HEQ.out; omega) (fun he => by unfold en1 at he; rw [HLL.out] at he; have := HEQ.out; omega) (fun z hz => by unfold en1 at hz; unfold bgP; have := HLW.out z; omega)
                        rw [HOV.out.1, HOV.out.2] at hrun
                        refine ⟨y + 1, by go_num, by omega, v6, _, ids', ?_, HA6.out, hrun.congr (fun _ _ => Iff.rfl) (fun z _ => ?_), HI6.out, HD6.out, HB6.out⟩
                        · rw [HMC.out, callsL_snoc]; simp
                        · unfold en1
                          by_cases e : z = y
                          · subst e; rw [HLL.out]; have := HEQ.out; omega
                          · omega
                      case measure => simp [intOf]; omega
                    · have d0 : (t == 8 * (y : Int) + L.b) = false := by simp [heq]
                      have HEQ := hid heq
                      have k0 := cell_regrown p0
                      have k1 := cell_regrown p1
                      have k3 := cell_regrown p4
                      clear heq p0 p1 p2 p3 p4 pf
                      refine wp_region_quiet_below (by kernel_rfl) (by kernel_rfl) ?_
                      repeat (first | go_big_quiet_step (fail) | quiet_step (fail))
                      refine wpQuiet_nil ?_
                      intro _ hw'
                      obtain ⟨⟨dq, osq⟩, hw''⟩ := hw'
                      subst hw''
                      have hbq := below_regrown w4 dq osq
                      have hrun : RunAt w w1 K l h q (.slice Ao i co) (bgP l (t + 1)) (en1 l t y) (.int .i64 (mc : Int)) w4 := ⟨v', el', ids', HMC.out, HA4.out, HRI.out, HI4.out, HD4.out, HB4.out⟩
                      have HRUN := hid (hrun.below hbq)
                      clear hrun hbq k0 k1 k3
                      generalize grow (redrawn w4 dq) osq = w5 at *
                      go_wp2
                      go_roundw
                      case rel =>
                        refine ⟨y + 1, by go_num, by omega, HRUN.out.congr (fun _ _ => Iff.rfl) (fun z _ => ?_)⟩
                        unfold en1
                        by_cases e : z = y
                        · subst e; rw [HLL.out]; have := HEQ.out; omega
                        · omega
                      case measure => simp [intOf]; omega
                  · obtain rfl : y = i := by omega
                    have hwt : IntKind.i64.wrap (t + 1) = t + 1 := by rw [IntKind.wrap_i64]; omega
                    have hrun : RunAt w w1 K l h q (.slice Ao y co) (bgP l (t + 1)) (en1 l t y) (.int .i64 (mc : Int)) wr := ⟨v', el', ids', hmc', hA, hRI, hids, hD, hb⟩
                    have HRUN := hid hrun
                    clear hrun hA hRI hids hD hb hmc'
                    go_wp2
                    go_roundw
                    case rel => exact ⟨t + 1, rfl, by omega, by omega, HRUN.out.congr (fun _ _ => Iff.rfl) (fun z hz => by unfold en1 enP; rw [HN.out] at hz; omega)⟩
                    case measure => simp [intOf]; omega
          · obtain rfl : t = 321 := by omega
            obtain ⟨v, el, ids, rfl, hA, hRI, hids, hD, hb⟩ := hrun
            obtain ⟨hlen, hleg⟩ := hRI.done (fun i hi => by unfold bgP; rw [HN.out] at hi; have := HLW.out i; omega) (fun i hi => by unfold enP; rw [HN.out] at hi; have := HLW.out i; omega) (fun z hz => by
              obtain ⟨k0, hk0, e⟩ := List.getElem_of_mem hz
              have h9 := HRIGHT.out k0 (by rw [← HN.out]; exact hk0)
              rw [show lapAt l k0 = z by simp [lapAt, List.getD, hk0, e]] at h9
              exact h9) (fun z hz => ⟨(HLW0.out z hz).1.1, (HLW0.out z hz).2.1⟩)
            have hm := hRI.many
            rw [HN.out] at hm hlen hleg
            have hil : (idsL j ids).length = j := by simp [idsL]
            have hrd : RdI wr .i64 (some ⟨q, 0, none⟩) (idsL j ids) := by
              refine Or.inr ⟨q, 0, rfl, hids.lt, fun i hi => ?_⟩
              rw [hil] at hi
              rw [Nat.zero_add, hids.cell, idA_get _ _ _ (by rw [HN.out]; exact hi)]
              simp [idsL, List.getD, hi]
            have hl1 := legal_any wr w1.heap.size h v el K (some ⟨q, 0, none⟩) (idsL j ids) j hA HK.out (by rw [hlen]; omega) hrd (by rw [hil]; omega)
            rw [hil] at hl1
            have hl2 := fun w5 (hb5 : RowKit.Below wr.heap.size wr w5) => linear_any w5 w1.heap.size h v el K (hA.below hb5) hRI.ok (by omega) HK.out (by rw [hlen]; omega) (fun _ S => hops_eight (by rw [hlen]; omega) S)
            have hl1' := hl1.mono (fun e w' hp => hp.is true ⟨fun _ => hleg, fun _ => rfl⟩)
            have hex : leastM K (callsL el) ((callsL el).length + 1) [] ≠ none := least_iff.2 ⟨_, hleg⟩
            have HEX := hid hex
            have HL2 := hid hl2
            have HB := hid hb
            have ht3 : ¬ (321 : Int) ≤ 320 := by omega
            rw [hlen]
            clear hA hRI hids hD hb hrd hil hl1 hl2 hex hleg hlen hm
            unfold LinPost at HL2
            go_wp2_with (first
              | (go_at_call 12; (with_reducible refine hl1'.mono ?_); rintro e w5 ⟨rfl, hb5⟩; have hl5 := HL2.out w5 hb5)
              | (go_at_call 13; (with_reducible refine hl5.mono ?_); rintro e w6 ⟨b6, rfl, hb6, hc6⟩; obtain rfl : b6 = true := hc6.2 HEX.out))
            go_ret
            exact ⟨rfl, HB.out.trans ((hb5.trans (hb6.mono hb5.size)).mono HB.out.size)⟩
  · have g1 : decide ((n : Int) > 8) = true := decide_eq_true (by omega)
    have g1' : decide ((8 : Int) < (n : Int)) = true := decide_eq_true (by omega)
    go_enter Try.func3, Try.ntmps3
    go_wp2_with (go_at_call 6; (with_reducible refine haw.mono ?_); rintro e w1 ⟨rfl, hb1⟩)
    go_ret
    exact ⟨rfl, hb1⟩
end Go.Proofs.Ytiaiiifgcecbgaa
