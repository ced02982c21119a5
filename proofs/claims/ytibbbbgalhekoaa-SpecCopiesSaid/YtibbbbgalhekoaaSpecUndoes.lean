/- The law SpecUndoes (by bin/gen_undoes.py). -/
import Derived.Test.YtibbbbgalhekoaaSpecPlays
namespace Go.Proofs.Ytibbbbgalhekoaa
open Go.RowKit Go.Sort
set_option maxHeartbeats 8000000
set_option maxRecDepth 100000

/-- Do, its results written out. -/
theorem sdo_lit (w : World) (B s : Nat) (sh : Int) (v : Value) (l : List Int) (k y : Int) (h : SpecAt w B s sh v l) (hl : l.length ≤ 1000000) (hs : sh = 1 ∨ sh = 2 → l.Pairwise (· < ·)) (hr : rightP sh k y)
    (b : Bool) (val : Int) (l' : List Int) (hb : stepOk k y l = b) (hv : stepVal k l = val) (hl' : stepL sh k y l = l') :
    Calls Try.prog 11 #[.pointer (some ⟨s, 0, none⟩), .agg #[.int .i64 k, .int .i64 y]] w fun e w' => e = .returned (.tuple #[.agg #[.int .i64 0, .bool b, .int .i64 val], .int .i64 0]) ∧ ∃ v', SpecAt w' B s sh v' l' ∧ Stepped s v v' w w' := by
  subst hb hv hl'
  exact sdo_right w B s sh v l k y h hl hs hr
/-- Another list of ints that is apart stays when a meaning is changed. -/
theorem RowO.stepped {w w' : World} {B C s : Nat} {u v v' : Value} {m : List Int} {sh : Int} {l : List Int} (h : RowO w B u m) (hS : SpecAt w C s sh v l) (hst : Stepped s v v' w w') (ha : apartV u v) : RowO w' B u m ∧ apartV u v' :=
  ⟨h.touch hst.touch (fun c hc hk => hk.elim (fun e => h.ne hS.blk (by decide) c hc e) (fun e => ha c hc e)), fun c hc hk => by
    rcases hst.own c hk with e | e
    · exact ha c hc e
    · have := (h.ge c hc).2; omega⟩
theorem RowO.size_ {w : World} {B : Nat} {g n c : Nat} {l : List Int} (h : RowO w B (.slice (some ⟨g, 0, Option.none⟩) n c) l) : B ≤ w.heap.size := Nat.le_of_lt (Nat.lt_of_le_of_lt (h.ge g rfl).1 (h.ge g rfl).2)
theorem apart_new {w w' : World} {B C s N : Nat} {u v : Value} {m : List Int} {sh : Int} {l : List Int} (hS : SpecAt w C s sh v l) (h : RowO w' B u m) (hB : w.heap.size ≤ B) : apartV u v := fun c hc hk => by
  have h1 := (h.ge c hc).1
  have h2 := (hS.row.ge c hk).2
  omega

theorem undo_in (y : Int) (L : List Int) (hs : L.Pairwise (· < ·)) (hy : y ∈ L) : delL y L = L.filter (fun z => z != y) := by
  refine sorted_ext _ _ (sorted_delL y L hs) (hs.filter _) (fun z => ?_)
  rw [mem_delL y z L hs hy, List.mem_filter]
  simp
theorem undo_out (y : Int) (L : List Int) (hs : L.Pairwise (· < ·)) (hy : y ∉ L) : delL y (insL y L) = L.filter (fun z => z != y) := by
  have h1 := sorted_insL y L hs hy
  have h2 : y ∈ insL y L := (mem_insL y y L hs).2 (Or.inl rfl)
  refine sorted_ext _ _ (sorted_delL y _ h1) (hs.filter _) (fun z => ?_)
  rw [mem_delL y z _ h1 h2, List.mem_filter, mem_insL y z L hs]
  constructor
  · rintro ⟨rfl | h, hz⟩
    · exact absurd rfl hz
    · exact ⟨h, by simpa using hz⟩
  · rintro ⟨h, hz⟩
    exact ⟨Or.inr h, by simpa using hz⟩
theorem filter_len_in (y : Int) (L : List Int) (hy : y ∈ L) : (((L.filter (fun z => z != y)).length : Int) == (L.length : Int)) = false := by
  have : (L.filter (fun z => z != y)).length < L.length := by
    refine Nat.lt_of_le_of_ne (List.length_filter_le _ _) (fun e => ?_)
    rw [List.length_filter_eq_length_iff] at e
    simpa using e y hy
  rw [beq_eq_false_iff_ne]; omega
theorem filter_len_out (y : Int) (L : List Int) (hy : y ∉ L) : (((L.filter (fun z => z != y)).length : Int) == (L.length : Int)) = true := by
  have : (L.filter (fun z => z != y)).length = L.length := by
    rw [List.length_filter_eq_length_iff]
    intro z hz
    simp
    exact fun e => hy (e ▸ hz)
  rw [beq_iff_eq]; omega

def WantRel (w0 wb : World) (y : Int) (L : List Int) (i p : Value) (w : World) : Prop :=
  ∃ j : Nat, j ≤ L.length ∧ i = .int .i64 j ∧ RowI w wb.heap.size p ((L.take j).filter (fun z => z != y)) ∧ Below wb.heap.size wb w

theorem undoes_4 (x ky : Int) (A : Option Addr) (l : List (Int × Int)) (cap : Nat) (hx : 0 ≤ x ∧ x ≤ 255) (hxm : x % 4 = 3) (hk : 0 ≤ ky ∧ ky ≤ 65535) (h60 : l.length ≤ 60) (w : World) (hrd : RdK w A l) :
    Calls Try.prog 6 #[.int .u8 x, .slice A l.length cap, .int .u16 ky] w fun e w' => e = .returned (.bool true) ∧ Below w.heap.size w w' := by
  have HR := hid hrd
  have htm : x.tmod 4 = 3 := by rw [Int.tmod_eq_emod_of_nonneg hx.1, hxm]
  have hty : ky.tmod 1000 = ky % 1000 := Int.tmod_eq_emod_of_nonneg hk.1
  have hy0 := Int.emod_nonneg ky (show (1000 : Int) ≠ 0 by omega)
  have hy1 := Int.emod_lt_of_pos ky (show (0 : Int) < 1000 by omega)
  obtain ⟨x0, x255⟩ := hx
  obtain ⟨ky0, ky1⟩ := hk
  clear hrd hxm
  generalize ky % 1000 = y at *
  go_enter Try.func6, Try.ntmps6
  go_wp2_with fail
  refine (s7awake_any _).mono ?_
  rintro e w1 ⟨rfl, hb1⟩
  go_wp2_with fail
  refine (sright_any 4 A l cap w1 (by omega) (HR.out.below hb1 (Nat.le_refl _))).mono ?_
  rintro e w2 ⟨uD, rfl, hD, hb2⟩
  obtain ⟨A2, cap2, rfl, hrdD, _, _⟩ := OpRow.rdk hD
  have hDl := rightL_len 4 l
  have hp := splay_any 4 A2 (rightL 4 l) cap2 w2 (by omega) hrdD
  replace hb1 := hb1.trans (hb2.mono hb1.size)
  clear hb2
  go_wp2_with fail
  refine hp.mono ?_
  rintro e w3 ⟨h1, hb3⟩
  rcases h1 with ⟨_, uR, s, v, rfl, hRR, hA⟩ | ⟨hn, _⟩
  rotate_left
  · exact absurd ⟨⟨by omega, by omega⟩, rightL_all 4 l⟩ hn
  have hsrt : (4 : Int) = 1 ∨ (4 : Int) = 2 → (itemsL 4 (rightL 4 l)).Pairwise (· < ·) := fun h => items_sorted 4 _ (rightL_all 4 l) h
  have hil := itemsL_len 4 (rightL 4 l)
  have hil2 : (itemsL 4 (rightL 4 l)).length ≤ 60 := by omega
  replace hA := hA.mono hb1.size
  replace hb1 := hb1.trans (hb3.mono hb1.size)
  generalize itemsL 4 (rightL 4 l) = L at *
  clear hp hD hrdD hb3 hRR hil hDl
  have hi := sitems_any w3 _ s 4 v L hA (by omega)
  go_wp2_with fail
  refine hi.mono ?_
  rintro e w4 ⟨u, rfl, hU, hb4⟩
  have hap : apartV u v := apart_new (N := 0) hA hU (Nat.le_refl _)
  replace hA := hA.below hb4
  have hbw := hb1.trans (hb4.mono hb1.size)
  obtain ⟨Au, cu, rfl, _⟩ := hU.rdi
  generalize w3.heap.size = Bu at *
  clear hi hb4 hb1
  have hdo1 := sdo_lit w4 w.heap.size s 4 v L 4 y hA (by omega) hsrt (by unfold rightP; omega) true 0 (y :: L) (rfl) (rfl) (by simp [stepL])
  go_wp2_with fail
  refine hdo1.mono ?_
  rintro e w5 ⟨rfl, v1, hA1, hs1⟩
  obtain ⟨hU', hap'⟩ := hU.stepped hA hs1 hap
  replace hbw := hbw.trans (hs1.below_ hA (Nat.le_refl _))
  replace hU := hU'
  replace hap := hap'
  clear hA
  have hA := hA1
  clear hdo1 hs1 hA1 hU' hap'
  have hdo2 := sdo_lit w5 w.heap.size s 4 v1 (y :: L) 5 0 hA (by simp; omega) (fun h => by omega) (by unfold rightP; omega) true y L (rfl) (rfl) (rfl)
  go_wp2_with fail
  refine hdo2.mono ?_
  rintro e w6 ⟨rfl, v2, hA2, hs2⟩
  obtain ⟨hU', hap'⟩ := hU.stepped hA hs2 hap
  replace hbw := hbw.trans (hs2.below_ hA (Nat.le_refl _))
  replace hU := hU'
  replace hap := hap'
  clear hA
  have hA := hA2
  clear hdo2 hs2 hA2 hU' hap'
  have hsz := hbw.size
  have hX := Blk.new w6 37 #[.int .i64 0, .bool true, .int .i64 y]
  replace hA := hA.alloc (.cells #[.int .i64 0, .bool true, .int .i64 y] 37)
  replace hU := hU.alloc (.cells #[.int .i64 0, .bool true, .int .i64 y] 37)
  replace hbw := hbw.alloc hsz (.cells #[.int .i64 0, .bool true, .int .i64 y] 37)
  obtain ⟨r0, r1, r2, _⟩ := hX.three
  have he : ∀ w, _ := fun w => res_eql true true y y w
  simp only [and_self, decide_true] at he
  have hi := sitems_any _ _ s 4 v2 L hA (by omega)
  go_wp2_with fail
  refine hi.mono ?_
  rintro e w7 ⟨u7, rfl, hU7, hb7⟩
  replace hU := hU.below hb7
  replace hbw := hbw.trans (hb7.mono hbw.size)
  obtain ⟨A7, c7, rfl, hr7⟩ := hU7.rdi
  obtain ⟨A8, c8, e8, hr8⟩ := hU.rdi
  cases e8
  have his := ints_same A7 Au L c7 cu w7 (by omega) hr7 hr8
  clear hi hb7 r0 r1 r2 he hX hA
  go_wp2_with fail
  refine his.mono ?_
  rintro e w8 ⟨rfl, hb8⟩
  replace hbw := hbw.trans (hb8.mono hbw.size)
  go_wp2
  go_ret
  exact ⟨rfl, hbw⟩

def QueueRel (w0 : World) (Bp s : Nat) (p : Value) (M : List Int) (i : Value) (w : World) : Prop :=
  ∃ (j : Nat) (v : Value), j ≤ M.length ∧ i = .int .i64 j ∧ SpecAt w w0.heap.size s 3 v (M.drop j) ∧ RowO w Bp p M ∧ apartV p v ∧ Below w0.heap.size w0 w

theorem undoes_3 (x ky : Int) (A : Option Addr) (l : List (Int × Int)) (cap : Nat) (hx : 0 ≤ x ∧ x ≤ 255) (hxm : x % 4 = 2) (hk : 0 ≤ ky ∧ ky ≤ 65535) (h60 : l.length ≤ 60) (w : World) (hrd : RdK w A l) :
    Calls Try.prog 6 #[.int .u8 x, .slice A l.length cap, .int .u16 ky] w fun e w' => e = .returned (.bool true) ∧ Below w.heap.size w w' := by
  have HR := hid hrd
  have htm : x.tmod 4 = 2 := by rw [Int.tmod_eq_emod_of_nonneg hx.1, hxm]
  have hty : ky.tmod 1000 = ky % 1000 := Int.tmod_eq_emod_of_nonneg hk.1
  have hy0 := Int.emod_nonneg ky (show (1000 : Int) ≠ 0 by omega)
  have hy1 := Int.emod_lt_of_pos ky (show (0 : Int) < 1000 by omega)
  obtain ⟨x0, x255⟩ := hx
  obtain ⟨ky0, ky1⟩ := hk
  clear hrd hxm
  generalize ky % 1000 = y at *
  go_enter Try.func6, Try.ntmps6
  go_wp2_with fail
  refine (s7awake_any _).mono ?_
  rintro e w1 ⟨rfl, hb1⟩
  go_wp2_with fail
  refine (sright_any 3 A l cap w1 (by omega) (HR.out.below hb1 (Nat.le_refl _))).mono ?_
  rintro e w2 ⟨uD, rfl, hD, hb2⟩
  obtain ⟨A2, cap2, rfl, hrdD, _, _⟩ := OpRow.rdk hD
  have hDl := rightL_len 3 l
  have hp := splay_any 3 A2 (rightL 3 l) cap2 w2 (by omega) hrdD
  replace hb1 := hb1.trans (hb2.mono hb1.size)
  clear hb2
  go_wp2_with fail
  refine hp.mono ?_
  rintro e w3 ⟨h1, hb3⟩
  rcases h1 with ⟨_, uR, s, v, rfl, hRR, hA⟩ | ⟨hn, _⟩
  rotate_left
  · exact absurd ⟨⟨by omega, by omega⟩, rightL_all 3 l⟩ hn
  have hsrt : (3 : Int) = 1 ∨ (3 : Int) = 2 → (itemsL 3 (rightL 3 l)).Pairwise (· < ·) := fun h => items_sorted 3 _ (rightL_all 3 l) h
  have hil := itemsL_len 3 (rightL 3 l)
  have hil2 : (itemsL 3 (rightL 3 l)).length ≤ 60 := by omega
  replace hA := hA.mono hb1.size
  replace hb1 := hb1.trans (hb3.mono hb1.size)
  generalize itemsL 3 (rightL 3 l) = L at *
  clear hp hD hrdD hb3 hRR hil hDl
  have hi := sitems_any w3 _ s 3 v L hA (by omega)
  go_wp2_with fail
  refine hi.mono ?_
  rintro e w4 ⟨u, rfl, hU, hb4⟩
  have hap : apartV u v := apart_new (N := 0) hA hU (Nat.le_refl _)
  replace hA := hA.below hb4
  have hbw := hb1.trans (hb4.mono hb1.size)
  obtain ⟨Au, cu, rfl, _⟩ := hU.rdi
  generalize w3.heap.size = Bu at *
  clear hi hb4 hb1
  have hdo1 := sdo_lit w4 w.heap.size s 3 v L 4 y hA (by omega) hsrt (by unfold rightP; omega) true 0 (L ++ [y]) (rfl) (rfl) (by simp [stepL])
  go_wp2_with fail
  refine hdo1.mono ?_
  rintro e w5 ⟨rfl, v1, hA1, hs1⟩
  obtain ⟨hU', hap'⟩ := hU.stepped hA hs1 hap
  replace hbw := hbw.trans (hs1.below_ hA (Nat.le_refl _))
  replace hU := hU'
  replace hap := hap'
  clear hA
  have hA := hA1
  clear hdo1 hs1 hA1 hU' hap'
  have hsz := hbw.size
  have hE : RowO (w5.alloc (.cells #[] 3)) w5.heap.size (.slice (some ⟨w5.heap.size, 0, none⟩) 0 0) [] := rowO_mk (l := []) (Nat.le_refl _) (Blk.new w5 3 #[]) (Nat.le_refl _) (Nat.zero_le _) rfl rfl
  replace hU := hU.alloc (.cells #[] 3)
  have hAe := hA.alloc (.cells #[] 3)
  have hbe := hbw.alloc hsz (.cells #[] 3)
  have hN5 : ∀ c, v1.ownBlock = some c → c < w5.heap.size := fun c hk => (hA.row.ge c hk).2
  go_wp2_with (at_builtin; refine wpList_appO rfl _ _ rfl w5.heap.size Bu _ _ [] L rfl rfl hE hU (by simp) (by omega) hE.size_ ?_)
  intro p1 w6 hP hT6 hat6
  generalize w5.heap.size = N at *
  have hb6 : Below w.heap.size w w6 := hbe.trans (hT6.below (fun k hk => Nat.le_trans hsz (hE.ge k hk).1) hbe.size)
  have hA6 : SpecAt w6 w.heap.size s 3 v1 (L ++ [y]) := ⟨hAe.blk.touch hT6 (fun e => hE.ne hAe.blk (by decide) _ e rfl), hAe.row.touch hT6 (fun c hc e => by have h1 := hN5 c hc; have h2 := (hE.ge c e).1; omega), hAe.ge⟩
  have hN6 : N ≤ w6.heap.size := Nat.le_trans (hE.size_) hT6.size
  clear hE hU hT6 hat6 hAe hbe hA hbw hap
  have hsz6 := hb6.size
  have hLit : RowO (w6.alloc (.cells #[.int .i64 y] 3)) w6.heap.size (.slice (some ⟨w6.heap.size, 0, none⟩) 1 1) [y] := rowO_mk (l := [y]) (Nat.le_refl _) (Blk.new w6 3 #[.int .i64 y]) (Nat.le_refl _) (by unfold maxLen; omega) rfl rfl
  have hP7 := hP.alloc (.cells #[.int .i64 y] 3)
  have hA7 := hA6.alloc (.cells #[.int .i64 y] 3)
  have hb7 := hb6.alloc hsz6 (.cells #[.int .i64 y] 3)
  clear hP hA6 hb6
  go_wp2_with (at_builtin; refine wpList_appO rfl _ _ rfl N _ _ _ L [y] rfl rfl hP7 hLit (by omega) (by simp) (by first | omega | (simp; omega)) ?_)
  intro p2 w7 hP2 hT7 hat7
  have hbB : Below w.heap.size w w7 := hb7.trans (hT7.below (fun k hk => Nat.le_trans hsz (hP7.ge k hk).1) hb7.size)
  have hAB : SpecAt w7 w.heap.size s 3 v1 (L ++ [y]) := ⟨hA7.blk.touch hT7 (fun e => hP7.ne hA7.blk (by decide) _ e rfl), hA7.row.touch hT7 (fun c hc e => by have h1 := hN5 c hc; have h2 := (hP7.ge c e).1; omega), hA7.ge⟩
  have hapB : apartV p2 v1 := fun c hc hk => by
    have h1 := hN5 c hk
    have h2 := (hP2.ge c hc).1
    omega
  have hMl : (L ++ [y]).length ≤ 1000 := by simp; omega
  clear hP7 hLit hT7 hat7 hA7 hb7 hN5
  generalize L ++ [y] = M at *
  obtain ⟨Ap, cp, rfl, _⟩ := hP2.rdi
  go_wp2_with fail
  go_loopw [163] (fun i wr => QueueRel w N s (.slice Ap M.length cp) M i wr) (fun i _ => M.length - (intOf i).toNat)
  case atStart => exact ⟨0, v1, Nat.zero_le _, rfl, hAB, hP2, hapB, hbB⟩
  case round =>
    obtain ⟨j, v, hj, rfl, hA, hP, hap, hbw⟩ := hrel
    clear hAB hP2 hapB hbB
    have hsz1 := hbw.size
    by_cases hlt : j < M.length
    · obtain ⟨A8, c8, e8, hr8⟩ := hP.rdi
      cases e8
      obtain ⟨bp, op, rfl, hbp, hcp⟩ := hr8.resolve_left (fun h => by subst h; simp at hlt)
      have x1 := hcp j hlt
      clear hcp hr8
      have hdr : M.drop j = M.getD j 0 :: M.drop (j + 1) := by rw [List.drop_eq_getElem_cons hlt]; simp [List.getD, hlt]
      rw [hdr] at hA
      clear hdr
      generalize M.getD j 0 = z at *
      have hRl : (M.drop (j + 1)).length ≤ 1000 := by rw [List.length_drop]; omega
      generalize hRest : M.drop (j + 1) = R at *
      have HRest := hid hRest
      clear hRest
      have hdo := sdo_lit wr w.heap.size s 3 v (z :: R) 5 0 hA (by simp; omega) (fun h => by omega) (by unfold rightP; omega) true z R rfl rfl rfl
      have wn := res_same true z
      go_wp2_with fail
      refine hdo.mono ?_
      rintro e w8 ⟨rfl, v2, hA2, hs2⟩
      obtain ⟨hP8, hap8⟩ := hP.stepped hA hs2 hap
      have hb8 := hbw.trans (hs2.below_ hA (Nat.le_refl _))
      have hs8 := hb8.size
      have hX := Blk.new w8 37 #[.int .i64 0, .bool true, .int .i64 z]
      have hA9 := hA2.alloc (.cells #[.int .i64 0, .bool true, .int .i64 z] 37)
      have hP9 := hP8.alloc (.cells #[.int .i64 0, .bool true, .int .i64 z] 37)
      have hb9 := hb8.alloc hs8 (.cells #[.int .i64 0, .bool true, .int .i64 z] 37)
      obtain ⟨r0, r1, r2, _⟩ := hX.three
      clear hdo hA hP hap hbw hA2 hs2 hP8 hb8 x1
      go_wp2
      go_roundw
      case rel => exact ⟨j + 1, v2, by omega, by go_num, by rw [HRest.out]; exact hA9, hP9, hap8, hb9⟩
      case measure => first | (simp [intOf]; done) | (simp [intOf]; omega)
    · obtain rfl : j = M.length := by omega
      rw [List.drop_length] at hA
      have hdo := sdo_lit wr w.heap.size s 3 v [] 5 0 hA (by simp) (fun h => by omega) (by unfold rightP; omega) false 0 [] rfl rfl rfl
      have he : ∀ w, _ := fun w => res_eql false false 0 0 w
      simp only [and_self, decide_true] at he
      go_wp2_with fail
      refine hdo.mono ?_
      rintro e w8 ⟨rfl, v2, hA2, hs2⟩
      have hb8 := hbw.trans (hs2.below_ hA (Nat.le_refl _))
      have hs8 := hb8.size
      have hX := Blk.new w8 37 #[.int .i64 0, .bool false, .int .i64 0]
      have hA9 := hA2.alloc (.cells #[.int .i64 0, .bool false, .int .i64 0] 37)
      have hb9 := hb8.alloc hs8 (.cells #[.int .i64 0, .bool false, .int .i64 0] 37)
      obtain ⟨r0, r1, r2, _⟩ := hX.three
      have hln := slen_any _ _ s 3 v2 [] hA9
      clear hdo hA hP hap hbw hA2 hs2 hb8
      go_wp2_with fail
      refine hln.mono ?_
      rintro e w9 ⟨rfl, hbz⟩
      replace hb9 := hb9.trans (hbz.mono hb9.size)
      go_wp2
      go_ret
      exact ⟨rfl, hb9⟩

theorem undo_facts (K y : Int) (L : List Int) (hs : L.Pairwise (· < ·)) :
    ∃ (b : Bool) (L1 W : List Int), stepOk 1 y L = b ∧ stepL K 1 y L = L1 ∧ L1.length ≤ L.length + 1 ∧ L1.Pairwise (· < ·) ∧ y ∈ L1 ∧ delL y L1 = W ∧ W.Pairwise (· < ·) ∧ y ∉ W ∧ W = L.filter (fun z => z != y) ∧ W.length ≤ L.length ∧ (((W.length : Int) == (L.length : Int)) = b) := by
  have hW : (L.filter (fun z => z != y)).Pairwise (· < ·) := hs.filter _
  have hn : y ∉ L.filter (fun z => z != y) := by simp [List.mem_filter]
  by_cases hy : y ∈ L
  · exact ⟨false, L, _, by simp [stepOk, hy], by simp [stepL, hy], by omega, hs, hy, undo_in y L hs hy, hW, hn, rfl, List.length_filter_le _ _, filter_len_in y L hy⟩
  · exact ⟨true, insL y L, _, by simp [stepOk, hy], by simp [stepL, hy], by rw [len_insL]; omega, sorted_insL y L hs hy, (mem_insL y y L hs).2 (Or.inl rfl), undo_out y L hs hy, hW, hn, rfl, List.length_filter_le _ _, filter_len_out y L hy⟩

theorem undoes_1 (x ky : Int) (A : Option Addr) (l : List (Int × Int)) (cap : Nat) (hx : 0 ≤ x ∧ x ≤ 255) (hxm : x % 4 = 0) (hk : 0 ≤ ky ∧ ky ≤ 65535) (h60 : l.length ≤ 60) (w : World) (hrd : RdK w A l) :
    Calls Try.prog 6 #[.int .u8 x, .slice A l.length cap, .int .u16 ky] w fun e w' => e = .returned (.bool true) ∧ Below w.heap.size w w' := by
  have HR := hid hrd
  have htm : x.tmod 4 = 0 := by rw [Int.tmod_eq_emod_of_nonneg hx.1, hxm]
  have hty : ky.tmod 1000 = ky % 1000 := Int.tmod_eq_emod_of_nonneg hk.1
  have hy0 := Int.emod_nonneg ky (show (1000 : Int) ≠ 0 by omega)
  have hy1 := Int.emod_lt_of_pos ky (show (0 : Int) < 1000 by omega)
  obtain ⟨x0, x255⟩ := hx
  obtain ⟨ky0, ky1⟩ := hk
  clear hrd hxm
  generalize ky % 1000 = y at *
  go_enter Try.func6, Try.ntmps6
  go_wp2_with fail
  refine (s7awake_any _).mono ?_
  rintro e w1 ⟨rfl, hb1⟩
  go_wp2_with fail
  refine (sright_any 1 A l cap w1 (by omega) (HR.out.below hb1 (Nat.le_refl _))).mono ?_
  rintro e w2 ⟨uD, rfl, hD, hb2⟩
  obtain ⟨A2, cap2, rfl, hrdD, _, _⟩ := OpRow.rdk hD
  have hDl := rightL_len 1 l
  have hp := splay_any 1 A2 (rightL 1 l) cap2 w2 (by omega) hrdD
  replace hb1 := hb1.trans (hb2.mono hb1.size)
  clear hb2
  go_wp2_with fail
  refine hp.mono ?_
  rintro e w3 ⟨h1, hb3⟩
  rcases h1 with ⟨_, uR, s, v, rfl, hRR, hA⟩ | ⟨hn, _⟩
  rotate_left
  · exact absurd ⟨⟨by omega, by omega⟩, rightL_all 1 l⟩ hn
  have hsrt : (1 : Int) = 1 ∨ (1 : Int) = 2 → (itemsL 1 (rightL 1 l)).Pairwise (· < ·) := fun h => items_sorted 1 _ (rightL_all 1 l) h
  have hil := itemsL_len 1 (rightL 1 l)
  have hil2 : (itemsL 1 (rightL 1 l)).length ≤ 60 := by omega
  replace hA := hA.mono hb1.size
  replace hb1 := hb1.trans (hb3.mono hb1.size)
  generalize itemsL 1 (rightL 1 l) = L at *
  clear hp hD hrdD hb3 hRR hil hDl
  have hi := sitems_any w3 _ s 1 v L hA (by omega)
  go_wp2_with fail
  refine hi.mono ?_
  rintro e w4 ⟨u, rfl, hU, hb4⟩
  have hap : apartV u v := apart_new (N := 0) hA hU (Nat.le_refl _)
  replace hA := hA.below hb4
  have hbw := hb1.trans (hb4.mono hb1.size)
  obtain ⟨Au, cu, rfl, _⟩ := hU.rdi
  generalize w3.heap.size = Bu at *
  clear hi hb4 hb1
  have hsr := hsrt (by simp)
  obtain ⟨b, L1, W, f1, f2, f3, f4, f5, f6, f7, f8, f9, f10, f11⟩ := undo_facts 1 y L hsr
  have HW := hid f9
  have HS := hid hsr
  clear f9 hsrt
  have hdo1 := sdo_lit _ w.heap.size s 1 v L 1 y hA (by omega) (fun _ => hsr) (by unfold rightP; omega) b 0 L1 (f1) (rfl) (f2)
  go_wp2_with fail
  refine hdo1.mono ?_
  rintro e w5 ⟨rfl, v1, hA1, hs1⟩
  obtain ⟨hU', hap'⟩ := hU.stepped hA hs1 hap
  replace hbw := hbw.trans (hs1.below_ hA (Nat.le_refl _))
  replace hU := hU'.alloc (.cells #[.int .i64 0, .bool b, .int .i64 0] 37)
  replace hap := hap'
  clear hA
  have hA := hA1.alloc (.cells #[.int .i64 0, .bool b, .int .i64 0] 37)
  have hX1 := Blk.new w5 37 #[.int .i64 0, .bool b, .int .i64 0]
  replace hbw := hbw.alloc hbw.size (.cells #[.int .i64 0, .bool b, .int .i64 0] 37)
  clear hdo1 hs1 hA1 hU' hap'
  have hdo2 := sdo_lit _ w.heap.size s 1 v1 L1 3 y hA (by omega) (fun _ => f4) (by unfold rightP; omega) true 0 L1 (by simp [stepOk, f5]) (rfl) (rfl)
  go_wp2_with fail
  refine hdo2.mono ?_
  rintro e w6 ⟨rfl, v2, hA2, hs2⟩
  obtain ⟨hU', hap'⟩ := hU.stepped hA hs2 hap
  replace hbw := hbw.trans (hs2.below_ hA (Nat.le_refl _))
  replace hX1 := (hs2.blk hA hX1 (by decide) (by decide)).alloc (.cells #[.int .i64 0, .bool true, .int .i64 0] 37)
  replace hU := hU'.alloc (.cells #[.int .i64 0, .bool true, .int .i64 0] 37)
  replace hap := hap'
  clear hA
  have hA := hA2.alloc (.cells #[.int .i64 0, .bool true, .int .i64 0] 37)
  have hX2 := Blk.new w6 37 #[.int .i64 0, .bool true, .int .i64 0]
  replace hbw := hbw.alloc hbw.size (.cells #[.int .i64 0, .bool true, .int .i64 0] 37)
  clear hdo2 hs2 hA2 hU' hap'
  have hdo3 := sdo_lit _ w.heap.size s 1 v2 L1 2 y hA (by omega) (fun _ => f4) (by unfold rightP; omega) true 0 W (by simp [stepOk, f5]) (rfl) (by simp [stepL, f5, f6])
  go_wp2_with fail
  refine hdo3.mono ?_
  rintro e w7 ⟨rfl, v3, hA3, hs3⟩
  obtain ⟨hU', hap'⟩ := hU.stepped hA hs3 hap
  replace hbw := hbw.trans (hs3.below_ hA (Nat.le_refl _))
  replace hX1 := (hs3.blk hA hX1 (by decide) (by decide)).alloc (.cells #[.int .i64 0, .bool true, .int .i64 0] 37)
  replace hX2 := (hs3.blk hA hX2 (by decide) (by decide)).alloc (.cells #[.int .i64 0, .bool true, .int .i64 0] 37)
  replace hU := hU'.alloc (.cells #[.int .i64 0, .bool true, .int .i64 0] 37)
  replace hap := hap'
  clear hA
  have hA := hA3.alloc (.cells #[.int .i64 0, .bool true, .int .i64 0] 37)
  have hX3 := Blk.new w7 37 #[.int .i64 0, .bool true, .int .i64 0]
  replace hbw := hbw.alloc hbw.size (.cells #[.int .i64 0, .bool true, .int .i64 0] 37)
  clear hdo3 hs3 hA3 hU' hap'
  have hdo4 := sdo_lit _ w.heap.size s 1 v3 W 2 y hA (by omega) (fun _ => f7) (by unfold rightP; omega) false 0 W (by simp [stepOk, f8]) (rfl) (by simp [stepL, f8])
  go_wp2_with fail
  refine hdo4.mono ?_
  rintro e w8 ⟨rfl, v4, hA4, hs4⟩
  obtain ⟨hU', hap'⟩ := hU.stepped hA hs4 hap
  replace hbw := hbw.trans (hs4.below_ hA (Nat.le_refl _))
  replace hX1 := (hs4.blk hA hX1 (by decide) (by decide)).alloc (.cells #[.int .i64 0, .bool false, .int .i64 0] 37)
  replace hX2 := (hs4.blk hA hX2 (by decide) (by decide)).alloc (.cells #[.int .i64 0, .bool false, .int .i64 0] 37)
  replace hX3 := (hs4.blk hA hX3 (by decide) (by decide)).alloc (.cells #[.int .i64 0, .bool false, .int .i64 0] 37)
  replace hU := hU'.alloc (.cells #[.int .i64 0, .bool false, .int .i64 0] 37)
  replace hap := hap'
  clear hA
  have hA := hA4.alloc (.cells #[.int .i64 0, .bool false, .int .i64 0] 37)
  have hX4 := Blk.new w8 37 #[.int .i64 0, .bool false, .int .i64 0]
  replace hbw := hbw.alloc hbw.size (.cells #[.int .i64 0, .bool false, .int .i64 0] 37)
  clear hdo4 hs4 hA4 hU' hap'
  have hWl : W.length ≤ 60 := by omega
  clear f1 f2 f3 f4 f5 f6 f7 f8 f10 hsr
  have hbwF := hbw
  clear hbw
  have HF := hid f11
  clear f11
  go_wp2_with fail
  generalize hwb : w8.alloc (.cells #[.int .i64 0, .bool false, .int .i64 0] 37) = wb at *
  clear hwb
  have HU := hid (And.intro hU (And.intro hA (And.intro hX1 (And.intro hX2 (And.intro hX3 hX4)))))
  clear hU hA hX1 hX2 hX3 hX4 hap
  go_loopw [97, 21] (fun i p wr => WantRel w wb y L i p wr) (fun i _ _ => L.length - (intOf i).toNat)
  case atStart => exact ⟨0, Nat.zero_le _, rfl, RowI.none _ _, Below.refl _ _⟩
  case round =>
    obtain ⟨j, hj, rfl, hK, hbx⟩ := hrel
    have hsx := hbx.size
    obtain ⟨hU, hA, hX1, hX2, hX3, hX4⟩ := HU.out
    by_cases hlt : j < L.length
    · clear hA hX1 hX2 hX3 hX4
      have hUx := hU.below hbx
      obtain ⟨A8, c8, e8, hr8⟩ := hUx.rdi
      cases e8
      obtain ⟨bp, op, rfl, hbp, hcp⟩ := hr8.resolve_left (fun h => by subst h; simp at hlt)
      have x1 := hcp j hlt
      have hfl : ((L.take j).filter (fun z => z != y)).length ≤ 1000 := by
        have := List.length_filter_le (fun z => z != y) (L.take j)
        rw [List.length_take] at this
        omega
      have hsn := take_snoc hlt
      cases j with
      | zero =>
        clear hcp hr8 hU hUx
        rw [Nat.add_zero] at x1
        generalize L.getD 0 0 = z at *
        have HN := hid hsn
        clear hsn
        by_cases hz : z = y
        · have q1 : (z != y) = false := by simp [hz]
          have HQ := hid q1
          go_wp2
          go_roundw
          case rel => exact ⟨1, by omega, by go_num, by rw [HN.out, filter_snoc_no (f := fun z => z != y) HQ.out]; exact hK, hbx⟩
          case measure => first | (simp [intOf]; done) | (simp [intOf]; omega)
        · have q1 : (z != y) = true := by simp [hz]
          have HQ := hid q1
          generalize hF : (L.take 0).filter (fun z => z != y) = FL at *
          have HFL := hid hF
          clear hF
          go_wp2_with (at_builtin; refine wpList_snoc rfl _ _ rfl wb.heap.size _ FL wr.heap.size z rfl rfl (hK.alloc _) ?c1 (by omega) ?c2 ?_)
          try (case c1 => exact (Blk.new _ _ _).cell 0)
          try (case c2 => first | omega | (simp; omega))
          intro v' w' hR' hT hat
          have hbx' : Below wb.heap.size wb w' := (hbx.alloc hsx (.cells #[.int .i64 z] 3)).trans (hT.below (fun k hk => (hK.ge k hk).1) (by simp; omega))
          clear hT hat hK hbx x1
          go_wp2
          go_roundw
          case rel => exact ⟨1, by omega, by go_num, by rw [HN.out, filter_snoc_yes (f := fun z => z != y) HQ.out, HFL.out]; exact hR', hbx'⟩
          case measure => first | (simp [intOf]; done) | (simp [intOf]; omega)
      | succ j =>
        have x0 := hcp j (by omega)
        have hlt2 : L.getD j 0 < L.getD (j + 1) 0 := by
          have := List.pairwise_iff_getElem.1 HS.out j (j + 1) (by omega) hlt (by omega)
          simpa [List.getD, hlt, show j < L.length by omega] using this
        clear hcp hr8 hU hUx
        have e1 : ((j + 1 : Nat) : Int) - 1 = (j : Int) := by omega
        generalize L.getD (j + 1) 0 = z at *
        generalize L.getD j 0 = z0 at *
        have g1 : decide (z ≤ z0) = false := by simp; omega
        have g2 : decide (z0 ≥ z) = false := by simp; omega
        have HN := hid hsn
        clear hsn
        by_cases hz : z = y
        · have q1 : (z != y) = false := by simp [hz]
          have HQ := hid q1
          go_wp2
          go_roundw
          case rel => exact ⟨j + 2, by omega, by go_num, by rw [HN.out, filter_snoc_no (f := fun z => z != y) HQ.out]; exact hK, hbx⟩
          case measure => first | (simp [intOf]; done) | (simp [intOf]; omega)
        · have q1 : (z != y) = true := by simp [hz]
          have HQ := hid q1
          generalize hF : (L.take (j + 1)).filter (fun z => z != y) = FL at *
          have HFL := hid hF
          clear hF
          go_wp2_with (at_builtin; refine wpList_snoc rfl _ _ rfl wb.heap.size _ FL wr.heap.size z rfl rfl (hK.alloc _) ?c1 (by omega) ?c2 ?_)
          try (case c1 => exact (Blk.new _ _ _).cell 0)
          try (case c2 => first | omega | (simp; omega))
          intro v' w' hR' hT hat
          have hbx' : Below wb.heap.size wb w' := (hbx.alloc hsx (.cells #[.int .i64 z] 3)).trans (hT.below (fun k hk => (hK.ge k hk).1) (by simp; omega))
          clear hT hat hK hbx x1 x0
          go_wp2
          go_roundw
          case rel => exact ⟨j + 2, by omega, by go_num, by rw [HN.out, filter_snoc_yes (f := fun z => z != y) HQ.out, HFL.out]; exact hR', hbx'⟩
          case measure => first | (simp [intOf]; done) | (simp [intOf]; omega)
    · obtain rfl : j = L.length := by omega
      rw [List.take_length, ← HW.out] at hK
      have hbw := hbwF.trans (hbx.mono hbwF.size)
      replace hA := hA.below hbx
      replace hX1 := hX1.below hbx hX1.lt
      replace hX2 := hX2.below hbx hX2.lt
      replace hX3 := hX3.below hbx hX3.lt
      replace hX4 := hX4.below hbx hX4.lt
      obtain ⟨_, a1, _, _⟩ := hX1.three
      obtain ⟨_, a2, _, _⟩ := hX2.three
      obtain ⟨_, a3, _, _⟩ := hX3.three
      obtain ⟨_, a4, _, _⟩ := hX4.three
      obtain ⟨A9, c9, rfl, hr9, _⟩ := hK.rdi
      have hi := sitems_any wr _ s 1 v4 W hA (by omega)
      have f11 := HF.out
      clear hK hU
      go_wp2_with fail
      refine hi.mono ?_
      rintro e w9 ⟨u9, rfl, hU9, hb9⟩
      replace hbw := hbw.trans (hb9.mono hbw.size)
      obtain ⟨A10, c10, rfl, hr10⟩ := hU9.rdi
      have his := ints_same A10 A9 W c10 c9 w9 (by omega) hr10 (RdI.keep hr9 hb9 (Nat.le_refl _))
      clear hi hb9 a1 a2 a3 a4 hX1 hX2 hX3 hX4 hA hU9
      go_wp2_with fail
      refine his.mono ?_
      rintro e w10 ⟨rfl, hb10⟩
      replace hbw := hbw.trans (hb10.mono hbw.size)
      go_wp2
      go_ret
      exact ⟨by first | rfl | (simp; done), hbw⟩

theorem undoes_2 (x ky : Int) (A : Option Addr) (l : List (Int × Int)) (cap : Nat) (hx : 0 ≤ x ∧ x ≤ 255) (hxm : x % 4 = 1) (hk : 0 ≤ ky ∧ ky ≤ 65535) (h60 : l.length ≤ 60) (w : World) (hrd : RdK w A l) :
    Calls Try.prog 6 #[.int .u8 x, .slice A l.length cap, .int .u16 ky] w fun e w' => e = .returned (.bool true) ∧ Below w.heap.size w w' := by
  have HR := hid hrd
  have htm : x.tmod 4 = 1 := by rw [Int.tmod_eq_emod_of_nonneg hx.1, hxm]
  have hty : ky.tmod 1000 = ky % 1000 := Int.tmod_eq_emod_of_nonneg hk.1
  have hy0 := Int.emod_nonneg ky (show (1000 : Int) ≠ 0 by omega)
  have hy1 := Int.emod_lt_of_pos ky (show (0 : Int) < 1000 by omega)
  obtain ⟨x0, x255⟩ := hx
  obtain ⟨ky0, ky1⟩ := hk
  clear hrd hxm
  generalize ky % 1000 = y at *
  go_enter Try.func6, Try.ntmps6
  go_wp2_with fail
  refine (s7awake_any _).mono ?_
  rintro e w1 ⟨rfl, hb1⟩
  go_wp2_with fail
  refine (sright_any 2 A l cap w1 (by omega) (HR.out.below hb1 (Nat.le_refl _))).mono ?_
  rintro e w2 ⟨uD, rfl, hD, hb2⟩
  obtain ⟨A2, cap2, rfl, hrdD, _, _⟩ := OpRow.rdk hD
  have hDl := rightL_len 2 l
  have hp := splay_any 2 A2 (rightL 2 l) cap2 w2 (by omega) hrdD
  replace hb1 := hb1.trans (hb2.mono hb1.size)
  clear hb2
  go_wp2_with fail
  refine hp.mono ?_
  rintro e w3 ⟨h1, hb3⟩
  rcases h1 with ⟨_, uR, s, v, rfl, hRR, hA⟩ | ⟨hn, _⟩
  rotate_left
  · exact absurd ⟨⟨by omega, by omega⟩, rightL_all 2 l⟩ hn
  have hsrt : (2 : Int) = 1 ∨ (2 : Int) = 2 → (itemsL 2 (rightL 2 l)).Pairwise (· < ·) := fun h => items_sorted 2 _ (rightL_all 2 l) h
  have hil := itemsL_len 2 (rightL 2 l)
  have hil2 : (itemsL 2 (rightL 2 l)).length ≤ 60 := by omega
  replace hA := hA.mono hb1.size
  replace hb1 := hb1.trans (hb3.mono hb1.size)
  generalize itemsL 2 (rightL 2 l) = L at *
  clear hp hD hrdD hb3 hRR hil hDl
  have hi := sitems_any w3 _ s 2 v L hA (by omega)
  go_wp2_with fail
  refine hi.mono ?_
  rintro e w4 ⟨u, rfl, hU, hb4⟩
  have hap : apartV u v := apart_new (N := 0) hA hU (Nat.le_refl _)
  replace hA := hA.below hb4
  have hbw := hb1.trans (hb4.mono hb1.size)
  obtain ⟨Au, cu, rfl, _⟩ := hU.rdi
  generalize w3.heap.size = Bu at *
  clear hi hb4 hb1
  have hsr := hsrt (by simp)
  obtain ⟨b, L1, W, f1, f2, f3, f4, f5, f6, f7, f8, f9, f10, f11⟩ := undo_facts 2 y L hsr
  have HW := hid f9
  have HS := hid hsr
  clear f9 hsrt
  have hdo1 := sdo_lit _ w.heap.size s 2 v L 1 y hA (by omega) (fun _ => hsr) (by unfold rightP; omega) b 0 L1 (f1) (rfl) (f2)
  go_wp2_with fail
  refine hdo1.mono ?_
  rintro e w5 ⟨rfl, v1, hA1, hs1⟩
  obtain ⟨hU', hap'⟩ := hU.stepped hA hs1 hap
  replace hbw := hbw.trans (hs1.below_ hA (Nat.le_refl _))
  replace hU := hU'.alloc (.cells #[.int .i64 0, .bool b, .int .i64 0] 37)
  replace hap := hap'
  clear hA
  have hA := hA1.alloc (.cells #[.int .i64 0, .bool b, .int .i64 0] 37)
  have hX1 := Blk.new w5 37 #[.int .i64 0, .bool b, .int .i64 0]
  replace hbw := hbw.alloc hbw.size (.cells #[.int .i64 0, .bool b, .int .i64 0] 37)
  clear hdo1 hs1 hA1 hU' hap'
  have hdo2 := sdo_lit _ w.heap.size s 2 v1 L1 3 y hA (by omega) (fun _ => f4) (by unfold rightP; omega) true 0 L1 (by simp [stepOk, f5]) (rfl) (rfl)
  go_wp2_with fail
  refine hdo2.mono ?_
  rintro e w6 ⟨rfl, v2, hA2, hs2⟩
  obtain ⟨hU', hap'⟩ := hU.stepped hA hs2 hap
  replace hbw := hbw.trans (hs2.below_ hA (Nat.le_refl _))
  replace hX1 := (hs2.blk hA hX1 (by decide) (by decide)).alloc (.cells #[.int .i64 0, .bool true, .int .i64 0] 37)
  replace hU := hU'.alloc (.cells #[.int .i64 0, .bool true, .int .i64 0] 37)
  replace hap := hap'
  clear hA
  have hA := hA2.alloc (.cells #[.int .i64 0, .bool true, .int .i64 0] 37)
  have hX2 := Blk.new w6 37 #[.int .i64 0, .bool true, .int .i64 0]
  replace hbw := hbw.alloc hbw.size (.cells #[.int .i64 0, .bool true, .int .i64 0] 37)
  clear hdo2 hs2 hA2 hU' hap'
  have hdo3 := sdo_lit _ w.heap.size s 2 v2 L1 2 y hA (by omega) (fun _ => f4) (by unfold rightP; omega) true 0 W (by simp [stepOk, f5]) (rfl) (by simp [stepL, f5, f6])
  go_wp2_with fail
  refine hdo3.mono ?_
  rintro e w7 ⟨rfl, v3, hA3, hs3⟩
  obtain ⟨hU', hap'⟩ := hU.stepped hA hs3 hap
  replace hbw := hbw.trans (hs3.below_ hA (Nat.le_refl _))
  replace hX1 := (hs3.blk hA hX1 (by decide) (by decide)).alloc (.cells #[.int .i64 0, .bool true, .int .i64 0] 37)
  replace hX2 := (hs3.blk hA hX2 (by decide) (by decide)).alloc (.cells #[.int .i64 0, .bool true, .int .i64 0] 37)
  replace hU := hU'.alloc (.cells #[.int .i64 0, .bool true, .int .i64 0] 37)
  replace hap := hap'
  clear hA
  have hA := hA3.alloc (.cells #[.int .i64 0, .bool true, .int .i64 0] 37)
  have hX3 := Blk.new w7 37 #[.int .i64 0, .bool true, .int .i64 0]
  replace hbw := hbw.alloc hbw.size (.cells #[.int .i64 0, .bool true, .int .i64 0] 37)
  clear hdo3 hs3 hA3 hU' hap'
  have hdo4 := sdo_lit _ w.heap.size s 2 v3 W 2 y hA (by omega) (fun _ => f7) (by unfold rightP; omega) false 0 W (by simp [stepOk, f8]) (rfl) (by simp [stepL, f8])
  go_wp2_with fail
  refine hdo4.mono ?_
  rintro e w8 ⟨rfl, v4, hA4, hs4⟩
  obtain ⟨hU', hap'⟩ := hU.stepped hA hs4 hap
  replace hbw := hbw.trans (hs4.below_ hA (Nat.le_refl _))
  replace hX1 := (hs4.blk hA hX1 (by decide) (by decide)).alloc (.cells #[.int .i64 0, .bool false, .int .i64 0] 37)
  replace hX2 := (hs4.blk hA hX2 (by decide) (by decide)).alloc (.cells #[.int .i64 0, .bool false, .int .i64 0] 37)
  replace hX3 := (hs4.blk hA hX3 (by decide) (by decide)).alloc (.cells #[.int .i64 0, .bool false, .int .i64 0] 37)
  replace hU := hU'.alloc (.cells #[.int .i64 0, .bool false, .int .i64 0] 37)
  replace hap := hap'
  clear hA
  have hA := hA4.alloc (.cells #[.int .i64 0, .bool false, .int .i64 0] 37)
  have hX4 := Blk.new w8 37 #[.int .i64 0, .bool false, .int .i64 0]
  replace hbw := hbw.alloc hbw.size (.cells #[.int .i64 0, .bool false, .int .i64 0] 37)
  clear hdo4 hs4 hA4 hU' hap'
  have hWl : W.length ≤ 60 := by omega
  clear f1 f2 f3 f4 f5 f6 f7 f8 f10 hsr
  have hbwF := hbw
  clear hbw
  have HF := hid f11
  clear f11
  go_wp2_with fail
  generalize hwb : w8.alloc (.cells #[.int .i64 0, .bool false, .int .i64 0] 37) = wb at *
  clear hwb
  have HU := hid (And.intro hU (And.intro hA (And.intro hX1 (And.intro hX2 (And.intro hX3 hX4)))))
  clear hU hA hX1 hX2 hX3 hX4 hap
  go_loopw [97, 21] (fun i p wr => WantRel w wb y L i p wr) (fun i _ _ => L.length - (intOf i).toNat)
  case atStart => exact ⟨0, Nat.zero_le _, rfl, RowI.none _ _, Below.refl _ _⟩
  case round =>
    obtain ⟨j, hj, rfl, hK, hbx⟩ := hrel
    have hsx := hbx.size
    obtain ⟨hU, hA, hX1, hX2, hX3, hX4⟩ := HU.out
    by_cases hlt : j < L.length
    · clear hA hX1 hX2 hX3 hX4
      have hUx := hU.below hbx
      obtain ⟨A8, c8, e8, hr8⟩ := hUx.rdi
      cases e8
      obtain ⟨bp, op, rfl, hbp, hcp⟩ := hr8.resolve_left (fun h => by subst h; simp at hlt)
      have x1 := hcp j hlt
      have hfl : ((L.take j).filter (fun z => z != y)).length ≤ 1000 := by
        have := List.length_filter_le (fun z => z != y) (L.take j)
        rw [List.length_take] at this
        omega
      have hsn := take_snoc hlt
      cases j with
      | zero =>
        clear hcp hr8 hU hUx
        rw [Nat.add_zero] at x1
        generalize L.getD 0 0 = z at *
        have HN := hid hsn
        clear hsn
        by_cases hz : z = y
        · have q1 : (z != y) = false := by simp [hz]
          have HQ := hid q1
          go_wp2
          go_roundw
          case rel => exact ⟨1, by omega, by go_num, by rw [HN.out, filter_snoc_no (f := fun z => z != y) HQ.out]; exact hK, hbx⟩
          case measure => first | (simp [intOf]; done) | (simp [intOf]; omega)
        · have q1 : (z != y) = true := by simp [hz]
          have HQ := hid q1
          generalize hF : (L.take 0).filter (fun z => z != y) = FL at *
          have HFL := hid hF
          clear hF
          go_wp2_with (at_builtin; refine wpList_snoc rfl _ _ rfl wb.heap.size _ FL wr.heap.size z rfl rfl (hK.alloc _) ?c1 (by omega) ?c2 ?_)
          try (case c1 => exact (Blk.new _ _ _).cell 0)
          try (case c2 => first | omega | (simp; omega))
          intro v' w' hR' hT hat
          have hbx' : Below wb.heap.size wb w' := (hbx.alloc hsx (.cells #[.int .i64 z] 3)).trans (hT.below (fun k hk => (hK.ge k hk).1) (by simp; omega))
          clear hT hat hK hbx x1
          go_wp2
          go_roundw
          case rel => exact ⟨1, by omega, by go_num, by rw [HN.out, filter_snoc_yes (f := fun z => z != y) HQ.out, HFL.out]; exact hR', hbx'⟩
          case measure => first | (simp [intOf]; done) | (simp [intOf]; omega)
      | succ j =>
        have x0 := hcp j (by omega)
        have hlt2 : L.getD j 0 < L.getD (j + 1) 0 := by
          have := List.pairwise_iff_getElem.1 HS.out j (j + 1) (by omega) hlt (by omega)
          simpa [List.getD, hlt, show j < L.length by omega] using this
        clear hcp hr8 hU hUx
        have e1 : ((j + 1 : Nat) : Int) - 1 = (j : Int) := by omega
        generalize L.getD (j + 1) 0 = z at *
        generalize L.getD j 0 = z0 at *
        have g1 : decide (z ≤ z0) = false := by simp; omega
        have g2 : decide (z0 ≥ z) = false := by simp; omega
        have HN := hid hsn
        clear hsn
        by_cases hz : z = y
        · have q1 : (z != y) = false := by simp [hz]
          have HQ := hid q1
          go_wp2
          go_roundw
          case rel => exact ⟨j + 2, by omega, by go_num, by rw [HN.out, filter_snoc_no (f := fun z => z != y) HQ.out]; exact hK, hbx⟩
          case measure => first | (simp [intOf]; done) | (simp [intOf]; omega)
        · have q1 : (z != y) = true := by simp [hz]
          have HQ := hid q1
          generalize hF : (L.take (j + 1)).filter (fun z => z != y) = FL at *
          have HFL := hid hF
          clear hF
          go_wp2_with (at_builtin; refine wpList_snoc rfl _ _ rfl wb.heap.size _ FL wr.heap.size z rfl rfl (hK.alloc _) ?c1 (by omega) ?c2 ?_)
          try (case c1 => exact (Blk.new _ _ _).cell 0)
          try (case c2 => first | omega | (simp; omega))
          intro v' w' hR' hT hat
          have hbx' : Below wb.heap.size wb w' := (hbx.alloc hsx (.cells #[.int .i64 z] 3)).trans (hT.below (fun k hk => (hK.ge k hk).1) (by simp; omega))
          clear hT hat hK hbx x1 x0
          go_wp2
          go_roundw
          case rel => exact ⟨j + 2, by omega, by go_num, by rw [HN.out, filter_snoc_yes (f := fun z => z != y) HQ.out, HFL.out]; exact hR', hbx'⟩
          case measure => first | (simp [intOf]; done) | (simp [intOf]; omega)
    · obtain rfl : j = L.length := by omega
      rw [List.take_length, ← HW.out] at hK
      have hbw := hbwF.trans (hbx.mono hbwF.size)
      replace hA := hA.below hbx
      replace hX1 := hX1.below hbx hX1.lt
      replace hX2 := hX2.below hbx hX2.lt
      replace hX3 := hX3.below hbx hX3.lt
      replace hX4 := hX4.below hbx hX4.lt
      obtain ⟨_, a1, _, _⟩ := hX1.three
      obtain ⟨_, a2, _, _⟩ := hX2.three
      obtain ⟨_, a3, _, _⟩ := hX3.three
      obtain ⟨_, a4, _, _⟩ := hX4.three
      obtain ⟨A9, c9, rfl, hr9, _⟩ := hK.rdi
      have hi := sitems_any wr _ s 2 v4 W hA (by omega)
      have f11 := HF.out
      clear hK hU
      go_wp2_with fail
      refine hi.mono ?_
      rintro e w9 ⟨u9, rfl, hU9, hb9⟩
      replace hbw := hbw.trans (hb9.mono hbw.size)
      obtain ⟨A10, c10, rfl, hr10⟩ := hU9.rdi
      have his := ints_same A10 A9 W c10 c9 w9 (by omega) hr10 (RdI.keep hr9 hb9 (Nat.le_refl _))
      clear hi hb9 a1 a2 a3 a4 hX1 hX2 hX3 hX4 hA hU9
      go_wp2_with fail
      refine his.mono ?_
      rintro e w10 ⟨rfl, hb10⟩
      replace hbw := hbw.trans (hb10.mono hbw.size)
      go_wp2
      go_ret
      exact ⟨by first | rfl | (simp; done), hbw⟩

theorem undoes_walk (x ky : Int) (A : Option Addr) (l : List (Int × Int)) (cap : Nat) (hx : 0 ≤ x ∧ x ≤ 255) (hk : 0 ≤ ky ∧ ky ≤ 65535) (w : World) (hrd : RdK w A l) :
    Calls Try.prog 6 #[.int .u8 x, .slice A l.length cap, .int .u16 ky] w fun e w' => e = .returned (.bool true) ∧ Below w.heap.size w w' := by
  by_cases h60 : l.length ≤ 60
  · have hc : x % 4 = 0 ∨ x % 4 = 1 ∨ x % 4 = 2 ∨ x % 4 = 3 := by omega
    rcases hc with h | h | h | h
    · exact undoes_1 x ky A l cap hx h hk h60 w hrd
    · exact undoes_2 x ky A l cap hx h hk h60 w hrd
    · exact undoes_3 x ky A l cap hx h hk h60 w hrd
    · exact undoes_4 x ky A l cap hx h hk h60 w hrd
  · have htm : x.tmod 4 = x % 4 := Int.tmod_eq_emod_of_nonneg hx.1
    have hty : ky.tmod 1000 = ky % 1000 := Int.tmod_eq_emod_of_nonneg hk.1
    have hy0 := Int.emod_nonneg ky (show (1000 : Int) ≠ 0 by omega)
    have hy1 := Int.emod_lt_of_pos ky (show (0 : Int) < 1000 by omega)
    have hm0 := Int.emod_nonneg x (show (4 : Int) ≠ 0 by omega)
    have hm1 := Int.emod_lt_of_pos x (show (0 : Int) < 4 by omega)
    obtain ⟨x0, x255⟩ := hx
    obtain ⟨ky0, ky1⟩ := hk
    clear hrd
    generalize ky % 1000 = y at *
    generalize x % 4 = m at *
    go_enter Try.func6, Try.ntmps6
    go_wp2_with fail
    refine (s7awake_any _).mono ?_
    rintro e w1 ⟨rfl, hb1⟩
    go_wp2
    go_ret
    exact ⟨by first | rfl | (simp; done), hb1⟩
end Go.Proofs.Ytibbbbgalhekoaa
