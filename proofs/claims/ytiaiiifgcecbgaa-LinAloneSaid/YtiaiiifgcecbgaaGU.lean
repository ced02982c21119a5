/- lin: enter. -/
import Derived.Test.YtiaiiifgcecbgaaGO
import Derived.StillTailTactics
import Derived.Deep.CutBlock
import Derived.Test.YtiaiiifgcecbgaaGP
import Derived.Deep.RegionHeld3
import Derived.Deep.RegionLaw
set_option linter.unusedSimpArgs false
set_option linter.unusedVariables false
namespace Go.Proofs.Ytiaiiifgcecbgaa
open Go.RowKit Go.Sort
set_option maxHeartbeats 4000000
set_option maxRecDepth 100000
/-- A bit more, just if so. -/
def orP (p : Prop) (M i M' : Nat) : Prop := (p ∧ M' = withB M i) ∨ (¬ p ∧ M' = M)
def mayC (K : Int) (c : Cl) : Prop := rightP K c.k c.y ∧ (0 ≤ c.e → c.c = 0)
def mustC (c : Cl) : Prop := 0 ≤ c.e ∧ c.c = 0
def putsC (K : Int) (c : Cl) : Prop := mayC K c ∧ c.k = 4 ∧ (0 ≤ c.e → c.o = true ∧ c.z = 0)
def takesC (K : Int) (c : Cl) : Prop := mayC K c ∧ c.k = 5
def srC (nb : Nat) (vc bv dv hv : Value) (M U P T : Nat) : Array Value := #[.pointer (some ⟨nb, 0, none⟩), vc, .int .u32 M, .int .u32 U, .int .u32 P, .int .u32 T, bv, dv, hv]
theorem sr_cells {w : World} {sb nb : Nat} {vc bv dv hv : Value} {M U P T : Nat} (h : Blk w sb 92 (srC nb vc bv dv hv M U P T)) : w.cell? ⟨sb, 0, none⟩ = some (.pointer (some ⟨nb, 0, none⟩)) ∧ w.cell? ⟨sb, 2, none⟩ = some (.int .u32 M) ∧ w.cell? ⟨sb, 3, none⟩ = some (.int .u32 U) ∧ w.cell? ⟨sb, 4, none⟩ = some (.int .u32 P) ∧ w.cell? ⟨sb, 5, none⟩ = some (.int .u32 T) ∧ (∀ i, w.frozen? ⟨sb, i, none⟩ = false) :=
  ⟨h.cell 0, h.cell 2, h.cell 3, h.cell 4, h.cell 5, h.frozen⟩
theorem call_cells {w : World} {g : Nat} {c : Cl} (h : Blk w g 60 (callC c).toArray) : w.cell? ⟨g, 0, none⟩ = some (.int .i64 c.b) ∧ w.cell? ⟨g, 1, none⟩ = some (.int .i64 c.e) ∧ w.cell? ⟨g, 2, none⟩ = some (.int .i64 c.i) ∧ w.cell? ⟨g, 3, none⟩ = some (.int .i64 c.t) ∧ w.cell? ⟨g, 4, none⟩ = some (.int .i64 c.k) ∧ w.cell? ⟨g, 5, none⟩ = some (.int .i64 c.y) ∧ w.cell? ⟨g, 6, none⟩ = some (.int .i64 c.c) ∧ w.cell? ⟨g, 7, none⟩ = some (.bool c.o) ∧ w.cell? ⟨g, 8, none⟩ = some (.int .i64 c.z) :=
  ⟨h.cell 0, h.cell 1, h.cell 2, h.cell 3, h.cell 4, h.cell 5, h.cell 6, h.cell 7, h.cell 8⟩
theorem spanp_is (b e : Int) (z : Bool) (hz : decide (e < 0) = z) (w : World) : Calls Try.prog 39 #[.agg #[.int .i64 b, .int .i64 e]] w fun x w' => x = .returned (.bool z) ∧ Below w.heap.size w w' := by
  rw [← hz]; exact spanp_any b e w
theorem tright_is (s k y : Int) (z : Bool) (hz : decide (rightP s k y) = z) (w : World) : Calls Try.prog 44 #[.int .i64 s, .agg #[.int .i64 k, .int .i64 y]] w fun e w' => e = .returned (.bool z) ∧ Below w.heap.size w w' := by
  rw [← hz]; exact tright_any s k y w
/-- The blocks that enter looks at: the search's, the first meaning's, the call's. -/
structure EnAt (w0 : World) (sb nb q : Nat) (vn vc bv dv hv : Value) (K : Int) (c : Cl) (M U P T : Nat) (w : World) : Prop where
  s : Blk w sb 92 (srC nb vc bv dv hv M U P T)
  n : Blk w nb 86 #[vn, .int .i64 K]
  c : Blk w q 60 (callC c).toArray
  t : Touch (fun k => k = sb) w0 w
section
variable {w0 w w' : World} {sb nb q : Nat} {vn vc bv dv hv : Value} {K : Int} {c : Cl} {M U P T : Nat}
theorem EnAt.below (h : EnAt w0 sb nb q vn vc bv dv hv K c M U P T w) (hb : Below w.heap.size w w') : EnAt w0 sb nb q vn vc bv dv hv K c M U P T w' :=
  ⟨h.s.below hb h.s.lt, h.n.below hb h.n.lt, h.c.below hb h.c.lt, h.t.step (Touch.of_below (S := fun _ => False) hb) (fun _ _ f => f.elim)⟩
theorem EnAt.set (h : EnAt w0 sb nb q vn vc bv dv hv K c M U P T w) (i : Nat) (v : Value) (M' U' P' T' : Nat) (he : (srC nb vc bv dv hv M U P T).setIfInBounds i v = srC nb vc bv dv hv M' U' P' T') : EnAt w0 sb nb q vn vc bv dv hv K c M' U' P' T' (w.setCell ⟨sb, i, none⟩ v) :=
  ⟨by rw [← he]; exact h.s.set_ i v, h.n.far (p := ⟨sb, i, none⟩) (h.n.ne h.s (by decide)) v, h.c.far (p := ⟨sb, i, none⟩) (h.c.ne h.s (by decide)) v, h.t.setCell (p := ⟨sb, i, none⟩) (fun _ => rfl) v⟩
end
def EnMid (w0 : World) (sb nb q : Nat) (vn vc bv dv hv : Value) (K : Int) (c : Cl) (M U P T : Nat) (w : World) : Prop :=
  (0 ≤ c.e → c.c = 0) ∧ ∃ U', orP (mustC c) U c.i U' ∧ EnAt w0 sb nb q vn vc bv dv hv K c M U' P T w
def EnPost (w0 : World) (sb nb : Nat) (vc bv dv hv : Value) (K : Int) (c : Cl) (M U P T : Nat) (e : Ending) (w : World) : Prop :=
  e = .returned (.tuple #[]) ∧ ∃ M' U' P' T', orP (mayC K c) M c.i M' ∧ orP (mustC c) U c.i U' ∧ orP (putsC K c) P c.i P' ∧ orP (takesC K c) T c.i T' ∧ Blk w sb 92 (srC nb vc bv dv hv M' U' P' T') ∧ Touch (fun k => k = sb) w0 w
theorem enter_any (w : World) (sb nb : Nat) (vn vc bv dv hv : Value) (K : Int) (c : Cl) (M U P T : Nat) (hB : Blk w sb 92 (srC nb vc bv dv hv M U P T)) (hS : Blk w nb 86 #[vn, .int .i64 K])
    (hi : c.i < 24) (hM : M < 16777216) (hU : U < 16777216) (hP : P < 16777216) (hT : T < 16777216) :
    Calls Try.prog 34 #[.pointer (some ⟨sb, 0, none⟩), .agg #[.int .i64 c.b, .int .i64 c.e, .int .i64 c.i, .int .i64 c.t, .int .i64 c.k, .int .i64 c.y, .int .i64 c.c, .bool c.o, .int .i64 c.z]] w (EnPost w sb nb vc bv dv hv K c M U P T) := by
  obtain ⟨W1, hW1⟩ : ∃ W1, W1 = w.alloc (.cells #[.int .i64 c.b, .int .i64 c.e, .int .i64 c.i, .int .i64 c.t, .int .i64 c.k, .int .i64 c.y, .int .i64 c.c, .bool c.o, .int .i64 c.z] 60) := ⟨_, rfl⟩
  have HE : EnAt w sb nb w.heap.size vn vc bv dv hv K c M U P T W1 := by
    rw [hW1]
    exact ⟨hB.alloc _, hS.alloc _, Blk.new w _ _, (Touch.refl _ _).alloc _⟩
  have hjust := just_any c.i (by omega)
  have hoM := or_just M c.i hM hi
  have hoU := or_just U c.i hU hi
  have hoP := or_just P c.i hP hi
  have hoT := or_just T c.i hT hi
  obtain ⟨J, hJ⟩ : ∃ J : Nat, J = 1 <<< c.i := ⟨_, rfl⟩
  rw [← hJ] at hjust hoM hoU hoP hoT
  obtain ⟨c0, c1, c2, c3, c4, c5, c6, c7, c8⟩ := call_cells HE.c
  obtain ⟨pb, hpb⟩ : ∃ pb, decide (c.e < 0) = pb := ⟨_, rfl⟩
  have hsp := spanp_is c.b c.e pb hpb
  have HPB := hid hpb
  have H0 := hid HE
  have hagr := agrees_any c 0 true 0
  have HAG : Hid (agrB c 0 true 0 = true ↔ (0 ≤ c.e → c.c = 0 ∧ c.o = true ∧ c.z = 0)) := agrB_iff
  clear hJ HE hB hS hpb
  generalize hQ : w.heap.size = q at *
  go_enter Try.func34, Try.ntmps34
  go_upto_region 1 with (fail)
  rw [← hW1]
  clear hW1
  go_upto_if 7 with (go_at_call 39; (with_reducible refine (hsp _).mono ?_); rintro e w2 ⟨rfl, hb2⟩)
  have H2 := hid (H0.out.below hb2)
  clear H0 hb2 c0 c1 c2 c3 c4 c5 c6 c7 c8 hsp
  go_cut [] (fun wx => EnMid w sb nb q vn vc bv dv hv K c M U P T wx)
  case first =>
    obtain ⟨c0, c1, c2, c3, c4, c5, c6, c7, c8⟩ := call_cells H2.out.c
    obtain ⟨s0, s2, s3, s4, s5, sf⟩ := sr_cells H2.out.s
    cases pb
    · have hce : 0 ≤ c.e := by have := of_decide_eq_false HPB.out; omega
      have HCE := hid hce
      clear hce
      by_cases hcc : c.c = 0
      · have hc1 : (c.c != 0) = false := by simp [hcc]
        have HCC := hid hcc
        clear hcc
        go_upto_region 3 with (fail)
        go_still_tail 10, (by kernel_rfl)
        refine wpStill_step (fun Kq hKq => ?_)
        go_simp
        refine ⟨_, hjust _, hKq _ ?_⟩
        clear hKq Kq
        repeat (refine wpStill_step (fun Kq hKq => ?_); go_simp; refine hKq _ ?_; clear hKq Kq)
        refine wpStill_nil ?_
        change wpList _ _ _ _ _ w2.drew
        have H3 := hid (H2.out.below (Below.refl w2.heap.size w2).drew)
        have sf3 : ∀ i, w2.drew.frozen? ⟨sb, i, none⟩ = false := H3.out.s.frozen
        have s33 : w2.drew.cell? ⟨sb, 3, none⟩ = some (.int .u32 U) := s3
        clear H2 c0 c1 c2 c3 c4 c5 c6 c7 c8 s0 s2 s3 s4 s5 sf
        generalize w2.drew = w3 at *
        go_wp2
        go_meet
        exact ⟨fun _ => HCC.out, withB U c.i, Or.inl ⟨⟨HCE.out, HCC.out⟩, rfl⟩, H3.out.set 3 _ _ _ _ _ rfl⟩
      · have hc1 : (c.c != 0) = true := by simp [hcc]
        have HCC := hid hcc
        clear hcc
        go_wp2
        refine bodyPost_ret (results_none rfl _ _ _) rfl ?_
        have hno : ¬ mayC K c := fun h => HCC.out (h.2 HCE.out)
        exact ⟨rfl, M, U, P, T, Or.inr ⟨hno, rfl⟩, Or.inr ⟨fun h => HCC.out h.2, rfl⟩, Or.inr ⟨fun h => hno h.1, rfl⟩, Or.inr ⟨fun h => hno h.1, rfl⟩, H2.out.s, H2.out.t⟩
    · have hce : c.e < 0 := of_decide_eq_true HPB.out
      have HCE := hid hce
      clear hce
      go_wp2
      go_meet
      exact ⟨fun h => by have := HCE.out; omega, U, Or.inr ⟨fun h => by have := HCE.out; have := h.1; omega, rfl⟩, H2.out⟩
  case rest =>
    obtain ⟨hok, U', hU', hE⟩ := hcut
    have HOK := hid hok
    have HUU := hid hU'
    have H3 := hid hE
    clear hok hU' hE H2
    obtain ⟨c0, c1, c2, c3, c4, c5, c6, c7, c8⟩ := call_cells H3.out.c
    obtain ⟨s0, s2, s3, s4, s5, sf⟩ := sr_cells H3.out.s
    obtain ⟨n0, n1, _⟩ := H3.out.n.two
    obtain ⟨rb, hrb⟩ : ∃ rb, decide (rightP K c.k c.y) = rb := ⟨_, rfl⟩
    have HRB := hid hrb
    have k4 := cell_regrown c4
    have k5 := cell_regrown c5
    have k0 := cell_regrown s0
    have k1 := cell_regrown n1
    have qR := fun d os => Calls.regrown_of (tright_is K c.k c.y rb hrb (grow (redrawn wc d) os))
    clear hrb c0 c1 c2 c3 c4 c5 c6 c7 c8 s0 s2 s3 s4 s5 sf n0 n1
    go_upto_region 4 with (fail)
    refine wp_region_quiet_below (by kernel_rfl) (by kernel_rfl) ?_
    repeat (first | go_big_quiet_step (first | exact qR _ _) | quiet_step (first | exact qR _ _))
    refine wpQuiet_nil ?_
    intro _ hw'
    obtain ⟨⟨dq, osq⟩, hw''⟩ := hw'
    subst hw''
    have H4 := hid (H3.out.below (below_regrown wc dq osq))
    clear qR k0 k1 k4 k5 H3
    generalize grow (redrawn wc dq) osq = w4 at *
    cases rb
    · go_wp2
      refine bodyPost_ret (results_none rfl _ _ _) rfl ?_
      have hno : ¬ mayC K c := fun h => of_decide_eq_false HRB.out h.1
      exact ⟨rfl, M, U', P, T, Or.inr ⟨hno, rfl⟩, HUU.out, Or.inr ⟨fun h => hno h.1, rfl⟩, Or.inr ⟨fun h => hno h.1, rfl⟩, H4.out.s, H4.out.t⟩
    · have hmay : mayC K c := ⟨of_decide_eq_true HRB.out, HOK.out⟩
      have HMAY := hid hmay
      clear hmay
      obtain ⟨c0, c1, c2, c3, c4, c5, c6, c7, c8⟩ := call_cells H4.out.c
      obtain ⟨s0, s2, s3, s4, s5, sf⟩ := sr_cells H4.out.s
      go_upto_region 5 with (fail)
      go_still_tail 10, (by kernel_rfl)
      refine wpStill_step (fun Kq hKq => ?_)
      go_simp
      refine ⟨_, hjust _, hKq _ ?_⟩
      clear hKq Kq
      repeat (refine wpStill_step (fun Kq hKq => ?_); go_simp; refine hKq _ ?_; clear hKq Kq)
      refine wpStill_nil ?_
      change wpList _ _ _ _ _ w4.drew
      have H5 := hid ((H4.out.below (Below.refl w4.heap.size w4).drew).set 2 (.int .u32 ((withB M c.i : Nat) : Int)) (withB M c.i) U' P T rfl)
      have sf5 : ∀ i, w4.drew.frozen? ⟨sb, i, none⟩ = false := sf
      have s25 : w4.drew.cell? ⟨sb, 2, none⟩ = some (.int .u32 M) := s2
      clear H4 c0 c1 c2 c3 c4 c5 c6 c7 c8 s0 s2 s3 s4 s5 sf
      generalize w4.drew = w5 at *
      go_upto_region 6 with (fail)
      clear sf5 s25
      generalize w5.setCell ⟨sb, 2, none⟩ (.int .u32 ((withB M c.i : Nat) : Int)) = w6 at *
      obtain ⟨c0, c1, c2, c3, c4, c5, c6, c7, c8⟩ := call_cells H5.out.c
      obtain ⟨s0, s2, s3, s4, s5, sf⟩ := sr_cells H5.out.s
      by_cases hk5 : c.k = 5
      · have h5 : (c.k == 5) = true := by simp [hk5]
        have HK5 := hid hk5
        clear hk5
        go_upto_region 7 with (fail)
        go_still_tail 10, (by kernel_rfl)
        refine wpStill_step (fun Kq hKq => ?_)
        go_simp
        refine ⟨_, hjust _, hKq _ ?_⟩
        clear hKq Kq
        repeat (refine wpStill_step (fun Kq hKq => ?_); go_simp; refine hKq _ ?_; clear hKq Kq)
        refine wpStill_nil ?_
        change wpList _ _ _ _ _ w6.drew
        have H7 := hid ((H5.out.below (Below.refl w6.heap.size w6).drew).set 5 (.int .u32 ((withB T c.i : Nat) : Int)) (withB M c.i) U' P (withB T c.i) rfl)
        have sf7 : ∀ i, w6.drew.frozen? ⟨sb, i, none⟩ = false := sf
        have s57 : w6.drew.cell? ⟨sb, 5, none⟩ = some (.int .u32 T) := s5
        clear H5 c0 c1 c2 c3 c4 c5 c6 c7 c8 s0 s2 s3 s4 s5 sf
        generalize w6.drew = w7 at *
        go_wp2
        refine bodyPost_ret (results_none rfl _ _ _) rfl ?_
        exact ⟨rfl, withB M c.i, U', P, withB T c.i, Or.inl ⟨HMAY.out, rfl⟩, HUU.out, Or.inr ⟨fun h => by have := h.2.1; have := HK5.out; omega, rfl⟩, Or.inl ⟨⟨HMAY.out, HK5.out⟩, rfl⟩, H7.out.s, H7.out.t⟩
      · have h5 : (c.k == 5) = false := by simp [hk5]
        have HK5 := hid hk5
        clear hk5
        by_cases hk4 : c.k = 4
        · have h4 : (c.k == 4) = true := by simp [hk4]
          have HK4 := hid hk4
          clear hk4
          obtain ⟨ag, hag⟩ : ∃ ag, agrB c 0 true 0 = ag := ⟨_, rfl⟩
          rw [hag] at hagr HAG
          clear hag
          go_upto_if 58 with (go_at_call 42; (with_reducible refine (hagr _).mono ?_); rintro e w7 ⟨rfl, hb7⟩)
          have H7 := hid (H5.out.below hb7)
          clear H5 c0 c1 c2 c3 c4 c5 c6 c7 c8 s0 s2 s3 s4 s5 sf hb7
          obtain ⟨c0, c1, c2, c3, c4, c5, c6, c7, c8⟩ := call_cells H7.out.c
          obtain ⟨s0, s2, s3, s4, s5, sf⟩ := sr_cells H7.out.s
          cases ag
          · have hno : ¬ (0 ≤ c.e → c.c = 0 ∧ c.o = true ∧ c.z = 0) := fun h => by have := HAG.out.2 h; simp at this
            have HNO := hid hno
            clear hno
            go_wp2
            refine bodyPost_ret (results_none rfl _ _ _) rfl ?_
            exact ⟨rfl, withB M c.i, U', P, T, Or.inl ⟨HMAY.out, rfl⟩, HUU.out, Or.inr ⟨fun h => HNO.out (fun he => ⟨HOK.out he, h.2.2 he⟩), rfl⟩, Or.inr ⟨fun h => HK5.out h.2, rfl⟩, H7.out.s, H7.out.t⟩
          · have hyes := HAG.out.1 rfl
            have HYES := hid hyes
            clear hyes
            go_upto_region 9 with (fail)
            go_still_tail 10, (by kernel_rfl)
            refine wpStill_step (fun Kq hKq => ?_)
            go_simp
            refine ⟨_, hjust _, hKq _ ?_⟩
            clear hKq Kq
            repeat (refine wpStill_step (fun Kq hKq => ?_); go_simp; refine hKq _ ?_; clear hKq Kq)
            refine wpStill_nil ?_
            change wpList _ _ _ _ _ w7.drew
            have H8 := hid ((H7.out.below (Below.refl w7.heap.size w7).drew).set 4 (.int .u32 ((withB P c.i : Nat) : Int)) (withB M c.i) U' (withB P c.i) T rfl)
            have sf7 : ∀ i, w7.drew.frozen? ⟨sb, i, none⟩ = false := sf
            have s47 : w7.drew.cell? ⟨sb, 4, none⟩ = some (.int .u32 P) := s4
            clear H7 c0 c1 c2 c3 c4 c5 c6 c7 c8 s0 s2 s3 s4 s5 sf
            generalize w7.drew = w8 at *
            go_wp2
            refine bodyPost_ret (results_none rfl _ _ _) rfl ?_
            exact ⟨rfl, withB M c.i, U', withB P c.i, T, Or.inl ⟨HMAY.out, rfl⟩, HUU.out, Or.inl ⟨⟨HMAY.out, HK4.out, fun he => (HYES.out he).2⟩, rfl⟩, Or.inr ⟨fun h => HK5.out h.2, rfl⟩, H8.out.s, H8.out.t⟩
        · have h4 : (c.k == 4) = false := by simp [hk4]
          have HK4 := hid hk4
          clear hk4
          go_wp2
          refine bodyPost_ret (results_none rfl _ _ _) rfl ?_
          exact ⟨rfl, withB M c.i, U', P, T, Or.inl ⟨HMAY.out, rfl⟩, HUU.out, Or.inr ⟨fun h => HK4.out h.2.1, rfl⟩, Or.inr ⟨fun h => HK5.out h.2, rfl⟩, H5.out.s, H5.out.t⟩
end Go.Proofs.Ytiaiiifgcecbgaa

/- lin: newSearch. -/
namespace Go.Proofs.Ytiaiiifgcecbgaa
open Go.RowKit Go.Sort
set_option maxHeartbeats 4000000
set_option maxRecDepth 100000
theorem make_grps (n : Nat) (hn : n ≤ 1000) (w : World) : (Instr.makeSlice 88 (.int .i64 (n : Int)) (.int .i64 (n : Int))).run Try.prog w = .ok (.slice (some ⟨w.heap.size, 0, none⟩) n n) (w.alloc (.cells (((List.replicate n 0).map (fun G : Nat => Value.int .u32 (G : Int))).toArray) 74)) := by
  obtain ⟨i0, hi, hz0, hz1, hz2⟩ := info_parts info_grp
  have h := run_make (P := Try.prog) w 88 74 i0 (.int .u32 0) Try.underlying88 hi hz0 .i64 .i64 n n (by omega) (Int.le_refl _) (by rw [hz2]; omega) (by omega)
  rw [hz1] at h
  simp only [Int.toNat_natCast, Nat.mul_one] at h
  rw [h]
  congr 3
  have h2 := toList_madeCells_one (.int .u32 0) n
  rw [List.map_replicate]
  rw [show ((0 : Nat) : Int) = 0 by rfl, ← h2]
  simp [Value.cells]
theorem or_bits {p : Prop} {Q : Nat → Prop} {M M' j : Nat} (h : orP p M j M') (hp : p ↔ Q j) (hM : ∀ i, M.testBit i = true ↔ i < j ∧ Q i) : ∀ i, M'.testBit i = true ↔ i < j + 1 ∧ Q i := by
  intro i
  rcases h with ⟨h1, rfl⟩ | ⟨h1, rfl⟩
  · rw [bit_with, hM]
    constructor
    · rintro (⟨h2, h3⟩ | rfl)
      · exact ⟨by omega, h3⟩
      · exact ⟨by omega, hp.1 h1⟩
    · rintro ⟨h2, h3⟩
      by_cases e : i = j
      · exact Or.inr e
      · exact Or.inl ⟨by omega, h3⟩
  · rw [hM]
    constructor
    · rintro ⟨h2, h3⟩; exact ⟨by omega, h3⟩
    · rintro ⟨h2, h3⟩
      refine ⟨?_, h3⟩
      by_cases e : i = j
      · subst e; exact absurd (hp.2 h3) h1
      · omega
def mkR (q nb : Nat) (vn vc : Value) (M U P T : Nat) (Bf : List Nat) : SR := ⟨q + 1 + 1 + 1, nb, q, q + 1, q + 1 + 1, vn, vc, M, U, P, T, Bf, fun _ => False⟩
def newRel1 (w0 : World) (N : Nat) (K : Int) (cs : List Cl) (nb : Nat) (vn vc : Value) (vj : Value) (w : World) : Prop :=
  ∃ j M U P T : Nat, vj = .int .i64 j ∧ j ≤ cs.length ∧ Bld w N K cs (mkR w0.heap.size nb vn vc M U P T (List.replicate cs.length 0)) ∧ Below w0.heap.size w0 w ∧
    (∀ i, M.testBit i = true ↔ i < j ∧ mayC K (cAt cs i)) ∧ (∀ i, U.testBit i = true ↔ i < j ∧ mustC (cAt cs i)) ∧ (∀ i, P.testBit i = true ↔ i < j ∧ putsC K (cAt cs i)) ∧ (∀ i, T.testBit i = true ↔ i < j ∧ takesC K (cAt cs i))
def newRel2 (w0 : World) (N : Nat) (K : Int) (cs : List Cl) (nb : Nat) (vn vc : Value) (M U P T : Nat) (vj : Value) (w : World) : Prop :=
  ∃ (j : Nat) (Bf : List Nat), vj = .int .i64 j ∧ j ≤ cs.length ∧ Bld w N K cs (mkR w0.heap.size nb vn vc M U P T Bf) ∧ Below w0.heap.size w0 w ∧
    ∀ i, i < j → ∀ x, (Bf.getD i 0).testBit x = true ↔ mustP cs x ∧ bef (cAt cs x) (cAt cs i)
theorem newsearch_any (w : World) (N : Nat) (K : Int) (cs : List Cl) (nb : Nat) (vn vc : Value) (hS : SpecAt w N nb K vn []) (hC : CallRow w N vc cs) (hn : cs.length ≤ 24) (hN : N ≤ w.heap.size)
    (hK : 1 ≤ K ∧ K ≤ 4) (hwf : wfP cs) (hsm : ∀ i, i < cs.length → (cAt cs i).b < 1000 ∧ -1 ≤ (cAt cs i).e ∧ (cAt cs i).e < 1000) (hids : ∀ i, i < cs.length → (cAt cs i).i = i)
    (hhb : K = 4 → ∀ S, (hopsM K cs S).length ≤ 8589934592 ∧ (hopM K cs S).length ≤ 8589934592) :
    Calls Try.prog 24 #[.pointer (some ⟨nb, 0, none⟩), vc] w fun e w' => ∃ R : SR, e = .returned (.pointer (some ⟨R.sb, 0, none⟩)) ∧ Srch w' N K cs R ∧ R.nb = nb ∧ (∀ x, ¬ R.X x) ∧ w.heap.size ≤ R.d ∧ w.heap.size ≤ R.hp ∧ Below w.heap.size w w' := by
  obtain ⟨W1, hW1⟩ : ∃ W1, W1 = (((w.alloc (.cells (Array.replicate cs.length (Value.int .u32 0)) 74)).alloc (.map #[] 0)).alloc (.map #[] 0)).alloc (.cells #[.pointer (some ⟨nb, 0, none⟩), vc, .int .u32 0, .int .u32 0, .int .u32 0, .int .u32 0, .slice (some ⟨w.heap.size, 0, none⟩) cs.length cs.length, .map (some (w.heap.size + 1)), .map (some (w.heap.size + 1 + 1))] 92) := ⟨_, rfl⟩
  have b1 : Below w.heap.size w W1 := by rw [hW1]; exact ((((Below.refl w.heap.size w).alloc (Nat.le_refl _) _).alloc (by simp) _).alloc (by simp; omega) _).alloc (by simp; omega) _
  have hmade : Bld W1 N K cs (mkR w.heap.size nb vn vc 0 0 0 0 (List.replicate cs.length 0)) := by
    have g1 := Blk.new w 74 (Array.replicate cs.length (Value.int .u32 0))
    have g2 := RawMap.made (K := MarkK) (G := fun _ _ => False) (w.alloc (.cells (Array.replicate cs.length (Value.int .u32 0)) 74))
    have g3 := RawMap.made (K := GrpK) (G := fun _ _ => False) ((w.alloc (.cells (Array.replicate cs.length (Value.int .u32 0)) 74)).alloc (.map #[] 0))
    have e1 : (w.alloc (.cells (Array.replicate cs.length (Value.int .u32 0)) 74)).heap.size = w.heap.size + 1 := by simp
    have e2 : ((w.alloc (.cells (Array.replicate cs.length (Value.int .u32 0)) 74)).alloc (.map #[] 0)).heap.size = w.heap.size + 1 + 1 := by simp
    have e3 : (((w.alloc (.cells (Array.replicate cs.length (Value.int .u32 0)) 74)).alloc (.map #[] 0)).alloc (.map #[] 0)).heap.size = w.heap.size + 1 + 1 + 1 := by simp
    have g4 := Blk.new (((w.alloc (.cells (Array.replicate cs.length (Value.int .u32 0)) 74)).alloc (.map #[] 0)).alloc (.map #[] 0)) 92 #[.pointer (some ⟨nb, 0, none⟩), vc, .int .u32 0, .int .u32 0, .int .u32 0, .int .u32 0, .slice (some ⟨w.heap.size, 0, none⟩) cs.length cs.length, .map (some (w.heap.size + 1)), .map (some (w.heap.size + 1 + 1))]
    rw [e1] at g2
    rw [e2] at g3
    rw [e3] at g4
    have eA : (Array.replicate cs.length (Value.int .u32 0)) = ((List.replicate cs.length 0).map (fun G : Nat => Value.int .u32 (G : Int))).toArray := by simp
    have hlast : ∀ {A : World} (o : Obj), Below A.heap.size A (A.alloc o) := fun {A} o => (Below.refl _ _).alloc (Nat.le_refl _) o
    refine ⟨hn, by simp [mkR], by rw [hW1]; exact g4, hS.below b1, hC.below b1, by
      show Blk W1 w.heap.size 74 (((List.replicate cs.length 0).map (fun G : Nat => Value.int .u32 (G : Int))).toArray)
      rw [← eA, hW1]; exact ((g1.alloc _).alloc _).alloc _, ?_, ?_, by simp [mkR]⟩
    · rw [hW1]
      exact (g2.of_block ((hlast _).block _ g2.lt)).of_block ((hlast _).block _ (by simp))
    · rw [hW1]
      exact g3.of_block ((hlast _).block _ g3.lt)
  have hmk := make_grps cs.length (by omega)
  have hmm := @run_makeMap Try.prog
  obtain ⟨A, cap, hvc, _⟩ := hC.out (fun _ => rfl)
  have H1 := hid hmade
  have HB1 := hid b1
  have HIDS := hid hids
  have HOK := hid (And.intro hK (And.intro hwf (And.intro hsm hhb)))
  clear hS hC hmade b1 hids hK hwf hsm hhb
  generalize hQ : w.heap.size = q at *
  have HQ := hid hQ
  generalize hnn : cs.length = n at *
  have HNN := hid hnn
  subst hvc
  go_enter Try.func24, Try.ntmps24
  go_upto_region 2 with (fail)
  rw [← hW1]
  clear hW1 hmk hmm
  go_wp2
  go_loopw [20] (fun v20 wr => newRel1 w N K cs nb vn (.slice A n cap) v20 wr) (fun v20 _ => n - (intOf v20).toNat)
  case atStart => exact ⟨0, 0, 0, 0, 0, rfl, by omega, by rw [HNN.out, HQ.out]; exact H1.out, by rw [HQ.out]; exact HB1.out, fun i => by simp, fun i => by simp, fun i => by simp, fun i => by simp⟩
  case round =>
    clear H1 HB1
    obtain ⟨j, M, U, P, T, rfl, hj, hbl, hb, hM, hU, hP, hT⟩ := hrel
    rw [hnn] at hj
    by_cases hlt : j < n
    · obtain ⟨g', cap', hv', hview⟩ := hbl.call j (by rw [HNN.out]; exact hlt)
      rw [hnn] at hv'
      simp only [mkR, Value.slice.injEq, true_and] at hv'
      obtain ⟨rfl, rfl⟩ := hv'
      obtain ⟨k1, x0, x1, x2, x3, x4, x5, x6, x7, x8⟩ := hview wr (Below.refl _ _)
      obtain ⟨w1, hw1⟩ : ∃ w1, w1 = wr.alloc (.cells #[.int .i64 (cAt cs j).b, .int .i64 (cAt cs j).e, .int .i64 (cAt cs j).i, .int .i64 (cAt cs j).t, .int .i64 (cAt cs j).k, .int .i64 (cAt cs j).y, .int .i64 (cAt cs j).c, .bool (cAt cs j).o, .int .i64 (cAt cs j).z] 60) := ⟨_, rfl⟩
      have b1 : Below wr.heap.size wr w1 := by rw [hw1]; exact (Below.refl _ _).alloc (Nat.le_refl _) _
      have C1 : Blk w1 wr.heap.size 60 (callC (cAt cs j)).toArray := by rw [hw1]; exact Blk.new wr _ _
      obtain ⟨y0, y1, y2, y3, y4, y5, y6, y7, y8⟩ := call_cells C1
      have hji : (cAt cs j).i = j := HIDS.out j hlt
      have HJI := hid hji
      have hbl1 := hbl.below b1
      have hM2 : M < 16777216 := big_of (n := n) (fun i hi => by have := ((hM i).1 hi).1; omega) hn
      have hU2 : U < 16777216 := big_of (n := n) (fun i hi => by have := ((hU i).1 hi).1; omega) hn
      have hP2 : P < 16777216 := big_of (n := n) (fun i hi => by have := ((hP i).1 hi).1; omega) hn
      have hT2 : T < 16777216 := big_of (n := n) (fun i hi => by have := ((hT i).1 hi).1; omega) hn
      have hent := enter_any w1 (q + 1 + 1 + 1) nb vn (.slice (some ⟨g', 0, none⟩) n cap) (.slice (some ⟨q, 0, none⟩) n n) (.map (some (q + 1))) (.map (some (q + 1 + 1))) K (cAt cs j) M U P T (by have := hbl1.blk; rw [HNN.out, HQ.out] at this; exact this) hbl1.spec.blk (by omega) hM2 hU2 hP2 hT2
      have HBL1 := hid hbl1
      have HBB1 := hid (hb.trans (b1.mono hb.size))
      have HMB := hid (And.intro hM (And.intro hU (And.intro hP hT)))
      have hjn : (j : Int) < (n : Int) := by omega
      clear hji hbl hview hbl1 b1 C1 hb hM hU hP hT hM2 hU2 hP2 hT2 k1
      go_upto_region 5 with (fail)
      rw [← hw1]
      clear x0 x1 x2 x3 x4 x5 x6 x7 x8
      generalize hgq : wr.heap.size = gq at *
      clear hw1
      go_wp2_with (go_at_call 34; (with_reducible refine hent.mono ?_); rintro e w2 ⟨rfl, M', U', P', T', hM', hU', hP', hT', hblk, htch⟩)
      go_roundw
      case rel =>
        rw [HJI.out] at hM' hU' hP' hT'
        have hq3 : q ≤ w1.heap.size := by rw [← HQ.out]; exact HBB1.out.size
        refine ⟨j + 1, M', U', P', T', by go_num, by rw [HNN.out]; omega, ?_, ?_, or_bits hM' Iff.rfl HMB.out.1, or_bits hU' Iff.rfl HMB.out.2.1, or_bits hP' Iff.rfl HMB.out.2.2.1, or_bits hT' Iff.rfl HMB.out.2.2.2⟩
        · exact HBL1.out.lay (by rw [HQ.out]; exact htch) M' U' P' T' (by rw [HNN.out, HQ.out]; exact hblk)
        · refine HBB1.out.trans (htch.below (fun k hk => ?_) ?_)
          · subst hk; rw [HQ.out]; omega
          · rw [HQ.out]; exact hq3
      case measure => simp [intOf]; omega
    · obtain rfl : j = n := by omega
      have HBL := hid hbl
      have HB := hid hb
      have HMB := hid (And.intro hM (And.intro hU (And.intro hP hT)))
      clear hbl hb hM hU hP hT
      go_wp2
      go_loopw [30] (fun v30 wr => newRel2 w N K cs nb vn (.slice A j cap) M U P T v30 wr) (fun v30 _ => j - (intOf v30).toNat)
      case atStart => exact ⟨0, _, rfl, by omega, HBL.out, HB.out, fun i hi => absurd hi (by omega)⟩
      case round =>
        clear HBL HB
        obtain ⟨i, Bf, rfl, hi, hbl, hb, hbf⟩ := hrel
        rw [HNN.out] at hi
        by_cases hlt2 : i < j
        · have hah := ahead_any wr.drew N K cs _ i (hbl.below (Below.refl wr.heap.size wr).drew) (fun x => by
            show U.testBit x = true ↔ mustP cs x
            rw [HMB.out.2.1 x]
            exact ⟨fun h => ⟨by rw [HNN.out]; exact h.1, h.2⟩, fun h => ⟨by rw [← HNN.out]; exact h.1, h.2⟩⟩) (fun x hx => HIDS.out x (by rw [HNN.out] at hx; exact hx)) (by rw [HNN.out]; exact hlt2)
          rw [show (mkR w.heap.size nb vn (.slice A j cap) M U P T Bf).sb = q + 1 + 1 + 1 by rw [HQ.out]; rfl] at hah
          have z0 : wr.drew.cell? ⟨q + 1 + 1 + 1, 6, none⟩ = some (.slice (some ⟨q, 0, none⟩) j j) := by
            have := hbl.blk.cell 6
            rw [HNN.out, HQ.out] at this
            exact this
          have hbfl : i < Bf.length := by have := hbl.bl; rw [HNN.out] at this; exact (show Bf.length = j from this) ▸ hlt2
          have hcell : ∀ w5, Below wr.heap.size wr w5 → Bld w5 N K cs (mkR w.heap.size nb vn (.slice A j cap) M U P T Bf) ∧ w5.cell? ⟨q, i, none⟩ = some (.int .u32 ((Bf.getD i 0 : Nat) : Int)) ∧ w5.frozen? ⟨q, i, none⟩ = false ∧ w5.cell? ⟨q + 1 + 1 + 1, 6, none⟩ = some (.slice (some ⟨q, 0, none⟩) j j) := fun w5 h5 => by
            have h := hbl.below h5
            have h1 := h.bef.cell i
            have h2 := h.bef.frozen i
            have h3 := h.blk.cell 6
            rw [HNN.out] at h3
            rw [← HQ.out]
            exact ⟨h, by rw [show (mkR w.heap.size nb vn (.slice A j cap) M U P T Bf).bb = w.heap.size from rfl] at h1; rw [h1]; simp [mkR, hbfl], h2, h3⟩
          have HCL := hid hcell
          have HB := hid hb
          have HBF := hid hbf
          have hin : (i : Int) < (j : Int) := by omega
          clear hbl hb hbf hcell
          go_upto_region 10 with (fail)
          go_region_held3 (fun w' => w'.cell? ⟨q + 1 + 1 + 1, 6, none⟩ = some (.slice (some ⟨q, 0, none⟩) j j))
            (first | go_keep | exact z0 | exact z6 | exact cell_set_keep z6 (by simp; omega) _)
            (first | (go_at_call 35; (with_reducible refine hah.mono ?_); rintro e w5 ⟨B, rfl, hB, hb5⟩; obtain ⟨hbl5, s5, f5, z6⟩ := HCL.out w5 ((Below.refl wr.heap.size wr).drew.trans hb5)))
          go_wp2
          go_roundw
          case rel =>
            have hl5 : Bld (w5.setCell ⟨w.heap.size, i, none⟩ (.int .u32 (B : Int))) N K cs (mkR w.heap.size nb vn (.slice A j cap) M U P T (Bf.set i B)) := hbl5.laid i B
            have e5 : (⟨q, i, none⟩ : Addr) = ⟨w.heap.size, i, none⟩ := by rw [HQ.out]
            refine ⟨i + 1, Bf.set i B, by go_num, by rw [HNN.out]; omega, by rw [e5]; exact hl5, ?_, fun k hk x => ?_⟩
            · exact (HB.out.trans (((Below.refl wr.heap.size wr).drew.trans hb5).mono HB.out.size)).setCell (p := ⟨q, i, none⟩) (by rw [HQ.out]; exact Nat.le_refl _) _
            · by_cases e : k = i
              · subst e
                rw [show (Bf.set k B).getD k 0 = B by simp [List.getD, hbfl]]
                exact hB x
              · rw [show (Bf.set i B).getD k 0 = Bf.getD k 0 by simp [List.getD, List.getElem?_set, Ne.symm e]]
                exact HBF.out k (by omega) x
          case measure => simp [intOf]; omega
        · obtain rfl : i = j := by omega
          have hbits : ∀ {Q : Nat → Prop} {M : Nat}, (∀ x, M.testBit x = true ↔ x < i ∧ Q x) → ∀ x, M.testBit x = true ↔ x < cs.length ∧ Q x := fun {Q M} h x => by rw [HNN.out]; exact h x
          have hsr := hbl.srch ⟨hbl.n, hbl.bl, hbits HMB.out.1, hbits HMB.out.2.1, fun x => ((hbits HMB.out.2.2.1) x).trans ⟨fun h => ⟨⟨h.1, h.2.1⟩, h.2.2⟩, fun h => ⟨h.1.1, h.1.2, h.2⟩⟩, fun x => ((hbits HMB.out.2.2.2) x).trans ⟨fun h => ⟨⟨h.1, h.2.1⟩, h.2.2⟩, fun h => ⟨h.1.1, h.1.2, h.2⟩⟩,
            fun k hk x => hbf k (by rw [HNN.out] at hk; exact hk) x, HOK.out.1, HOK.out.2.1, fun k hk => HOK.out.2.2.1 k (by rw [HNN.out] at hk; exact hk), fun k hk => HIDS.out k (by rw [HNN.out] at hk; exact hk), HOK.out.2.2.2⟩
          have HSR := hid hsr
          have HB := hid hb
          clear hsr hbits hbl hb hbf
          go_wp2
          go_ret
          exact ⟨_, by rw [← HQ.out]; rfl, HSR.out, rfl, fun _ h => h, by rw [← HQ.out]; exact Nat.le_succ _, by rw [← HQ.out]; exact Nat.le_add_right _ 2, by rw [← HQ.out]; exact HB.out⟩
end Go.Proofs.Ytiaiiifgcecbgaa
