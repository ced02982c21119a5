/- The law LifeRaces. -/
import Derived.Test.YtdnonnehglhjbaaRaceAt
import Derived.Test.YtdnonnehglhjbaaMapB
import Derived.Deep.DeepCutAuto
import Derived.Deep.RegionLaw
import Derived.Deep.AppendLies
namespace Go.Proofs.Ytdnonnehglhjbaa
open Go.RowKit Go.Sort
set_option maxHeartbeats 8000000
set_option maxRecDepth 100000

theorem info_pa : (Try.prog.info? 33).map (fun i => (i.zero, i.size, i.bytes)) = some (some (.pointer none), 1, 8) := by kernel_rfl
theorem info_bo : (Try.prog.info? 4).map (fun i => (i.zero, i.size, i.bytes)) = some (some (.bool false), 1, 1) := by kernel_rfl

/-- A pointer to a machine. -/
def pval (p : Nat) : Value := .pointer (some ⟨p, 0, none⟩)

/-- So many machines are made. -/
structure Made_ (w0 : World) (g b mbx lbx rbx : Nat) (m : Nat) (V : MV) (fl F0 : List Int) (v9 : Value) (j : Nat) (v : Value) (ps : List Nat) (As : List AV) (w : World) : Prop where
  pl : ps.length = j
  al : As.length = j
  below : Below w0.heap.size w0 w
  mem : MemAt w g b V
  mbx : Blk w mbx 24 #[.pointer (some ⟨g, 0, none⟩)]
  lbx : Blk w lbx 26 #[.int .i64 1, .int .i64 m]
  rbx : Blk w rbx 46 #[v]
  row : w.ownsRow w0.heap.size 33 1 v j (ps.map pval)
  free : w.ownsRow w0.heap.size 3 1 v9 F0.length (F0.map (Value.int .i64))
  each : ∀ k, k < j → AllocAt w (ps.getD k 0) (As.getD k dA)
  new : ∀ k, k < j → As.getD k dA = AV.new 1 m (fl.getD k 0)
  ord : ∀ a c, a < c → c < j → ps.getD a 0 < ps.getD c 0
  ge : ∀ k, k < j → w0.heap.size ≤ ps.getD k 0

theorem Made_.below_ {w0 : World} {g b mbx lbx rbx : Nat} {m : Nat} {V : MV} {fl F0 : List Int} {v9 : Value} {j : Nat} {v : Value} {ps : List Nat} {As : List AV} {w w' : World} (h : Made_ w0 g b mbx lbx rbx m V fl F0 v9 j v ps As w) (hb : Below w.heap.size w w') : Made_ w0 g b mbx lbx rbx m V fl F0 v9 j v ps As w' :=
  ⟨h.pl, h.al, h.below.trans (hb.mono h.below.size), h.mem.below_ hb, h.mbx.below hb h.mbx.lt, h.lbx.below hb h.lbx.lt, h.rbx.below hb h.rbx.lt, row_below h.row hb, row_below h.free hb, fun k hk => (h.each k hk).blk.below hb (h.each k hk).blk.lt, h.new, h.ord, h.ge⟩

theorem getD_app (As : List AV) (B : AV) (k : Nat) (h : k < As.length) : (As ++ [B]).getD k dA = As.getD k dA := by simp [List.getD, List.getElem?_append_left h]

theorem made_facts {w0 : World} {g b mbx lbx rbx : Nat} {m : Nat} {V : MV} {fl F0 : List Int} {v9 : Value} {j : Nat} {v : Value} {ps : List Nat} {As : List AV} {w w' : World} (h : Made_ w0 g b mbx lbx rbx m V fl F0 v9 j v ps As w) (hb : Below w.heap.size w w') (p : Nat) :
    Made_ w0 g b mbx lbx rbx m V fl F0 v9 j v ps As w' ∧ w'.cell? ⟨rbx, 0, none⟩ = some v ∧ (w'.alloc (.cells #[.pointer (some ⟨p, 0, none⟩)] 33)).cell? ⟨rbx, 0, none⟩ = some v ∧
      (∀ j u, [pval p][j]? = some u → (w'.alloc (.cells #[.pointer (some ⟨p, 0, none⟩)] 33)).cell? ((⟨w'.heap.size, 0, none⟩ : Addr).add j) = some u) ∧ w0.heap.size ≤ (w'.alloc (.cells #[.pointer (some ⟨p, 0, none⟩)] 33)).heap.size := by
  have hM := h.below_ hb
  have c1 : w'.cell? ⟨rbx, 0, none⟩ = some v := hM.rbx.cell 0
  refine ⟨hM, c1, cell_alloc_keep c1 _, World.news_of_block (fr := (0, 0)) (t := 33) (cs := #[pval p]) (Blk.new w' 33 #[pval p]), ?_⟩
  have := hM.below.size
  simp
  omega

theorem made_append {w0 : World} {g b mbx lbx rbx : Nat} {m : Nat} {V : MV} {fl F0 : List Int} {v9 : Value} {j : Nat} {v : Value} {ps : List Nat} {As : List AV} {w : World} (h : Made_ w0 g b mbx lbx rbx m V fl F0 v9 j v ps As w) (p : Nat) (hj : j ≤ 8)
    {ops : Array Oper} {o : Oper} {a : Act} {K : Act → World → Prop} {Q : Exit → Act → World → Prop} {E : Prop} (hgd : o.guard = none) (s x : Operand) (ho : o.op = .call { callee := .builtin .append, args := #[s, x], argTypes := #[46, 46] }) (hs : a.eval s = v) (hx : a.eval x = .slice (some ⟨w.heap.size, 0, none⟩) 1 1)
    (hK : ∀ g9 cap9 w', w'.ownsRow w0.heap.size 33 1 (.slice (some ⟨g9, 0, none⟩) (j + 1) cap9) (j + 1) (ps.map pval ++ [pval p]) → (w.alloc (.cells #[pval p] 33)).grownBy w' v.ownBlock → K (a.put o.dst (.slice (some ⟨g9, 0, none⟩) (j + 1) cap9)) w') :
    if Region.wanted o (yielded ops a.tmps) = true then Oper.wp Try.prog o a (w.alloc (.cells #[.pointer (some ⟨p, 0, none⟩)] 33)) K Q else E := by
  obtain ⟨i0, hi, hz0, hz1, hz2⟩ := info_parts info_pa
  obtain ⟨_, _, _, hnews, hbase⟩ := made_facts h (Below.refl _ _) p
  exact step_append_lies _ hgd s x 46 ho w0.heap.size 33 i0 (.pointer none) 1 8 Try.underlying46 hi hz0 hz1 hz2 rfl (by decide) v j (ps.map pval) hs (h.row.alloc _) ⟨w.heap.size, 0, none⟩ 1 1 [pval p] hx rfl hnews (by intro u hu; simp [pval] at hu; subst hu; rfl) (by omega) (by unfold maxLen; omega) (by omega) hbase _ rfl
    (fun g9 cap9 w' h1 h2 _ _ => hK _ _ w' h1 h2)

theorem made_grown {w0 : World} {g b mbx lbx rbx : Nat} {m : Nat} {V : MV} {fl F0 : List Int} {v9 : Value} {j : Nat} {v : Value} {ps : List Nat} {As : List AV} {w w' : World} {p : Nat} (h : Made_ w0 g b mbx lbx rbx m V fl F0 v9 j v ps As w) (hgrow : (w.alloc (.cells #[pval p] 33)).grownBy w' v.ownBlock) :
    w'.cell? ⟨rbx, 0, none⟩ = some v ∧ w'.frozen? ⟨rbx, 0, none⟩ = false := by
  have B := h.rbx.alloc (.cells #[pval p] 33)
  have B2 := B.grown hgrow (B.own_ne (h.row.alloc (.cells #[pval p] 33)) (by decide))
  exact ⟨B2.cell 0, B2.frozen 0⟩

/-- One machine more. -/
theorem Made_.next {w0 : World} {g b mbx lbx rbx : Nat} {m : Nat} {V : MV} {fl F0 : List Int} {v9 : Value} {j : Nat} {v v' : Value} {ps : List Nat} {As : List AV} {w1 w' : World} {p : Nat} (h : Made_ w0 g b mbx lbx rbx m V fl F0 v9 j v ps As w1) (hp : ∀ k, k < j → ps.getD k 0 < p) (hpw : w0.heap.size ≤ p) (hrbx : w0.heap.size ≤ rbx) (hA : AllocAt w1 p (AV.new 1 m (fl.getD j 0)))
    (hown : w'.ownsRow w0.heap.size 33 1 v' (j + 1) (ps.map pval ++ [pval p])) (hgrow : (w1.alloc (.cells #[pval p] 33)).grownBy w' v.ownBlock) :
    Made_ w0 g b mbx lbx rbx m V fl F0 v9 (j + 1) v' (ps ++ [p]) (As ++ [AV.new 1 m (fl.getD j 0)]) (w'.setCell ⟨rbx, 0, none⟩ v') := by
  have hrow := h.row.alloc (.cells #[pval p] 33)
  have hf9 : ∀ c, v9.ownBlock = some c → v.ownBlock ≠ some c := fun c hc e => by
    rcases h.free.2 with ⟨rfl, _⟩ | ⟨g', cp, cur, rfl, _, hh, _⟩
    · simp [Value.ownBlock] at hc
    · simp [Value.ownBlock] at hc
      subst hc
      exact (Blk.own_ne (show Blk w1 g' 3 cur from hh) h.row (by decide)) e.symm
  have hx : ∀ {c : Nat} {t : TypeId} {l : Array Value}, Blk w1 c t l → t ≠ 33 → Blk w' c t l := fun hB e =>
    let B := hB.alloc (.cells #[pval p] 33)
    B.grown hgrow (B.own_ne hrow e)
  have hy : ∀ {c : Nat} {t : TypeId} {l : Array Value}, Blk w1 c t l → t ≠ 33 → t ≠ 46 → Blk (w'.setCell ⟨rbx, 0, none⟩ v') c t l := fun hB e1 e2 =>
    (hx hB e1).far (p := ⟨rbx, 0, none⟩) (hB.ne h.rbx e2) v'
  have hr2 := (hx h.rbx (by decide)).set_ 0 v'
  have hbelow : Below w0.heap.size w0 w' := (h.below.alloc h.below.size (.cells #[pval p] 33)).grown hgrow (by have := h.below.size; simp; omega) (fun k hk => ownsRow_ge h.row hk)
  have hmap : ps.map pval ++ [pval p] = (ps ++ [p]).map pval := by simp
  rw [hmap] at hown
  refine ⟨by simp [h.pl], by simp [h.al], hbelow.setCell hrbx v', ⟨hy h.mem.mem (by decide) (by decide), hy h.mem.words (by decide) (by decide), h.mem.ne⟩, hy h.mbx (by decide) (by decide), hy h.lbx (by decide) (by decide), by simpa using hr2, ?_, ?_, fun k hk => ?_, fun k hk => ?_, fun a c hac hc => ?_, fun k hk => ?_⟩
  · exact row_touch hown ((Touch.refl (fun c => c = rbx) w').setCell (p := ⟨rbx, 0, none⟩) (fun _ => rfl) v') (fun c hc e => by
      subst e
      exact ((hx h.rbx (by decide)).own_ne hown (by decide)) hc.symm)
  · have hf := h.free.alloc (.cells #[pval p] 33)
    have hf2 := hf.kept hgrow (by
      cases hc : v9.ownBlock with
      | none => exact Or.inl rfl
      | some c => exact Or.inr (fun e => hf9 c hc e.symm))
    exact row_touch hf2 ((Touch.refl (fun c => c = rbx) w').setCell (p := ⟨rbx, 0, none⟩) (fun _ => rfl) v') (fun c hc e => by
      subst e
      exact ((hx h.rbx (by decide)).own_ne hf2 (by decide)) hc.symm)
  · by_cases hkj : k < j
    · rw [snoc_lt _ _ _ (by rw [h.pl]; exact hkj), getD_app As _ k (by rw [h.al]; exact hkj)]
      exact hy (h.each k hkj).blk (by decide) (by decide)
    · obtain rfl : k = j := by omega
      have e1 := snoc_eq ps p
      rw [h.pl] at e1
      have e2 : (As ++ [AV.new 1 m (fl.getD k 0)]).getD k dA = AV.new 1 m (fl.getD k 0) := by rw [← h.al]; simp [List.getD]
      rw [e1, e2]
      exact hy hA.blk (by decide) (by decide)
  · by_cases hkj : k < j
    · rw [getD_app As _ k (by rw [h.al]; exact hkj)]; exact h.new k hkj
    · obtain rfl : k = j := by omega
      rw [show (As ++ [AV.new 1 m (fl.getD k 0)]).getD k dA = AV.new 1 m (fl.getD k 0) by rw [← h.al]; simp [List.getD]]
  · by_cases hcj : c < j
    · rw [snoc_lt _ _ _ (by rw [h.pl]; omega), snoc_lt _ _ _ (by rw [h.pl]; omega)]; exact h.ord a c hac hcj
    · obtain rfl : c = j := by omega
      have e1 := snoc_eq ps p
      rw [h.pl] at e1
      rw [e1, snoc_lt _ _ _ (by rw [h.pl]; omega)]
      exact hp a (by omega)
  · by_cases hkj : k < j
    · rw [snoc_lt _ _ _ (by rw [h.pl]; exact hkj)]; exact h.ge k hkj
    · obtain rfl : k = j := by omega
      have e1 := snoc_eq ps p
      rw [h.pl] at e1
      rw [e1]; exact hpw

def MakeRel (w0 : World) (g b mbx lbx rbx : Nat) (m : Nat) (V : MV) (fl F0 : List Int) (v9 : Value) (i : Value) (w : World) : Prop :=
  ∃ (j : Nat) (v : Value) (ps : List Nat) (As : List AV), i = .int .i64 j ∧ j ≤ fl.length ∧ Made_ w0 g b mbx lbx rbx m V fl F0 v9 j v ps As w

/-- What a slice of bools is made of. -/
theorem make_bools (n : Nat) (hn : n ≤ 1000) (w : World) : (Instr.makeSlice 47 (.int .i64 (n : Int)) (.int .i64 (n : Int))).run Try.prog w = .ok (.slice (some ⟨w.heap.size, 0, none⟩) n n) (w.alloc (.cells (List.replicate n (Value.bool false)).toArray 4)) := by
  obtain ⟨i0, hi, hz0, hz1, hz2⟩ := info_parts info_bo
  have h := run_make (P := Try.prog) w 47 4 i0 (.bool false) Try.underlying47 hi hz0 .i64 .i64 n n (by omega) (Int.le_refl _) (by rw [hz2]; omega) (by omega)
  rw [hz1] at h
  simp only [Int.toNat_natCast, Nat.mul_one] at h
  rw [h]
  congr 3
  have h2 := toList_madeCells_one (.bool false) n
  rw [← h2]
  simp [Value.cells]

/-- The order's steps. -/
def OrderRel (w0 : World) (g b mbx lbx rbx dbx rb db cap : Nat) (R : Array Value) (m : Nat) (V0 : MV) (ps : List Nat) (F0 : List Int) (v9 : Value) (T : Nat) (i : Value) (w : World) : Prop :=
  ∃ (c : Nat) (V : MV) (As : List AV), i = .int .i64 c ∧ c ≤ T ∧ Racing w0 g b mbx lbx rbx dbx rb db cap R m V0 ps F0 v9 (40 + c) V As w

/-- Each machine to its end. -/
def OuterRel (w0 : World) (g b mbx lbx rbx dbx rb db cap : Nat) (R : Array Value) (m : Nat) (V0 : MV) (ps : List Nat) (F0 : List Int) (v9 : Value) (N : Nat) (i : Value) (w : World) : Prop :=
  ∃ (k : Nat) (V : MV) (As : List AV), i = .int .i64 k ∧ k ≤ N ∧ Racing w0 g b mbx lbx rbx dbx rb db cap R m V0 ps F0 v9 (640 + 100 * k) V As w ∧ ∀ c, c < k → (As.getD c dA).ended = true
def InnerRel (w0 : World) (g b mbx lbx rbx dbx rb db cap : Nat) (R : Array Value) (m : Nat) (V0 : MV) (ps : List Nat) (F0 : List Int) (v9 : Value) (k : Nat) (i : Value) (w : World) : Prop :=
  ∃ (q : Nat) (V : MV) (As : List AV), i = .int .i64 q ∧ q ≤ 100 ∧ Racing w0 g b mbx lbx rbx dbx rb db cap R m V0 ps F0 v9 (640 + 100 * k + q) V As w ∧ (∀ c, c < k → (As.getD c dA).ended = true) ∧ ((As.getD k dA).ended = true ∨ (As.getD k dA).mu + q ≤ 80)

/-- Each machine looked at. -/
def CheckRel (w0 : World) (g b mbx lbx rbx dbx rb db cap : Nat) (R : Array Value) (m : Nat) (V0 : MV) (ps : List Nat) (F0 : List Int) (v9 : Value) (lim : Int) (V : MV) (As : List AV) (mb N : Nat) (i t : Value) (w : World) : Prop :=
  ∃ (c : Nat) (f : Int → Bool), i = .int .i64 c ∧ t = .int .i64 (gotN (As.take c) : Int) ∧ c ≤ N ∧ Racing w0 g b mbx lbx rbx dbx rb db cap R m V0 ps F0 v9 lim V As w ∧ MapB w mb c f ∧ ∀ x, f x = true ↔ ∃ k, k < c ∧ (As.getD k dA).got = x ∧ x ≠ 0

theorem racing_map {w0 w w' : World} {g b mbx lbx rbx dbx rb db cap : Nat} {R : Array Value} {m : Nat} {V0 V : MV} {ps : List Nat} {F0 : List Int} {v9 : Value} {lim : Int} {As : List AV} {mb c : Nat} {f : Int → Bool}
    (h : Racing w0 g b mbx lbx rbx dbx rb db cap R m V0 ps F0 v9 lim V As w) (hP : MapB w mb c f) (hT : Touch (fun k => k = mb) w w') (hmb : w0.heap.size ≤ mb) : Racing w0 g b mbx lbx rbx dbx rb db cap R m V0 ps F0 v9 lim V As w' := by
  have hx : ∀ {c : Nat} {t : TypeId} {l : Array Value}, Blk w c t l → Blk w' c t l := fun hB => hB.touch hT (fun e => hP.ne_blk hB e.symm)
  have hl := h.lies
  refine ⟨⟨⟨hx hl.mem.mem, hx hl.mem.words, hl.mem.ne⟩, hx hl.mbx, hx hl.lbx, hx hl.rbx, hx hl.dbx, hx hl.run, hl.at_, hx hl.done, fun k hk => hx (hl.each k hk), hl.ne, hl.len⟩, h.ok, row_touch h.free hT (fun c hc e => ?_), h.below.trans (hT.below (fun k e => by rw [e]; exact hmb) h.below.size), h.a, h.geg, h.geb, h.ged, h.gep⟩
  rcases h.free.2 with ⟨rfl, _⟩ | ⟨g', cp, cur, rfl, _, hh, _⟩
  · simp [Value.ownBlock] at hc
  · simp [Value.ownBlock] at hc
    subst hc
    exact hP.ne_blk (show Blk w g' 3 cur from hh) e.symm

theorem step_ended (V : MV) (A : AV) (h : A.ended = true) : (AV.step V A).2 = A := by unfold AV.step; rw [if_pos h]

theorem races_walk (A : Option Addr) (l : List Int) (cap : Nat) (A1 : Option Addr) (fl : List Int) (cap1 : Nat) (A2 : Option Addr) (ol : List Int) (cap2 : Nat) (hm0 : l.length ≤ maxLen) (hm1 : fl.length ≤ maxLen) (hm2 : ol.length ≤ maxLen) (hw : ∀ z ∈ l, u64R z) (hw1 : ∀ z ∈ fl, 0 ≤ z ∧ z ≤ 255) (hw2 : ∀ z ∈ ol, 0 ≤ z ∧ z ≤ 255)
    (w : World) (hR : RdI w .u64 A l) (hR1 : RdI w .u8 A1 fl) (hR2 : RdI w .u8 A2 ol) :
    Calls Try.prog 4 #[.slice A l.length cap, .slice A1 fl.length cap1, .slice A2 ol.length cap2] w fun e w' => e = .returned (.bool true) ∧ Below w.heap.size w w' := by
  unfold maxLen at hm0 hm1 hm2
  have HR := hid hR
  have HR1 := hid hR1
  have HR2 := hid hR2
  have HW := hid hw
  have HW1 := hid hw1
  have HW2 := hid hw2
  have HM0 := hid hm0
  have HM1 := hid hm1
  have HM2 := hid hm2
  clear hR hR1 hR2 hw hw1 hw2 hm0 hm1 hm2
  obtain ⟨m, hm⟩ : ∃ m : Nat, l.length = m := ⟨_, rfl⟩
  obtain ⟨N, hN⟩ : ∃ N : Nat, fl.length = N := ⟨_, rfl⟩
  obtain ⟨T, hT⟩ : ∃ T : Nat, ol.length = T := ⟨_, rfl⟩
  rw [hm, hN, hT]
  have HMM := hid hm
  have HNN := hid hN
  have HTT := hid hT
  clear hm hN hT
  obtain ⟨Bd, hBd⟩ : ∃ Bd : Bool, Bd = decide (40 < m ∨ m = 0 ∨ 8 < N ∨ N = 0 ∨ 600 < T) := ⟨_, rfl⟩
  have HBD := hid hBd
  clear hBd
  go_enter Try.func4, Try.ntmps4
  go_wp2_with fail
  refine (lawake_any _).mono ?_
  rintro e w1 ⟨rfl, hb1⟩
  go_upto_region 3 with (fail)
  go_cut [47] (fun v wx => v = .bool Bd ∧ wx = w1)
  case first =>
    by_cases h1 : 40 < m
    · have g1 : decide (40 < (m : Int)) = true := decide_eq_true (by omega)
      go_wp2
      go_meet
      exact ⟨by rw [HBD.out, decide_eq_true (Or.inl h1)], rfl⟩
    · have g1 : decide (40 < (m : Int)) = false := decide_eq_false (by omega)
      by_cases h2 : m = 0
      · have g2 : ((m : Int) == 0) = true := by simp [h2]
        have H2 := hid h2
        clear h2
        go_wp2
        go_meet
        exact ⟨by rw [HBD.out, decide_eq_true (Or.inr (Or.inl H2.out))], rfl⟩
      · have g2 : ((m : Int) == 0) = false := beq_eq_false_iff_ne.2 (by omega)
        by_cases h3 : 8 < N
        · have g3 : decide (8 < (N : Int)) = true := decide_eq_true (by omega)
          go_wp2
          go_meet
          exact ⟨by rw [HBD.out, decide_eq_true (Or.inr (Or.inr (Or.inl h3)))], rfl⟩
        · have g3 : decide (8 < (N : Int)) = false := decide_eq_false (by omega)
          by_cases h4 : N = 0
          · have g4 : ((N : Int) == 0) = true := by simp [h4]
            have H4 := hid h4
            clear h4
            go_wp2
            go_meet
            exact ⟨by rw [HBD.out, decide_eq_true (Or.inr (Or.inr (Or.inr (Or.inl H4.out))))], rfl⟩
          · have g4 : ((N : Int) == 0) = false := beq_eq_false_iff_ne.2 (by omega)
            by_cases h5 : 600 < T
            · have g5 : decide (600 < (T : Int)) = true := decide_eq_true (by omega)
              go_wp2
              go_meet
              exact ⟨by rw [HBD.out, decide_eq_true (Or.inr (Or.inr (Or.inr (Or.inr h5))))], rfl⟩
            · have g5 : decide (600 < (T : Int)) = false := decide_eq_false (by omega)
              go_wp2
              go_meet
              exact ⟨by rw [HBD.out, decide_eq_false (by omega)], rfl⟩
  case rest =>
  obtain ⟨rfl, rfl⟩ := hcut
  cases hB : Bd
  case true =>
    clear hB
    go_wp2
    go_ret
    exact ⟨rfl, hb1⟩
  case false =>
    have hb := HBD.out
    rw [hB] at hb
    replace hb := of_decide_eq_false hb.symm
    have hmb : 1 ≤ m ∧ m ≤ 40 := by omega
    have hNb : 1 ≤ N ∧ N ≤ 8 := by omega
    have hTb : T ≤ 600 := by omega
    obtain ⟨m1, m2⟩ := hmb
    obtain ⟨N1, N2⟩ := hNb
    clear hB hb HM0 HM1 HM2
    have hlay : layR 1 m := by unfold layR; omega
    have hmem := memory_any 1 m A l cap hlay (by rw [HMM.out]; omega) _ (HR.out.keep hb1 (Nat.le_refl _))
    rw [HMM.out] at hmem
    go_wp2_with fail
    refine hmem.mono ?_
    rintro e w2 ⟨g, b, V, rfl, hg, hbb, hM, hL, hb2⟩
    replace hL : LivesTo V 1 m l l.length := by rw [HMM.out]; exact hL
    have hV := hL.okL hlay HW.out
    have hbw := hb1.trans (hb2.mono hb1.size)
    have hVa := hL.a
    rw [HMM.out] at hVa
    have s1 := hb1.size
    have hgw : w.heap.size ≤ g := by omega
    have hbw' : w.heap.size ≤ b := by omega
    have HV := hid hV
    have hgq : g < w2.heap.size ∧ b < w2.heap.size := ⟨hM.mem.lt, hM.words.lt⟩
    clear hg hbb hb1 hb2 s1 hL hmem hV
    have hs2 := hbw.size
    have hbw2 := (hbw.alloc hs2 (.cells #[.pointer (some ⟨g, 0, none⟩)] 24)).alloc (by simp; omega) (.cells #[.int .i64 1, .int .i64 m] 26)
    have hM2 := (hM.alloc (.cells #[.pointer (some ⟨g, 0, none⟩)] 24)).alloc (.cells #[.int .i64 1, .int .i64 m] 26)
    have hX2 := (Blk.new w2 24 #[.pointer (some ⟨g, 0, none⟩)]).alloc (.cells #[.int .i64 1, .int .i64 m] 26)
    have hY2 := Blk.new1 w2 (.cells #[.pointer (some ⟨g, 0, none⟩)] 24) 26 #[.int .i64 1, .int .i64 m]
    clear hM hbw
    obtain ⟨x0, _⟩ := (⟨hX2.cell 0, trivial⟩ : _ ∧ True)
    obtain ⟨y0, y1, yf⟩ := hY2.two
    simp only [List.getElem?_toArray, List.getElem?_cons_zero] at x0
    have hfree := free_any g b V 1 m hlay _ hM2 HV.out
    rw [Int.toNat_natCast] at hfree
    obtain ⟨F0, hF0⟩ : ∃ F0, F0 = freeL (evenB V m) m := ⟨_, rfl⟩
    rw [← hF0] at hfree
    have HF0 := hid hF0
    clear hF0
    go_wp2_with fail
    refine hfree.mono ?_
    rintro e w3 ⟨v9, rfl, hown9, hb3⟩
    have hbw3 := hbw2.trans (hb3.mono hbw2.size)
    have hbw3lo := hbw2.size
    have hM3 := hM2.below_ hb3
    have hX3 := hX2.below hb3 hX2.lt
    have hY3 := hY2.below hb3 hY2.lt
    clear hbw2 hM2 hX2 hY2 hb3 x0 y0 y1 yf hfree
    replace hown9 : w3.ownsRow w.heap.size 3 1 v9 F0.length (F0.map (Value.int .i64)) := ⟨hown9.1, hown9.2.imp id (fun ⟨g, cap, cur, a, b, c⟩ => ⟨g, cap, cur, a, Nat.le_trans hbw3lo b, c⟩)⟩
    have hMade : Made_ w g b w2.heap.size (w2.heap.size + 1) w3.heap.size m V fl F0 v9 0 (.slice none 0 0) [] [] (w3.alloc (.cells #[.slice none 0 0] 46)) :=
      ⟨rfl, rfl, hbw3.alloc hbw3.size _, hM3.alloc _, hX3.alloc _, hY3.alloc _, Blk.new _ _ _, World.ownsRow_nil _ _ _ _, hown9.alloc _, fun k h => absurd h (by omega), fun k h => absurd h (by omega), fun a c _ h => absurd h (by omega), fun k h => absurd h (by omega)⟩
    have hs3 := hbw3.size
    obtain ⟨i0, hi, hz0, hz1, hz2⟩ := info_parts info_pa
    clear hbw3 hM3 hX3 hY3 hown9 hbw3lo
    go_wp2
    generalize w3.alloc (.cells #[.slice none 0 0] 46) = w4 at *
    generalize w3.heap.size = rbx at *
    generalize w2.heap.size = mbx at *
    go_loopw [60] (fun i wr => MakeRel w g b mbx (mbx + 1) rbx m V fl F0 v9 i wr) (fun i _ => N - (intOf i).toNat)
    case atStart => exact ⟨0, _, [], [], rfl, Nat.zero_le _, hMade⟩
    case round =>
      clear hMade
      obtain ⟨j, v, ps, As, rfl, hj, hMd⟩ := hrel
      rw [HNN.out] at hj
      have hbw := hMd.below
      have hsz := hbw.size
      by_cases hlt : j < N
      · obtain ⟨bb, off, rfl, hbb, hcell⟩ := HR1.out.resolve_left (fun h => by have := HNN.out; rw [h] at this; simp at this; omega)
        have xj := hcell j (by rw [HNN.out]; exact hlt)
        rw [← hbw.cell (p := ⟨bb, off + j, none⟩) hbb] at xj
        have hzj := HW1.out (fl.getD j 0) (by rw [List.getD_eq_getElem?_getD, List.getElem?_eq_getElem (by rw [HNN.out]; exact hlt)]; exact List.getElem_mem _)
        clear hcell
        obtain ⟨x, hx⟩ : ∃ x, x = fl.getD j 0 := ⟨_, rfl⟩
        rw [← hx] at xj hzj
        have HX := hid hx
        clear hx
        obtain ⟨z0, z1⟩ := hzj
        have HMD := hid hMd
        have c0 := hMd.rbx.cell 0
        simp only [List.getElem?_toArray, List.getElem?_cons_zero] at c0
        have cf0 := hMd.rbx.frozen 0
        obtain ⟨y0, y1, yf⟩ := hMd.lbx.two
        have hDr : Made_ w g b mbx (mbx + 1) rbx m V fl F0 v9 j v ps As wr.drew := ⟨hMd.pl, hMd.al, below_drewN hbw 1, hMd.mem.drewN 1, hMd.mbx, hMd.lbx, hMd.rbx, hMd.row, hMd.free, hMd.each, hMd.new, hMd.ord, hMd.ge⟩
        have hnw := anew_any 1 m x hlay wr.drew
        have hwx : IntKind.i64.wrap x = x := by rw [IntKind.wrap_i64]; omega
        have HDR := hid hDr
        clear hDr hMd
        go_wp2
        clear xj
        go_region_law
          (first
            | (refine made_append hM1 p (by omega) rfl _ _ rfl rfl rfl ?_; intro g9 cap9 w' hown' hgrow; obtain ⟨c3, cf3⟩ := made_grown hM1 hgrow)
            | (go_simp; go_at_call 12; (with_reducible refine hnw.mono ?_); rintro e w1 ⟨p, rfl, hp, hA, hb1⟩; obtain ⟨hM1, c1, c2, hnews, hbase1⟩ := made_facts HDR.out hb1 p))
        all_goals
          have hMn : Made_ w g b mbx (mbx + 1) rbx m V fl F0 v9 (j + 1) (.slice (some ⟨g9, 0, none⟩) (j + 1) cap9) (ps ++ [p]) (As ++ [AV.new 1 m (fl.getD j 0)]) (w'.setCell ⟨rbx, 0, none⟩ (.slice (some ⟨g9, 0, none⟩) (j + 1) cap9)) := hM1.next (fun k hk => by
            have h1 := (HDR.out.each k hk).blk.lt
            have h2 : wr.drew.heap.size ≤ p := hp
            omega) (by have h2 : wr.drew.heap.size ≤ p := hp; have h3 : w.heap.size ≤ wr.drew.heap.size := hsz; omega) hs3 (HX.out ▸ hA) hown' hgrow
          clear hM1 c1 c2 c3 cf3 hnews hbase1 hown' hgrow hA hb1 HDR hnw
          go_wp2
          go_roundw
          case rel => exact ⟨j + 1, _, _, _, by go_num, by rw [HNN.out]; omega, hMn⟩
          case measure => simp [intOf]; omega
      · obtain rfl : j = N := by omega
        obtain ⟨A', rb, cap', rfl, hA', hrb, hcs⟩ := own_slice hMd.row
        obtain rfl := hA'.resolve_left (by omega)
        obtain ⟨R, hRB, hRat⟩ : ∃ R : Array Value, Blk wr rb 33 R ∧ ∀ k, k < j → R[k]? = some (.pointer (some ⟨ps.getD k 0, 0, none⟩)) := by
          rcases hMd.row.2 with ⟨h, _⟩ | ⟨g', cp, cur, h, _, hh, _, _, _, ht⟩
          · simp at h
          · injection h with h1 h2 h3
            injection h1 with h1
            injection h1 with h1
            subst h1
            refine ⟨cur, hh, fun k hk => ?_⟩
            have h4 : (ps.map pval)[k]? = some (pval (ps.getD k 0)) := by
              have h5 : k < ps.length := by rw [hMd.pl]; exact hk
              simp [List.getD, h5]
            rw [← ht, List.getElem?_take_of_lt (by omega)] at h4
            simpa [pval] using h4
        have hmk := make_bools j (by omega) wr
        have r0 := hMd.rbx.cell 0
        simp only [List.getElem?_toArray, List.getElem?_cons_zero] at r0
        have hnew := fun k hk => hMd.new k hk
        have hRO := race_new m V As 1 (fun k => fl.getD k 0) ⟨by omega, by omega, by omega, by omega⟩ HV.out (fun k hk => hMd.new k (by rw [hMd.al] at hk; exact hk))
        have hx : ∀ {c : Nat} {t : TypeId} {l : Array Value}, Blk wr c t l → Blk ((wr.alloc (.cells (List.replicate j (Value.bool false)).toArray 4)).alloc (.cells #[.slice (some ⟨wr.heap.size, 0, none⟩) j j] 47)) c t l := fun B => (B.alloc _).alloc _
        have hbw5 := (hbw.alloc hsz (.cells (List.replicate j (Value.bool false)).toArray 4)).alloc (by simp; omega) (.cells #[.slice (some ⟨wr.heap.size, 0, none⟩) j j] 47)
        have hpl := hMd.pl
        have hRace : Racing w g b mbx (mbx + 1) rbx (wr.heap.size + 1) rb wr.heap.size cap' R m V ps F0 v9 40 V As ((wr.alloc (.cells (List.replicate j (Value.bool false)).toArray 4)).alloc (.cells #[.slice (some ⟨wr.heap.size, 0, none⟩) j j] 47)) := by
          refine ⟨⟨⟨hx hMd.mem.mem, hx hMd.mem.words, hMd.mem.ne⟩, hx hMd.mbx, hx hMd.lbx, by rw [hpl]; exact hx hMd.rbx, by rw [hpl]; exact Blk.new1 _ _ _ _, hx hRB, fun k hk => hRat k (by rw [← hpl]; exact hk), ?_, fun k hk => hx (hMd.each k (by rw [← hpl]; exact hk)), fun k c hk hc hkc => ?_, by rw [hMd.al, hpl]⟩, hRO, (hMd.free.alloc _).alloc _, hbw5, ⟨hVa.1, by omega⟩, hgw, hbw', hsz, fun k hk => hMd.ge k (by rw [← hpl]; exact hk)⟩
          · have hme : As.map (fun A => Value.bool A.ended) = List.replicate j (Value.bool false) := by
              refine List.ext_getElem (by simp [hMd.al]) (fun k h1 h2 => ?_)
              have hkj : k < As.length := by simpa using h1
              have := hMd.new k (by rw [← hMd.al]; exact hkj)
              rw [List.getD_eq_getElem?_getD, List.getElem?_eq_getElem hkj] at this
              simp at this
              simp [this, AV.new]
            rw [hme]
            exact (Blk.new wr 4 (List.replicate j (Value.bool false)).toArray).alloc _
          · rcases Nat.lt_or_gt_of_ne hkc with h | h
            · exact Nat.ne_of_lt (hMd.ord k c h (by rw [← hpl]; exact hc))
            · exact Nat.ne_of_gt (hMd.ord c k h (by rw [← hpl]; exact hk))
        have HPL := hid hpl
        clear hx hbw5 hRO hnew hRat hRB hcs hrb hA' hMd hbw hpl hlt
        go_wp2
        clear r0 hmk
        simp only [List.toArray_replicate] at hRace
        generalize (wr.alloc (.cells (Array.replicate j (Value.bool false)) 4)).alloc (.cells #[.slice (some ⟨wr.heap.size, 0, none⟩) j j] 47) = w5 at *
        generalize wr.heap.size = db at *
        have hj0 : ((j : Int) == 0) = false := beq_eq_false_iff_ne.2 (by omega)
        go_loopw [78] (fun i wr => OrderRel w g b mbx (mbx + 1) rbx (db + 1) rb db cap' R m V ps F0 v9 T i wr) (fun i _ => T - (intOf i).toNat)
        case atStart => exact ⟨0, V, As, rfl, Nat.zero_le _, hRace.more (lim2 := 40 + ((0 : Nat) : Int)) (by omega)⟩
        case round =>
          clear hRace
          obtain ⟨c, V1, As1, rfl, hc, hRc⟩ := hrel
          have r0 := hRc.lies.rbx.cell 0
          simp only [List.getElem?_toArray, List.getElem?_cons_zero] at r0
          rw [HPL.out] at r0
          by_cases hlt2 : c < T
          · obtain ⟨bb, off, rfl, hbb, hcell⟩ := HR2.out.resolve_left (fun h => by have := HTT.out; rw [h] at this; simp at this; omega)
            have xj := hcell c (by rw [HTT.out]; exact hlt2)
            rw [← hRc.below.cell (p := ⟨bb, off + c, none⟩) hbb] at xj
            have hzj := HW2.out (ol.getD c 0) (by rw [List.getD_eq_getElem?_getD, List.getElem?_eq_getElem (by rw [HTT.out]; exact hlt2)]; exact List.getElem_mem _)
            clear hcell
            generalize ol.getD c 0 = x at *
            obtain ⟨z0, z1⟩ := hzj
            have hk0 := Int.emod_nonneg x (show (j : Int) ≠ 0 by omega)
            have hk1 := Int.emod_lt_of_pos x (show 0 < (j : Int) by omega)
            have htm : x.tmod j = x % j := Int.tmod_eq_emod_of_nonneg z0
            have hst := racing_step (x % j).toNat hRc (by rw [HPL.out]; omega) (by rw [HPL.out]; omega) (by omega)
            rw [show (((x % (j : Int)).toNat : Nat) : Int) = x % j by omega] at hst
            have HST := hid hst
            clear hst hRc
            go_wp2_with fail
            refine HST.out.mono ?_
            rintro e w6 ⟨rfl, hR6⟩
            clear xj r0 HST
            go_wp2
            go_roundw
            case rel => exact ⟨c + 1, _, _, by go_num, by omega, hR6.more (by push_cast; omega)⟩
            case measure => simp [intOf]; omega
          · have hR6 := hRc.more (lim2 := 640 + 100 * (0 : Nat)) (by omega)
            clear hRc
            go_wp2
            go_loopw [92] (fun i wr => OuterRel w g b mbx (mbx + 1) rbx (db + 1) rb db cap' R m V ps F0 v9 j i wr) (fun i _ => j - (intOf i).toNat)
            case atStart => exact ⟨0, V1, As1, rfl, Nat.zero_le _, hR6, fun c h => absurd h (by omega)⟩
            case round =>
              clear hR6 r0
              obtain ⟨k, V2, As2, rfl, hk, hRk, hend⟩ := hrel
              by_cases hlt3 : k < j
              · have hMk := hRk.ok.each k (by rw [hRk.lies.len, HPL.out]; exact hlt3)
                have hmu : (As2.getD k dA).ended = true ∨ (As2.getD k dA).mu + (0 : Nat) ≤ 80 := by
                  right
                  have h1 := hMk.ok.left
                  have h2 := hMk.nn
                  unfold AV.mu
                  split <;> omega
                have HEND := hid hend
                have HMU := hid hmu
                clear hend hmu hMk
                go_wp2
                go_loopw [18] (fun i wr => InnerRel w g b mbx (mbx + 1) rbx (db + 1) rb db cap' R m V ps F0 v9 k i wr) (fun i _ => 100 - (intOf i).toNat)
                case atStart => exact ⟨0, V2, As2, rfl, Nat.zero_le _, hRk.more (by omega), HEND.out, HMU.out⟩
                case round =>
                  clear hRk HEND HMU
                  obtain ⟨q, V3, As3, rfl, hq, hRq, hend, hmu⟩ := hrel
                  have hkA : k < As3.length := by rw [hRq.lies.len, HPL.out]; exact hlt3
                  by_cases hlt4 : q < 100
                  · have hst := racing_step k hRq (by rw [HPL.out]; exact hlt3) (by rw [HPL.out]; omega) (by omega)
                    have hend2 : ∀ c, c < k → ((As3.set k (AV.step V3 (As3.getD k dA)).2).getD c dA).ended = true := fun c hc => by
                      rw [getD_set_other _ _ _ _ (by omega)]; exact hend c hc
                    have hmu2 : ((As3.set k (AV.step V3 (As3.getD k dA)).2).getD k dA).ended = true ∨ ((As3.set k (AV.step V3 (As3.getD k dA)).2).getD k dA).mu + ((q + 1 : Nat) : Int) ≤ 80 := by
                      rw [getD_set_same _ _ _ hkA]
                      cases he : (As3.getD k dA).ended
                      · rcases step_mu V3 (As3.getD k dA) he (hRq.ok.each k hkA).ok with h | h
                        · exact Or.inl h
                        · rcases hmu with h3 | h3
                          · rw [he] at h3; simp at h3
                          · right; push_cast; omega
                      · left; rw [step_ended _ _ he]; exact he
                    have HST := hid hst
                    have HE2 := hid hend2
                    have HM2 := hid hmu2
                    clear hst hRq hend hmu hend2 hmu2
                    generalize AV.step V3 (As3.getD k dA) = S at *
                    go_wp2_with fail
                    refine HST.out.mono ?_
                    rintro e w6 ⟨rfl, hR6⟩
                    clear HST
                    go_wp2
                    go_roundw
                    case rel => exact ⟨q + 1, S.1, As3.set k S.2, by go_num, by omega, hR6.more (by push_cast; omega), HE2.out, HM2.out⟩
                    case measure => simp [intOf]; omega
                  · obtain rfl : q = 100 := by omega
                    have hke : (As3.getD k dA).ended = true := by
                      cases he : (As3.getD k dA).ended
                      · have h1 := mu_pos _ he (hRq.ok.each k hkA).ok
                        rcases hmu with h3 | h3
                        · rw [he] at h3; simp at h3
                        · omega
                      · rfl
                    have hend2 : ∀ c, c < k + 1 → (As3.getD c dA).ended = true := fun c hc => by
                      by_cases e : c = k
                      · rw [e]; exact hke
                      · exact hend c (by omega)
                    have HE2 := hid hend2
                    clear hend hmu hke hend2
                    go_wp2
                    go_roundw
                    case rel => exact ⟨k + 1, V3, As3, by go_num, by omega, hRq.more (by push_cast; omega), HE2.out⟩
                    case measure => simp [intOf]; omega
              · obtain rfl : k = j := by omega
                have hlen := hRk.lies.len
                rw [HPL.out] at hlen
                have hlast := hRk.ok.last (fun c hc => hend c (by omega))
                obtain ⟨A9, cap9, rfl, _⟩ := own_rdi hRk.free
                have hmm := @run_makeMap Try.prog
                have hRm := hRk.below_ ((Below.refl wr.heap.size wr).alloc (Nat.le_refl _) (.map #[] 0))
                have hPm := MapB.made wr
                have hmb := hRk.below.size
                have r0 := hRm.lies.rbx.cell 0
                simp only [List.getElem?_toArray, List.getElem?_cons_zero] at r0
                rw [HPL.out] at r0
                have HLAST := hid hlast
                have HEND := hid hend
                have HLEN := hid hlen
                clear hRk hend hlast hlen hlt3
                go_wp2
                clear hmm r0
                generalize wr.alloc (.map #[] 0) = w7 at *
                generalize wr.heap.size = mb at *
                go_loopw [106, 20] (fun i t wr => CheckRel w g b mbx (mbx + 1) rbx (db + 1) rb db cap' R m V ps F0 (.slice A9 F0.length cap9) (640 + 100 * k) V2 As2 mb k i t wr) (fun i _ _ => k - (intOf i).toNat)
                case atStart => exact ⟨0, fun _ => false, rfl, by simp [gotN], Nat.zero_le _, hRm, hPm, fun x => ⟨fun h => by simp at h, fun ⟨c, hc, _⟩ => absurd hc (by omega)⟩⟩
                case round =>
                  clear hRm hPm
                  obtain ⟨c, f, rfl, rfl, hc, hR, hP, hf⟩ := hrel
                  have hgn : gotN (As2.take c) ≤ c := by
                    have h1 := gotN_le (As2.take c)
                    have h2 := List.length_take_le c As2
                    omega
                  by_cases hlt5 : c < k
                  · have hcA : c < As2.length := by rw [HLEN.out]; exact hlt5
                    have hM := hR.ok.each c hcA
                    have hen := HEND.out c hlt5
                    have hgt := gotN_take As2 c hcA
                    have ca := hR.lies.run.cell c
                    rw [hR.lies.at_ c (by rw [HPL.out]; exact hlt5)] at ca
                    have cd0 := hR.lies.dbx.cell 0
                    simp only [List.getElem?_toArray, List.getElem?_cons_zero] at cd0
                    rw [HPL.out] at cd0
                    have cd1 : wr.cell? ⟨db, c, none⟩ = some (.bool true) := by
                      rw [hR.lies.done.cell]
                      simp [List.getElem?_map, hcA]
                      rw [List.getD_eq_getElem?_getD, List.getElem?_eq_getElem hcA] at hen
                      simpa using hen
                    obtain ⟨cl0, cl1, _⟩ := hR.lies.lbx.two
                    have cg := (hR.lies.each c (by rw [HPL.out]; exact hlt5)).blk.cell 2
                    simp only [List.getElem?_toArray, List.getElem?_cons_succ, List.getElem?_cons_zero] at cg
                    have cm0 := hR.lies.mbx.cell 0
                    simp only [List.getElem?_toArray, List.getElem?_cons_zero] at cm0
                    have hgb : 0 ≤ (As2.getD c dA).got ∧ (As2.getD c dA).got ≤ m := by
                      by_cases h0 : (As2.getD c dA).got = 0
                      · omega
                      · have := hM.got h0; omega
                    have hinj : ∀ k', k' < c → (As2.getD c dA).got ≠ 0 → (As2.getD k' dA).got ≠ (As2.getD c dA).got := fun k' hk' h0 e => hR.ok.inj c k' hcA (by omega) (by omega) h0 e.symm
                    have hgot := hM.got
                    have hF0m : (As2.getD c dA).got ≠ 0 → decide ((As2.getD c dA).got ∈ F0) = true := fun h0 => by
                      obtain ⟨h1, h2, h3, h4⟩ := hgot h0
                      refine decide_eq_true ?_
                      rw [HF0.out, freeL_mem]
                      exact ⟨h1, h2, decide_eq_true h4⟩
                    have hrow := hR.free
                    have HR_ := hid hR
                    have HP_ := hid hP
                    have HF_ := hid hf
                    have HGT := hid hgt
                    have HIN := hid hinj
                    have HGO := hid hgot
                    have HFM := hid hF0m
                    have HVOK := hid hR.ok.ok
                    clear hR hP hf hM hen hgt hinj hgot hF0m hcA
                    generalize hpd : ps.getD c 0 = p at *
                    have HPD := hid hpd
                    clear hpd
                    generalize hxd : (As2.getD c dA).got = x at *
                    have HXD := hid hxd
                    clear hxd
                    obtain ⟨x0, x1⟩ := hgb
                    have gn1 : decide (x < 0) = false := decide_eq_false (by omega)
                    have gn2 : decide (x > (m : Int)) = false := decide_eq_false (by omega)
                    have gn3 : decide ((m : Int) < x) = false := decide_eq_false (by omega)
                    have n0 := cell_regrown cd0
                    have n1 := cell_regrown cd1
                    have n2 := cell_regrown cg
                    have n3 := cell_regrown cl1
                    go_wp2
                    refine wp_region_quiet_below (by kernel_rfl) (by kernel_rfl) ?_
                    repeat (first | go_big_quiet_step (fail) | quiet_step (fail))
                    refine wpQuiet_nil ?_
                    intro _ hw'
                    obtain ⟨⟨dq, osq⟩, hw''⟩ := hw'
                    subst hw''
                    have hbq := below_regrown wr dq osq
                    replace hR := HR_.out.below_ hbq
                    replace hP := HP_.out.below_ hbq
                    clear hbq n0 n1 n2 n3 ca cd0 cd1 cl0 cl1 cg cm0 HR_ HP_ hrow
                    generalize grow (redrawn wr dq) osq = w8 at *
                    have cg := (hR.lies.each c (by rw [HPL.out]; exact hlt5)).blk.cell 2
                    simp only [List.getElem?_toArray, List.getElem?_cons_succ, List.getElem?_cons_zero] at cg
                    rw [HPD.out, HXD.out] at cg
                    by_cases h0 : x = 0
                    · have gz : (x == 0) = true := by simp [h0]
                      have H0 := hid h0
                      have HRR := hid hR
                      have HPP := hid hP
                      clear h0 hR hP
                      go_wp2
                      go_roundw
                      case rel =>
                        refine ⟨c + 1, f, by go_num, by rw [HGT.out, if_pos H0.out]; rfl, by omega, HRR.out, HPP.out.mono (Nat.le_succ c), fun y => ?_⟩
                        rw [HF_.out y]
                        refine ⟨fun ⟨k', h1, h2⟩ => ⟨k', by omega, h2⟩, fun ⟨k', h1, h2, h3⟩ => ?_⟩
                        by_cases e : k' = c
                        · subst e
                          rw [HXD.out, H0.out] at h2
                          exact absurd h2.symm h3
                        · exact ⟨k', by omega, h2, h3⟩
                      case measure => simp [intOf]; omega
                    · have gz : (x == 0) = false := beq_eq_false_iff_ne.2 h0
                      have hfx : f x = false := by
                        cases hfx : f x
                        · rfl
                        · obtain ⟨k', h1, h2, h3⟩ := (HF_.out x).1 hfx
                          exact absurd h2 (HIN.out k' h1 h0)
                      have hxi : i64 x := by unfold i64; omega
                      obtain ⟨A9', cap9', he, hRd⟩ := own_rdi hR.free
                      injection he with he1 he2 he3
                      subst he1
                      have hFl : F0.length ≤ 1000 := by
                        rw [HF0.out]
                        have := freeL_len (evenB V m) m
                        omega
                      have g4 := fun d os => (hP.below_ (below_regrown w8 d os)).look x hxi
                      rw [hfx] at g4
                      have g2 := fun d os => Calls.regrown_of (contains_any A9 F0 cap9 x (grow (redrawn w8 d) os) (by omega) (hRd.keep (below_regrown w8 d os) (Nat.le_refl _)))
                      rw [HFM.out h0] at g2
                      have g3 := fun d os => Calls.regrown_of (taken_any g b V2 1 m x hlay (by unfold i64s; omega) (grow (redrawn w8 d) os) (hR.lies.mem.below_ (below_regrown w8 d os)) HVOK.out)
                      rw [decide_eq_true (show 1 ≤ x ∧ x ≤ (m : Int) ∧ V2.at (lifeA m x) % 2 = 1 from ⟨by omega, x1, (HGO.out h0).2.2.1⟩)] at g3
                      obtain ⟨cl0, cl1, _⟩ := hR.lies.lbx.two
                      have cm0 := hR.lies.mbx.cell 0
                      simp only [List.getElem?_toArray, List.getElem?_cons_zero] at cm0
                      have n0 := cell_regrown cl0
                      have n1 := cell_regrown cl1
                      have n2 := cell_regrown cg
                      have n3 := cell_regrown cm0
                      have HR8 := hid hR
                      have HP8 := hid hP
                      have H0 := hid h0
                      have HFX := hid hfx
                      clear hR hP h0 hfx he2 he3 hRd
                      go_wp2
                      refine wp_region_quiet_below (by kernel_rfl) (by kernel_rfl) ?_
                      repeat (first | go_big_quiet_step (first | exact g2 _ _ | exact g3 _ _) | quiet_step (first | exact g2 _ _ | exact g3 _ _))
                      refine wpQuiet_nil ?_
                      intro _ hw'
                      obtain ⟨⟨dq2, osq2⟩, hw''⟩ := hw'
                      subst hw''
                      have hbq2 := below_regrown w8 dq2 osq2
                      have hR9 := HR8.out.below_ hbq2
                      have hP9 := HP8.out.below_ hbq2
                      have cg9 := n2 dq2 osq2
                      clear hbq2 n0 n1 n2 n3 cl0 cl1 cm0 HR8 HP8 g2 g3 g4 cg
                      generalize grow (redrawn w8 dq2) osq2 = w9 at *
                      have HR9 := hid hR9
                      clear hR9
                      go_wp2_with (at_mapUpdate; refine wpList_put_b rfl _ _ _ rfl mb c f rfl hP9 (by omega) x true rfl rfl hxi ?_)
                      intro w10 hP10 hT10
                      have hR10 := racing_map HR9.out hP9 hT10 hmb
                      have HP10 := hid hP10
                      have HR10 := hid hR10
                      clear hP9 hP10 hT10 hR10 cg9 HR9
                      go_wp2
                      go_roundw
                      case rel =>
                        refine ⟨c + 1, (fun y => if y = x then true else f y), by go_num, ?_, by omega, HR10.out, HP10.out.congr (fun y => by by_cases e : y = x <;> simp [e]), fun y => ?_⟩
                        · rw [HGT.out, if_neg H0.out]; go_num
                        · show (if y = x then true else f y) = true ↔ _
                          by_cases e : y = x
                          · rw [if_pos e]
                            exact ⟨fun _ => ⟨c, by omega, by rw [HXD.out, e], by rw [e]; exact H0.out⟩, fun _ => rfl⟩
                          · rw [if_neg e, HF_.out y]
                            refine ⟨fun ⟨k', h1, h2⟩ => ⟨k', by omega, h2⟩, fun ⟨k', h1, h2, h3⟩ => ?_⟩
                            by_cases e2 : k' = c
                            · subst e2
                              rw [HXD.out] at h2
                              exact absurd h2.symm e
                            · exact ⟨k', by omega, h2, h3⟩
                      case measure => simp [intOf]; omega
                  · obtain rfl : c = k := by omega
                    have htk : As2.take c = As2 := List.take_of_length_le (by rw [HLEN.out]; omega)
                    rw [htk] at hgn ⊢
                    have hfree := free_any g b V2 1 m hlay wr hR.lies.mem hR.ok.ok
                    rw [Int.toNat_natCast] at hfree
                    have hcnt := hR.ok.count
                    rw [← HF0.out] at hcnt
                    obtain ⟨cl0, cl1, _⟩ := hR.lies.lbx.two
                    have cm0 := hR.lies.mbx.cell 0
                    have r0 := hR.lies.rbx.cell 0
                    simp only [List.getElem?_toArray, List.getElem?_cons_zero] at cm0 r0
                    rw [HPL.out] at r0
                    have hFl : F0.length ≤ 1000 := by
                      rw [HF0.out]
                      have := freeL_len (evenB V m) m
                      omega
                    have hlast := HLAST.out
                    rw [HLEN.out, ← HF0.out] at hlast
                    generalize freeL (evenB V2 m) m = Lf at *
                    generalize gotN As2 = G at *
                    have q1 : ((Lf.length : Int) == (F0.length : Int) - G) = true := beq_iff_eq.2 (by omega)
                    have hbw9 := hR.below
                    have hRl := hR.lies
                    have HRL := hid hRl
                    clear hP hf hR hRl htk hcnt
                    go_wp2_with fail
                    refine hfree.mono ?_
                    rintro e w6 ⟨v6, rfl, hown6, hb6⟩
                    obtain ⟨A6, rb6, cap6, rfl, _, _, _⟩ := own_slice hown6
                    replace hbw9 := hbw9.trans (hb6.mono hbw9.size)
                    have r1 := (HRL.out.below_ hb6).rbx.cell 0
                    simp only [List.getElem?_toArray, List.getElem?_cons_zero] at r1
                    rw [HPL.out] at r1
                    clear hfree hown6 hb6 cl0 cl1 cm0 r0
                    by_cases hG : G = c
                    · have q2 : ((G : Int) == (c : Int)) = true := beq_iff_eq.2 (by omega)
                      clear hG hlast
                      go_wp2
                      go_ret
                      exact ⟨by first | rfl | simp, hbw9⟩
                    · have q2 : ((G : Int) == (c : Int)) = false := beq_eq_false_iff_ne.2 (by omega)
                      have q3 : ((G : Int) == (F0.length : Int)) = true := beq_iff_eq.2 (by omega)
                      clear hG hlast
                      go_wp2
                      go_ret
                      exact ⟨by first | rfl | simp, hbw9⟩
end Go.Proofs.Ytdnonnehglhjbaa
