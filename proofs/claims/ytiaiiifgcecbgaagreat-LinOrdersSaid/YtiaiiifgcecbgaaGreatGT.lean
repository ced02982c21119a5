/- lin: mark. -/
import Derived.Test.YtiaiiifgcecbgaaGreatGS
set_option linter.all false
namespace Go.Proofs.YtiaiiifgcecbgaaGreat
open Go.RowKit Go.Sort
set_option maxHeartbeats 4000000
set_option maxRecDepth 100000
def runC (y : Int) : List Value := [.int .i32 y]
abbrev RunRow (w : World) (B : Nat) (v : Value) (l : List Int) : Prop := RowG 21 1 runC w B v l
theorem info_run : (Tryz.prog.info? 21).map (fun i => (i.zero, i.size, i.bytes)) = some (some (.int .i32 0), 1, 4) := by kernel_rfl
theorem flat_run (l : List Int) : l.flatMap runC = l.map (Value.int .i32) := by
  induction l with
  | nil => rfl
  | cons a l ih => simp [runC, List.flatMap_cons]; exact ih
theorem RunRow.load {w : World} {B : Nat} {v : Value} {l : List Int} (h : RunRow w B v l) : ∃ A cap, v = .slice A l.length cap ∧ (Conv.runesToString (.slice A l.length cap)).run Tryz.prog w = .ok (.string (encR l)) w := by
  rcases h.own.2 with ⟨rfl, h0⟩ | ⟨g, cap, cur, rfl, _, hB, hn, hm, hcs, ht⟩
  · have : l = [] := List.length_eq_zero_iff.1 h0
    subst this
    exact ⟨none, 0, rfl, rfl⟩
  · refine ⟨some ⟨g, 0, none⟩, cap, rfl, ?_⟩
    rw [← encR_runes]
    refine run_runesToString w _ _ _ l ?_
    rw [flat_run, Nat.mul_one] at ht
    have hC : Blk w g 21 cur := hB
    have hx := run_loadCells_list (P := Tryz.prog) (w := w) ⟨g, 0, none⟩ (l.map (Value.int .i32)) (fun j v hv => by
      rw [Addr.add_lit, Nat.zero_add, hC.cell, ← hv, ← ht]
      have hj : j < l.length := by
        have := (List.getElem?_eq_some_iff.1 hv).1
        simpa using this
      rw [List.getElem?_take_of_lt hj]; simp)
    simpa using hx
theorem mark_any (w : World) (N : Nat) (K : Int) (cs : List Cl) (G m : Nat) (fl : Bool) (it : List Int) (hn : cs.length ≤ 24) (hg : Good K cs G it) (hm : Mean w N K m it) :
    Calls Tryz.prog 58 #[.agg #[.int .u32 G, .pointer (some ⟨m, 0, none⟩), .bool fl]] w fun e w' => e = .returned (.agg #[.int .u32 G, .string (encR it), .bool fl]) ∧ Below w.heap.size w w' := by
  obtain ⟨W0, hW0⟩ : ∃ W0, W0 = w.alloc (.cells #[.int .u32 G, .pointer (some ⟨m, 0, none⟩), .bool fl] 71) := ⟨_, rfl⟩
  have b0 : Below w.heap.size w W0 := by rw [hW0]; exact (Below.refl w.heap.size w).alloc (Nat.le_refl _) _
  have P0 : Blk W0 w.heap.size 71 #[.int .u32 G, .pointer (some ⟨m, 0, none⟩), .bool fl] := by rw [hW0]; exact Blk.new w _ _
  obtain ⟨W1, hW1⟩ : ∃ W1, W1 = W0.alloc (.cells #[.int .u32 0, .string (ByteArray.mk #[]), .bool false] 118) := ⟨_, rfl⟩
  have b1 : Below W0.heap.size W0 W1 := by rw [hW1]; exact (Below.refl _ _).alloc (Nat.le_refl _) _
  have P1 := P0.below b1 P0.lt
  have h01 : W0.heap.size = w.heap.size + 1 := by rw [hW0]; simp
  have M1 : Blk W1 (w.heap.size + 1) 118 #[.int .u32 0, .string (ByteArray.mk #[]), .bool false] := by rw [← h01, hW1]; exact Blk.new W0 _ _
  have hl24 : it.length ≤ 24 := by have := hg.len; omega
  obtain ⟨vm, hvm⟩ := hm
  have hit := sitems_any W1 N m K vm it ((hvm.below b0).below b1) (by omega)
  have hkey := hg.key
  have HKEY := hid hkey
  have hsz : w.heap.size < W0.heap.size := P0.lt
  have HBB := hid (b0.trans (b1.mono b0.size))
  have HP1 := hid P1
  have HM1 := hid M1
  obtain ⟨p0, p1, p2, pf⟩ := P1.three
  clear b0 b1 P0 P1 M1 hvm hg hkey
  generalize hQ : w.heap.size = q at *
  generalize hnn : it.length = n at *
  go_enter Tryz.func58, Tryz.ntmps58
  go_upto_region 1 with (fail)
  rw [← hW0, ← hW1]
  clear hW1 hW0
  go_wp2_with (go_at_call 31; (with_reducible refine hit.mono ?_); rintro e w2 ⟨u, rfl, hru, hbu⟩; obtain ⟨A, cap, rfl, hrd⟩ := hru.rdi)
  have HRU := hid hru
  have HB2 := hid hbu
  have hsz2 := hbu.size
  have HNN := hid hnn
  clear hit hrd hru hbu p0 p1 p2 pf
  clear hnn
  go_loopw [3, 12] (fun v3 v12 wr => ∃ t : Nat, v12 = .int .i64 t ∧ t ≤ n ∧ Below W1.heap.size W1 wr ∧ RunRow wr W1.heap.size v3 (it.take t) ∧ RowO wr W1.heap.size (.slice A n cap) it) (fun _ v12 _ => n - (intOf v12).toNat)
  case atStart => exact ⟨0, rfl, by omega, HB2.out, RowG.none _ _, HNN.out ▸ HRU.out⟩
  case round =>
    obtain ⟨t, rfl, ht, hb, hr, hro⟩ := hrel
    have HB := hid hb
    have HR := hid hr
    have HRO := hid hro
    have hszr := hb.size
    by_cases htl : t < n
    · have hLne : it ≠ [] := fun e => by have := HNN.out; rw [e] at this; simp at this; omega
      obtain ⟨gp, capp', curp, hvp, hgp, hBp, _, _, _, htk⟩ := hro.parts.resolve_left (fun h => hLne h.2)
      simp only [Value.slice.injEq] at hvp
      obtain ⟨rfl, hll2, rfl⟩ := hvp
      clear hll2
      have htL : t < it.length := by rw [HNN.out]; exact htl
      have hcell : wr.cell? ⟨gp, t, none⟩ = some (.int .i64 (it.getD t 0)) := by have := cells_of hBp htk t htL; rwa [Nat.zero_add] at this
      have hy := HKEY.out (it.getD t 0) (by have := List.getElem_mem htL; simpa [List.getD, htL] using this)
      have htake : it.take (t + 1) = it.take t ++ [it.getD t 0] := by
        rw [List.take_succ_eq_append_getElem htL]; simp [htL]
      have HTK := hid htake
      have hlen4 : (it.take t).length ≤ 17179869184 := by rw [List.length_take]; omega
      have htI : (t : Int) < (n : Int) := by omega
      have hgl : gp < wr.heap.size := hBp.lt
      clear htake htk hro hr hb
      generalize it.getD t 0 = y at *
      obtain ⟨hy0, hy1⟩ := hy
      have hwy : IntKind.i32.wrap y = y := by unfold IntKind.wrap; simp [IntKind.signed, IntKind.bits]; omega
      have hb4 : Below wr.heap.size wr (wr.alloc (.cells #[.int .i32 y] 21)) := (Below.refl _ _).alloc (Nat.le_refl _) _
      have hnew : Blk (wr.alloc (.cells #[.int .i32 y] 21)) wr.heap.size 21 #[.int .i32 y] := Blk.new wr _ _
      have hr4 : RunRow (wr.alloc (.cells #[.int .i32 y] 21)) W1.heap.size u3 (it.take t) := HR.out.below hb4
      have hsz4 : W1.heap.size ≤ (wr.alloc (.cells #[.int .i32 y] 21)).heap.size := Nat.le_trans hszr hb4.size
      go_wp2_with (at_builtin; refine wpList_snocB rfl _ _ 129 rfl Tryz.underlying129 (.int .i32 0) 4 info_run rfl (by decide) (by decide) (fun _ => rfl) (by simp [runC, Value.oneCell']) W1.heap.size _ (it.take t) wr.heap.size y rfl rfl hr4 21 hnew hlen4 hsz4 ?_; intro v' w5 hr5 hT5 _)
      go_roundw
      case rel =>
        exact ⟨t + 1, by go_num, by omega, HB.out.trans ((hb4.mono hszr).trans (Touch.below_row hr4 hT5 hsz4)), by rw [HTK.out]; exact hr5, (HRO.out.below hb4).touch hT5 (fun c hc e => by
          simp only [Value.ownBlock, Option.some.injEq] at hc
          subst hc
          exact hr4.ne ((show Blk wr gp 3 curp from hBp).below hb4 hgl) (by decide) _ e rfl)⟩
      case measure => simp [intOf]; omega
    · obtain rfl : t = n := by omega
      have htake : it.take t = it := by rw [← HNN.out]; exact List.take_length
      rw [htake] at hr
      obtain ⟨A3, cap3, rfl, hcv⟩ := hr.load
      have hconv : ∀ (P : Program), P = Tryz.prog → (convert 129 9 (.slice A3 it.length cap3)).run P wr = .ok (.string (encR it)) wr := fun P hP => by
        subst hP
        rw [run_convert_runes_string wr _ _ 21 A3 it.length cap3 Tryz.underlying129 Tryz.underlying21 Tryz.underlying9]
        exact hcv
      have hconv := hconv _ rfl
      rw [HNN.out] at hconv
      have B0 := HP1.out.below hb HP1.out.lt
      obtain ⟨p0, p1, p2, pf⟩ := B0.three
      have M0 := HM1.out.below hb HM1.out.lt
      obtain ⟨m0, m1, m2, mf⟩ := M0.three
      clear hcv htake hr hro HR HRO
      go_wp2
      have M3 := ((M0.set_ 0 (.int .u32 (G : Int))).set_ 1 (.string (encR it))).set_ 2 (.bool fl)
      have hbq : Below q w wr := HBB.out.trans (hb.mono (by have := HBB.out.size; omega))
      exact bodyPost_ret (v := .agg #[_, _, _]) (results_cell_row rfl _ _ _ _ _ (0, 0) _ rfl M3 Tryz.underlying118 rfl (by kernel_rfl)) rfl ⟨rfl, ((hbq.setCell (Nat.le_succ q) _).setCell (Nat.le_succ q) _).setCell (Nat.le_succ q) _⟩
end Go.Proofs.YtiaiiifgcecbgaaGreat

/- lin: the points from which nothing leads to an end. -/
namespace Go.Proofs.YtiaiiifgcecbgaaGreat
open Go.RowKit Go.Sort Go.Maps Go.ChangeMaps
set_option maxHeartbeats 1000000
set_option maxRecDepth 100000
section
variable {P : Program} {T : TypeId} {kind : TypeDesc} {K : Value → Prop} {G : Value → Value → Prop} {w w' : World} {b : Nat}
theorem RawMap.looks (h : RawMap w b K G) (hK : KeysOk P T kind K) {M E : TypeId} (hM : P.underlying M = some (.map T E)) {z : Value} (hz : (zeroValue E).run P w = .ok z w) {k : Value} (hk : K k) :
    ∃ v ok, (Instr.lookup M (.map (some b)) k true).run P w = .ok (.tuple #[v, .bool ok]) w ∧ (ok = true → G k v) ∧ (ok = false → v = z) ∧ (HasKey w b k ↔ ok = true) := by
  obtain ⟨v, ok, h1, h2, h3, h4⟩ := h.look hK hM hz hk true
  refine ⟨v, ok, by simpa using h1, h2, h3, h4, fun hok => ?_⟩
  obtain ⟨es, cl, h5, h6⟩ := h
  obtain ⟨r, h7, h8⟩ := findKey_run hK hk w es.toList (fun e he => (h6 e he).1)
  have h9 := hK.chk es.isEmpty k w hk
  cases r with
  | none =>
    exfalso
    unfold Instr.lookup at h1
    simp [run_underlying hM, MapKept.run_getObj_map h5, h9, h7, hz, Result.andThen] at h1
    rw [hok] at h1
    simp at h1
  | some q =>
    obtain ⟨j, v'⟩ := q
    obtain ⟨e, _, h10, h11, _⟩ := h8.2 j v' rfl
    exact ⟨es, cl, h5, e, List.mem_of_getElem? h10, h11⟩
end
theorem zero_unit (w : World) : (zeroValue 120).run Tryz.prog w = .ok (.agg #[]) w := Tryz.zeroValue120 w
theorem HasKey.of_block {w w' : World} {b : Nat} {k : Value} (hb : w'.heap[b]? = w.heap[b]?) (h : HasKey w b k) : HasKey w' b k := by
  obtain ⟨es, c, h1, h2⟩ := h
  exact ⟨es, c, by rw [hb]; exact h1, h2⟩
/-- A look-up among the dead points. -/
theorem Srch.dead_look {w : World} {N : Nat} {K : Int} {cs : List Cl} {R : SR} (h : Srch w N K cs R) {G : Nat} {it : List Int} {fl : Bool} (hk : ∀ y ∈ it, 0 ≤ y ∧ y ≤ 999) : ∃ b : Bool, (b = true → ¬ HopeP K cs (setOf G) it fl) ∧
    ∀ w', Below w.heap.size w w' → (Instr.lookup 96 (.map (some R.d)) (.agg #[.int .u32 G, .string (encR it), .bool fl]) true).run Tryz.prog w' = .ok (.tuple #[.agg #[], .bool b]) w' := by
  obtain ⟨kind, hK⟩ := mark_keys
  have hkey : MarkK (.agg #[.int .u32 G, .string (encR it), .bool fl]) := ⟨G, encR it, fl, rfl⟩
  obtain ⟨v, b, h1, h2, h3, h4⟩ := h.dead.looks hK Tryz.underlying96 (zero_unit w) hkey
  refine ⟨b, fun hb => (h2 hb).2 G fl it rfl hk, fun w' hw => ?_⟩
  obtain ⟨v', b', h5, h6, h7, h8⟩ := (h.below hw).dead.looks hK Tryz.underlying96 (zero_unit w') hkey
  have hblk : w'.heap[R.d]? = w.heap[R.d]? := hw.block R.d h.m1.lt
  have hbb : b' = b := by
    have e : (b' = true) ↔ (b = true) := by
      rw [← h4, ← h8]
      exact ⟨HasKey.of_block hblk.symm, HasKey.of_block hblk⟩
    cases b <;> cases b' <;> simp_all
  subst hbb
  rw [h5]
  cases b'
  · rw [h7 rfl]
  · rw [(h6 rfl).1]
/-- A point is marked as dead. -/
theorem Srch.die {w : World} {N : Nat} {K : Int} {cs : List Cl} {R : SR} (h : Srch w N K cs R) {G : Nat} {it : List Int} {fl : Bool} (hk : ∀ y ∈ it, 0 ≤ y ∧ y ≤ 999) (hno : ¬ HopeP K cs (setOf G) it fl) :
    ∃ w', (Instr.mapUpdate 96 (.map (some R.d)) (.agg #[.int .u32 G, .string (encR it), .bool fl]) (.agg #[])).run Tryz.prog w = .ok () w' ∧ Srch w' N K cs R ∧ Go2 R.d R.hp w w' := by
  obtain ⟨kind, hK⟩ := mark_keys
  have hkey : MarkK (.agg #[.int .u32 G, .string (encR it), .bool fl]) := ⟨G, encR it, fl, rfl⟩
  obtain ⟨w', hrun, hm, hT, _⟩ := h.dead.put hK Tryz.underlying96 hkey (v := .agg #[]) ⟨rfl, fun G' fl' it' e hk' => by
    simp only [Value.agg.injEq, Array.mk.injEq, List.cons.injEq, Value.int.injEq, Value.string.injEq, Value.bool.injEq, true_and, and_true] at e
    obtain ⟨e1, e2, e3⟩ := e
    have h1 : G = G' := by omega
    have h2 := encR_inj hk hk' e2
    subst h1 h2 e3
    exact hno⟩
  have m2' : IsMap w' R.hp := h.m2.of_block (hT.block _ h.m2.lt (fun e => h.dh e.symm))
  have a : Go2 R.d R.hp w w' := ⟨h.m1, h.m2, hm.isMap, m2', hT.mono (fun k _ e => Or.inl e)⟩
  refine ⟨w', hrun, ⟨h.ok, a.blk h.blk, a.spec h.spec, a.row h.calls, a.blk h.bef, hm, (h.hops.of_block (hT.block _ h.m2.lt (fun e => h.dh e.symm))).imp (fun k u hg G hG => ?_), h.dh⟩, a⟩
  obtain ⟨L', h1, h2⟩ := hg G hG
  exact ⟨L', a.row h1, h2⟩
theorem way_lft {K : Int} {cs : List Cl} {G G' : Nat} {it it' : List Int} {fl fl' : Bool} (h : wayP K cs (setOf G) it fl (setOf G') it' fl') : lft cs G' < lft cs G := by
  have hadd : ∀ i, i < cs.length → ¬ setOf G i → setOf G' = addP (setOf G) i → lft cs G' < lft cs G := fun i hi hn e => by
    unfold lft; rw [e]; exact leftN_add hi hn
  unfold wayP at h
  split at h
  · obtain ⟨_, h⟩ := h
    split at h
    · obtain ⟨i, h1, h2, _⟩ := h; exact hadd i h1.1.1.1 h1.1.2.1 h2
    · obtain ⟨i, h1, h2, _, _, h3, _⟩ := h; exact hadd i h1.1.1 h2 h3
  · split at h
    · rcases h with ⟨h, _⟩ | ⟨i, h1, _, h2, _⟩ | ⟨i, h1, _, _, h2, _⟩
      · obtain ⟨x, hx, e⟩ := hopM_iff.1 h
        have h1 := hopM_lft hx
        have h2 : lft cs G' = lft cs x := by unfold lft; rw [e]
        omega
      · exact hadd i h1.1.1.1 h1.1.2.1 h2
      · exact hadd i h1.1.1.1 h1.1.2.1 h2
    · obtain ⟨i, h1, h2, _⟩ := h; exact hadd i h1.1.1.1 h1.1.2.1 h2
end Go.Proofs.YtiaiiifgcecbgaaGreat
