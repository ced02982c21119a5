/- A race in memory, and the law's closure that lets one machine do a step. -/
import Derived.Test.YtdnonnehglhjbaaRaceMath
import Derived.Test.YtdnonnehglhjbaaLifeLaw
namespace Go.Proofs.Ytdnonnehglhjbaa
open Go.RowKit Go.Sort
set_option maxHeartbeats 8000000

/-- How a race lies in memory. -/
structure RaceAt (w : World) (g b mbx lbx rbx dbx rb db cap : Nat) (R : Array Value) (n : Int) (V : MV) (ps : List Nat) (As : List AV) : Prop where
  mem : MemAt w g b V
  mbx : Blk w mbx 24 #[.pointer (some ⟨g, 0, none⟩)]
  lbx : Blk w lbx 26 #[.int .i64 1, .int .i64 n]
  rbx : Blk w rbx 46 #[.slice (some ⟨rb, 0, none⟩) ps.length cap]
  dbx : Blk w dbx 47 #[.slice (some ⟨db, 0, none⟩) ps.length ps.length]
  run : Blk w rb 33 R
  at_ : ∀ k, k < ps.length → R[k]? = some (.pointer (some ⟨ps.getD k 0, 0, none⟩))
  done : Blk w db 4 (As.map (fun A => Value.bool A.ended)).toArray
  each : ∀ k, k < ps.length → AllocAt w (ps.getD k 0) (As.getD k dA)
  ne : ∀ k c, k < ps.length → c < ps.length → k ≠ c → ps.getD k 0 ≠ ps.getD c 0
  len : As.length = ps.length

/-- The blocks that a race may touch. -/
def raceS (g b db : Nat) (ps : List Nat) : Nat → Prop := fun c => two g b c ∨ c = db ∨ ∃ k, k < ps.length ∧ c = ps.getD k 0

theorem set_self_getD (As : List AV) (k : Nat) (hk : k < As.length) : As.set k (As.getD k dA) = As := by
  rw [List.getD_eq_getElem?_getD, List.getElem?_eq_getElem hk]
  simp

section
variable {w : World} {g b mbx lbx rbx dbx rb db cap : Nat} {R : Array Value} {n : Int} {V : MV} {ps : List Nat} {As : List AV}
theorem RaceAt.below_ {w' : World} (h : RaceAt w g b mbx lbx rbx dbx rb db cap R n V ps As) (hb : Below w.heap.size w w') : RaceAt w' g b mbx lbx rbx dbx rb db cap R n V ps As :=
  ⟨h.mem.below_ hb, h.mbx.below hb h.mbx.lt, h.lbx.below hb h.lbx.lt, h.rbx.below hb h.rbx.lt, h.dbx.below hb h.dbx.lt, h.run.below hb h.run.lt, h.at_, h.done.below hb h.done.lt, fun k hk => (h.each k hk).blk.below hb (h.each k hk).blk.lt, h.ne, h.len⟩

/-- A step of machine k, and its end noted, leave this. -/
theorem RaceAt.stepped {w2 : World} {k : Nat} {V' : MV} {A' : AV} (h : RaceAt w g b mbx lbx rbx dbx rb db cap R n V ps As) (hk : k < ps.length) (hT : Touch (three g b (ps.getD k 0)) w w2) (hM : MemAt w2 g b V') (hA : AllocAt w2 (ps.getD k 0) A') :
    RaceAt (w2.setCell ⟨db, k, none⟩ (.bool A'.ended)) g b mbx lbx rbx dbx rb db cap R n V' ps (As.set k A') := by
  have hp := (h.each k hk).blk
  have d1 : db ≠ g := h.done.ne h.mem.mem (by decide)
  have d2 : db ≠ b := h.done.ne h.mem.words (by decide)
  have d3 : ∀ c, c < ps.length → db ≠ ps.getD c 0 := fun c hc => h.done.ne (h.each c hc).blk (by decide)
  have hs : ∀ c, c ≠ g → c ≠ b → c ≠ ps.getD k 0 → ¬ three g b (ps.getD k 0) c := fun c e1 e2 e3 hc => by
    rcases hc with (h | h) | h
    · exact e1 h
    · exact e2 h
    · exact e3 h
  have hx : ∀ {c : Nat} {t : TypeId} {l : Array Value}, Blk w c t l → t ≠ 63 → t ≠ 30 → t ≠ 39 → t ≠ 4 → Blk (w2.setCell ⟨db, k, none⟩ (.bool A'.ended)) c t l := fun hB e1 e2 e3 e4 =>
    (hB.touch hT (hs _ (hB.ne h.mem.mem e1) (hB.ne h.mem.words e2) (hB.ne hp e3))).far (p := ⟨db, k, none⟩) (hB.ne h.done e4) _
  have hkA : k < As.length := by rw [h.len]; exact hk
  refine ⟨⟨hM.mem.far (Ne.symm d1) _, hM.words.far (Ne.symm d2) _, hM.ne⟩, hx h.mbx (by decide) (by decide) (by decide) (by decide), hx h.lbx (by decide) (by decide) (by decide) (by decide), hx h.rbx (by decide) (by decide) (by decide) (by decide), hx h.dbx (by decide) (by decide) (by decide) (by decide), hx h.run (by decide) (by decide) (by decide) (by decide), h.at_, ?_, fun c hc => ?_, h.ne, by rw [List.length_set, h.len]⟩
  · have hd := (h.done.touch hT (hs _ d1 d2 (d3 k hk))).set_ k (.bool A'.ended)
    simpa [List.map_set] using hd
  · by_cases e : c = k
    · subst e
      rw [getD_set_same _ _ _ hkA]
      exact hA.blk.far (p := ⟨db, c, none⟩) (Ne.symm (d3 c hc)) _
    · rw [getD_set_other _ _ _ _ e]
      have hc2 := (h.each c hc).blk
      exact (hc2.touch hT (hs _ (hc2.ne h.mem.mem (by decide)) (hc2.ne h.mem.words (by decide)) (h.ne c k hc hk e))).far (p := ⟨db, k, none⟩) (Ne.symm (d3 c hc)) _

theorem race_step (k : Nat) (h : RaceAt w g b mbx lbx rbx dbx rb db cap R n V ps As) (hk : k < ps.length) (hps : ps.length ≤ 8) (hok : (As.getD k dA).ok) (hn : (As.getD k dA).n = n) (hV : V.okL n) (ha : actsOk V) :
    Calls Try.prog 18 #[.int .i64 k, .pointer (some ⟨dbx, 0, none⟩), .pointer (some ⟨rbx, 0, none⟩), .pointer (some ⟨mbx, 0, none⟩)] w fun e w' =>
      e = .returned (.tuple #[]) ∧ RaceAt w' g b mbx lbx rbx dbx rb db cap R n (AV.step V (As.getD k dA)).1 ps (As.set k (AV.step V (As.getD k dA)).2) ∧ Touch (raceS g b db ps) w w' := by
  have hkA : k < As.length := by rw [h.len]; exact hk
  have c0 := h.dbx.cell 0
  have c1 := h.rbx.cell 0
  have c2 : w.cell? ⟨rb, k, none⟩ = some (.pointer (some ⟨ps.getD k 0, 0, none⟩)) := by rw [h.run.cell, h.at_ k hk]
  have c3 := h.mbx.cell 0
  have c4 : w.cell? ⟨db, k, none⟩ = some (.bool (As.getD k dA).ended) := by
    rw [h.done.cell]
    simp [List.getD, hkA]
  simp only [List.getElem?_toArray, List.getElem?_cons_zero] at c0 c1 c3
  have hlt : (k : Int) < (ps.length : Int) := by omega
  cases he : (As.getD k dA).ended
  · have hst := fun W hM hA => astep_any g b (ps.getD k 0) V (As.getD k dA) W hM ha hA hok (hn ▸ hV) ((h.each k hk).blk.ne h.mem.mem (by decide)) ((h.each k hk).blk.ne h.mem.words (by decide))
    have hstp := fun w2 V' A' => h.stepped (w2 := w2) (V' := V') (A' := A') hk
    have hEA := h.each k hk
    have hEM := h.mem
    have hkp : ∀ w2 : World, Touch (three g b (ps.getD k 0)) w w2 → w2.cell? ⟨dbx, 0, none⟩ = some (.slice (some ⟨db, 0, none⟩) ps.length ps.length) ∧ w2.cell? ⟨rbx, 0, none⟩ = some (.slice (some ⟨rb, 0, none⟩) ps.length cap) ∧ w2.cell? ⟨rb, k, none⟩ = some (.pointer (some ⟨ps.getD k 0, 0, none⟩)) ∧ w2.cell? ⟨mbx, 0, none⟩ = some (.pointer (some ⟨g, 0, none⟩)) ∧ w2.cell? ⟨db, k, none⟩ = some (.bool false) ∧ w2.frozen? ⟨db, k, none⟩ = false := fun w2 hT => by
      have hs : ∀ {c : Nat} {t : TypeId} {l : Array Value}, Blk w c t l → t ≠ 63 → t ≠ 30 → t ≠ 39 → Blk w2 c t l := fun hB e1 e2 e3 =>
        hB.touch hT (fun hc => by
          rcases hc with (h' | h') | h'
          · exact hB.ne h.mem.mem e1 h'
          · exact hB.ne h.mem.words e2 h'
          · exact hB.ne (h.each k hk).blk e3 h')
      refine ⟨?_, ?_, ?_, ?_, ?_, ?_⟩
      · rw [(hs h.dbx (by decide) (by decide) (by decide)).cell]; simp
      · rw [(hs h.rbx (by decide) (by decide) (by decide)).cell]; simp
      · rw [(hs h.run (by decide) (by decide) (by decide)).cell, h.at_ k hk]
      · rw [(hs h.mbx (by decide) (by decide) (by decide)).cell]; simp
      · rw [(hs h.done (by decide) (by decide) (by decide)).cell, ← h.done.cell, c4, he]
      · exact (hs h.done (by decide) (by decide) (by decide)).frozen k
    have hSd : ∀ c, three g b (ps.getD k 0) c → raceS g b db ps c := fun c hc => by
      rcases hc with h' | h'
      · exact Or.inl h'
      · exact Or.inr (Or.inr ⟨k, hk, h'⟩)
    have HE := hid (fun (w2 : World) (V' : MV) (A' : AV) hT hM hA => (let r := hstp w2 V' A' hT hM hA; (⟨(r.dbx.cell 0), (r.rbx.cell 0), (r.run.cell k).trans (h.at_ k hk), (r.mbx.cell 0)⟩ : (w2.setCell ⟨db, k, none⟩ (.bool A'.ended)).cell? ⟨dbx, 0, none⟩ = some (.slice (some ⟨db, 0, none⟩) ps.length ps.length) ∧ (w2.setCell ⟨db, k, none⟩ (.bool A'.ended)).cell? ⟨rbx, 0, none⟩ = some (.slice (some ⟨rb, 0, none⟩) ps.length cap) ∧ (w2.setCell ⟨db, k, none⟩ (.bool A'.ended)).cell? ⟨rb, k, none⟩ = some (.pointer (some ⟨ps.getD k 0, 0, none⟩)) ∧ (w2.setCell ⟨db, k, none⟩ (.bool A'.ended)).cell? ⟨mbx, 0, none⟩ = some (.pointer (some ⟨g, 0, none⟩)))))
    have HS := hid hst
    have HP := hid hstp
    have HK := hid hkp
    have HD := hid hSd
    rw [he] at c4
    have HA := hid hEA
    have HM := hid hEM
    clear hst hstp hkp hSd he h hok hn hV ha hEA hEM hkA
    generalize ps.getD k 0 = p at *
    generalize AV.step V (As.getD k dA) = S at *
    go_enter Try.func18, Try.ntmps18
    go_wp2
    have hM0 : MemAt w.drew g b V := HM.out.drewN 1
    have hA0 : AllocAt w.drew p (As.getD k dA) := HA.out.blk.drewN 1
    go_region_held3 (fun w' => w'.cell? ⟨dbx, 0, none⟩ = some (.slice (some ⟨db, 0, none⟩) ps.length ps.length) ∧ w'.cell? ⟨rbx, 0, none⟩ = some (.slice (some ⟨rb, 0, none⟩) ps.length cap) ∧ w'.cell? ⟨rb, k, none⟩ = some (.pointer (some ⟨p, 0, none⟩)) ∧ w'.cell? ⟨mbx, 0, none⟩ = some (.pointer (some ⟨g, 0, none⟩)))
      (first | go_keep | exact ⟨d0, d1, d2, d3⟩ | exact ⟨e0, e1, e2, e3⟩)
      (first | (go_at_call 19; (with_reducible refine (HS.out _ hM0 hA0).mono ?_); rintro e w2 ⟨rfl, hM2, hA2, hT2⟩; have hT3 : Touch (three g b p) w w2 := ⟨hT2.os, hT2.tape, hT2.output, hT2.size, hT2.block⟩; obtain ⟨d0, d1, d2, d3, d4, df⟩ := HK.out w2 hT3; obtain ⟨e0, e1, e2, e3⟩ := HE.out w2 S.1 S.2 hT3 hM2 hA2))
    rename_i hheld
    have hR := HP.out w2 S.1 S.2 hT3 hM2 hA2
    have hT4 : Touch (raceS g b db ps) w (w2.setCell ⟨db, k, none⟩ (.bool S.2.ended)) := (hT3.mono (fun c _ hc => HD.out c hc)).setCell (p := ⟨db, k, none⟩) (fun _ => Or.inr (Or.inl rfl)) _
    have HRR := hid hR
    clear hheld hR hM2 hA2 hT2 hT3 d0 d1 d2 d3 c0 c1 c2 c3 c4
    go_wp2
    go_end0
    exact ⟨rfl, HRR.out, hT4⟩
  · have hs : AV.step V (As.getD k dA) = (V, As.getD k dA) := by unfold AV.step; rw [if_pos he]
    rw [hs]
    have h' : RaceAt w g b mbx lbx rbx dbx rb db cap R n V ps (As.set k (As.getD k dA)) := by rw [set_self_getD As k hkA]; exact h
    rw [he] at c4
    have H' := hid h'
    clear hs he h h' hok hn hV ha hkA
    go_enter Try.func18, Try.ntmps18
    go_wp2
    go_end0
    exact ⟨rfl, H'.out, Touch.refl _ _⟩
end

/-- A race that goes on: how it lies, what holds of it, how many actions there were at most. -/
structure Racing (w0 : World) (g b mbx lbx rbx dbx rb db cap : Nat) (R : Array Value) (m : Nat) (V0 : MV) (ps : List Nat) (F0 : List Int) (v9 : Value) (lim : Int) (V : MV) (As : List AV) (w : World) : Prop where
  lies : RaceAt w g b mbx lbx rbx dbx rb db cap R m V ps As
  ok : RaceOk m V0 V As
  free : w.ownsRow w0.heap.size 3 1 v9 F0.length (F0.map (Value.int .i64))
  below : Below w0.heap.size w0 w
  a : 0 ≤ V.a ∧ V.a ≤ lim
  geg : w0.heap.size ≤ g
  geb : w0.heap.size ≤ b
  ged : w0.heap.size ≤ db
  gep : ∀ k, k < ps.length → w0.heap.size ≤ ps.getD k 0

section
variable {w0 w w' : World} {g b mbx lbx rbx dbx rb db cap : Nat} {R : Array Value} {m : Nat} {V0 V : MV} {ps : List Nat} {F0 : List Int} {v9 : Value} {lim : Int} {As : List AV}
theorem Racing.below_ (h : Racing w0 g b mbx lbx rbx dbx rb db cap R m V0 ps F0 v9 lim V As w) (hb : Below w.heap.size w w') : Racing w0 g b mbx lbx rbx dbx rb db cap R m V0 ps F0 v9 lim V As w' :=
  ⟨h.lies.below_ hb, h.ok, row_below h.free hb, h.below.trans (hb.mono h.below.size), h.a, h.geg, h.geb, h.ged, h.gep⟩
theorem Racing.more {lim2 : Int} (h : Racing w0 g b mbx lbx rbx dbx rb db cap R m V0 ps F0 v9 lim V As w) (hl : lim ≤ lim2) : Racing w0 g b mbx lbx rbx dbx rb db cap R m V0 ps F0 v9 lim2 V As w :=
  ⟨h.lies, h.ok, h.free, h.below, ⟨h.a.1, Int.le_trans h.a.2 hl⟩, h.geg, h.geb, h.ged, h.gep⟩
theorem Racing.row_ne (h : Racing w0 g b mbx lbx rbx dbx rb db cap R m V0 ps F0 v9 lim V As w) (c : Nat) (hc : v9.ownBlock = some c) : ¬ raceS g b db ps c := by
  rintro ((e | e) | e | ⟨k, hk, e⟩)
  · exact h.lies.mem.mem.own_ne h.free (by decide) (by rw [hc, e])
  · exact h.lies.mem.words.own_ne h.free (by decide) (by rw [hc, e])
  · exact h.lies.done.own_ne h.free (by decide) (by rw [hc, e])
  · exact (h.lies.each k hk).blk.own_ne h.free (by decide) (by rw [hc, e])

theorem racing_step (k : Nat) (h : Racing w0 g b mbx lbx rbx dbx rb db cap R m V0 ps F0 v9 lim V As w) (hk : k < ps.length) (hps : ps.length ≤ 8) (hlim : lim ≤ 1000000) :
    Calls Try.prog 18 #[.int .i64 k, .pointer (some ⟨dbx, 0, none⟩), .pointer (some ⟨rbx, 0, none⟩), .pointer (some ⟨mbx, 0, none⟩)] w fun e w' =>
      e = .returned (.tuple #[]) ∧ Racing w0 g b mbx lbx rbx dbx rb db cap R m V0 ps F0 v9 (lim + 1) (AV.step V (As.getD k dA)).1 (As.set k (AV.step V (As.getD k dA)).2) w' := by
  have hkA : k < As.length := by rw [h.lies.len]; exact hk
  have hM := h.ok.each k hkA
  refine (race_step k h.lies hk hps hM.ok hM.nn h.ok.ok (by have := h.a; unfold actsOk; omega)).mono ?_
  rintro e w' ⟨rfl, h1, h2⟩
  refine ⟨rfl, h1, h.ok.step hkA, row_touch h.free h2 (fun c hc => h.row_ne c hc), h.below.trans (h2.below (fun c hc => ?_) h.below.size), ?_, h.geg, h.geb, h.ged, h.gep⟩
  · rcases hc with (e | e) | e | ⟨k, hk, e⟩
    · rw [e]; exact h.geg
    · rw [e]; exact h.geb
    · rw [e]; exact h.ged
    · rw [e]; exact h.gep k hk
  · have := h.a
    rw [AV.step_a]
    split <;> omega
end
end Go.Proofs.Ytdnonnehglhjbaa
