/- The reference's Calls of layer 8. -/
import Derived.Test.YtlhfpmhbhaicmaaHistRef
namespace Go.Proofs.Ytlhfpmhbhaicmaa
open Go.RowKit Go.Sort
set_option maxHeartbeats 4000000

theorem callsFrom_drop {l : List Ev} {j n : Nat} {V : Ev} (hj : l[j]? = some V) : callsFrom j n (l.drop j) = if V.e then callsFrom (j + 1) n (l.drop (j + 1)) else closeAll (opened V j n) (j + 1) (l.drop (j + 1)) :: callsFrom (j + 1) (n + 1) (l.drop (j + 1)) := by
  obtain ⟨h1, h2⟩ := List.getElem?_eq_some_iff.1 hj
  rw [List.drop_eq_getElem_cons h1, h2]
  rfl
theorem closeAll_drop {l : List Ev} {j : Nat} {V : Ev} {C : Cl} (hj : l[j]? = some V) : closeAll C j (l.drop j) = closeAll (closed V j C) (j + 1) (l.drop (j + 1)) := by
  obtain ⟨h1, h2⟩ := List.getElem?_eq_some_iff.1 hj
  rw [List.drop_eq_getElem_cons h1, h2]
  rfl
theorem closeAll_ended : ∀ (l : List Ev) (C : Cl) (n : Nat), 0 ≤ C.e → closeAll C n l = C
  | [], _, _, _ => rfl
  | v :: l, C, n, h => by rw [closeAll, closed_other (by omega), closeAll_ended l C _ h]

/-- The outer loop. -/
def RcRel (w0 : World) (l : List Ev) (v i : Value) (w : World) : Prop :=
  ∃ (j : Nat) (out : List Cl), j ≤ l.length ∧ i = .int .i64 j ∧ out.length ≤ j ∧ out ++ callsFrom j out.length (l.drop j) = callsL l ∧ RefCalls w w0.heap.size v out ∧ Below w0.heap.size w0 w
/-- The inner loop: a call, block cb, that began with event i. -/
def RcIn (w0 : World) (cb i : Nat) (l : List Ev) (F : Cl) (jv : Value) (w : World) : Prop :=
  ∃ (j : Nat) (C : Cl), i + 1 ≤ j ∧ j ≤ l.length ∧ jv = .int .i64 j ∧ closeAll C j (l.drop j) = F ∧ Blk w cb 65 (refC C).toArray ∧ Below cb w0 w

theorem rcalls_any (A : Option Addr) (l : List Ev) (cap : Nat) (w : World) (hl : l.length ≤ 100000) (hrd : RdE w A l) :
    Calls Try.prog 26 #[.slice A l.length cap] w fun e w' => ∃ u, e = .returned u ∧ RefCalls w' w.heap.size u (callsL l) ∧ Below w.heap.size w w' := by
  have HR := hid hrd
  clear hrd
  go_enter Try.func26, Try.ntmps26
  go_wp2
  go_loopw [3, 4] (fun v i wr => RcRel w l v i wr) (fun _ i _ => l.length - (intOf i).toNat)
  case atStart => exact ⟨0, [], Nat.zero_le _, rfl, Nat.zero_le _, rfl, RowG.none _ _, Below.refl _ _⟩
  case round =>
    obtain ⟨i, out, hi, rfl, hol, ho, hK, hbw⟩ := hrel
    have hsz := hbw.size
    by_cases hlt : i < l.length
    · obtain ⟨b1, o1, rfl, hb1, hc1⟩ := (HR.out.below hbw (Nat.le_refl _)).resolve_left (fun h => by subst h; simp at hlt)
      have hget : l[i]? = some (l.getD i default) := by simp [List.getD, hlt]
      obtain ⟨x0, x1, x2, x3, -, -, -⟩ := hc1 i _ hget
      have hdr := callsFrom_drop (n := out.length) hget
      rw [hdr] at ho
      clear hc1 hget hdr
      generalize l.getD i default = V at *
      obtain ⟨vt, ve, vk, vy, vc, vo, vz⟩ := V
      dsimp only at x0 x1 x2 x3 ho
      cases ve
      · simp only [Bool.false_eq_true, if_false] at ho
        have HO := hid (And.intro ho (And.intro hK hbw))
        clear ho hK hbw
        go_wp2_with fail
        go_region_held3 (fun w' => w'.cell? ⟨b1, o1 + i * 7, none⟩ = some (.int .i64 vt) ∧ w'.cell? ⟨b1, o1 + i * 7 + 2, none⟩ = some (.int .i64 vk) ∧ w'.cell? ⟨b1, o1 + i * 7 + 3, none⟩ = some (.int .i64 vy))
          (first | exact ⟨x0, x2, x3⟩ | (refine ⟨?_, ?_, ?_⟩ <;> (repeat (first | (refine cell_alloc_keep ?_ _) | (refine cell_set_keep ?_ (by simp; omega) _))) <;> assumption))
          (fail)
        rename_i hheld
        clear hheld
        have hN : Blk (wr.alloc (.cells (refC (opened ⟨vt, false, vk, vy, vc, vo, vz⟩ i out.length)).toArray 65)).drew wr.heap.size 65 (refC (opened ⟨vt, false, vk, vy, vc, vo, vz⟩ i out.length)).toArray := (Blk.new wr _ _).drewN 1
        have hb2 : Below wr.heap.size wr (wr.alloc (.cells (refC (opened ⟨vt, false, vk, vy, vc, vo, vz⟩ i out.length)).toArray 65)).drew := below_drewN ((Below.refl _ wr).alloc (Nat.le_refl _) _) 1
        obtain ⟨F, hF⟩ : ∃ F, F = closeAll (opened ⟨vt, false, vk, vy, vc, vo, vz⟩ i out.length) (i + 1) (l.drop (i + 1)) := ⟨_, rfl⟩
        rw [← hF] at HO
        change Exit.then _ _ Exit.normal _ (wr.alloc (.cells (refC (opened ⟨vt, false, vk, vy, vc, vo, vz⟩ i out.length)).toArray 65)).drew
        generalize (wr.alloc (.cells (refC (opened ⟨vt, false, vk, vy, vc, vo, vz⟩ i out.length)).toArray 65)).drew = w2 at *
        clear x0 x1 x2 x3
        go_wp2
        obtain ⟨wo, hwo⟩ : ∃ wo, wo = wr := ⟨_, rfl⟩
        subst hwo
        go_loopw [6] (fun jv wr2 => RcIn wo wo.heap.size i l F jv wr2) (fun jv _ => l.length - (intOf jv).toNat)
        case atStart => exact ⟨i + 1, _, Nat.le_refl _, by omega, by go_num, hF.symm, hN, hb2⟩
        case round =>
          obtain ⟨j, C, hij, hj, rfl, hcl, hN2, hbi⟩ := hrel
          clear hN hb2 hF
          have hout : l.drop j = [] ∨ 0 ≤ C.e → F = C := fun h => by
            rcases h with h | h
            · rw [h] at hcl; exact hcl.symm
            · rw [closeAll_ended _ _ _ h] at hcl; exact hcl.symm
          by_cases hc : j < l.length ∧ C.e < 0
          · obtain ⟨hj2, hce⟩ := hc
            obtain ⟨ho, hK, hbw⟩ := HO.out
            have hbw2 := hbw.trans (hbi.mono hbw.size)
            have hbl : b1 < wo.heap.size := hb1
            obtain ⟨b2, o2, hA2, -, hc1⟩ := (HR.out.below hbw2 (Nat.le_refl _)).resolve_left (fun h => by subst h; simp at hlt)
            simp only [Option.some.injEq, Addr.mk.injEq, and_true] at hA2
            obtain ⟨rfl, rfl⟩ := hA2
            have hget : l[j]? = some (l.getD j default) := by simp [List.getD, hj2]
            obtain ⟨y0, -, -, -, y4, y5, y6⟩ := hc1 j _ hget
            rw [closeAll_drop hget] at hcl
            clear hc1 hget ho hK hbw hbw2
            generalize l.getD j default = V at *
            obtain ⟨Vt, Ve, Vk, Vy, Vc, Vo, Vz⟩ := V
            obtain ⟨cb, ce, ci, ct, ck, cy, cc, co, cz⟩ := C
            dsimp only at y0 y4 y5 y6 hce
            obtain ⟨n0, n1, n2, n3, n4, n5, n6, n7, nf⟩ := hN2.eight
            have q1 : decide (ce < 0) = true := by simpa using hce
            by_cases ht : ct = Vt
            · have q2 : (Vt == ct) = true := by simpa using ht.symm
              have hcl2 : closed ⟨Vt, Ve, Vk, Vy, Vc, Vo, Vz⟩ j ⟨cb, ce, ci, ct, ck, cy, cc, co, cz⟩ = ⟨cb, j, ci, ct, ck, cy, Vc, Vo, Vz⟩ := by unfold closed; rw [if_pos ⟨hce, ht⟩]
              rw [hcl2] at hcl
              have HC := hid (And.intro hcl (And.intro hN2 hbi))
              clear ht hcl2 hcl hN2 hbi hout hce
              go_wp2_with fail
              go_quiet (fail)
              obtain ⟨hcl, hN2, hbi⟩ := HC.out
              have hN2 := hN2.drewN nq
              have hbi := below_drewN hbi nq
              have y4 : (wr.drewN nq).cell? _ = _ := y4
              have y5 : (wr.drewN nq).cell? _ = _ := y5
              have y6 : (wr.drewN nq).cell? _ = _ := y6
              clear n0 n1 n2 n3 n4 n5 n6 n7 nf q1 q2 HC
              generalize wr.drewN nq = w3 at *
              obtain ⟨n0, n1, n2, n3, n4, n5, n6, n7, nf⟩ := hN2.eight
              have hN3 := (((hN2.set_ 2 (.int .i64 j)).set_ 5 (.int .i64 Vc)).set_ 6 (.bool Vo)).set_ 7 (.int .i64 Vz)
              have hb3 := (((hbi.setCell (p := ⟨wo.heap.size, 2, none⟩) (Nat.le_refl _) (.int .i64 j)).setCell (p := ⟨wo.heap.size, 5, none⟩) (Nat.le_refl _) (.int .i64 Vc)).setCell (p := ⟨wo.heap.size, 6, none⟩) (Nat.le_refl _) (.bool Vo)).setCell (p := ⟨wo.heap.size, 7, none⟩) (Nat.le_refl _) (.int .i64 Vz)
              have hne : b1 ≠ wo.heap.size := by omega
              have HC := hid (And.intro hcl (And.intro hN3 hb3))
              clear hcl hN3 hb3 hN2 hbi
              go_wp2
              go_roundw
              case rel => exact ⟨j + 1, _, by omega, by omega, by go_num, HC.out.1, by simpa [refC] using HC.out.2.1, HC.out.2.2⟩
              case measure => first | (simp [intOf]; done) | (simp [intOf]; omega)
            · have q2 : (Vt == ct) = false := by simpa using fun h => ht (Eq.symm h)
              have hcl2 : closed ⟨Vt, Ve, Vk, Vy, Vc, Vo, Vz⟩ j ⟨cb, ce, ci, ct, ck, cy, cc, co, cz⟩ = ⟨cb, ce, ci, ct, ck, cy, cc, co, cz⟩ := closed_other (fun h => ht h.1)
              rw [hcl2] at hcl
              have HC := hid (And.intro hcl (And.intro hN2 hbi))
              clear ht hcl2 hcl hN2 hbi hout hce
              go_wp2_with fail
              go_quiet (fail)
              obtain ⟨hcl, hN2, hbi⟩ := HC.out
              have hN2 := hN2.drewN nq
              have hbi := below_drewN hbi nq
              clear n0 n1 n2 n3 n4 n5 n6 n7 nf q1 q2 HC y0 y4 y5 y6
              generalize wr.drewN nq = w3 at *
              have HC := hid (And.intro hcl (And.intro hN2 hbi))
              clear hcl hN2 hbi
              go_wp2
              go_roundw
              case rel => exact ⟨j + 1, _, by omega, by omega, by go_num, HC.out.1, HC.out.2.1, HC.out.2.2⟩
              case measure => first | (simp [intOf]; done) | (simp [intOf]; omega)
          · have hFC : F = C := hout (by
              by_cases h1 : j < l.length
              · exact Or.inr (by omega)
              · exact Or.inl (List.drop_eq_nil_of_le (by omega)))
            obtain ⟨ho, hK, hbw⟩ := HO.out
            have hK2 := hK.below hbi
            have hbw2 := hbw.trans (hbi.mono hbw.size)
            have hsz2 := hbw2.size
            rw [hFC] at ho
            have HO2 := hid ho
            have hol2 : out.length ≤ 1000000 := by omega
            obtain ⟨n0, n1, n2, n3, n4, n5, n6, n7, -⟩ := hN2.eight
            have hnew := Blk.new wr 65 (refC C).toArray
            have hK3 := hK2.alloc (.cells (refC C).toArray 65)
            have hB3 : w.heap.size ≤ (wr.alloc (.cells (refC C).toArray 65)).heap.size := by simp; omega
            have hb3 := hbw2.alloc hsz2 (.cells (refC C).toArray 65)
            clear ho hK hbw hK2 hbw2 hbi hcl hN2 hFC HO hout
            obtain ⟨cb, ce, ci, ct, ck, cy, cc, co, cz⟩ := C
            dsimp only at n0 n1 n2 n3 n4 n5 n6 n7 hc
            have hcase : (j < l.length ∧ 0 ≤ ce) ∨ j = l.length := by omega
            clear hc
            rcases hcase with ⟨h1, h2⟩ | h1
            · have q1 : decide (ce < 0) = false := by simpa using h2
              clear h2
              go_wp2_with (at_builtin; refine wpList_snocG rfl _ _ 62 rfl Try.underlying62 (.agg #[.int .i64 0, .int .i64 0, .int .i64 0, .int .i64 0, .int .i64 0, .int .i64 0, .bool false, .int .i64 0]) 64 info_rcall rfl (by decide) (by decide) (fun _ => rfl) (by simp [refC, Value.oneCell']) w.heap.size _ out wr.heap.size ⟨cb, ce, ci, ct, ck, cy, cc, co, cz⟩ rfl rfl hK3 65 hnew hol2 hB3 ?_)
              intro v' w' hK' hT hat
              have hbw' : Below w.heap.size w w' := hb3.trans (hT.below (fun k hk => (hK3.ge k hk).1) hB3)
              clear hT hat hb3 hK3 hnew n0 n1 n2 n3 n4 n5 n6 n7
              go_wp2
              go_roundw
              case rel => exact ⟨i + 1, _, by omega, by go_num, by simp; omega, by rw [← HO2.out]; simp, hK', hbw'⟩
              case measure => first | (simp [intOf]; done) | (simp [intOf]; omega)
            · subst h1
              go_wp2_with (at_builtin; refine wpList_snocG rfl _ _ 62 rfl Try.underlying62 (.agg #[.int .i64 0, .int .i64 0, .int .i64 0, .int .i64 0, .int .i64 0, .int .i64 0, .bool false, .int .i64 0]) 64 info_rcall rfl (by decide) (by decide) (fun _ => rfl) (by simp [refC, Value.oneCell']) w.heap.size _ out wr.heap.size ⟨cb, ce, ci, ct, ck, cy, cc, co, cz⟩ rfl rfl hK3 65 hnew hol2 hB3 ?_)
              intro v' w' hK' hT hat
              have hbw' : Below w.heap.size w w' := hb3.trans (hT.below (fun k hk => (hK3.ge k hk).1) hB3)
              clear hT hat hb3 hK3 hnew n0 n1 n2 n3 n4 n5 n6 n7
              go_wp2
              go_roundw
              case rel => exact ⟨i + 1, _, by omega, by go_num, by simp; omega, by rw [← HO2.out]; simp, hK', hbw'⟩
              case measure => first | (simp [intOf]; done) | (simp [intOf]; omega)
      · simp only [if_true] at ho
        have HO := hid (And.intro ho (And.intro hK hbw))
        clear ho hK hbw
        go_wp2
        go_roundw
        case rel => exact ⟨i + 1, out, by omega, by go_num, by omega, HO.out.1, HO.out.2.1, HO.out.2.2⟩
        case measure => first | (simp [intOf]; done) | (simp [intOf]; omega)
    · obtain rfl : i = l.length := by omega
      rw [List.drop_length] at ho
      simp only [callsFrom, List.append_nil] at ho
      subst ho
      go_wp2
      go_ret
      exact ⟨_, rfl, hK, hbw⟩
end Go.Proofs.Ytlhfpmhbhaicmaa
