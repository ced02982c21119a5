/-
  No cell of these rows narrows 'for every input' (looked for: loops, veiled, ifaces, maps, wideKeys, modest, calm, conditions, laid).
  DERIVED. THE GIVEN ROWS OF THIS SEAT. 5 by the template 'for every input the law returns true; each argument reads behind the call as it read before'; 0 by the template 'total and deterministic' (their statements: YtibbbbgalhekoaaTotals.lean).
  GIVEN WITH THE SEED: the statements are not yours to turn. If you find one false, say at which input.
  Laid BY PROGRAM, IN A SANDBOX (cutbox-rows.mjs): the forced cells as the released guide's own fill.sh prints them over the translation b4645791fde220a0… (all of the seat's roots in one cut). By AI agents, Wed Nov 11 2026. No macro, syntax, notation, axiom, sorry.
-/
import Derived.Test.YtibbbbgalhekoaaChecked
import GoSem.Claim
import GoSem.ClaimJoined
import GoSem.ClaimMapViews
import Derived.JoinedTies
import Derived.KernelRfl
namespace Go.Proofs.Ytibbbbgalhekoaa
/- THE CELL 'sum', in the pinned program and in every row, IS THE sha256 OF THE DUMP (.gsa) THAT YtibbbbgalhekoaaProg.lean LOADS. Nothing in Lean hashes anything: it is a label: what it is worth is what the hold of that sum in a sandbox is worth. -/
noncomputable def Try.pinned : Pinned := { name := "ytibbbbgalhekoaa", sum := "b4645791fde220a0075c57f8f353e72117daa10e97224609ec3cf0ded12492d4", checked := Try.checked }
namespace Rows
def none {H : Type} : Left H := { results := [], args := [] }

/-- 'sherpalaw07.SpecPlays': WHATEVER THE INPUT: true; the input reads as it did. -/
def specPlaysSpec : ChangeSpec := { name := "specPlays", fn := fun _ => fun
  | [d1, d2] => { results := [.lit (.bool true)], args := [d1, d2] }
  | _ => none }
def specPlaysRow : OpenClaim := { program := "ytibbbbgalhekoaa", sum := "b4645791fde220a0075c57f8f353e72117daa10e97224609ec3cf0ded12492d4", func := "sherpa/sherpalaw07.SpecPlays", spec := "specPlays", inPlace := ["slices.overlaps[int]"], apart := false }
def SpecPlaysSaid : Prop := specPlaysRow.holds Try.pinned (OpenSpec.ofChange specPlaysSpec)

/-- ITS FALSE NEIGHBOUR: 'it returns false'. Refute it at one input. -/
def specPlaysWrong : ChangeSpec := { name := "specPlays", fn := fun _ => fun
  | [d1, d2] => { results := [.lit (.bool false)], args := [d1, d2] }
  | _ => none }
def SpecPlaysWrongFalsely : Prop := specPlaysRow.holds Try.pinned (OpenSpec.ofChange specPlaysWrong)

/-- 'sherpalaw07.SpecAll': WHATEVER THE INPUT: true; the input reads as it did. -/
def specAllSpec : ChangeSpec := { name := "specAll", fn := fun _ => fun
  | [d1, d2] => { results := [.lit (.bool true)], args := [d1, d2] }
  | _ => none }
def specAllRow : OpenClaim := { program := "ytibbbbgalhekoaa", sum := "b4645791fde220a0075c57f8f353e72117daa10e97224609ec3cf0ded12492d4", func := "sherpa/sherpalaw07.SpecAll", spec := "specAll", inPlace := ["slices.overlaps[int]"], apart := false }
def SpecAllSaid : Prop := specAllRow.holds Try.pinned (OpenSpec.ofChange specAllSpec)

/-- ITS FALSE NEIGHBOUR: 'it returns false'. Refute it at one input. -/
def specAllWrong : ChangeSpec := { name := "specAll", fn := fun _ => fun
  | [d1, d2] => { results := [.lit (.bool false)], args := [d1, d2] }
  | _ => none }
def SpecAllWrongFalsely : Prop := specAllRow.holds Try.pinned (OpenSpec.ofChange specAllWrong)

/-- 'sherpalaw07.SpecCopies': WHATEVER THE INPUT: true; the input reads as it did. -/
def specCopiesSpec : ChangeSpec := { name := "specCopies", fn := fun _ => fun
  | [d1, d2, d3] => { results := [.lit (.bool true)], args := [d1, d2, d3] }
  | _ => none }
def specCopiesRow : OpenClaim := { program := "ytibbbbgalhekoaa", sum := "b4645791fde220a0075c57f8f353e72117daa10e97224609ec3cf0ded12492d4", func := "sherpa/sherpalaw07.SpecCopies", spec := "specCopies", inPlace := ["slices.overlaps[int]"], apart := false }
def SpecCopiesSaid : Prop := specCopiesRow.holds Try.pinned (OpenSpec.ofChange specCopiesSpec)

/-- ITS FALSE NEIGHBOUR: 'it returns false'. Refute it at one input. -/
def specCopiesWrong : ChangeSpec := { name := "specCopies", fn := fun _ => fun
  | [d1, d2, d3] => { results := [.lit (.bool false)], args := [d1, d2, d3] }
  | _ => none }
def SpecCopiesWrongFalsely : Prop := specCopiesRow.holds Try.pinned (OpenSpec.ofChange specCopiesWrong)

/-- 'sherpalaw07.SpecUndoes': WHATEVER THE INPUT: true; the input reads as it did. -/
def specUndoesSpec : ChangeSpec := { name := "specUndoes", fn := fun _ => fun
  | [d1, d2, d3] => { results := [.lit (.bool true)], args := [d1, d2, d3] }
  | _ => none }
def specUndoesRow : OpenClaim := { program := "ytibbbbgalhekoaa", sum := "b4645791fde220a0075c57f8f353e72117daa10e97224609ec3cf0ded12492d4", func := "sherpa/sherpalaw07.SpecUndoes", spec := "specUndoes", inPlace := ["slices.overlaps[int]"], apart := false }
def SpecUndoesSaid : Prop := specUndoesRow.holds Try.pinned (OpenSpec.ofChange specUndoesSpec)

/-- ITS FALSE NEIGHBOUR: 'it returns false'. Refute it at one input. -/
def specUndoesWrong : ChangeSpec := { name := "specUndoes", fn := fun _ => fun
  | [d1, d2, d3] => { results := [.lit (.bool false)], args := [d1, d2, d3] }
  | _ => none }
def SpecUndoesWrongFalsely : Prop := specUndoesRow.holds Try.pinned (OpenSpec.ofChange specUndoesWrong)

/-- 'sherpalaw07.SpecCounts': WHATEVER THE INPUT: true; the input reads as it did. -/
def specCountsSpec : ChangeSpec := { name := "specCounts", fn := fun _ => fun
  | [d1, d2] => { results := [.lit (.bool true)], args := [d1, d2] }
  | _ => none }
def specCountsRow : OpenClaim := { program := "ytibbbbgalhekoaa", sum := "b4645791fde220a0075c57f8f353e72117daa10e97224609ec3cf0ded12492d4", func := "sherpa/sherpalaw07.SpecCounts", spec := "specCounts", inPlace := ["slices.overlaps[int]"], apart := false }
def SpecCountsSaid : Prop := specCountsRow.holds Try.pinned (OpenSpec.ofChange specCountsSpec)

/-- ITS FALSE NEIGHBOUR: 'it returns false'. Refute it at one input. -/
def specCountsWrong : ChangeSpec := { name := "specCounts", fn := fun _ => fun
  | [d1, d2] => { results := [.lit (.bool false)], args := [d1, d2] }
  | _ => none }
def SpecCountsWrongFalsely : Prop := specCountsRow.holds Try.pinned (OpenSpec.ofChange specCountsWrong)

/- THE SECOND FORM. 'bulk': how many values and letters a reading holds, each counted each time it is reached (what is shared counts as often as it is met; a slice's spare places count too). A statement '..UptoSaid' is the law's where the arguments, and the package variables that the reading takes, are together of bulk at most 1048576: NARROWER than '..Said'. Prove '..Said' where nothing that the law and all that it calls make is longer than what came in: it says more and counts as full. Else prove '..UptoSaid'. A law counts once. -/
mutual
def uptoBulk {H : Type} : DataW H → Nat
  | .lit (.string bytes) => bytes.length + 1
  | .lit _ => 1
  | .nil => 1
  | .ptr d => uptoBulk d + 1
  | .slice elems spare => uptoBulkAll elems + uptoBulkAll spare + 1
  | .agg parts => uptoBulkAll parts + 1
  | .iface _ d => uptoBulk d + 1
  | .map entries => uptoBulkEntries entries + 1
  | .held _ => 1
def uptoBulkAll {H : Type} : List (DataW H) → Nat
  | [] => 0
  | d :: r => uptoBulk d + uptoBulkAll r
def uptoBulkEntries {H : Type} : List (Lit × DataW H) → Nat
  | [] => 0
  | x :: r => uptoBulkEntry x + uptoBulkEntries r
def uptoBulkEntry {H : Type} : Lit × DataW H → Nat
  | (.string bytes, d) => bytes.length + uptoBulk d + 1
  | (_, d) => uptoBulk d + 1
 end
def uptoSmall : (H : Type) → List (DataW H) → Bool := fun _ ds => decide (uptoBulkAll ds ≤ 1048576)
def OpenSpec.upto (s : _root_.Go.ChangeSpec) : _root_.Go.OpenSpec := { _root_.Go.OpenSpec.ofChange s with cond := some uptoSmall }

/-- 'sherpalaw07.SpecPlays', WHERE WHAT IT READS IS OF BULK AT MOST 1048576: true; the input reads as it did. -/
def specPlaysUptoRow : OpenClaim := { program := "ytibbbbgalhekoaa", sum := "b4645791fde220a0075c57f8f353e72117daa10e97224609ec3cf0ded12492d4", func := "sherpa/sherpalaw07.SpecPlays", spec := "specPlays", inPlace := ["slices.overlaps[int]"], apart := false, narrowed := true }
def SpecPlaysUptoSaid : Prop := specPlaysUptoRow.holds Try.pinned (OpenSpec.upto specPlaysSpec)

/-- 'sherpalaw07.SpecAll', WHERE WHAT IT READS IS OF BULK AT MOST 1048576: true; the input reads as it did. -/
def specAllUptoRow : OpenClaim := { program := "ytibbbbgalhekoaa", sum := "b4645791fde220a0075c57f8f353e72117daa10e97224609ec3cf0ded12492d4", func := "sherpa/sherpalaw07.SpecAll", spec := "specAll", inPlace := ["slices.overlaps[int]"], apart := false, narrowed := true }
def SpecAllUptoSaid : Prop := specAllUptoRow.holds Try.pinned (OpenSpec.upto specAllSpec)

/-- 'sherpalaw07.SpecCopies', WHERE WHAT IT READS IS OF BULK AT MOST 1048576: true; the input reads as it did. -/
def specCopiesUptoRow : OpenClaim := { program := "ytibbbbgalhekoaa", sum := "b4645791fde220a0075c57f8f353e72117daa10e97224609ec3cf0ded12492d4", func := "sherpa/sherpalaw07.SpecCopies", spec := "specCopies", inPlace := ["slices.overlaps[int]"], apart := false, narrowed := true }
def SpecCopiesUptoSaid : Prop := specCopiesUptoRow.holds Try.pinned (OpenSpec.upto specCopiesSpec)

/-- 'sherpalaw07.SpecUndoes', WHERE WHAT IT READS IS OF BULK AT MOST 1048576: true; the input reads as it did. -/
def specUndoesUptoRow : OpenClaim := { program := "ytibbbbgalhekoaa", sum := "b4645791fde220a0075c57f8f353e72117daa10e97224609ec3cf0ded12492d4", func := "sherpa/sherpalaw07.SpecUndoes", spec := "specUndoes", inPlace := ["slices.overlaps[int]"], apart := false, narrowed := true }
def SpecUndoesUptoSaid : Prop := specUndoesUptoRow.holds Try.pinned (OpenSpec.upto specUndoesSpec)

/-- 'sherpalaw07.SpecCounts', WHERE WHAT IT READS IS OF BULK AT MOST 1048576: true; the input reads as it did. -/
def specCountsUptoRow : OpenClaim := { program := "ytibbbbgalhekoaa", sum := "b4645791fde220a0075c57f8f353e72117daa10e97224609ec3cf0ded12492d4", func := "sherpa/sherpalaw07.SpecCounts", spec := "specCounts", inPlace := ["slices.overlaps[int]"], apart := false, narrowed := true }
def SpecCountsUptoSaid : Prop := specCountsUptoRow.holds Try.pinned (OpenSpec.upto specCountsSpec)

end Rows
end Go.Proofs.Ytibbbbgalhekoaa
