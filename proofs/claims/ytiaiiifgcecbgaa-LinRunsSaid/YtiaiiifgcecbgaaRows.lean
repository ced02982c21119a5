/-
  No cell of these rows narrows 'for every input' (looked for: loops, veiled, ifaces, maps, wideKeys, modest, calm, conditions, laid).
  DERIVED. THE GIVEN ROWS OF THIS SEAT. 3 by the template 'for every input the law returns true; each argument reads behind the call as it read before'; 0 by the template 'total and deterministic' (their statements: YtiaiiifgcecbgaaTotals.lean).
  GIVEN WITH THE SEED: the statements are not yours to turn. If you find one false, say at which input.
  Laid BY PROGRAM, IN A SANDBOX (cutbox-rows.mjs): the forced cells as the released guide's own fill.sh prints them over the translation 836dd4506b00fd8f… (all of the seat's roots in one cut). By AI agents, Wed Nov 11 2026. No macro, syntax, notation, axiom, sorry.
-/
import Derived.Test.YtiaiiifgcecbgaaChecked
import GoSem.Claim
import GoSem.ClaimJoined
import GoSem.ClaimMapViews
import Derived.JoinedTies
import Derived.KernelRfl
namespace Go.Proofs.Ytiaiiifgcecbgaa
/- THE CELL 'sum', in the pinned program and in every row, IS THE sha256 OF THE DUMP (.gsa) THAT YtiaiiifgcecbgaaProg.lean LOADS. Nothing in Lean hashes anything: it is a label: what it is worth is what the hold of that sum in a sandbox is worth. -/
noncomputable def Try.pinned : Pinned := { name := "ytiaiiifgcecbgaa", sum := "836dd4506b00fd8f6826f50a72dec47bbb9f1fd7a9f717425b148794a15666bd", checked := Try.checked }
namespace Rows
def none {H : Type} : Left H := { results := [], args := [] }

/-- 'sherpalaw09.LinRuns': WHATEVER THE INPUT: true; the input reads as it did. -/
def linRunsSpec : ChangeSpec := { name := "linRuns", fn := fun _ => fun
  | [d1, d2] => { results := [.lit (.bool true)], args := [d1, d2] }
  | _ => none }
def linRunsRow : OpenClaim := { program := "ytiaiiifgcecbgaa", sum := "836dd4506b00fd8f6826f50a72dec47bbb9f1fd7a9f717425b148794a15666bd", func := "sherpa/sherpalaw09.LinRuns", spec := "linRuns", inPlace := ["slices.overlaps[int]"], recurses := true, plainKeys := false, apart := false }
def LinRunsSaid : Prop := linRunsRow.holds Try.pinned (OpenSpec.ofChange linRunsSpec)

/-- ITS FALSE NEIGHBOUR: 'it returns false'. Refute it at one input. -/
def linRunsWrong : ChangeSpec := { name := "linRuns", fn := fun _ => fun
  | [d1, d2] => { results := [.lit (.bool false)], args := [d1, d2] }
  | _ => none }
def LinRunsWrongFalsely : Prop := linRunsRow.holds Try.pinned (OpenSpec.ofChange linRunsWrong)

/-- 'sherpalaw09.LinAlone': WHATEVER THE INPUT: true; the input reads as it did. -/
def linAloneSpec : ChangeSpec := { name := "linAlone", fn := fun _ => fun
  | [d1, d2, d3] => { results := [.lit (.bool true)], args := [d1, d2, d3] }
  | _ => none }
def linAloneRow : OpenClaim := { program := "ytiaiiifgcecbgaa", sum := "836dd4506b00fd8f6826f50a72dec47bbb9f1fd7a9f717425b148794a15666bd", func := "sherpa/sherpalaw09.LinAlone", spec := "linAlone", inPlace := ["slices.overlaps[int]"], recurses := true, plainKeys := false, apart := false }
def LinAloneSaid : Prop := linAloneRow.holds Try.pinned (OpenSpec.ofChange linAloneSpec)

/-- ITS FALSE NEIGHBOUR: 'it returns false'. Refute it at one input. -/
def linAloneWrong : ChangeSpec := { name := "linAlone", fn := fun _ => fun
  | [d1, d2, d3] => { results := [.lit (.bool false)], args := [d1, d2, d3] }
  | _ => none }
def LinAloneWrongFalsely : Prop := linAloneRow.holds Try.pinned (OpenSpec.ofChange linAloneWrong)

/-- 'sherpalaw09.LinLong': WHATEVER THE INPUT: true; the input reads as it did. -/
def linLongSpec : ChangeSpec := { name := "linLong", fn := fun _ => fun
  | [d1, d2] => { results := [.lit (.bool true)], args := [d1, d2] }
  | _ => none }
def linLongRow : OpenClaim := { program := "ytiaiiifgcecbgaa", sum := "836dd4506b00fd8f6826f50a72dec47bbb9f1fd7a9f717425b148794a15666bd", func := "sherpa/sherpalaw09.LinLong", spec := "linLong", inPlace := ["slices.overlaps[int]"], recurses := true, plainKeys := false, apart := false }
def LinLongSaid : Prop := linLongRow.holds Try.pinned (OpenSpec.ofChange linLongSpec)

/-- ITS FALSE NEIGHBOUR: 'it returns false'. Refute it at one input. -/
def linLongWrong : ChangeSpec := { name := "linLong", fn := fun _ => fun
  | [d1, d2] => { results := [.lit (.bool false)], args := [d1, d2] }
  | _ => none }
def LinLongWrongFalsely : Prop := linLongRow.holds Try.pinned (OpenSpec.ofChange linLongWrong)

/- THE SECOND FORM. 'bulk': how many values and letters a reading holds, each counted each time it is reached (what is shared counts as often as it is met; a slice's spare places count too). A statement '..UptoSaid' is the law's where the arguments, and the package variables that the reading takes, are together of bulk at most 1048576: NARROWER than '..Said'. Prove '..Said' where nothing that the law and all that it calls make is longer than what came in: it says more and counts as full. Else prove '..UptoSaid'. A law counts once. -/
mutual
def uptoBulk {H : Type} : DataW H → Nat
  | .lit (.string bytes) => bytes.length + 1
  | .lit _ => 1
  | .nil => 1
  | .ptr d => uptoBulk d + 1
  | .slice elems spare => uptoBulkAll elems + uptoBulkAll spare + 1
  | .agg parts => uptoBulkAll parts + 1
  | .iface _ d => uptoBulk d + 1
  | .map entries => uptoBulkEntries entries + 1
  | .held _ => 1
def uptoBulkAll {H : Type} : List (DataW H) → Nat
  | [] => 0
  | d :: r => uptoBulk d + uptoBulkAll r
def uptoBulkEntries {H : Type} : List (Lit × DataW H) → Nat
  | [] => 0
  | x :: r => uptoBulkEntry x + uptoBulkEntries r
def uptoBulkEntry {H : Type} : Lit × DataW H → Nat
  | (.string bytes, d) => bytes.length + uptoBulk d + 1
  | (_, d) => uptoBulk d + 1
 end
def uptoSmall : (H : Type) → List (DataW H) → Bool := fun _ ds => decide (uptoBulkAll ds ≤ 1048576)
def OpenSpec.upto (s : _root_.Go.ChangeSpec) : _root_.Go.OpenSpec := { _root_.Go.OpenSpec.ofChange s with cond := some uptoSmall }

/-- 'sherpalaw09.LinRuns', WHERE WHAT IT READS IS OF BULK AT MOST 1048576: true; the input reads as it did. -/
def linRunsUptoRow : OpenClaim := { program := "ytiaiiifgcecbgaa", sum := "836dd4506b00fd8f6826f50a72dec47bbb9f1fd7a9f717425b148794a15666bd", func := "sherpa/sherpalaw09.LinRuns", spec := "linRuns", inPlace := ["slices.overlaps[int]"], recurses := true, plainKeys := false, apart := false, narrowed := true }
def LinRunsUptoSaid : Prop := linRunsUptoRow.holds Try.pinned (OpenSpec.upto linRunsSpec)

/-- 'sherpalaw09.LinAlone', WHERE WHAT IT READS IS OF BULK AT MOST 1048576: true; the input reads as it did. -/
def linAloneUptoRow : OpenClaim := { program := "ytiaiiifgcecbgaa", sum := "836dd4506b00fd8f6826f50a72dec47bbb9f1fd7a9f717425b148794a15666bd", func := "sherpa/sherpalaw09.LinAlone", spec := "linAlone", inPlace := ["slices.overlaps[int]"], recurses := true, plainKeys := false, apart := false, narrowed := true }
def LinAloneUptoSaid : Prop := linAloneUptoRow.holds Try.pinned (OpenSpec.upto linAloneSpec)

/-- 'sherpalaw09.LinLong', WHERE WHAT IT READS IS OF BULK AT MOST 1048576: true; the input reads as it did. -/
def linLongUptoRow : OpenClaim := { program := "ytiaiiifgcecbgaa", sum := "836dd4506b00fd8f6826f50a72dec47bbb9f1fd7a9f717425b148794a15666bd", func := "sherpa/sherpalaw09.LinLong", spec := "linLong", inPlace := ["slices.overlaps[int]"], recurses := true, plainKeys := false, apart := false, narrowed := true }
def LinLongUptoSaid : Prop := linLongUptoRow.holds Try.pinned (OpenSpec.upto linLongSpec)

end Rows
end Go.Proofs.Ytiaiiifgcecbgaa
