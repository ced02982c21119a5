/-
  No cell of these rows narrows 'for every input' (looked for: loops, veiled, ifaces, maps, wideKeys, modest, calm, conditions, laid).
  DERIVED. THE GIVEN ROWS OF THIS SEAT. 4 by the template 'for every input the law returns true; each argument reads behind the call as it read before'; 0 by the template 'total and deterministic' (their statements: YtljgmbebgihonaaTotals.lean).
  GIVEN WITH THE SEED: the statements are not yours to turn. If you find one false, say at which input.
  Laid BY PROGRAM, IN A SANDBOX (cutbox-rows.mjs): the forced cells as the released guide's own fill.sh prints them over the translation e764da1f2b36501f… (all of the seat's roots in one cut). By AI agents, Wed Nov 11 2026. No macro, syntax, notation, axiom, sorry.
-/
import Derived.Test.YtljgmbebgihonaaChecked
import GoSem.Claim
import GoSem.ClaimJoined
import GoSem.ClaimMapViews
import Derived.JoinedTies
import Derived.KernelRfl
namespace Go.Proofs.Ytljgmbebgihonaa
/- THE CELL 'sum', in the pinned program and in every row, IS THE sha256 OF THE DUMP (.gsa) THAT YtljgmbebgihonaaProg.lean LOADS. Nothing in Lean hashes anything: it is a label: what it is worth is what the hold of that sum in a sandbox is worth. -/
noncomputable def Try.pinned : Pinned := { name := "ytljgmbebgihonaa", sum := "e764da1f2b36501f2cc13f380e02438a01aaedc546640ffc7c495a215e555bce", checked := Try.checked }
namespace Rows
def none {H : Type} : Left H := { results := [], args := [] }

/-- 'sherpalaw10.ClearFollows': WHATEVER THE INPUT: true; the input reads as it did. -/
def clearFollowsSpec : ChangeSpec := { name := "clearFollows", fn := fun _ => fun
  | [d1, d2, d3] => { results := [.lit (.bool true)], args := [d1, d2, d3] }
  | _ => none }
def clearFollowsRow : OpenClaim := { program := "ytljgmbebgihonaa", sum := "e764da1f2b36501f2cc13f380e02438a01aaedc546640ffc7c495a215e555bce", func := "sherpa/sherpalaw10.ClearFollows", spec := "clearFollows", unfollowed := true, recurses := true, apart := false }
def ClearFollowsSaid : Prop := clearFollowsRow.holds Try.pinned (OpenSpec.ofChange clearFollowsSpec)

/-- ITS FALSE NEIGHBOUR: 'it returns false'. Refute it at one input. -/
def clearFollowsWrong : ChangeSpec := { name := "clearFollows", fn := fun _ => fun
  | [d1, d2, d3] => { results := [.lit (.bool false)], args := [d1, d2, d3] }
  | _ => none }
def ClearFollowsWrongFalsely : Prop := clearFollowsRow.holds Try.pinned (OpenSpec.ofChange clearFollowsWrong)

/-- 'sherpalaw10.ClearTells': WHATEVER THE INPUT: true; the input reads as it did. -/
def clearTellsSpec : ChangeSpec := { name := "clearTells", fn := fun _ => fun
  | [d1, d2] => { results := [.lit (.bool true)], args := [d1, d2] }
  | _ => none }
def clearTellsRow : OpenClaim := { program := "ytljgmbebgihonaa", sum := "e764da1f2b36501f2cc13f380e02438a01aaedc546640ffc7c495a215e555bce", func := "sherpa/sherpalaw10.ClearTells", spec := "clearTells", unfollowed := true, recurses := true, apart := false }
def ClearTellsSaid : Prop := clearTellsRow.holds Try.pinned (OpenSpec.ofChange clearTellsSpec)

/-- ITS FALSE NEIGHBOUR: 'it returns false'. Refute it at one input. -/
def clearTellsWrong : ChangeSpec := { name := "clearTells", fn := fun _ => fun
  | [d1, d2] => { results := [.lit (.bool false)], args := [d1, d2] }
  | _ => none }
def ClearTellsWrongFalsely : Prop := clearTellsRow.holds Try.pinned (OpenSpec.ofChange clearTellsWrong)

/-- 'sherpalaw10.ClearMixes': WHATEVER THE INPUT: true; the input reads as it did. -/
def clearMixesSpec : ChangeSpec := { name := "clearMixes", fn := fun _ => fun
  | [d1, d2, d3] => { results := [.lit (.bool true)], args := [d1, d2, d3] }
  | _ => none }
def clearMixesRow : OpenClaim := { program := "ytljgmbebgihonaa", sum := "e764da1f2b36501f2cc13f380e02438a01aaedc546640ffc7c495a215e555bce", func := "sherpa/sherpalaw10.ClearMixes", spec := "clearMixes", unfollowed := true, recurses := true, apart := false }
def ClearMixesSaid : Prop := clearMixesRow.holds Try.pinned (OpenSpec.ofChange clearMixesSpec)

/-- ITS FALSE NEIGHBOUR: 'it returns false'. Refute it at one input. -/
def clearMixesWrong : ChangeSpec := { name := "clearMixes", fn := fun _ => fun
  | [d1, d2, d3] => { results := [.lit (.bool false)], args := [d1, d2, d3] }
  | _ => none }
def ClearMixesWrongFalsely : Prop := clearMixesRow.holds Try.pinned (OpenSpec.ofChange clearMixesWrong)

/-- 'sherpalaw10.ClearAgain': WHATEVER THE INPUT: true; the input reads as it did. -/
def clearAgainSpec : ChangeSpec := { name := "clearAgain", fn := fun _ => fun
  | [d1, d2] => { results := [.lit (.bool true)], args := [d1, d2] }
  | _ => none }
def clearAgainRow : OpenClaim := { program := "ytljgmbebgihonaa", sum := "e764da1f2b36501f2cc13f380e02438a01aaedc546640ffc7c495a215e555bce", func := "sherpa/sherpalaw10.ClearAgain", spec := "clearAgain", unfollowed := true, recurses := true, apart := false }
def ClearAgainSaid : Prop := clearAgainRow.holds Try.pinned (OpenSpec.ofChange clearAgainSpec)

/-- ITS FALSE NEIGHBOUR: 'it returns false'. Refute it at one input. -/
def clearAgainWrong : ChangeSpec := { name := "clearAgain", fn := fun _ => fun
  | [d1, d2] => { results := [.lit (.bool false)], args := [d1, d2] }
  | _ => none }
def ClearAgainWrongFalsely : Prop := clearAgainRow.holds Try.pinned (OpenSpec.ofChange clearAgainWrong)

/- THE SECOND FORM. 'bulk': how many values and letters a reading holds, each counted each time it is reached (what is shared counts as often as it is met; a slice's spare places count too). A statement '..UptoSaid' is the law's where the arguments, and the package variables that the reading takes, are together of bulk at most 1048576: NARROWER than '..Said'. Prove '..Said' where nothing that the law and all that it calls make is longer than what came in: it says more and counts as full. Else prove '..UptoSaid'. A law counts once. -/
mutual
def uptoBulk {H : Type} : DataW H → Nat
  | .lit (.string bytes) => bytes.length + 1
  | .lit _ => 1
  | .nil => 1
  | .ptr d => uptoBulk d + 1
  | .slice elems spare => uptoBulkAll elems + uptoBulkAll spare + 1
  | .agg parts => uptoBulkAll parts + 1
  | .iface _ d => uptoBulk d + 1
  | .map entries => uptoBulkEntries entries + 1
  | .held _ => 1
def uptoBulkAll {H : Type} : List (DataW H) → Nat
  | [] => 0
  | d :: r => uptoBulk d + uptoBulkAll r
def uptoBulkEntries {H : Type} : List (Lit × DataW H) → Nat
  | [] => 0
  | x :: r => uptoBulkEntry x + uptoBulkEntries r
def uptoBulkEntry {H : Type} : Lit × DataW H → Nat
  | (.string bytes, d) => bytes.length + uptoBulk d + 1
  | (_, d) => uptoBulk d + 1
 end
def uptoSmall : (H : Type) → List (DataW H) → Bool := fun _ ds => decide (uptoBulkAll ds ≤ 1048576)
def OpenSpec.upto (s : _root_.Go.ChangeSpec) : _root_.Go.OpenSpec := { _root_.Go.OpenSpec.ofChange s with cond := some uptoSmall }

/-- 'sherpalaw10.ClearFollows', WHERE WHAT IT READS IS OF BULK AT MOST 1048576: true; the input reads as it did. -/
def clearFollowsUptoRow : OpenClaim := { program := "ytljgmbebgihonaa", sum := "e764da1f2b36501f2cc13f380e02438a01aaedc546640ffc7c495a215e555bce", func := "sherpa/sherpalaw10.ClearFollows", spec := "clearFollows", unfollowed := true, recurses := true, apart := false, narrowed := true }
def ClearFollowsUptoSaid : Prop := clearFollowsUptoRow.holds Try.pinned (OpenSpec.upto clearFollowsSpec)

/-- 'sherpalaw10.ClearTells', WHERE WHAT IT READS IS OF BULK AT MOST 1048576: true; the input reads as it did. -/
def clearTellsUptoRow : OpenClaim := { program := "ytljgmbebgihonaa", sum := "e764da1f2b36501f2cc13f380e02438a01aaedc546640ffc7c495a215e555bce", func := "sherpa/sherpalaw10.ClearTells", spec := "clearTells", unfollowed := true, recurses := true, apart := false, narrowed := true }
def ClearTellsUptoSaid : Prop := clearTellsUptoRow.holds Try.pinned (OpenSpec.upto clearTellsSpec)

/-- 'sherpalaw10.ClearMixes', WHERE WHAT IT READS IS OF BULK AT MOST 1048576: true; the input reads as it did. -/
def clearMixesUptoRow : OpenClaim := { program := "ytljgmbebgihonaa", sum := "e764da1f2b36501f2cc13f380e02438a01aaedc546640ffc7c495a215e555bce", func := "sherpa/sherpalaw10.ClearMixes", spec := "clearMixes", unfollowed := true, recurses := true, apart := false, narrowed := true }
def ClearMixesUptoSaid : Prop := clearMixesUptoRow.holds Try.pinned (OpenSpec.upto clearMixesSpec)

/-- 'sherpalaw10.ClearAgain', WHERE WHAT IT READS IS OF BULK AT MOST 1048576: true; the input reads as it did. -/
def clearAgainUptoRow : OpenClaim := { program := "ytljgmbebgihonaa", sum := "e764da1f2b36501f2cc13f380e02438a01aaedc546640ffc7c495a215e555bce", func := "sherpa/sherpalaw10.ClearAgain", spec := "clearAgain", unfollowed := true, recurses := true, apart := false, narrowed := true }
def ClearAgainUptoSaid : Prop := clearAgainUptoRow.holds Try.pinned (OpenSpec.upto clearAgainSpec)

end Rows
end Go.Proofs.Ytljgmbebgihonaa
