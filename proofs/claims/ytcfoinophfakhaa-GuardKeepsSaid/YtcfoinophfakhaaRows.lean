/-
  No cell of these rows narrows 'for every input' (looked for: loops, veiled, ifaces, maps, wideKeys, modest, calm, conditions, laid).
  DERIVED. THE GIVEN ROWS OF THIS SEAT. 4 by the template 'for every input the law returns true; each argument reads behind the call as it read before'; 0 by the template 'total and deterministic' (their statements: YtcfoinophfakhaaTotals.lean).
  GIVEN WITH THE SEED: the statements are not yours to turn. If you find one false, say at which input.
  Laid BY PROGRAM, IN A SANDBOX (cutbox-rows.mjs): the forced cells as the released guide's own fill.sh prints them over the translation 47311d83f1b19262… (all of the seat's roots in one cut). By AI agents, Wed Nov 11 2026. No macro, syntax, notation, axiom, sorry.
-/
import Derived.Test.YtcfoinophfakhaaChecked
import GoSem.Claim
import GoSem.ClaimJoined
import GoSem.ClaimMapViews
import Derived.JoinedTies
import Derived.KernelRfl
namespace Go.Proofs.Ytcfoinophfakhaa
/- THE CELL 'sum', in the pinned program and in every row, IS THE sha256 OF THE DUMP (.gsa) THAT YtcfoinophfakhaaProg.lean LOADS. Nothing in Lean hashes anything: it is a label: what it is worth is what the hold of that sum in a sandbox is worth. -/
noncomputable def Try.pinned : Pinned := { name := "ytcfoinophfakhaa", sum := "47311d83f1b19262ba8e9491aaef9374cc4c900b49d8788760a118a3ac9a70e1", checked := Try.checked }
namespace Rows
def none {H : Type} : Left H := { results := [], args := [] }

/-- 'sherpalaw05.GuardScans': WHATEVER THE INPUT: true; the input reads as it did. -/
def guardScansSpec : ChangeSpec := { name := "guardScans", fn := fun _ => fun
  | [d1, d2, d3] => { results := [.lit (.bool true)], args := [d1, d2, d3] }
  | _ => none }
def guardScansRow : OpenClaim := { program := "ytcfoinophfakhaa", sum := "47311d83f1b19262ba8e9491aaef9374cc4c900b49d8788760a118a3ac9a70e1", func := "sherpa/sherpalaw05.GuardScans", spec := "guardScans", unfollowed := true, recurses := true, apart := false }
def GuardScansSaid : Prop := guardScansRow.holds Try.pinned (OpenSpec.ofChange guardScansSpec)

/-- ITS FALSE NEIGHBOUR: 'it returns false'. Refute it at one input. -/
def guardScansWrong : ChangeSpec := { name := "guardScans", fn := fun _ => fun
  | [d1, d2, d3] => { results := [.lit (.bool false)], args := [d1, d2, d3] }
  | _ => none }
def GuardScansWrongFalsely : Prop := guardScansRow.holds Try.pinned (OpenSpec.ofChange guardScansWrong)

/-- 'sherpalaw05.GuardDrops': WHATEVER THE INPUT: true; the input reads as it did. -/
def guardDropsSpec : ChangeSpec := { name := "guardDrops", fn := fun _ => fun
  | [d1, d2, d3] => { results := [.lit (.bool true)], args := [d1, d2, d3] }
  | _ => none }
def guardDropsRow : OpenClaim := { program := "ytcfoinophfakhaa", sum := "47311d83f1b19262ba8e9491aaef9374cc4c900b49d8788760a118a3ac9a70e1", func := "sherpa/sherpalaw05.GuardDrops", spec := "guardDrops", unfollowed := true, recurses := true, apart := false }
def GuardDropsSaid : Prop := guardDropsRow.holds Try.pinned (OpenSpec.ofChange guardDropsSpec)

/-- ITS FALSE NEIGHBOUR: 'it returns false'. Refute it at one input. -/
def guardDropsWrong : ChangeSpec := { name := "guardDrops", fn := fun _ => fun
  | [d1, d2, d3] => { results := [.lit (.bool false)], args := [d1, d2, d3] }
  | _ => none }
def GuardDropsWrongFalsely : Prop := guardDropsRow.holds Try.pinned (OpenSpec.ofChange guardDropsWrong)

/-- 'sherpalaw05.GuardKeeps': WHATEVER THE INPUT: true; the input reads as it did. -/
def guardKeepsSpec : ChangeSpec := { name := "guardKeeps", fn := fun _ => fun
  | [d1, d2, d3] => { results := [.lit (.bool true)], args := [d1, d2, d3] }
  | _ => none }
def guardKeepsRow : OpenClaim := { program := "ytcfoinophfakhaa", sum := "47311d83f1b19262ba8e9491aaef9374cc4c900b49d8788760a118a3ac9a70e1", func := "sherpa/sherpalaw05.GuardKeeps", spec := "guardKeeps", unfollowed := true, recurses := true, apart := false }
def GuardKeepsSaid : Prop := guardKeepsRow.holds Try.pinned (OpenSpec.ofChange guardKeepsSpec)

/-- ITS FALSE NEIGHBOUR: 'it returns false'. Refute it at one input. -/
def guardKeepsWrong : ChangeSpec := { name := "guardKeeps", fn := fun _ => fun
  | [d1, d2, d3] => { results := [.lit (.bool false)], args := [d1, d2, d3] }
  | _ => none }
def GuardKeepsWrongFalsely : Prop := guardKeepsRow.holds Try.pinned (OpenSpec.ofChange guardKeepsWrong)

/-- 'sherpalaw05.GuardTwice': WHATEVER THE INPUT: true; the input reads as it did. -/
def guardTwiceSpec : ChangeSpec := { name := "guardTwice", fn := fun _ => fun
  | [d1, d2, d3] => { results := [.lit (.bool true)], args := [d1, d2, d3] }
  | _ => none }
def guardTwiceRow : OpenClaim := { program := "ytcfoinophfakhaa", sum := "47311d83f1b19262ba8e9491aaef9374cc4c900b49d8788760a118a3ac9a70e1", func := "sherpa/sherpalaw05.GuardTwice", spec := "guardTwice", unfollowed := true, recurses := true, apart := false }
def GuardTwiceSaid : Prop := guardTwiceRow.holds Try.pinned (OpenSpec.ofChange guardTwiceSpec)

/-- ITS FALSE NEIGHBOUR: 'it returns false'. Refute it at one input. -/
def guardTwiceWrong : ChangeSpec := { name := "guardTwice", fn := fun _ => fun
  | [d1, d2, d3] => { results := [.lit (.bool false)], args := [d1, d2, d3] }
  | _ => none }
def GuardTwiceWrongFalsely : Prop := guardTwiceRow.holds Try.pinned (OpenSpec.ofChange guardTwiceWrong)

/- THE SECOND FORM. 'bulk': how many values and letters a reading holds, each counted each time it is reached (what is shared counts as often as it is met; a slice's spare places count too). A statement '..UptoSaid' is the law's where the arguments, and the package variables that the reading takes, are together of bulk at most 1048576: NARROWER than '..Said'. Prove '..Said' where nothing that the law and all that it calls make is longer than what came in: it says more and counts as full. Else prove '..UptoSaid'. A law counts once. -/
mutual
def uptoBulk {H : Type} : DataW H → Nat
  | .lit (.string bytes) => bytes.length + 1
  | .lit _ => 1
  | .nil => 1
  | .ptr d => uptoBulk d + 1
  | .slice elems spare => uptoBulkAll elems + uptoBulkAll spare + 1
  | .agg parts => uptoBulkAll parts + 1
  | .iface _ d => uptoBulk d + 1
  | .map entries => uptoBulkEntries entries + 1
  | .held _ => 1
def uptoBulkAll {H : Type} : List (DataW H) → Nat
  | [] => 0
  | d :: r => uptoBulk d + uptoBulkAll r
def uptoBulkEntries {H : Type} : List (Lit × DataW H) → Nat
  | [] => 0
  | x :: r => uptoBulkEntry x + uptoBulkEntries r
def uptoBulkEntry {H : Type} : Lit × DataW H → Nat
  | (.string bytes, d) => bytes.length + uptoBulk d + 1
  | (_, d) => uptoBulk d + 1
 end
def uptoSmall : (H : Type) → List (DataW H) → Bool := fun _ ds => decide (uptoBulkAll ds ≤ 1048576)
def OpenSpec.upto (s : _root_.Go.ChangeSpec) : _root_.Go.OpenSpec := { _root_.Go.OpenSpec.ofChange s with cond := some uptoSmall }

/-- 'sherpalaw05.GuardScans', WHERE WHAT IT READS IS OF BULK AT MOST 1048576: true; the input reads as it did. -/
def guardScansUptoRow : OpenClaim := { program := "ytcfoinophfakhaa", sum := "47311d83f1b19262ba8e9491aaef9374cc4c900b49d8788760a118a3ac9a70e1", func := "sherpa/sherpalaw05.GuardScans", spec := "guardScans", unfollowed := true, recurses := true, apart := false, narrowed := true }
def GuardScansUptoSaid : Prop := guardScansUptoRow.holds Try.pinned (OpenSpec.upto guardScansSpec)

/-- 'sherpalaw05.GuardDrops', WHERE WHAT IT READS IS OF BULK AT MOST 1048576: true; the input reads as it did. -/
def guardDropsUptoRow : OpenClaim := { program := "ytcfoinophfakhaa", sum := "47311d83f1b19262ba8e9491aaef9374cc4c900b49d8788760a118a3ac9a70e1", func := "sherpa/sherpalaw05.GuardDrops", spec := "guardDrops", unfollowed := true, recurses := true, apart := false, narrowed := true }
def GuardDropsUptoSaid : Prop := guardDropsUptoRow.holds Try.pinned (OpenSpec.upto guardDropsSpec)

/-- 'sherpalaw05.GuardKeeps', WHERE WHAT IT READS IS OF BULK AT MOST 1048576: true; the input reads as it did. -/
def guardKeepsUptoRow : OpenClaim := { program := "ytcfoinophfakhaa", sum := "47311d83f1b19262ba8e9491aaef9374cc4c900b49d8788760a118a3ac9a70e1", func := "sherpa/sherpalaw05.GuardKeeps", spec := "guardKeeps", unfollowed := true, recurses := true, apart := false, narrowed := true }
def GuardKeepsUptoSaid : Prop := guardKeepsUptoRow.holds Try.pinned (OpenSpec.upto guardKeepsSpec)

/-- 'sherpalaw05.GuardTwice', WHERE WHAT IT READS IS OF BULK AT MOST 1048576: true; the input reads as it did. -/
def guardTwiceUptoRow : OpenClaim := { program := "ytcfoinophfakhaa", sum := "47311d83f1b19262ba8e9491aaef9374cc4c900b49d8788760a118a3ac9a70e1", func := "sherpa/sherpalaw05.GuardTwice", spec := "guardTwice", unfollowed := true, recurses := true, apart := false, narrowed := true }
def GuardTwiceUptoSaid : Prop := guardTwiceUptoRow.holds Try.pinned (OpenSpec.upto guardTwiceSpec)

end Rows
end Go.Proofs.Ytcfoinophfakhaa
