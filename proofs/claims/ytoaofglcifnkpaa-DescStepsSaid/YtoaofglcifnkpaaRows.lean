/-
  No cell of these rows narrows 'for every input' (looked for: loops, veiled, ifaces, maps, wideKeys, modest, calm, conditions, laid).
  DERIVED. THE GIVEN ROWS OF THIS SEAT. 5 by the template 'for every input the law returns true; each argument reads behind the call as it read before'; 0 by the template 'total and deterministic' (their statements: YtoaofglcifnkpaaTotals.lean).
  GIVEN WITH THE SEED: the statements are not yours to turn. If you find one false, say at which input.
  Laid BY PROGRAM, IN A SANDBOX (cutbox-rows.mjs): the forced cells as the released guide's own fill.sh prints them over the translation fa19dc684d9eaca3… (all of the seat's roots in one cut). By AI agents, Wed Nov 11 2026. No macro, syntax, notation, axiom, sorry.
-/
import Derived.Test.YtoaofglcifnkpaaChecked
import GoSem.Claim
import GoSem.ClaimJoined
import GoSem.ClaimMapViews
import Derived.JoinedTies
import Derived.KernelRfl
namespace Go.Proofs.Ytoaofglcifnkpaa
/- THE CELL 'sum', in the pinned program and in every row, IS THE sha256 OF THE DUMP (.gsa) THAT YtoaofglcifnkpaaProg.lean LOADS. Nothing in Lean hashes anything: it is a label: what it is worth is what the hold of that sum in a sandbox is worth. -/
noncomputable def Try.pinned : Pinned := { name := "ytoaofglcifnkpaa", sum := "fa19dc684d9eaca31df5b5921dd33c1df70a91b10a80c73ac2815682d64fe3c6", checked := Try.checked }
namespace Rows
def none {H : Type} : Left H := { results := [], args := [] }

/-- 'sherpalaw02.DescPuts': WHATEVER THE INPUT: true; the input reads as it did. -/
def descPutsSpec : ChangeSpec := { name := "descPuts", fn := fun _ => fun
  | [d] => { results := [.lit (.bool true)], args := [d] }
  | _ => none }
def descPutsRow : OpenClaim := { program := "ytoaofglcifnkpaa", sum := "fa19dc684d9eaca31df5b5921dd33c1df70a91b10a80c73ac2815682d64fe3c6", func := "sherpa/sherpalaw02.DescPuts", spec := "descPuts", apart := false }
def DescPutsSaid : Prop := descPutsRow.holds Try.pinned (OpenSpec.ofChange descPutsSpec)

/-- ITS FALSE NEIGHBOUR: 'it returns false'. Refute it at one input. -/
def descPutsWrong : ChangeSpec := { name := "descPuts", fn := fun _ => fun
  | [d] => { results := [.lit (.bool false)], args := [d] }
  | _ => none }
def DescPutsWrongFalsely : Prop := descPutsRow.holds Try.pinned (OpenSpec.ofChange descPutsWrong)

/-- 'sherpalaw02.DescGets': WHATEVER THE INPUT: true; the input reads as it did. -/
def descGetsSpec : ChangeSpec := { name := "descGets", fn := fun _ => fun
  | [d] => { results := [.lit (.bool true)], args := [d] }
  | _ => none }
def descGetsRow : OpenClaim := { program := "ytoaofglcifnkpaa", sum := "fa19dc684d9eaca31df5b5921dd33c1df70a91b10a80c73ac2815682d64fe3c6", func := "sherpa/sherpalaw02.DescGets", spec := "descGets", apart := false }
def DescGetsSaid : Prop := descGetsRow.holds Try.pinned (OpenSpec.ofChange descGetsSpec)

/-- ITS FALSE NEIGHBOUR: 'it returns false'. Refute it at one input. -/
def descGetsWrong : ChangeSpec := { name := "descGets", fn := fun _ => fun
  | [d] => { results := [.lit (.bool false)], args := [d] }
  | _ => none }
def DescGetsWrongFalsely : Prop := descGetsRow.holds Try.pinned (OpenSpec.ofChange descGetsWrong)

/-- 'sherpalaw02.DescSteps': WHATEVER THE INPUT: true; the input reads as it did. -/
def descStepsSpec : ChangeSpec := { name := "descSteps", fn := fun _ => fun
  | [d1, d2, d3] => { results := [.lit (.bool true)], args := [d1, d2, d3] }
  | _ => none }
def descStepsRow : OpenClaim := { program := "ytoaofglcifnkpaa", sum := "fa19dc684d9eaca31df5b5921dd33c1df70a91b10a80c73ac2815682d64fe3c6", func := "sherpa/sherpalaw02.DescSteps", spec := "descSteps", apart := false }
def DescStepsSaid : Prop := descStepsRow.holds Try.pinned (OpenSpec.ofChange descStepsSpec)

/-- ITS FALSE NEIGHBOUR: 'it returns false'. Refute it at one input. -/
def descStepsWrong : ChangeSpec := { name := "descSteps", fn := fun _ => fun
  | [d1, d2, d3] => { results := [.lit (.bool false)], args := [d1, d2, d3] }
  | _ => none }
def DescStepsWrongFalsely : Prop := descStepsRow.holds Try.pinned (OpenSpec.ofChange descStepsWrong)

/-- 'sherpalaw02.DescUnlike': WHATEVER THE INPUT: true; the input reads as it did. -/
def descUnlikeSpec : ChangeSpec := { name := "descUnlike", fn := fun _ => fun
  | [d1, d2] => { results := [.lit (.bool true)], args := [d1, d2] }
  | _ => none }
def descUnlikeRow : OpenClaim := { program := "ytoaofglcifnkpaa", sum := "fa19dc684d9eaca31df5b5921dd33c1df70a91b10a80c73ac2815682d64fe3c6", func := "sherpa/sherpalaw02.DescUnlike", spec := "descUnlike", apart := false }
def DescUnlikeSaid : Prop := descUnlikeRow.holds Try.pinned (OpenSpec.ofChange descUnlikeSpec)

/-- ITS FALSE NEIGHBOUR: 'it returns false'. Refute it at one input. -/
def descUnlikeWrong : ChangeSpec := { name := "descUnlike", fn := fun _ => fun
  | [d1, d2] => { results := [.lit (.bool false)], args := [d1, d2] }
  | _ => none }
def DescUnlikeWrongFalsely : Prop := descUnlikeRow.holds Try.pinned (OpenSpec.ofChange descUnlikeWrong)

/-- 'sherpalaw02.DescAttempts': WHATEVER THE INPUT: true; the input reads as it did. -/
def descAttemptsSpec : ChangeSpec := { name := "descAttempts", fn := fun _ => fun
  | [d1, d2] => { results := [.lit (.bool true)], args := [d1, d2] }
  | _ => none }
def descAttemptsRow : OpenClaim := { program := "ytoaofglcifnkpaa", sum := "fa19dc684d9eaca31df5b5921dd33c1df70a91b10a80c73ac2815682d64fe3c6", func := "sherpa/sherpalaw02.DescAttempts", spec := "descAttempts", apart := false }
def DescAttemptsSaid : Prop := descAttemptsRow.holds Try.pinned (OpenSpec.ofChange descAttemptsSpec)

/-- ITS FALSE NEIGHBOUR: 'it returns false'. Refute it at one input. -/
def descAttemptsWrong : ChangeSpec := { name := "descAttempts", fn := fun _ => fun
  | [d1, d2] => { results := [.lit (.bool false)], args := [d1, d2] }
  | _ => none }
def DescAttemptsWrongFalsely : Prop := descAttemptsRow.holds Try.pinned (OpenSpec.ofChange descAttemptsWrong)

/- THE SECOND FORM. 'bulk': how many values and letters a reading holds, each counted each time it is reached (what is shared counts as often as it is met; a slice's spare places count too). A statement '..UptoSaid' is the law's where the arguments, and the package variables that the reading takes, are together of bulk at most 1048576: NARROWER than '..Said'. Prove '..Said' where nothing that the law and all that it calls make is longer than what came in: it says more and counts as full. Else prove '..UptoSaid'. A law counts once. -/
mutual
def uptoBulk {H : Type} : DataW H → Nat
  | .lit (.string bytes) => bytes.length + 1
  | .lit _ => 1
  | .nil => 1
  | .ptr d => uptoBulk d + 1
  | .slice elems spare => uptoBulkAll elems + uptoBulkAll spare + 1
  | .agg parts => uptoBulkAll parts + 1
  | .iface _ d => uptoBulk d + 1
  | .map entries => uptoBulkEntries entries + 1
  | .held _ => 1
def uptoBulkAll {H : Type} : List (DataW H) → Nat
  | [] => 0
  | d :: r => uptoBulk d + uptoBulkAll r
def uptoBulkEntries {H : Type} : List (Lit × DataW H) → Nat
  | [] => 0
  | x :: r => uptoBulkEntry x + uptoBulkEntries r
def uptoBulkEntry {H : Type} : Lit × DataW H → Nat
  | (.string bytes, d) => bytes.length + uptoBulk d + 1
  | (_, d) => uptoBulk d + 1
 end
def uptoSmall : (H : Type) → List (DataW H) → Bool := fun _ ds => decide (uptoBulkAll ds ≤ 1048576)
def OpenSpec.upto (s : _root_.Go.ChangeSpec) : _root_.Go.OpenSpec := { _root_.Go.OpenSpec.ofChange s with cond := some uptoSmall }

/-- 'sherpalaw02.DescPuts', WHERE WHAT IT READS IS OF BULK AT MOST 1048576: true; the input reads as it did. -/
def descPutsUptoRow : OpenClaim := { program := "ytoaofglcifnkpaa", sum := "fa19dc684d9eaca31df5b5921dd33c1df70a91b10a80c73ac2815682d64fe3c6", func := "sherpa/sherpalaw02.DescPuts", spec := "descPuts", apart := false, narrowed := true }
def DescPutsUptoSaid : Prop := descPutsUptoRow.holds Try.pinned (OpenSpec.upto descPutsSpec)

/-- 'sherpalaw02.DescGets', WHERE WHAT IT READS IS OF BULK AT MOST 1048576: true; the input reads as it did. -/
def descGetsUptoRow : OpenClaim := { program := "ytoaofglcifnkpaa", sum := "fa19dc684d9eaca31df5b5921dd33c1df70a91b10a80c73ac2815682d64fe3c6", func := "sherpa/sherpalaw02.DescGets", spec := "descGets", apart := false, narrowed := true }
def DescGetsUptoSaid : Prop := descGetsUptoRow.holds Try.pinned (OpenSpec.upto descGetsSpec)

/-- 'sherpalaw02.DescSteps', WHERE WHAT IT READS IS OF BULK AT MOST 1048576: true; the input reads as it did. -/
def descStepsUptoRow : OpenClaim := { program := "ytoaofglcifnkpaa", sum := "fa19dc684d9eaca31df5b5921dd33c1df70a91b10a80c73ac2815682d64fe3c6", func := "sherpa/sherpalaw02.DescSteps", spec := "descSteps", apart := false, narrowed := true }
def DescStepsUptoSaid : Prop := descStepsUptoRow.holds Try.pinned (OpenSpec.upto descStepsSpec)

/-- 'sherpalaw02.DescUnlike', WHERE WHAT IT READS IS OF BULK AT MOST 1048576: true; the input reads as it did. -/
def descUnlikeUptoRow : OpenClaim := { program := "ytoaofglcifnkpaa", sum := "fa19dc684d9eaca31df5b5921dd33c1df70a91b10a80c73ac2815682d64fe3c6", func := "sherpa/sherpalaw02.DescUnlike", spec := "descUnlike", apart := false, narrowed := true }
def DescUnlikeUptoSaid : Prop := descUnlikeUptoRow.holds Try.pinned (OpenSpec.upto descUnlikeSpec)

/-- 'sherpalaw02.DescAttempts', WHERE WHAT IT READS IS OF BULK AT MOST 1048576: true; the input reads as it did. -/
def descAttemptsUptoRow : OpenClaim := { program := "ytoaofglcifnkpaa", sum := "fa19dc684d9eaca31df5b5921dd33c1df70a91b10a80c73ac2815682d64fe3c6", func := "sherpa/sherpalaw02.DescAttempts", spec := "descAttempts", apart := false, narrowed := true }
def DescAttemptsUptoSaid : Prop := descAttemptsUptoRow.holds Try.pinned (OpenSpec.upto descAttemptsSpec)

end Rows
end Go.Proofs.Ytoaofglcifnkpaa
