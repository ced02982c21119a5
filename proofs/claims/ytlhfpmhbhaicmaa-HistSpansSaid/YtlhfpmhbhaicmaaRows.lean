/-
  No cell of these rows narrows 'for every input' (looked for: loops, veiled, ifaces, maps, wideKeys, modest, calm, conditions, laid).
  DERIVED. THE GIVEN ROWS OF THIS SEAT. 5 by the template 'for every input the law returns true; each argument reads behind the call as it read before'; 0 by the template 'total and deterministic' (their statements: YtlhfpmhbhaicmaaTotals.lean).
  GIVEN WITH THE SEED: the statements are not yours to turn. If you find one false, say at which input.
  Laid BY PROGRAM, IN A SANDBOX (cutbox-rows.mjs): the forced cells as the released guide's own fill.sh prints them over the translation 41fc928ef7dda31f… (all of the seat's roots in one cut). By AI agents, Wed Nov 11 2026. No macro, syntax, notation, axiom, sorry.
-/
import Derived.Test.YtlhfpmhbhaicmaaChecked
import GoSem.Claim
import GoSem.ClaimJoined
import GoSem.ClaimMapViews
import Derived.JoinedTies
import Derived.KernelRfl
namespace Go.Proofs.Ytlhfpmhbhaicmaa
/- THE CELL 'sum', in the pinned program and in every row, IS THE sha256 OF THE DUMP (.gsa) THAT YtlhfpmhbhaicmaaProg.lean LOADS. Nothing in Lean hashes anything: it is a label: what it is worth is what the hold of that sum in a sandbox is worth. -/
noncomputable def Try.pinned : Pinned := { name := "ytlhfpmhbhaicmaa", sum := "41fc928ef7dda31f6e43fd900ce8b115ca694e7714466810f9146bae0cf1d412", checked := Try.checked }
namespace Rows
def none {H : Type} : Left H := { results := [], args := [] }

/-- 'sherpalaw08.HistPlays': WHATEVER THE INPUT: true; the input reads as it did. -/
def histPlaysSpec : ChangeSpec := { name := "histPlays", fn := fun _ => fun
  | [d] => { results := [.lit (.bool true)], args := [d] }
  | _ => none }
def histPlaysRow : OpenClaim := { program := "ytlhfpmhbhaicmaa", sum := "41fc928ef7dda31f6e43fd900ce8b115ca694e7714466810f9146bae0cf1d412", func := "sherpa/sherpalaw08.HistPlays", spec := "histPlays", apart := false }
def HistPlaysSaid : Prop := histPlaysRow.holds Try.pinned (OpenSpec.ofChange histPlaysSpec)

/-- ITS FALSE NEIGHBOUR: 'it returns false'. Refute it at one input. -/
def histPlaysWrong : ChangeSpec := { name := "histPlays", fn := fun _ => fun
  | [d] => { results := [.lit (.bool false)], args := [d] }
  | _ => none }
def HistPlaysWrongFalsely : Prop := histPlaysRow.holds Try.pinned (OpenSpec.ofChange histPlaysWrong)

/-- 'sherpalaw08.HistOf': WHATEVER THE INPUT: true; the input reads as it did. -/
def histOfSpec : ChangeSpec := { name := "histOf", fn := fun _ => fun
  | [d] => { results := [.lit (.bool true)], args := [d] }
  | _ => none }
def histOfRow : OpenClaim := { program := "ytlhfpmhbhaicmaa", sum := "41fc928ef7dda31f6e43fd900ce8b115ca694e7714466810f9146bae0cf1d412", func := "sherpa/sherpalaw08.HistOf", spec := "histOf", apart := false }
def HistOfSaid : Prop := histOfRow.holds Try.pinned (OpenSpec.ofChange histOfSpec)

/-- ITS FALSE NEIGHBOUR: 'it returns false'. Refute it at one input. -/
def histOfWrong : ChangeSpec := { name := "histOf", fn := fun _ => fun
  | [d] => { results := [.lit (.bool false)], args := [d] }
  | _ => none }
def HistOfWrongFalsely : Prop := histOfRow.holds Try.pinned (OpenSpec.ofChange histOfWrong)

/-- 'sherpalaw08.HistCopies': WHATEVER THE INPUT: true; the input reads as it did. -/
def histCopiesSpec : ChangeSpec := { name := "histCopies", fn := fun _ => fun
  | [d1, d2] => { results := [.lit (.bool true)], args := [d1, d2] }
  | _ => none }
def histCopiesRow : OpenClaim := { program := "ytlhfpmhbhaicmaa", sum := "41fc928ef7dda31f6e43fd900ce8b115ca694e7714466810f9146bae0cf1d412", func := "sherpa/sherpalaw08.HistCopies", spec := "histCopies", apart := false }
def HistCopiesSaid : Prop := histCopiesRow.holds Try.pinned (OpenSpec.ofChange histCopiesSpec)

/-- ITS FALSE NEIGHBOUR: 'it returns false'. Refute it at one input. -/
def histCopiesWrong : ChangeSpec := { name := "histCopies", fn := fun _ => fun
  | [d1, d2] => { results := [.lit (.bool false)], args := [d1, d2] }
  | _ => none }
def HistCopiesWrongFalsely : Prop := histCopiesRow.holds Try.pinned (OpenSpec.ofChange histCopiesWrong)

/-- 'sherpalaw08.HistSpans': WHATEVER THE INPUT: true; the input reads as it did. -/
def histSpansSpec : ChangeSpec := { name := "histSpans", fn := fun _ => fun
  | [d1, d2, d3] => { results := [.lit (.bool true)], args := [d1, d2, d3] }
  | _ => none }
def histSpansRow : OpenClaim := { program := "ytlhfpmhbhaicmaa", sum := "41fc928ef7dda31f6e43fd900ce8b115ca694e7714466810f9146bae0cf1d412", func := "sherpa/sherpalaw08.HistSpans", spec := "histSpans", apart := false }
def HistSpansSaid : Prop := histSpansRow.holds Try.pinned (OpenSpec.ofChange histSpansSpec)

/-- ITS FALSE NEIGHBOUR: 'it returns false'. Refute it at one input. -/
def histSpansWrong : ChangeSpec := { name := "histSpans", fn := fun _ => fun
  | [d1, d2, d3] => { results := [.lit (.bool false)], args := [d1, d2, d3] }
  | _ => none }
def HistSpansWrongFalsely : Prop := histSpansRow.holds Try.pinned (OpenSpec.ofChange histSpansWrong)

/-- 'sherpalaw08.HistAlone': WHATEVER THE INPUT: true; the input reads as it did. -/
def histAloneSpec : ChangeSpec := { name := "histAlone", fn := fun _ => fun
  | [d] => { results := [.lit (.bool true)], args := [d] }
  | _ => none }
def histAloneRow : OpenClaim := { program := "ytlhfpmhbhaicmaa", sum := "41fc928ef7dda31f6e43fd900ce8b115ca694e7714466810f9146bae0cf1d412", func := "sherpa/sherpalaw08.HistAlone", spec := "histAlone", apart := false }
def HistAloneSaid : Prop := histAloneRow.holds Try.pinned (OpenSpec.ofChange histAloneSpec)

/-- ITS FALSE NEIGHBOUR: 'it returns false'. Refute it at one input. -/
def histAloneWrong : ChangeSpec := { name := "histAlone", fn := fun _ => fun
  | [d] => { results := [.lit (.bool false)], args := [d] }
  | _ => none }
def HistAloneWrongFalsely : Prop := histAloneRow.holds Try.pinned (OpenSpec.ofChange histAloneWrong)

/- THE SECOND FORM. 'bulk': how many values and letters a reading holds, each counted each time it is reached (what is shared counts as often as it is met; a slice's spare places count too). A statement '..UptoSaid' is the law's where the arguments, and the package variables that the reading takes, are together of bulk at most 1048576: NARROWER than '..Said'. Prove '..Said' where nothing that the law and all that it calls make is longer than what came in: it says more and counts as full. Else prove '..UptoSaid'. A law counts once. -/
mutual
def uptoBulk {H : Type} : DataW H → Nat
  | .lit (.string bytes) => bytes.length + 1
  | .lit _ => 1
  | .nil => 1
  | .ptr d => uptoBulk d + 1
  | .slice elems spare => uptoBulkAll elems + uptoBulkAll spare + 1
  | .agg parts => uptoBulkAll parts + 1
  | .iface _ d => uptoBulk d + 1
  | .map entries => uptoBulkEntries entries + 1
  | .held _ => 1
def uptoBulkAll {H : Type} : List (DataW H) → Nat
  | [] => 0
  | d :: r => uptoBulk d + uptoBulkAll r
def uptoBulkEntries {H : Type} : List (Lit × DataW H) → Nat
  | [] => 0
  | x :: r => uptoBulkEntry x + uptoBulkEntries r
def uptoBulkEntry {H : Type} : Lit × DataW H → Nat
  | (.string bytes, d) => bytes.length + uptoBulk d + 1
  | (_, d) => uptoBulk d + 1
 end
def uptoSmall : (H : Type) → List (DataW H) → Bool := fun _ ds => decide (uptoBulkAll ds ≤ 1048576)
def OpenSpec.upto (s : _root_.Go.ChangeSpec) : _root_.Go.OpenSpec := { _root_.Go.OpenSpec.ofChange s with cond := some uptoSmall }

/-- 'sherpalaw08.HistPlays', WHERE WHAT IT READS IS OF BULK AT MOST 1048576: true; the input reads as it did. -/
def histPlaysUptoRow : OpenClaim := { program := "ytlhfpmhbhaicmaa", sum := "41fc928ef7dda31f6e43fd900ce8b115ca694e7714466810f9146bae0cf1d412", func := "sherpa/sherpalaw08.HistPlays", spec := "histPlays", apart := false, narrowed := true }
def HistPlaysUptoSaid : Prop := histPlaysUptoRow.holds Try.pinned (OpenSpec.upto histPlaysSpec)

/-- 'sherpalaw08.HistOf', WHERE WHAT IT READS IS OF BULK AT MOST 1048576: true; the input reads as it did. -/
def histOfUptoRow : OpenClaim := { program := "ytlhfpmhbhaicmaa", sum := "41fc928ef7dda31f6e43fd900ce8b115ca694e7714466810f9146bae0cf1d412", func := "sherpa/sherpalaw08.HistOf", spec := "histOf", apart := false, narrowed := true }
def HistOfUptoSaid : Prop := histOfUptoRow.holds Try.pinned (OpenSpec.upto histOfSpec)

/-- 'sherpalaw08.HistCopies', WHERE WHAT IT READS IS OF BULK AT MOST 1048576: true; the input reads as it did. -/
def histCopiesUptoRow : OpenClaim := { program := "ytlhfpmhbhaicmaa", sum := "41fc928ef7dda31f6e43fd900ce8b115ca694e7714466810f9146bae0cf1d412", func := "sherpa/sherpalaw08.HistCopies", spec := "histCopies", apart := false, narrowed := true }
def HistCopiesUptoSaid : Prop := histCopiesUptoRow.holds Try.pinned (OpenSpec.upto histCopiesSpec)

/-- 'sherpalaw08.HistSpans', WHERE WHAT IT READS IS OF BULK AT MOST 1048576: true; the input reads as it did. -/
def histSpansUptoRow : OpenClaim := { program := "ytlhfpmhbhaicmaa", sum := "41fc928ef7dda31f6e43fd900ce8b115ca694e7714466810f9146bae0cf1d412", func := "sherpa/sherpalaw08.HistSpans", spec := "histSpans", apart := false, narrowed := true }
def HistSpansUptoSaid : Prop := histSpansUptoRow.holds Try.pinned (OpenSpec.upto histSpansSpec)

/-- 'sherpalaw08.HistAlone', WHERE WHAT IT READS IS OF BULK AT MOST 1048576: true; the input reads as it did. -/
def histAloneUptoRow : OpenClaim := { program := "ytlhfpmhbhaicmaa", sum := "41fc928ef7dda31f6e43fd900ce8b115ca694e7714466810f9146bae0cf1d412", func := "sherpa/sherpalaw08.HistAlone", spec := "histAlone", apart := false, narrowed := true }
def HistAloneUptoSaid : Prop := histAloneUptoRow.holds Try.pinned (OpenSpec.upto histAloneSpec)

end Rows
end Go.Proofs.Ytlhfpmhbhaicmaa
