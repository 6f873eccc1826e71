/-
  No cell of these rows narrows 'for every input' (looked for: loops, veiled, ifaces, maps, wideKeys, modest, calm, conditions, laid).
  DERIVED. THE GIVEN ROWS OF THIS SEAT. 6 by the template 'for every input the law returns true; each argument reads behind the call as it read before'; 0 by the template 'total and deterministic' (their statements: YtagemdgbnajobaaTotals.lean).
  GIVEN WITH THE SEED: the statements are not yours to turn. If you find one false, say at which input.
  Laid BY PROGRAM, IN A SANDBOX (cutbox-rows.mjs): the forced cells as the released guide's own fill.sh prints them over the translation 0fcb940c0ca2cea9… (all of the seat's roots in one cut). By AI agents, Wed Nov 11 2026. No macro, syntax, notation, axiom, sorry.
-/
import Derived.Test.YtagemdgbnajobaaChecked
import GoSem.Claim
import GoSem.ClaimJoined
import GoSem.ClaimMapViews
import Derived.JoinedTies
import Derived.KernelRfl
namespace Go.Proofs.Ytagemdgbnajobaa
/- THE CELL 'sum', in the pinned program and in every row, IS THE sha256 OF THE DUMP (.gsa) THAT YtagemdgbnajobaaProg.lean LOADS. Nothing in Lean hashes anything: it is a label: what it is worth is what the hold of that sum in a sandbox is worth. -/
noncomputable def Try.pinned : Pinned := { name := "ytagemdgbnajobaa", sum := "0fcb940c0ca2cea9eaada524170686a9db4a63d94fc50c93caee21b6eec5803c", checked := Try.checked }
namespace Rows
def none {H : Type} : Left H := { results := [], args := [] }

/-- 'batchlinelaw15.BoundaryAnswers': WHATEVER THE INPUT: true; the input reads as it did. -/
def boundaryAnswersSpec : ChangeSpec := { name := "boundaryAnswers", fn := fun _ => fun
  | [d1, d2, d3, d4, d5, d6, d7] => { results := [.lit (.bool true)], args := [d1, d2, d3, d4, d5, d6, d7] }
  | _ => none }
def boundaryAnswersRow : OpenClaim := { program := "ytagemdgbnajobaa", sum := "0fcb940c0ca2cea9eaada524170686a9db4a63d94fc50c93caee21b6eec5803c", func := "batchline/batchlinelaw15.BoundaryAnswers", spec := "boundaryAnswers", unfollowed := true, recurses := true, apart := false }
def BoundaryAnswersSaid : Prop := boundaryAnswersRow.holds Try.pinned (OpenSpec.ofChange boundaryAnswersSpec)

/-- ITS FALSE NEIGHBOUR: 'it returns false'. Refute it at one input. -/
def boundaryAnswersWrong : ChangeSpec := { name := "boundaryAnswers", fn := fun _ => fun
  | [d1, d2, d3, d4, d5, d6, d7] => { results := [.lit (.bool false)], args := [d1, d2, d3, d4, d5, d6, d7] }
  | _ => none }
def BoundaryAnswersWrongFalsely : Prop := boundaryAnswersRow.holds Try.pinned (OpenSpec.ofChange boundaryAnswersWrong)

/-- 'batchlinelaw15.BoundaryLists': WHATEVER THE INPUT: true; the input reads as it did. -/
def boundaryListsSpec : ChangeSpec := { name := "boundaryLists", fn := fun _ => fun
  | [d] => { results := [.lit (.bool true)], args := [d] }
  | _ => none }
def boundaryListsRow : OpenClaim := { program := "ytagemdgbnajobaa", sum := "0fcb940c0ca2cea9eaada524170686a9db4a63d94fc50c93caee21b6eec5803c", func := "batchline/batchlinelaw15.BoundaryLists", spec := "boundaryLists", unfollowed := true, recurses := true, apart := false }
def BoundaryListsSaid : Prop := boundaryListsRow.holds Try.pinned (OpenSpec.ofChange boundaryListsSpec)

/-- ITS FALSE NEIGHBOUR: 'it returns false'. Refute it at one input. -/
def boundaryListsWrong : ChangeSpec := { name := "boundaryLists", fn := fun _ => fun
  | [d] => { results := [.lit (.bool false)], args := [d] }
  | _ => none }
def BoundaryListsWrongFalsely : Prop := boundaryListsRow.holds Try.pinned (OpenSpec.ofChange boundaryListsWrong)

/-- 'batchlinelaw15.BoundaryAhead': WHATEVER THE INPUT: true; the input reads as it did. -/
def boundaryAheadSpec : ChangeSpec := { name := "boundaryAhead", fn := fun _ => fun
  | [d1, d2, d3] => { results := [.lit (.bool true)], args := [d1, d2, d3] }
  | _ => none }
def boundaryAheadRow : OpenClaim := { program := "ytagemdgbnajobaa", sum := "0fcb940c0ca2cea9eaada524170686a9db4a63d94fc50c93caee21b6eec5803c", func := "batchline/batchlinelaw15.BoundaryAhead", spec := "boundaryAhead", unfollowed := true, recurses := true, apart := false }
def BoundaryAheadSaid : Prop := boundaryAheadRow.holds Try.pinned (OpenSpec.ofChange boundaryAheadSpec)

/-- ITS FALSE NEIGHBOUR: 'it returns false'. Refute it at one input. -/
def boundaryAheadWrong : ChangeSpec := { name := "boundaryAhead", fn := fun _ => fun
  | [d1, d2, d3] => { results := [.lit (.bool false)], args := [d1, d2, d3] }
  | _ => none }
def BoundaryAheadWrongFalsely : Prop := boundaryAheadRow.holds Try.pinned (OpenSpec.ofChange boundaryAheadWrong)

/-- 'batchlinelaw15.BoundaryMoves': WHATEVER THE INPUT: true; the input reads as it did. -/
def boundaryMovesSpec : ChangeSpec := { name := "boundaryMoves", fn := fun _ => fun
  | [d1, d2] => { results := [.lit (.bool true)], args := [d1, d2] }
  | _ => none }
def boundaryMovesRow : OpenClaim := { program := "ytagemdgbnajobaa", sum := "0fcb940c0ca2cea9eaada524170686a9db4a63d94fc50c93caee21b6eec5803c", func := "batchline/batchlinelaw15.BoundaryMoves", spec := "boundaryMoves", unfollowed := true, recurses := true, apart := false }
def BoundaryMovesSaid : Prop := boundaryMovesRow.holds Try.pinned (OpenSpec.ofChange boundaryMovesSpec)

/-- ITS FALSE NEIGHBOUR: 'it returns false'. Refute it at one input. -/
def boundaryMovesWrong : ChangeSpec := { name := "boundaryMoves", fn := fun _ => fun
  | [d1, d2] => { results := [.lit (.bool false)], args := [d1, d2] }
  | _ => none }
def BoundaryMovesWrongFalsely : Prop := boundaryMovesRow.holds Try.pinned (OpenSpec.ofChange boundaryMovesWrong)

/-- 'batchlinelaw15.BoundaryMixes': WHATEVER THE INPUT: true; the input reads as it did. -/
def boundaryMixesSpec : ChangeSpec := { name := "boundaryMixes", fn := fun _ => fun
  | [d1, d2, d3, d4] => { results := [.lit (.bool true)], args := [d1, d2, d3, d4] }
  | _ => none }
def boundaryMixesRow : OpenClaim := { program := "ytagemdgbnajobaa", sum := "0fcb940c0ca2cea9eaada524170686a9db4a63d94fc50c93caee21b6eec5803c", func := "batchline/batchlinelaw15.BoundaryMixes", spec := "boundaryMixes", unfollowed := true, recurses := true, apart := false }
def BoundaryMixesSaid : Prop := boundaryMixesRow.holds Try.pinned (OpenSpec.ofChange boundaryMixesSpec)

/-- ITS FALSE NEIGHBOUR: 'it returns false'. Refute it at one input. -/
def boundaryMixesWrong : ChangeSpec := { name := "boundaryMixes", fn := fun _ => fun
  | [d1, d2, d3, d4] => { results := [.lit (.bool false)], args := [d1, d2, d3, d4] }
  | _ => none }
def BoundaryMixesWrongFalsely : Prop := boundaryMixesRow.holds Try.pinned (OpenSpec.ofChange boundaryMixesWrong)

/-- 'batchlinelaw15.BoundaryTurns': WHATEVER THE INPUT: true; the input reads as it did. -/
def boundaryTurnsSpec : ChangeSpec := { name := "boundaryTurns", fn := fun _ => fun
  | [d1, d2, d3] => { results := [.lit (.bool true)], args := [d1, d2, d3] }
  | _ => none }
def boundaryTurnsRow : OpenClaim := { program := "ytagemdgbnajobaa", sum := "0fcb940c0ca2cea9eaada524170686a9db4a63d94fc50c93caee21b6eec5803c", func := "batchline/batchlinelaw15.BoundaryTurns", spec := "boundaryTurns", unfollowed := true, recurses := true, apart := false }
def BoundaryTurnsSaid : Prop := boundaryTurnsRow.holds Try.pinned (OpenSpec.ofChange boundaryTurnsSpec)

/-- ITS FALSE NEIGHBOUR: 'it returns false'. Refute it at one input. -/
def boundaryTurnsWrong : ChangeSpec := { name := "boundaryTurns", fn := fun _ => fun
  | [d1, d2, d3] => { results := [.lit (.bool false)], args := [d1, d2, d3] }
  | _ => none }
def BoundaryTurnsWrongFalsely : Prop := boundaryTurnsRow.holds Try.pinned (OpenSpec.ofChange boundaryTurnsWrong)

/- THE SECOND FORM. 'bulk': how many values and letters a reading holds, each counted each time it is reached (what is shared counts as often as it is met; a slice's spare places count too). A statement '..UptoSaid' is the law's where the arguments, and the package variables that the reading takes, are together of bulk at most 1048576: NARROWER than '..Said'. Prove '..Said' where nothing that the law and all that it calls make is longer than what came in: it says more and counts as full. Else prove '..UptoSaid'. A law counts once. -/
mutual
def uptoBulk {H : Type} : DataW H → Nat
  | .lit (.string bytes) => bytes.length + 1
  | .lit _ => 1
  | .nil => 1
  | .ptr d => uptoBulk d + 1
  | .slice elems spare => uptoBulkAll elems + uptoBulkAll spare + 1
  | .agg parts => uptoBulkAll parts + 1
  | .iface _ d => uptoBulk d + 1
  | .map entries => uptoBulkEntries entries + 1
  | .held _ => 1
def uptoBulkAll {H : Type} : List (DataW H) → Nat
  | [] => 0
  | d :: r => uptoBulk d + uptoBulkAll r
def uptoBulkEntries {H : Type} : List (Lit × DataW H) → Nat
  | [] => 0
  | x :: r => uptoBulkEntry x + uptoBulkEntries r
def uptoBulkEntry {H : Type} : Lit × DataW H → Nat
  | (.string bytes, d) => bytes.length + uptoBulk d + 1
  | (_, d) => uptoBulk d + 1
 end
def uptoSmall : (H : Type) → List (DataW H) → Bool := fun _ ds => decide (uptoBulkAll ds ≤ 1048576)
def OpenSpec.upto (s : _root_.Go.ChangeSpec) : _root_.Go.OpenSpec := { _root_.Go.OpenSpec.ofChange s with cond := some uptoSmall }

/-- 'batchlinelaw15.BoundaryAnswers', WHERE WHAT IT READS IS OF BULK AT MOST 1048576: true; the input reads as it did. -/
def boundaryAnswersUptoRow : OpenClaim := { program := "ytagemdgbnajobaa", sum := "0fcb940c0ca2cea9eaada524170686a9db4a63d94fc50c93caee21b6eec5803c", func := "batchline/batchlinelaw15.BoundaryAnswers", spec := "boundaryAnswers", unfollowed := true, recurses := true, apart := false, narrowed := true }
def BoundaryAnswersUptoSaid : Prop := boundaryAnswersUptoRow.holds Try.pinned (OpenSpec.upto boundaryAnswersSpec)

/-- 'batchlinelaw15.BoundaryLists', WHERE WHAT IT READS IS OF BULK AT MOST 1048576: true; the input reads as it did. -/
def boundaryListsUptoRow : OpenClaim := { program := "ytagemdgbnajobaa", sum := "0fcb940c0ca2cea9eaada524170686a9db4a63d94fc50c93caee21b6eec5803c", func := "batchline/batchlinelaw15.BoundaryLists", spec := "boundaryLists", unfollowed := true, recurses := true, apart := false, narrowed := true }
def BoundaryListsUptoSaid : Prop := boundaryListsUptoRow.holds Try.pinned (OpenSpec.upto boundaryListsSpec)

/-- 'batchlinelaw15.BoundaryAhead', WHERE WHAT IT READS IS OF BULK AT MOST 1048576: true; the input reads as it did. -/
def boundaryAheadUptoRow : OpenClaim := { program := "ytagemdgbnajobaa", sum := "0fcb940c0ca2cea9eaada524170686a9db4a63d94fc50c93caee21b6eec5803c", func := "batchline/batchlinelaw15.BoundaryAhead", spec := "boundaryAhead", unfollowed := true, recurses := true, apart := false, narrowed := true }
def BoundaryAheadUptoSaid : Prop := boundaryAheadUptoRow.holds Try.pinned (OpenSpec.upto boundaryAheadSpec)

/-- 'batchlinelaw15.BoundaryMoves', WHERE WHAT IT READS IS OF BULK AT MOST 1048576: true; the input reads as it did. -/
def boundaryMovesUptoRow : OpenClaim := { program := "ytagemdgbnajobaa", sum := "0fcb940c0ca2cea9eaada524170686a9db4a63d94fc50c93caee21b6eec5803c", func := "batchline/batchlinelaw15.BoundaryMoves", spec := "boundaryMoves", unfollowed := true, recurses := true, apart := false, narrowed := true }
def BoundaryMovesUptoSaid : Prop := boundaryMovesUptoRow.holds Try.pinned (OpenSpec.upto boundaryMovesSpec)

/-- 'batchlinelaw15.BoundaryMixes', WHERE WHAT IT READS IS OF BULK AT MOST 1048576: true; the input reads as it did. -/
def boundaryMixesUptoRow : OpenClaim := { program := "ytagemdgbnajobaa", sum := "0fcb940c0ca2cea9eaada524170686a9db4a63d94fc50c93caee21b6eec5803c", func := "batchline/batchlinelaw15.BoundaryMixes", spec := "boundaryMixes", unfollowed := true, recurses := true, apart := false, narrowed := true }
def BoundaryMixesUptoSaid : Prop := boundaryMixesUptoRow.holds Try.pinned (OpenSpec.upto boundaryMixesSpec)

/-- 'batchlinelaw15.BoundaryTurns', WHERE WHAT IT READS IS OF BULK AT MOST 1048576: true; the input reads as it did. -/
def boundaryTurnsUptoRow : OpenClaim := { program := "ytagemdgbnajobaa", sum := "0fcb940c0ca2cea9eaada524170686a9db4a63d94fc50c93caee21b6eec5803c", func := "batchline/batchlinelaw15.BoundaryTurns", spec := "boundaryTurns", unfollowed := true, recurses := true, apart := false, narrowed := true }
def BoundaryTurnsUptoSaid : Prop := boundaryTurnsUptoRow.holds Try.pinned (OpenSpec.upto boundaryTurnsSpec)

end Rows
end Go.Proofs.Ytagemdgbnajobaa
