/-
  No cell of these rows narrows 'for every input' (looked for: loops, veiled, ifaces, maps, wideKeys, modest, calm, conditions, laid).
  DERIVED. THE GIVEN ROWS OF THIS SEAT. 7 by the template 'for every input the law returns true; each argument reads behind the call as it read before'; 0 by the template 'total and deterministic' (their statements: YtaghcdelnjjncaaTotals.lean).
  GIVEN WITH THE SEED: the statements are not yours to turn. If you find one false, say at which input.
  Laid BY PROGRAM, IN A SANDBOX (cutbox-rows.mjs): the forced cells as the released guide's own fill.sh prints them over the translation ef75a3952d53372a… (all of the seat's roots in one cut). By AI agents, Wed Nov 11 2026. No macro, syntax, notation, axiom, sorry.
-/
import Derived.Test.YtaghcdelnjjncaaChecked
import GoSem.Claim
import GoSem.ClaimJoined
import GoSem.ClaimMapViews
import Derived.JoinedTies
import Derived.KernelRfl
namespace Go.Proofs.Ytaghcdelnjjncaa
/- THE CELL 'sum', in the pinned program and in every row, IS THE sha256 OF THE DUMP (.gsa) THAT YtaghcdelnjjncaaProg.lean LOADS. Nothing in Lean hashes anything: it is a label: what it is worth is what the hold of that sum in a sandbox is worth. -/
noncomputable def Try.pinned : Pinned := { name := "ytaghcdelnjjncaa", sum := "ef75a3952d53372a6bde97bf938082c7187b6b3fdd2dd65560a196ee50bfac34", checked := Try.checked }
namespace Rows
def none {H : Type} : Left H := { results := [], args := [] }

/-- 'batchlinelaw14.PieceAnswers': WHATEVER THE INPUT: true; the input reads as it did. -/
def pieceAnswersSpec : ChangeSpec := { name := "pieceAnswers", fn := fun _ => fun
  | [d1, d2, d3, d4, d5, d6] => { results := [.lit (.bool true)], args := [d1, d2, d3, d4, d5, d6] }
  | _ => none }
def pieceAnswersRow : OpenClaim := { program := "ytaghcdelnjjncaa", sum := "ef75a3952d53372a6bde97bf938082c7187b6b3fdd2dd65560a196ee50bfac34", func := "batchline/batchlinelaw14.PieceAnswers", spec := "pieceAnswers", unfollowed := true, recurses := true, apart := false }
def PieceAnswersSaid : Prop := pieceAnswersRow.holds Try.pinned (OpenSpec.ofChange pieceAnswersSpec)

/-- ITS FALSE NEIGHBOUR: 'it returns false'. Refute it at one input. -/
def pieceAnswersWrong : ChangeSpec := { name := "pieceAnswers", fn := fun _ => fun
  | [d1, d2, d3, d4, d5, d6] => { results := [.lit (.bool false)], args := [d1, d2, d3, d4, d5, d6] }
  | _ => none }
def PieceAnswersWrongFalsely : Prop := pieceAnswersRow.holds Try.pinned (OpenSpec.ofChange pieceAnswersWrong)

/-- 'batchlinelaw14.PieceKeeps': WHATEVER THE INPUT: true; the input reads as it did. -/
def pieceKeepsSpec : ChangeSpec := { name := "pieceKeeps", fn := fun _ => fun
  | [d1, d2] => { results := [.lit (.bool true)], args := [d1, d2] }
  | _ => none }
def pieceKeepsRow : OpenClaim := { program := "ytaghcdelnjjncaa", sum := "ef75a3952d53372a6bde97bf938082c7187b6b3fdd2dd65560a196ee50bfac34", func := "batchline/batchlinelaw14.PieceKeeps", spec := "pieceKeeps", unfollowed := true, recurses := true, apart := false }
def PieceKeepsSaid : Prop := pieceKeepsRow.holds Try.pinned (OpenSpec.ofChange pieceKeepsSpec)

/-- ITS FALSE NEIGHBOUR: 'it returns false'. Refute it at one input. -/
def pieceKeepsWrong : ChangeSpec := { name := "pieceKeeps", fn := fun _ => fun
  | [d1, d2] => { results := [.lit (.bool false)], args := [d1, d2] }
  | _ => none }
def PieceKeepsWrongFalsely : Prop := pieceKeepsRow.holds Try.pinned (OpenSpec.ofChange pieceKeepsWrong)

/-- 'batchlinelaw14.PieceUndoes': WHATEVER THE INPUT: true; the input reads as it did. -/
def pieceUndoesSpec : ChangeSpec := { name := "pieceUndoes", fn := fun _ => fun
  | [d1, d2] => { results := [.lit (.bool true)], args := [d1, d2] }
  | _ => none }
def pieceUndoesRow : OpenClaim := { program := "ytaghcdelnjjncaa", sum := "ef75a3952d53372a6bde97bf938082c7187b6b3fdd2dd65560a196ee50bfac34", func := "batchline/batchlinelaw14.PieceUndoes", spec := "pieceUndoes", unfollowed := true, recurses := true, apart := false }
def PieceUndoesSaid : Prop := pieceUndoesRow.holds Try.pinned (OpenSpec.ofChange pieceUndoesSpec)

/-- ITS FALSE NEIGHBOUR: 'it returns false'. Refute it at one input. -/
def pieceUndoesWrong : ChangeSpec := { name := "pieceUndoes", fn := fun _ => fun
  | [d1, d2] => { results := [.lit (.bool false)], args := [d1, d2] }
  | _ => none }
def PieceUndoesWrongFalsely : Prop := pieceUndoesRow.holds Try.pinned (OpenSpec.ofChange pieceUndoesWrong)

/-- 'batchlinelaw14.PieceParts': WHATEVER THE INPUT: true; the input reads as it did. -/
def piecePartsSpec : ChangeSpec := { name := "pieceParts", fn := fun _ => fun
  | [d1, d2, d3] => { results := [.lit (.bool true)], args := [d1, d2, d3] }
  | _ => none }
def piecePartsRow : OpenClaim := { program := "ytaghcdelnjjncaa", sum := "ef75a3952d53372a6bde97bf938082c7187b6b3fdd2dd65560a196ee50bfac34", func := "batchline/batchlinelaw14.PieceParts", spec := "pieceParts", unfollowed := true, recurses := true, apart := false }
def PiecePartsSaid : Prop := piecePartsRow.holds Try.pinned (OpenSpec.ofChange piecePartsSpec)

/-- ITS FALSE NEIGHBOUR: 'it returns false'. Refute it at one input. -/
def piecePartsWrong : ChangeSpec := { name := "pieceParts", fn := fun _ => fun
  | [d1, d2, d3] => { results := [.lit (.bool false)], args := [d1, d2, d3] }
  | _ => none }
def PiecePartsWrongFalsely : Prop := piecePartsRow.holds Try.pinned (OpenSpec.ofChange piecePartsWrong)

/-- 'batchlinelaw14.PiecePlaces': WHATEVER THE INPUT: true; the input reads as it did. -/
def piecePlacesSpec : ChangeSpec := { name := "piecePlaces", fn := fun _ => fun
  | [d1, d2] => { results := [.lit (.bool true)], args := [d1, d2] }
  | _ => none }
def piecePlacesRow : OpenClaim := { program := "ytaghcdelnjjncaa", sum := "ef75a3952d53372a6bde97bf938082c7187b6b3fdd2dd65560a196ee50bfac34", func := "batchline/batchlinelaw14.PiecePlaces", spec := "piecePlaces", unfollowed := true, recurses := true, apart := false }
def PiecePlacesSaid : Prop := piecePlacesRow.holds Try.pinned (OpenSpec.ofChange piecePlacesSpec)

/-- ITS FALSE NEIGHBOUR: 'it returns false'. Refute it at one input. -/
def piecePlacesWrong : ChangeSpec := { name := "piecePlaces", fn := fun _ => fun
  | [d1, d2] => { results := [.lit (.bool false)], args := [d1, d2] }
  | _ => none }
def PiecePlacesWrongFalsely : Prop := piecePlacesRow.holds Try.pinned (OpenSpec.ofChange piecePlacesWrong)

/-- 'batchlinelaw14.PieceMerges': WHATEVER THE INPUT: true; the input reads as it did. -/
def pieceMergesSpec : ChangeSpec := { name := "pieceMerges", fn := fun _ => fun
  | [d] => { results := [.lit (.bool true)], args := [d] }
  | _ => none }
def pieceMergesRow : OpenClaim := { program := "ytaghcdelnjjncaa", sum := "ef75a3952d53372a6bde97bf938082c7187b6b3fdd2dd65560a196ee50bfac34", func := "batchline/batchlinelaw14.PieceMerges", spec := "pieceMerges", unfollowed := true, recurses := true, apart := false }
def PieceMergesSaid : Prop := pieceMergesRow.holds Try.pinned (OpenSpec.ofChange pieceMergesSpec)

/-- ITS FALSE NEIGHBOUR: 'it returns false'. Refute it at one input. -/
def pieceMergesWrong : ChangeSpec := { name := "pieceMerges", fn := fun _ => fun
  | [d] => { results := [.lit (.bool false)], args := [d] }
  | _ => none }
def PieceMergesWrongFalsely : Prop := pieceMergesRow.holds Try.pinned (OpenSpec.ofChange pieceMergesWrong)

/-- 'batchlinelaw14.PieceThrough': WHATEVER THE INPUT: true; the input reads as it did. -/
def pieceThroughSpec : ChangeSpec := { name := "pieceThrough", fn := fun _ => fun
  | [d1, d2] => { results := [.lit (.bool true)], args := [d1, d2] }
  | _ => none }
def pieceThroughRow : OpenClaim := { program := "ytaghcdelnjjncaa", sum := "ef75a3952d53372a6bde97bf938082c7187b6b3fdd2dd65560a196ee50bfac34", func := "batchline/batchlinelaw14.PieceThrough", spec := "pieceThrough", unfollowed := true, recurses := true, apart := false }
def PieceThroughSaid : Prop := pieceThroughRow.holds Try.pinned (OpenSpec.ofChange pieceThroughSpec)

/-- ITS FALSE NEIGHBOUR: 'it returns false'. Refute it at one input. -/
def pieceThroughWrong : ChangeSpec := { name := "pieceThrough", fn := fun _ => fun
  | [d1, d2] => { results := [.lit (.bool false)], args := [d1, d2] }
  | _ => none }
def PieceThroughWrongFalsely : Prop := pieceThroughRow.holds Try.pinned (OpenSpec.ofChange pieceThroughWrong)

/- THE SECOND FORM. 'bulk': how many values and letters a reading holds, each counted each time it is reached (what is shared counts as often as it is met; a slice's spare places count too). A statement '..UptoSaid' is the law's where the arguments, and the package variables that the reading takes, are together of bulk at most 1048576: NARROWER than '..Said'. Prove '..Said' where nothing that the law and all that it calls make is longer than what came in: it says more and counts as full. Else prove '..UptoSaid'. A law counts once. -/
mutual
def uptoBulk {H : Type} : DataW H → Nat
  | .lit (.string bytes) => bytes.length + 1
  | .lit _ => 1
  | .nil => 1
  | .ptr d => uptoBulk d + 1
  | .slice elems spare => uptoBulkAll elems + uptoBulkAll spare + 1
  | .agg parts => uptoBulkAll parts + 1
  | .iface _ d => uptoBulk d + 1
  | .map entries => uptoBulkEntries entries + 1
  | .held _ => 1
def uptoBulkAll {H : Type} : List (DataW H) → Nat
  | [] => 0
  | d :: r => uptoBulk d + uptoBulkAll r
def uptoBulkEntries {H : Type} : List (Lit × DataW H) → Nat
  | [] => 0
  | x :: r => uptoBulkEntry x + uptoBulkEntries r
def uptoBulkEntry {H : Type} : Lit × DataW H → Nat
  | (.string bytes, d) => bytes.length + uptoBulk d + 1
  | (_, d) => uptoBulk d + 1
 end
def uptoSmall : (H : Type) → List (DataW H) → Bool := fun _ ds => decide (uptoBulkAll ds ≤ 1048576)
def OpenSpec.upto (s : _root_.Go.ChangeSpec) : _root_.Go.OpenSpec := { _root_.Go.OpenSpec.ofChange s with cond := some uptoSmall }

/-- 'batchlinelaw14.PieceAnswers', WHERE WHAT IT READS IS OF BULK AT MOST 1048576: true; the input reads as it did. -/
def pieceAnswersUptoRow : OpenClaim := { program := "ytaghcdelnjjncaa", sum := "ef75a3952d53372a6bde97bf938082c7187b6b3fdd2dd65560a196ee50bfac34", func := "batchline/batchlinelaw14.PieceAnswers", spec := "pieceAnswers", unfollowed := true, recurses := true, apart := false, narrowed := true }
def PieceAnswersUptoSaid : Prop := pieceAnswersUptoRow.holds Try.pinned (OpenSpec.upto pieceAnswersSpec)

/-- 'batchlinelaw14.PieceKeeps', WHERE WHAT IT READS IS OF BULK AT MOST 1048576: true; the input reads as it did. -/
def pieceKeepsUptoRow : OpenClaim := { program := "ytaghcdelnjjncaa", sum := "ef75a3952d53372a6bde97bf938082c7187b6b3fdd2dd65560a196ee50bfac34", func := "batchline/batchlinelaw14.PieceKeeps", spec := "pieceKeeps", unfollowed := true, recurses := true, apart := false, narrowed := true }
def PieceKeepsUptoSaid : Prop := pieceKeepsUptoRow.holds Try.pinned (OpenSpec.upto pieceKeepsSpec)

/-- 'batchlinelaw14.PieceUndoes', WHERE WHAT IT READS IS OF BULK AT MOST 1048576: true; the input reads as it did. -/
def pieceUndoesUptoRow : OpenClaim := { program := "ytaghcdelnjjncaa", sum := "ef75a3952d53372a6bde97bf938082c7187b6b3fdd2dd65560a196ee50bfac34", func := "batchline/batchlinelaw14.PieceUndoes", spec := "pieceUndoes", unfollowed := true, recurses := true, apart := false, narrowed := true }
def PieceUndoesUptoSaid : Prop := pieceUndoesUptoRow.holds Try.pinned (OpenSpec.upto pieceUndoesSpec)

/-- 'batchlinelaw14.PieceParts', WHERE WHAT IT READS IS OF BULK AT MOST 1048576: true; the input reads as it did. -/
def piecePartsUptoRow : OpenClaim := { program := "ytaghcdelnjjncaa", sum := "ef75a3952d53372a6bde97bf938082c7187b6b3fdd2dd65560a196ee50bfac34", func := "batchline/batchlinelaw14.PieceParts", spec := "pieceParts", unfollowed := true, recurses := true, apart := false, narrowed := true }
def PiecePartsUptoSaid : Prop := piecePartsUptoRow.holds Try.pinned (OpenSpec.upto piecePartsSpec)

/-- 'batchlinelaw14.PiecePlaces', WHERE WHAT IT READS IS OF BULK AT MOST 1048576: true; the input reads as it did. -/
def piecePlacesUptoRow : OpenClaim := { program := "ytaghcdelnjjncaa", sum := "ef75a3952d53372a6bde97bf938082c7187b6b3fdd2dd65560a196ee50bfac34", func := "batchline/batchlinelaw14.PiecePlaces", spec := "piecePlaces", unfollowed := true, recurses := true, apart := false, narrowed := true }
def PiecePlacesUptoSaid : Prop := piecePlacesUptoRow.holds Try.pinned (OpenSpec.upto piecePlacesSpec)

/-- 'batchlinelaw14.PieceMerges', WHERE WHAT IT READS IS OF BULK AT MOST 1048576: true; the input reads as it did. -/
def pieceMergesUptoRow : OpenClaim := { program := "ytaghcdelnjjncaa", sum := "ef75a3952d53372a6bde97bf938082c7187b6b3fdd2dd65560a196ee50bfac34", func := "batchline/batchlinelaw14.PieceMerges", spec := "pieceMerges", unfollowed := true, recurses := true, apart := false, narrowed := true }
def PieceMergesUptoSaid : Prop := pieceMergesUptoRow.holds Try.pinned (OpenSpec.upto pieceMergesSpec)

/-- 'batchlinelaw14.PieceThrough', WHERE WHAT IT READS IS OF BULK AT MOST 1048576: true; the input reads as it did. -/
def pieceThroughUptoRow : OpenClaim := { program := "ytaghcdelnjjncaa", sum := "ef75a3952d53372a6bde97bf938082c7187b6b3fdd2dd65560a196ee50bfac34", func := "batchline/batchlinelaw14.PieceThrough", spec := "pieceThrough", unfollowed := true, recurses := true, apart := false, narrowed := true }
def PieceThroughUptoSaid : Prop := pieceThroughUptoRow.holds Try.pinned (OpenSpec.upto pieceThroughSpec)

end Rows
end Go.Proofs.Ytaghcdelnjjncaa
