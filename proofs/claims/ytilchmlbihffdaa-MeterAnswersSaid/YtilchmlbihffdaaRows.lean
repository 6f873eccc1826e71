/-
  No cell of these rows narrows 'for every input' (looked for: loops, veiled, ifaces, maps, wideKeys, modest, calm, conditions, laid).
  DERIVED. THE GIVEN ROWS OF THIS SEAT. 5 by the template 'for every input the law returns true; each argument reads behind the call as it read before'; 0 by the template 'total and deterministic' (their statements: YtilchmlbihffdaaTotals.lean).
  GIVEN WITH THE SEED: the statements are not yours to turn. If you find one false, say at which input.
  Laid BY PROGRAM, IN A SANDBOX (cutbox-rows.mjs): the forced cells as the released guide's own fill.sh prints them over the translation 67dbfecce790db8a… (all of the seat's roots in one cut). By AI agents, Wed Nov 11 2026. No macro, syntax, notation, axiom, sorry.
-/
import Derived.Test.YtilchmlbihffdaaChecked
import GoSem.Claim
import GoSem.ClaimJoined
import GoSem.ClaimMapViews
import Derived.JoinedTies
import Derived.KernelRfl
namespace Go.Proofs.Ytilchmlbihffdaa
/- THE CELL 'sum', in the pinned program and in every row, IS THE sha256 OF THE DUMP (.gsa) THAT YtilchmlbihffdaaProg.lean LOADS. Nothing in Lean hashes anything: it is a label: what it is worth is what the hold of that sum in a sandbox is worth. -/
noncomputable def Try.pinned : Pinned := { name := "ytilchmlbihffdaa", sum := "67dbfecce790db8a0e5c465502a230effb5281f0ff375710e61cc1a35ac450ab", checked := Try.checked }
namespace Rows
def none {H : Type} : Left H := { results := [], args := [] }

/-- 'batchlinelaw07.MeterAnswers': WHATEVER THE INPUT: true; the input reads as it did. -/
def meterAnswersSpec : ChangeSpec := { name := "meterAnswers", fn := fun _ => fun
  | [d1, d2, d3, d4, d5, d6] => { results := [.lit (.bool true)], args := [d1, d2, d3, d4, d5, d6] }
  | _ => none }
def meterAnswersRow : OpenClaim := { program := "ytilchmlbihffdaa", sum := "67dbfecce790db8a0e5c465502a230effb5281f0ff375710e61cc1a35ac450ab", func := "batchline/batchlinelaw07.MeterAnswers", spec := "meterAnswers", apart := false }
def MeterAnswersSaid : Prop := meterAnswersRow.holds Try.pinned (OpenSpec.ofChange meterAnswersSpec)

/-- ITS FALSE NEIGHBOUR: 'it returns false'. Refute it at one input. -/
def meterAnswersWrong : ChangeSpec := { name := "meterAnswers", fn := fun _ => fun
  | [d1, d2, d3, d4, d5, d6] => { results := [.lit (.bool false)], args := [d1, d2, d3, d4, d5, d6] }
  | _ => none }
def MeterAnswersWrongFalsely : Prop := meterAnswersRow.holds Try.pinned (OpenSpec.ofChange meterAnswersWrong)

/-- 'batchlinelaw07.MeterCounts': WHATEVER THE INPUT: true; the input reads as it did. -/
def meterCountsSpec : ChangeSpec := { name := "meterCounts", fn := fun _ => fun
  | [d1, d2] => { results := [.lit (.bool true)], args := [d1, d2] }
  | _ => none }
def meterCountsRow : OpenClaim := { program := "ytilchmlbihffdaa", sum := "67dbfecce790db8a0e5c465502a230effb5281f0ff375710e61cc1a35ac450ab", func := "batchline/batchlinelaw07.MeterCounts", spec := "meterCounts", apart := false }
def MeterCountsSaid : Prop := meterCountsRow.holds Try.pinned (OpenSpec.ofChange meterCountsSpec)

/-- ITS FALSE NEIGHBOUR: 'it returns false'. Refute it at one input. -/
def meterCountsWrong : ChangeSpec := { name := "meterCounts", fn := fun _ => fun
  | [d1, d2] => { results := [.lit (.bool false)], args := [d1, d2] }
  | _ => none }
def MeterCountsWrongFalsely : Prop := meterCountsRow.holds Try.pinned (OpenSpec.ofChange meterCountsWrong)

/-- 'batchlinelaw07.MeterVolumes': WHATEVER THE INPUT: true; the input reads as it did. -/
def meterVolumesSpec : ChangeSpec := { name := "meterVolumes", fn := fun _ => fun
  | [d] => { results := [.lit (.bool true)], args := [d] }
  | _ => none }
def meterVolumesRow : OpenClaim := { program := "ytilchmlbihffdaa", sum := "67dbfecce790db8a0e5c465502a230effb5281f0ff375710e61cc1a35ac450ab", func := "batchline/batchlinelaw07.MeterVolumes", spec := "meterVolumes", apart := false }
def MeterVolumesSaid : Prop := meterVolumesRow.holds Try.pinned (OpenSpec.ofChange meterVolumesSpec)

/-- ITS FALSE NEIGHBOUR: 'it returns false'. Refute it at one input. -/
def meterVolumesWrong : ChangeSpec := { name := "meterVolumes", fn := fun _ => fun
  | [d] => { results := [.lit (.bool false)], args := [d] }
  | _ => none }
def MeterVolumesWrongFalsely : Prop := meterVolumesRow.holds Try.pinned (OpenSpec.ofChange meterVolumesWrong)

/-- 'batchlinelaw07.MeterScales': WHATEVER THE INPUT: true; the input reads as it did. -/
def meterScalesSpec : ChangeSpec := { name := "meterScales", fn := fun _ => fun
  | [d1, d2, d3, d4] => { results := [.lit (.bool true)], args := [d1, d2, d3, d4] }
  | _ => none }
def meterScalesRow : OpenClaim := { program := "ytilchmlbihffdaa", sum := "67dbfecce790db8a0e5c465502a230effb5281f0ff375710e61cc1a35ac450ab", func := "batchline/batchlinelaw07.MeterScales", spec := "meterScales", apart := false }
def MeterScalesSaid : Prop := meterScalesRow.holds Try.pinned (OpenSpec.ofChange meterScalesSpec)

/-- ITS FALSE NEIGHBOUR: 'it returns false'. Refute it at one input. -/
def meterScalesWrong : ChangeSpec := { name := "meterScales", fn := fun _ => fun
  | [d1, d2, d3, d4] => { results := [.lit (.bool false)], args := [d1, d2, d3, d4] }
  | _ => none }
def MeterScalesWrongFalsely : Prop := meterScalesRow.holds Try.pinned (OpenSpec.ofChange meterScalesWrong)

/-- 'batchlinelaw07.MeterOrder': WHATEVER THE INPUT: true; the input reads as it did. -/
def meterOrderSpec : ChangeSpec := { name := "meterOrder", fn := fun _ => fun
  | [d1, d2, d3, d4] => { results := [.lit (.bool true)], args := [d1, d2, d3, d4] }
  | _ => none }
def meterOrderRow : OpenClaim := { program := "ytilchmlbihffdaa", sum := "67dbfecce790db8a0e5c465502a230effb5281f0ff375710e61cc1a35ac450ab", func := "batchline/batchlinelaw07.MeterOrder", spec := "meterOrder", apart := false }
def MeterOrderSaid : Prop := meterOrderRow.holds Try.pinned (OpenSpec.ofChange meterOrderSpec)

/-- ITS FALSE NEIGHBOUR: 'it returns false'. Refute it at one input. -/
def meterOrderWrong : ChangeSpec := { name := "meterOrder", fn := fun _ => fun
  | [d1, d2, d3, d4] => { results := [.lit (.bool false)], args := [d1, d2, d3, d4] }
  | _ => none }
def MeterOrderWrongFalsely : Prop := meterOrderRow.holds Try.pinned (OpenSpec.ofChange meterOrderWrong)

/- THE SECOND FORM. 'bulk': how many values and letters a reading holds, each counted each time it is reached (what is shared counts as often as it is met; a slice's spare places count too). A statement '..UptoSaid' is the law's where the arguments, and the package variables that the reading takes, are together of bulk at most 1048576: NARROWER than '..Said'. Prove '..Said' where nothing that the law and all that it calls make is longer than what came in: it says more and counts as full. Else prove '..UptoSaid'. A law counts once. -/
mutual
def uptoBulk {H : Type} : DataW H → Nat
  | .lit (.string bytes) => bytes.length + 1
  | .lit _ => 1
  | .nil => 1
  | .ptr d => uptoBulk d + 1
  | .slice elems spare => uptoBulkAll elems + uptoBulkAll spare + 1
  | .agg parts => uptoBulkAll parts + 1
  | .iface _ d => uptoBulk d + 1
  | .map entries => uptoBulkEntries entries + 1
  | .held _ => 1
def uptoBulkAll {H : Type} : List (DataW H) → Nat
  | [] => 0
  | d :: r => uptoBulk d + uptoBulkAll r
def uptoBulkEntries {H : Type} : List (Lit × DataW H) → Nat
  | [] => 0
  | x :: r => uptoBulkEntry x + uptoBulkEntries r
def uptoBulkEntry {H : Type} : Lit × DataW H → Nat
  | (.string bytes, d) => bytes.length + uptoBulk d + 1
  | (_, d) => uptoBulk d + 1
 end
def uptoSmall : (H : Type) → List (DataW H) → Bool := fun _ ds => decide (uptoBulkAll ds ≤ 1048576)
def OpenSpec.upto (s : _root_.Go.ChangeSpec) : _root_.Go.OpenSpec := { _root_.Go.OpenSpec.ofChange s with cond := some uptoSmall }

/-- 'batchlinelaw07.MeterAnswers', WHERE WHAT IT READS IS OF BULK AT MOST 1048576: true; the input reads as it did. -/
def meterAnswersUptoRow : OpenClaim := { program := "ytilchmlbihffdaa", sum := "67dbfecce790db8a0e5c465502a230effb5281f0ff375710e61cc1a35ac450ab", func := "batchline/batchlinelaw07.MeterAnswers", spec := "meterAnswers", apart := false, narrowed := true }
def MeterAnswersUptoSaid : Prop := meterAnswersUptoRow.holds Try.pinned (OpenSpec.upto meterAnswersSpec)

/-- 'batchlinelaw07.MeterCounts', WHERE WHAT IT READS IS OF BULK AT MOST 1048576: true; the input reads as it did. -/
def meterCountsUptoRow : OpenClaim := { program := "ytilchmlbihffdaa", sum := "67dbfecce790db8a0e5c465502a230effb5281f0ff375710e61cc1a35ac450ab", func := "batchline/batchlinelaw07.MeterCounts", spec := "meterCounts", apart := false, narrowed := true }
def MeterCountsUptoSaid : Prop := meterCountsUptoRow.holds Try.pinned (OpenSpec.upto meterCountsSpec)

/-- 'batchlinelaw07.MeterVolumes', WHERE WHAT IT READS IS OF BULK AT MOST 1048576: true; the input reads as it did. -/
def meterVolumesUptoRow : OpenClaim := { program := "ytilchmlbihffdaa", sum := "67dbfecce790db8a0e5c465502a230effb5281f0ff375710e61cc1a35ac450ab", func := "batchline/batchlinelaw07.MeterVolumes", spec := "meterVolumes", apart := false, narrowed := true }
def MeterVolumesUptoSaid : Prop := meterVolumesUptoRow.holds Try.pinned (OpenSpec.upto meterVolumesSpec)

/-- 'batchlinelaw07.MeterScales', WHERE WHAT IT READS IS OF BULK AT MOST 1048576: true; the input reads as it did. -/
def meterScalesUptoRow : OpenClaim := { program := "ytilchmlbihffdaa", sum := "67dbfecce790db8a0e5c465502a230effb5281f0ff375710e61cc1a35ac450ab", func := "batchline/batchlinelaw07.MeterScales", spec := "meterScales", apart := false, narrowed := true }
def MeterScalesUptoSaid : Prop := meterScalesUptoRow.holds Try.pinned (OpenSpec.upto meterScalesSpec)

/-- 'batchlinelaw07.MeterOrder', WHERE WHAT IT READS IS OF BULK AT MOST 1048576: true; the input reads as it did. -/
def meterOrderUptoRow : OpenClaim := { program := "ytilchmlbihffdaa", sum := "67dbfecce790db8a0e5c465502a230effb5281f0ff375710e61cc1a35ac450ab", func := "batchline/batchlinelaw07.MeterOrder", spec := "meterOrder", apart := false, narrowed := true }
def MeterOrderUptoSaid : Prop := meterOrderUptoRow.holds Try.pinned (OpenSpec.upto meterOrderSpec)

end Rows
end Go.Proofs.Ytilchmlbihffdaa
