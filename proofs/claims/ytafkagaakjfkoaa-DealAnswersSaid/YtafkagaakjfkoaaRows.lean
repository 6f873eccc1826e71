/-
  No cell of these rows narrows 'for every input' (looked for: loops, veiled, ifaces, maps, wideKeys, modest, calm, conditions, laid).
  DERIVED. THE GIVEN ROWS OF THIS SEAT. 6 by the template 'for every input the law returns true; each argument reads behind the call as it read before'; 0 by the template 'total and deterministic' (their statements: YtafkagaakjfkoaaTotals.lean).
  GIVEN WITH THE SEED: the statements are not yours to turn. If you find one false, say at which input.
  Laid BY PROGRAM, IN A SANDBOX (cutbox-rows.mjs): the forced cells as the released guide's own fill.sh prints them over the translation 9857107f648cdb2e… (all of the seat's roots in one cut). By AI agents, Wed Nov 11 2026. No macro, syntax, notation, axiom, sorry.
-/
import Derived.Test.YtafkagaakjfkoaaChecked
import GoSem.Claim
import GoSem.ClaimJoined
import GoSem.ClaimMapViews
import Derived.JoinedTies
import Derived.KernelRfl
namespace Go.Proofs.Ytafkagaakjfkoaa
/- THE CELL 'sum', in the pinned program and in every row, IS THE sha256 OF THE DUMP (.gsa) THAT YtafkagaakjfkoaaProg.lean LOADS. Nothing in Lean hashes anything: it is a label: what it is worth is what the hold of that sum in a sandbox is worth. -/
noncomputable def Try.pinned : Pinned := { name := "ytafkagaakjfkoaa", sum := "9857107f648cdb2e620260e797e7c0ef8b7117256d2b086ea60fcf44582ebb0c", checked := Try.checked }
namespace Rows
def none {H : Type} : Left H := { results := [], args := [] }

/-- 'batchlinelaw17.DealAnswers': WHATEVER THE INPUT: true; the input reads as it did. -/
def dealAnswersSpec : ChangeSpec := { name := "dealAnswers", fn := fun _ => fun
  | [d1, d2, d3, d4] => { results := [.lit (.bool true)], args := [d1, d2, d3, d4] }
  | _ => none }
def dealAnswersRow : OpenClaim := { program := "ytafkagaakjfkoaa", sum := "9857107f648cdb2e620260e797e7c0ef8b7117256d2b086ea60fcf44582ebb0c", func := "batchline/batchlinelaw17.DealAnswers", spec := "dealAnswers", unfollowed := true, recurses := true, apart := false }
def DealAnswersSaid : Prop := dealAnswersRow.holds Try.pinned (OpenSpec.ofChange dealAnswersSpec)

/-- ITS FALSE NEIGHBOUR: 'it returns false'. Refute it at one input. -/
def dealAnswersWrong : ChangeSpec := { name := "dealAnswers", fn := fun _ => fun
  | [d1, d2, d3, d4] => { results := [.lit (.bool false)], args := [d1, d2, d3, d4] }
  | _ => none }
def DealAnswersWrongFalsely : Prop := dealAnswersRow.holds Try.pinned (OpenSpec.ofChange dealAnswersWrong)

/-- 'batchlinelaw17.DealExact': WHATEVER THE INPUT: true; the input reads as it did. -/
def dealExactSpec : ChangeSpec := { name := "dealExact", fn := fun _ => fun
  | [d] => { results := [.lit (.bool true)], args := [d] }
  | _ => none }
def dealExactRow : OpenClaim := { program := "ytafkagaakjfkoaa", sum := "9857107f648cdb2e620260e797e7c0ef8b7117256d2b086ea60fcf44582ebb0c", func := "batchline/batchlinelaw17.DealExact", spec := "dealExact", unfollowed := true, recurses := true, apart := false }
def DealExactSaid : Prop := dealExactRow.holds Try.pinned (OpenSpec.ofChange dealExactSpec)

/-- ITS FALSE NEIGHBOUR: 'it returns false'. Refute it at one input. -/
def dealExactWrong : ChangeSpec := { name := "dealExact", fn := fun _ => fun
  | [d] => { results := [.lit (.bool false)], args := [d] }
  | _ => none }
def DealExactWrongFalsely : Prop := dealExactRow.holds Try.pinned (OpenSpec.ofChange dealExactWrong)

/-- 'batchlinelaw17.DealFair': WHATEVER THE INPUT: true; the input reads as it did. -/
def dealFairSpec : ChangeSpec := { name := "dealFair", fn := fun _ => fun
  | [d1, d2] => { results := [.lit (.bool true)], args := [d1, d2] }
  | _ => none }
def dealFairRow : OpenClaim := { program := "ytafkagaakjfkoaa", sum := "9857107f648cdb2e620260e797e7c0ef8b7117256d2b086ea60fcf44582ebb0c", func := "batchline/batchlinelaw17.DealFair", spec := "dealFair", unfollowed := true, recurses := true, apart := false }
def DealFairSaid : Prop := dealFairRow.holds Try.pinned (OpenSpec.ofChange dealFairSpec)

/-- ITS FALSE NEIGHBOUR: 'it returns false'. Refute it at one input. -/
def dealFairWrong : ChangeSpec := { name := "dealFair", fn := fun _ => fun
  | [d1, d2] => { results := [.lit (.bool false)], args := [d1, d2] }
  | _ => none }
def DealFairWrongFalsely : Prop := dealFairRow.holds Try.pinned (OpenSpec.ofChange dealFairWrong)

/-- 'batchlinelaw17.DealKeeps': WHATEVER THE INPUT: true; the input reads as it did. -/
def dealKeepsSpec : ChangeSpec := { name := "dealKeeps", fn := fun _ => fun
  | [d] => { results := [.lit (.bool true)], args := [d] }
  | _ => none }
def dealKeepsRow : OpenClaim := { program := "ytafkagaakjfkoaa", sum := "9857107f648cdb2e620260e797e7c0ef8b7117256d2b086ea60fcf44582ebb0c", func := "batchline/batchlinelaw17.DealKeeps", spec := "dealKeeps", unfollowed := true, recurses := true, apart := false }
def DealKeepsSaid : Prop := dealKeepsRow.holds Try.pinned (OpenSpec.ofChange dealKeepsSpec)

/-- ITS FALSE NEIGHBOUR: 'it returns false'. Refute it at one input. -/
def dealKeepsWrong : ChangeSpec := { name := "dealKeeps", fn := fun _ => fun
  | [d] => { results := [.lit (.bool false)], args := [d] }
  | _ => none }
def DealKeepsWrongFalsely : Prop := dealKeepsRow.holds Try.pinned (OpenSpec.ofChange dealKeepsWrong)

/-- 'batchlinelaw17.DealParts': WHATEVER THE INPUT: true; the input reads as it did. -/
def dealPartsSpec : ChangeSpec := { name := "dealParts", fn := fun _ => fun
  | [d1, d2] => { results := [.lit (.bool true)], args := [d1, d2] }
  | _ => none }
def dealPartsRow : OpenClaim := { program := "ytafkagaakjfkoaa", sum := "9857107f648cdb2e620260e797e7c0ef8b7117256d2b086ea60fcf44582ebb0c", func := "batchline/batchlinelaw17.DealParts", spec := "dealParts", unfollowed := true, recurses := true, apart := false }
def DealPartsSaid : Prop := dealPartsRow.holds Try.pinned (OpenSpec.ofChange dealPartsSpec)

/-- ITS FALSE NEIGHBOUR: 'it returns false'. Refute it at one input. -/
def dealPartsWrong : ChangeSpec := { name := "dealParts", fn := fun _ => fun
  | [d1, d2] => { results := [.lit (.bool false)], args := [d1, d2] }
  | _ => none }
def DealPartsWrongFalsely : Prop := dealPartsRow.holds Try.pinned (OpenSpec.ofChange dealPartsWrong)

/-- 'batchlinelaw17.DealGrows': WHATEVER THE INPUT: true; the input reads as it did. -/
def dealGrowsSpec : ChangeSpec := { name := "dealGrows", fn := fun _ => fun
  | [d1, d2, d3] => { results := [.lit (.bool true)], args := [d1, d2, d3] }
  | _ => none }
def dealGrowsRow : OpenClaim := { program := "ytafkagaakjfkoaa", sum := "9857107f648cdb2e620260e797e7c0ef8b7117256d2b086ea60fcf44582ebb0c", func := "batchline/batchlinelaw17.DealGrows", spec := "dealGrows", unfollowed := true, recurses := true, apart := false }
def DealGrowsSaid : Prop := dealGrowsRow.holds Try.pinned (OpenSpec.ofChange dealGrowsSpec)

/-- ITS FALSE NEIGHBOUR: 'it returns false'. Refute it at one input. -/
def dealGrowsWrong : ChangeSpec := { name := "dealGrows", fn := fun _ => fun
  | [d1, d2, d3] => { results := [.lit (.bool false)], args := [d1, d2, d3] }
  | _ => none }
def DealGrowsWrongFalsely : Prop := dealGrowsRow.holds Try.pinned (OpenSpec.ofChange dealGrowsWrong)

/- THE SECOND FORM. 'bulk': how many values and letters a reading holds, each counted each time it is reached (what is shared counts as often as it is met; a slice's spare places count too). A statement '..UptoSaid' is the law's where the arguments, and the package variables that the reading takes, are together of bulk at most 1048576: NARROWER than '..Said'. Prove '..Said' where nothing that the law and all that it calls make is longer than what came in: it says more and counts as full. Else prove '..UptoSaid'. A law counts once. -/
mutual
def uptoBulk {H : Type} : DataW H → Nat
  | .lit (.string bytes) => bytes.length + 1
  | .lit _ => 1
  | .nil => 1
  | .ptr d => uptoBulk d + 1
  | .slice elems spare => uptoBulkAll elems + uptoBulkAll spare + 1
  | .agg parts => uptoBulkAll parts + 1
  | .iface _ d => uptoBulk d + 1
  | .map entries => uptoBulkEntries entries + 1
  | .held _ => 1
def uptoBulkAll {H : Type} : List (DataW H) → Nat
  | [] => 0
  | d :: r => uptoBulk d + uptoBulkAll r
def uptoBulkEntries {H : Type} : List (Lit × DataW H) → Nat
  | [] => 0
  | x :: r => uptoBulkEntry x + uptoBulkEntries r
def uptoBulkEntry {H : Type} : Lit × DataW H → Nat
  | (.string bytes, d) => bytes.length + uptoBulk d + 1
  | (_, d) => uptoBulk d + 1
 end
def uptoSmall : (H : Type) → List (DataW H) → Bool := fun _ ds => decide (uptoBulkAll ds ≤ 1048576)
def OpenSpec.upto (s : _root_.Go.ChangeSpec) : _root_.Go.OpenSpec := { _root_.Go.OpenSpec.ofChange s with cond := some uptoSmall }

/-- 'batchlinelaw17.DealAnswers', WHERE WHAT IT READS IS OF BULK AT MOST 1048576: true; the input reads as it did. -/
def dealAnswersUptoRow : OpenClaim := { program := "ytafkagaakjfkoaa", sum := "9857107f648cdb2e620260e797e7c0ef8b7117256d2b086ea60fcf44582ebb0c", func := "batchline/batchlinelaw17.DealAnswers", spec := "dealAnswers", unfollowed := true, recurses := true, apart := false, narrowed := true }
def DealAnswersUptoSaid : Prop := dealAnswersUptoRow.holds Try.pinned (OpenSpec.upto dealAnswersSpec)

/-- 'batchlinelaw17.DealExact', WHERE WHAT IT READS IS OF BULK AT MOST 1048576: true; the input reads as it did. -/
def dealExactUptoRow : OpenClaim := { program := "ytafkagaakjfkoaa", sum := "9857107f648cdb2e620260e797e7c0ef8b7117256d2b086ea60fcf44582ebb0c", func := "batchline/batchlinelaw17.DealExact", spec := "dealExact", unfollowed := true, recurses := true, apart := false, narrowed := true }
def DealExactUptoSaid : Prop := dealExactUptoRow.holds Try.pinned (OpenSpec.upto dealExactSpec)

/-- 'batchlinelaw17.DealFair', WHERE WHAT IT READS IS OF BULK AT MOST 1048576: true; the input reads as it did. -/
def dealFairUptoRow : OpenClaim := { program := "ytafkagaakjfkoaa", sum := "9857107f648cdb2e620260e797e7c0ef8b7117256d2b086ea60fcf44582ebb0c", func := "batchline/batchlinelaw17.DealFair", spec := "dealFair", unfollowed := true, recurses := true, apart := false, narrowed := true }
def DealFairUptoSaid : Prop := dealFairUptoRow.holds Try.pinned (OpenSpec.upto dealFairSpec)

/-- 'batchlinelaw17.DealKeeps', WHERE WHAT IT READS IS OF BULK AT MOST 1048576: true; the input reads as it did. -/
def dealKeepsUptoRow : OpenClaim := { program := "ytafkagaakjfkoaa", sum := "9857107f648cdb2e620260e797e7c0ef8b7117256d2b086ea60fcf44582ebb0c", func := "batchline/batchlinelaw17.DealKeeps", spec := "dealKeeps", unfollowed := true, recurses := true, apart := false, narrowed := true }
def DealKeepsUptoSaid : Prop := dealKeepsUptoRow.holds Try.pinned (OpenSpec.upto dealKeepsSpec)

/-- 'batchlinelaw17.DealParts', WHERE WHAT IT READS IS OF BULK AT MOST 1048576: true; the input reads as it did. -/
def dealPartsUptoRow : OpenClaim := { program := "ytafkagaakjfkoaa", sum := "9857107f648cdb2e620260e797e7c0ef8b7117256d2b086ea60fcf44582ebb0c", func := "batchline/batchlinelaw17.DealParts", spec := "dealParts", unfollowed := true, recurses := true, apart := false, narrowed := true }
def DealPartsUptoSaid : Prop := dealPartsUptoRow.holds Try.pinned (OpenSpec.upto dealPartsSpec)

/-- 'batchlinelaw17.DealGrows', WHERE WHAT IT READS IS OF BULK AT MOST 1048576: true; the input reads as it did. -/
def dealGrowsUptoRow : OpenClaim := { program := "ytafkagaakjfkoaa", sum := "9857107f648cdb2e620260e797e7c0ef8b7117256d2b086ea60fcf44582ebb0c", func := "batchline/batchlinelaw17.DealGrows", spec := "dealGrows", unfollowed := true, recurses := true, apart := false, narrowed := true }
def DealGrowsUptoSaid : Prop := dealGrowsUptoRow.holds Try.pinned (OpenSpec.upto dealGrowsSpec)

end Rows
end Go.Proofs.Ytafkagaakjfkoaa
