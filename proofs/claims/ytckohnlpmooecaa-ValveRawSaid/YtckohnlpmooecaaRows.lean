/-
  No cell of these rows narrows 'for every input' (looked for: loops, veiled, ifaces, maps, wideKeys, modest, calm, conditions, laid).
  DERIVED. THE GIVEN ROWS OF THIS SEAT. 3 by the template 'for every input the law returns true; each argument reads behind the call as it read before'; 0 by the template 'total and deterministic' (their statements: YtckohnlpmooecaaTotals.lean).
  GIVEN WITH THE SEED: the statements are not yours to turn. If you find one false, say at which input.
  Laid BY PROGRAM, IN A SANDBOX (cutbox-rows.mjs): the forced cells as the released guide's own fill.sh prints them over the translation 12c9116b81c2d301… (all of the seat's roots in one cut). By AI agents, Wed Nov 11 2026. No macro, syntax, notation, axiom, sorry.
-/
import Derived.Test.YtckohnlpmooecaaChecked
import GoSem.Claim
import GoSem.ClaimJoined
import GoSem.ClaimMapViews
import Derived.JoinedTies
import Derived.KernelRfl
namespace Go.Proofs.Ytckohnlpmooecaa
/- THE CELL 'sum', in the pinned program and in every row, IS THE sha256 OF THE DUMP (.gsa) THAT YtckohnlpmooecaaProg.lean LOADS. Nothing in Lean hashes anything: it is a label: what it is worth is what the hold of that sum in a sandbox is worth. -/
noncomputable def Try.pinned : Pinned := { name := "ytckohnlpmooecaa", sum := "12c9116b81c2d301d362c1d8635b38e704ad962bda80809a4303e56bc0f0ecb0", checked := Try.checked }
namespace Rows
def none {H : Type} : Left H := { results := [], args := [] }

/-- 'batchlinelaw23.ValveRaw': WHATEVER THE INPUT: true; the input reads as it did. -/
def valveRawSpec : ChangeSpec := { name := "valveRaw", fn := fun _ => fun
  | [d1, d2, d3, d4] => { results := [.lit (.bool true)], args := [d1, d2, d3, d4] }
  | _ => none }
def valveRawRow : OpenClaim := { program := "ytckohnlpmooecaa", sum := "12c9116b81c2d301d362c1d8635b38e704ad962bda80809a4303e56bc0f0ecb0", func := "batchline/batchlinelaw23.ValveRaw", spec := "valveRaw", apart := false }
def ValveRawSaid : Prop := valveRawRow.holds Try.pinned (OpenSpec.ofChange valveRawSpec)

/-- ITS FALSE NEIGHBOUR: 'it returns false'. Refute it at one input. -/
def valveRawWrong : ChangeSpec := { name := "valveRaw", fn := fun _ => fun
  | [d1, d2, d3, d4] => { results := [.lit (.bool false)], args := [d1, d2, d3, d4] }
  | _ => none }
def ValveRawWrongFalsely : Prop := valveRawRow.holds Try.pinned (OpenSpec.ofChange valveRawWrong)

/-- 'batchlinelaw23.ValveArrives': WHATEVER THE INPUT: true; the input reads as it did. -/
def valveArrivesSpec : ChangeSpec := { name := "valveArrives", fn := fun _ => fun
  | [d] => { results := [.lit (.bool true)], args := [d] }
  | _ => none }
def valveArrivesRow : OpenClaim := { program := "ytckohnlpmooecaa", sum := "12c9116b81c2d301d362c1d8635b38e704ad962bda80809a4303e56bc0f0ecb0", func := "batchline/batchlinelaw23.ValveArrives", spec := "valveArrives", apart := false }
def ValveArrivesSaid : Prop := valveArrivesRow.holds Try.pinned (OpenSpec.ofChange valveArrivesSpec)

/-- ITS FALSE NEIGHBOUR: 'it returns false'. Refute it at one input. -/
def valveArrivesWrong : ChangeSpec := { name := "valveArrives", fn := fun _ => fun
  | [d] => { results := [.lit (.bool false)], args := [d] }
  | _ => none }
def ValveArrivesWrongFalsely : Prop := valveArrivesRow.holds Try.pinned (OpenSpec.ofChange valveArrivesWrong)

/-- 'batchlinelaw23.ValveBack': WHATEVER THE INPUT: true; the input reads as it did. -/
def valveBackSpec : ChangeSpec := { name := "valveBack", fn := fun _ => fun
  | [d1, d2, d3] => { results := [.lit (.bool true)], args := [d1, d2, d3] }
  | _ => none }
def valveBackRow : OpenClaim := { program := "ytckohnlpmooecaa", sum := "12c9116b81c2d301d362c1d8635b38e704ad962bda80809a4303e56bc0f0ecb0", func := "batchline/batchlinelaw23.ValveBack", spec := "valveBack", apart := false }
def ValveBackSaid : Prop := valveBackRow.holds Try.pinned (OpenSpec.ofChange valveBackSpec)

/-- ITS FALSE NEIGHBOUR: 'it returns false'. Refute it at one input. -/
def valveBackWrong : ChangeSpec := { name := "valveBack", fn := fun _ => fun
  | [d1, d2, d3] => { results := [.lit (.bool false)], args := [d1, d2, d3] }
  | _ => none }
def ValveBackWrongFalsely : Prop := valveBackRow.holds Try.pinned (OpenSpec.ofChange valveBackWrong)

/- THE SECOND FORM. 'bulk': how many values and letters a reading holds, each counted each time it is reached (what is shared counts as often as it is met; a slice's spare places count too). A statement '..UptoSaid' is the law's where the arguments, and the package variables that the reading takes, are together of bulk at most 1048576: NARROWER than '..Said'. Prove '..Said' where nothing that the law and all that it calls make is longer than what came in: it says more and counts as full. Else prove '..UptoSaid'. A law counts once. -/
mutual
def uptoBulk {H : Type} : DataW H → Nat
  | .lit (.string bytes) => bytes.length + 1
  | .lit _ => 1
  | .nil => 1
  | .ptr d => uptoBulk d + 1
  | .slice elems spare => uptoBulkAll elems + uptoBulkAll spare + 1
  | .agg parts => uptoBulkAll parts + 1
  | .iface _ d => uptoBulk d + 1
  | .map entries => uptoBulkEntries entries + 1
  | .held _ => 1
def uptoBulkAll {H : Type} : List (DataW H) → Nat
  | [] => 0
  | d :: r => uptoBulk d + uptoBulkAll r
def uptoBulkEntries {H : Type} : List (Lit × DataW H) → Nat
  | [] => 0
  | x :: r => uptoBulkEntry x + uptoBulkEntries r
def uptoBulkEntry {H : Type} : Lit × DataW H → Nat
  | (.string bytes, d) => bytes.length + uptoBulk d + 1
  | (_, d) => uptoBulk d + 1
 end
def uptoSmall : (H : Type) → List (DataW H) → Bool := fun _ ds => decide (uptoBulkAll ds ≤ 1048576)
def OpenSpec.upto (s : _root_.Go.ChangeSpec) : _root_.Go.OpenSpec := { _root_.Go.OpenSpec.ofChange s with cond := some uptoSmall }

/-- 'batchlinelaw23.ValveRaw', WHERE WHAT IT READS IS OF BULK AT MOST 1048576: true; the input reads as it did. -/
def valveRawUptoRow : OpenClaim := { program := "ytckohnlpmooecaa", sum := "12c9116b81c2d301d362c1d8635b38e704ad962bda80809a4303e56bc0f0ecb0", func := "batchline/batchlinelaw23.ValveRaw", spec := "valveRaw", apart := false, narrowed := true }
def ValveRawUptoSaid : Prop := valveRawUptoRow.holds Try.pinned (OpenSpec.upto valveRawSpec)

/-- 'batchlinelaw23.ValveArrives', WHERE WHAT IT READS IS OF BULK AT MOST 1048576: true; the input reads as it did. -/
def valveArrivesUptoRow : OpenClaim := { program := "ytckohnlpmooecaa", sum := "12c9116b81c2d301d362c1d8635b38e704ad962bda80809a4303e56bc0f0ecb0", func := "batchline/batchlinelaw23.ValveArrives", spec := "valveArrives", apart := false, narrowed := true }
def ValveArrivesUptoSaid : Prop := valveArrivesUptoRow.holds Try.pinned (OpenSpec.upto valveArrivesSpec)

/-- 'batchlinelaw23.ValveBack', WHERE WHAT IT READS IS OF BULK AT MOST 1048576: true; the input reads as it did. -/
def valveBackUptoRow : OpenClaim := { program := "ytckohnlpmooecaa", sum := "12c9116b81c2d301d362c1d8635b38e704ad962bda80809a4303e56bc0f0ecb0", func := "batchline/batchlinelaw23.ValveBack", spec := "valveBack", apart := false, narrowed := true }
def ValveBackUptoSaid : Prop := valveBackUptoRow.holds Try.pinned (OpenSpec.upto valveBackSpec)

end Rows
end Go.Proofs.Ytckohnlpmooecaa
