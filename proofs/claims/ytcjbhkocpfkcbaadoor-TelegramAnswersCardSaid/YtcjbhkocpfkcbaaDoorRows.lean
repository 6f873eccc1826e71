/-
  NARROWER THAN 'FOR EVERY INPUT', by the rows' own cells (each row's printed sentence says how): TelegramAnswers: laid · TelegramBack: laid · TelegramDamage: laid · TelegramOrder: laid · TelegramUnlike: laid.
  DERIVED. THE GIVEN ROWS OF THIS SEAT. 5 by the template 'for every input the law returns true; each argument reads behind the call as it read before'; 0 by the template 'total and deterministic' (their statements: YtcjbhkocpfkcbaaDoorTotals.lean).
  GIVEN WITH THE SEED: the statements are not yours to turn. If you find one false, say at which input.
  Laid BY PROGRAM, IN A SANDBOX (cutbox-rows.mjs): the forced cells as the released guide's own fill.sh prints them over the translation b96fb7737877a4cf… (all of the seat's roots in one cut). By AI agents, Wed Nov 11 2026. No macro, syntax, notation, axiom, sorry.
-/
import Derived.Test.YtcjbhkocpfkcbaaDoorChecked
import GoSem.Claim
import GoSem.ClaimJoined
import GoSem.ClaimMapViews
import Derived.JoinedTies
import Derived.KernelRfl
namespace Go.Proofs.YtcjbhkocpfkcbaaDoor
/- THE CELL 'sum', in the pinned program and in every row, IS THE sha256 OF THE DUMP (.gsa) THAT YtcjbhkocpfkcbaaDoorProg.lean LOADS. Nothing in Lean hashes anything: it is a label: what it is worth is what the hold of that sum in a sandbox is worth. -/
noncomputable def Tryd.pinned : Pinned := { name := "ytcjbhkocpfkcbaadoor", sum := "b96fb7737877a4cf6d7cad2c89c9d8e99a59f1581284691f0f534ccfaacaf4ae", checked := Tryd.checked }
namespace Rows
def none {H : Type} : Left H := { results := [], args := [] }

/- WHAT THE LISTED PACKAGE-LEVEL VARIABLES READ AS WHEN THE CALL BEGINS. Each datum BY PROGRAM (the guide's laid-datum.mjs) off the statement by which the dump's own 'gosem.cut.vars' lays the variable. In a bare row this is a premise. The card (YtcjbhkocpfkcbaaDoorCards.lean) ties it to the program's text. -/
def laid_batchline_wire_nibbles {H : Type} : DataW H := .agg [.lit (.int .u32 0), .lit (.int .u32 498536548), .lit (.int .u32 997073096), .lit (.int .u32 651767980), .lit (.int .u32 1994146192), .lit (.int .u32 1802195444), .lit (.int .u32 1303535960), .lit (.int .u32 1342533948), .lit (.int .u32 3988292384), .lit (.int .u32 4027552580), .lit (.int .u32 3604390888), .lit (.int .u32 3412177804), .lit (.int .u32 2607071920), .lit (.int .u32 2262029012), .lit (.int .u32 2685067896), .lit (.int .u32 3183342108)]

/-- 'batchlinelaw09.TelegramAnswers': WHATEVER THE INPUT: true; the input reads as it did. -/
def telegramAnswersSpec : ChangeSpec := { name := "telegramAnswers", fn := fun _ => fun
  | [d1, d2, d3, d4] => { results := [.lit (.bool true)], args := [d1, d2, d3, d4] }
  | _ => none }
def telegramAnswersRow : OpenClaim := { program := "ytcjbhkocpfkcbaadoor", sum := "b96fb7737877a4cf6d7cad2c89c9d8e99a59f1581284691f0f534ccfaacaf4ae", func := "batchline/batchlinelaw09.TelegramAnswers", spec := "telegramAnswers", named := ["batchline/wire.nibbles"], apart := false, laid := [("batchline/wire.nibbles", laid_batchline_wire_nibbles)] }
def TelegramAnswersSaid : Prop := telegramAnswersRow.holds Tryd.pinned (OpenSpec.ofChange telegramAnswersSpec)

/-- ITS FALSE NEIGHBOUR: 'it returns false'. Refute it at one input. -/
def telegramAnswersWrong : ChangeSpec := { name := "telegramAnswers", fn := fun _ => fun
  | [d1, d2, d3, d4] => { results := [.lit (.bool false)], args := [d1, d2, d3, d4] }
  | _ => none }
def TelegramAnswersWrongFalsely : Prop := telegramAnswersRow.holds Tryd.pinned (OpenSpec.ofChange telegramAnswersWrong)

/-- 'batchlinelaw09.TelegramBack': WHATEVER THE INPUT: true; the input reads as it did. -/
def telegramBackSpec : ChangeSpec := { name := "telegramBack", fn := fun _ => fun
  | [d1, d2] => { results := [.lit (.bool true)], args := [d1, d2] }
  | _ => none }
def telegramBackRow : OpenClaim := { program := "ytcjbhkocpfkcbaadoor", sum := "b96fb7737877a4cf6d7cad2c89c9d8e99a59f1581284691f0f534ccfaacaf4ae", func := "batchline/batchlinelaw09.TelegramBack", spec := "telegramBack", named := ["batchline/wire.nibbles"], apart := false, laid := [("batchline/wire.nibbles", laid_batchline_wire_nibbles)] }
def TelegramBackSaid : Prop := telegramBackRow.holds Tryd.pinned (OpenSpec.ofChange telegramBackSpec)

/-- ITS FALSE NEIGHBOUR: 'it returns false'. Refute it at one input. -/
def telegramBackWrong : ChangeSpec := { name := "telegramBack", fn := fun _ => fun
  | [d1, d2] => { results := [.lit (.bool false)], args := [d1, d2] }
  | _ => none }
def TelegramBackWrongFalsely : Prop := telegramBackRow.holds Tryd.pinned (OpenSpec.ofChange telegramBackWrong)

/-- 'batchlinelaw09.TelegramDamage': WHATEVER THE INPUT: true; the input reads as it did. -/
def telegramDamageSpec : ChangeSpec := { name := "telegramDamage", fn := fun _ => fun
  | [d1, d2, d3] => { results := [.lit (.bool true)], args := [d1, d2, d3] }
  | _ => none }
def telegramDamageRow : OpenClaim := { program := "ytcjbhkocpfkcbaadoor", sum := "b96fb7737877a4cf6d7cad2c89c9d8e99a59f1581284691f0f534ccfaacaf4ae", func := "batchline/batchlinelaw09.TelegramDamage", spec := "telegramDamage", named := ["batchline/wire.nibbles"], apart := false, laid := [("batchline/wire.nibbles", laid_batchline_wire_nibbles)] }
def TelegramDamageSaid : Prop := telegramDamageRow.holds Tryd.pinned (OpenSpec.ofChange telegramDamageSpec)

/-- ITS FALSE NEIGHBOUR: 'it returns false'. Refute it at one input. -/
def telegramDamageWrong : ChangeSpec := { name := "telegramDamage", fn := fun _ => fun
  | [d1, d2, d3] => { results := [.lit (.bool false)], args := [d1, d2, d3] }
  | _ => none }
def TelegramDamageWrongFalsely : Prop := telegramDamageRow.holds Tryd.pinned (OpenSpec.ofChange telegramDamageWrong)

/-- 'batchlinelaw09.TelegramOrder': WHATEVER THE INPUT: true; the input reads as it did. -/
def telegramOrderSpec : ChangeSpec := { name := "telegramOrder", fn := fun _ => fun
  | [d1, d2, d3] => { results := [.lit (.bool true)], args := [d1, d2, d3] }
  | _ => none }
def telegramOrderRow : OpenClaim := { program := "ytcjbhkocpfkcbaadoor", sum := "b96fb7737877a4cf6d7cad2c89c9d8e99a59f1581284691f0f534ccfaacaf4ae", func := "batchline/batchlinelaw09.TelegramOrder", spec := "telegramOrder", named := ["batchline/wire.nibbles"], apart := false, laid := [("batchline/wire.nibbles", laid_batchline_wire_nibbles)] }
def TelegramOrderSaid : Prop := telegramOrderRow.holds Tryd.pinned (OpenSpec.ofChange telegramOrderSpec)

/-- ITS FALSE NEIGHBOUR: 'it returns false'. Refute it at one input. -/
def telegramOrderWrong : ChangeSpec := { name := "telegramOrder", fn := fun _ => fun
  | [d1, d2, d3] => { results := [.lit (.bool false)], args := [d1, d2, d3] }
  | _ => none }
def TelegramOrderWrongFalsely : Prop := telegramOrderRow.holds Tryd.pinned (OpenSpec.ofChange telegramOrderWrong)

/-- 'batchlinelaw09.TelegramUnlike': WHATEVER THE INPUT: true; the input reads as it did. -/
def telegramUnlikeSpec : ChangeSpec := { name := "telegramUnlike", fn := fun _ => fun
  | [d1, d2, d3] => { results := [.lit (.bool true)], args := [d1, d2, d3] }
  | _ => none }
def telegramUnlikeRow : OpenClaim := { program := "ytcjbhkocpfkcbaadoor", sum := "b96fb7737877a4cf6d7cad2c89c9d8e99a59f1581284691f0f534ccfaacaf4ae", func := "batchline/batchlinelaw09.TelegramUnlike", spec := "telegramUnlike", named := ["batchline/wire.nibbles"], apart := false, laid := [("batchline/wire.nibbles", laid_batchline_wire_nibbles)] }
def TelegramUnlikeSaid : Prop := telegramUnlikeRow.holds Tryd.pinned (OpenSpec.ofChange telegramUnlikeSpec)

/-- ITS FALSE NEIGHBOUR: 'it returns false'. Refute it at one input. -/
def telegramUnlikeWrong : ChangeSpec := { name := "telegramUnlike", fn := fun _ => fun
  | [d1, d2, d3] => { results := [.lit (.bool false)], args := [d1, d2, d3] }
  | _ => none }
def TelegramUnlikeWrongFalsely : Prop := telegramUnlikeRow.holds Tryd.pinned (OpenSpec.ofChange telegramUnlikeWrong)

/- THE SECOND FORM. 'bulk': how many values and letters a reading holds, each counted each time it is reached (what is shared counts as often as it is met; a slice's spare places count too). A statement '..UptoSaid' is the law's where the arguments, and the package variables that the reading takes, are together of bulk at most 1048576: NARROWER than '..Said'. Prove '..Said' where nothing that the law and all that it calls make is longer than what came in: it says more and counts as full. Else prove '..UptoSaid'. A law counts once. -/
mutual
def uptoBulk {H : Type} : DataW H → Nat
  | .lit (.string bytes) => bytes.length + 1
  | .lit _ => 1
  | .nil => 1
  | .ptr d => uptoBulk d + 1
  | .slice elems spare => uptoBulkAll elems + uptoBulkAll spare + 1
  | .agg parts => uptoBulkAll parts + 1
  | .iface _ d => uptoBulk d + 1
  | .map entries => uptoBulkEntries entries + 1
  | .held _ => 1
def uptoBulkAll {H : Type} : List (DataW H) → Nat
  | [] => 0
  | d :: r => uptoBulk d + uptoBulkAll r
def uptoBulkEntries {H : Type} : List (Lit × DataW H) → Nat
  | [] => 0
  | x :: r => uptoBulkEntry x + uptoBulkEntries r
def uptoBulkEntry {H : Type} : Lit × DataW H → Nat
  | (.string bytes, d) => bytes.length + uptoBulk d + 1
  | (_, d) => uptoBulk d + 1
 end
def uptoSmall : (H : Type) → List (DataW H) → Bool := fun _ ds => decide (uptoBulkAll ds ≤ 1048576)
def OpenSpec.upto (s : _root_.Go.ChangeSpec) : _root_.Go.OpenSpec := { _root_.Go.OpenSpec.ofChange s with cond := some uptoSmall }

/-- 'batchlinelaw09.TelegramAnswers', WHERE WHAT IT READS IS OF BULK AT MOST 1048576: true; the input reads as it did. -/
def telegramAnswersUptoRow : OpenClaim := { program := "ytcjbhkocpfkcbaadoor", sum := "b96fb7737877a4cf6d7cad2c89c9d8e99a59f1581284691f0f534ccfaacaf4ae", func := "batchline/batchlinelaw09.TelegramAnswers", spec := "telegramAnswers", named := ["batchline/wire.nibbles"], apart := false, laid := [("batchline/wire.nibbles", laid_batchline_wire_nibbles)], narrowed := true }
def TelegramAnswersUptoSaid : Prop := telegramAnswersUptoRow.holds Tryd.pinned (OpenSpec.upto telegramAnswersSpec)

/-- 'batchlinelaw09.TelegramBack', WHERE WHAT IT READS IS OF BULK AT MOST 1048576: true; the input reads as it did. -/
def telegramBackUptoRow : OpenClaim := { program := "ytcjbhkocpfkcbaadoor", sum := "b96fb7737877a4cf6d7cad2c89c9d8e99a59f1581284691f0f534ccfaacaf4ae", func := "batchline/batchlinelaw09.TelegramBack", spec := "telegramBack", named := ["batchline/wire.nibbles"], apart := false, laid := [("batchline/wire.nibbles", laid_batchline_wire_nibbles)], narrowed := true }
def TelegramBackUptoSaid : Prop := telegramBackUptoRow.holds Tryd.pinned (OpenSpec.upto telegramBackSpec)

/-- 'batchlinelaw09.TelegramDamage', WHERE WHAT IT READS IS OF BULK AT MOST 1048576: true; the input reads as it did. -/
def telegramDamageUptoRow : OpenClaim := { program := "ytcjbhkocpfkcbaadoor", sum := "b96fb7737877a4cf6d7cad2c89c9d8e99a59f1581284691f0f534ccfaacaf4ae", func := "batchline/batchlinelaw09.TelegramDamage", spec := "telegramDamage", named := ["batchline/wire.nibbles"], apart := false, laid := [("batchline/wire.nibbles", laid_batchline_wire_nibbles)], narrowed := true }
def TelegramDamageUptoSaid : Prop := telegramDamageUptoRow.holds Tryd.pinned (OpenSpec.upto telegramDamageSpec)

/-- 'batchlinelaw09.TelegramOrder', WHERE WHAT IT READS IS OF BULK AT MOST 1048576: true; the input reads as it did. -/
def telegramOrderUptoRow : OpenClaim := { program := "ytcjbhkocpfkcbaadoor", sum := "b96fb7737877a4cf6d7cad2c89c9d8e99a59f1581284691f0f534ccfaacaf4ae", func := "batchline/batchlinelaw09.TelegramOrder", spec := "telegramOrder", named := ["batchline/wire.nibbles"], apart := false, laid := [("batchline/wire.nibbles", laid_batchline_wire_nibbles)], narrowed := true }
def TelegramOrderUptoSaid : Prop := telegramOrderUptoRow.holds Tryd.pinned (OpenSpec.upto telegramOrderSpec)

/-- 'batchlinelaw09.TelegramUnlike', WHERE WHAT IT READS IS OF BULK AT MOST 1048576: true; the input reads as it did. -/
def telegramUnlikeUptoRow : OpenClaim := { program := "ytcjbhkocpfkcbaadoor", sum := "b96fb7737877a4cf6d7cad2c89c9d8e99a59f1581284691f0f534ccfaacaf4ae", func := "batchline/batchlinelaw09.TelegramUnlike", spec := "telegramUnlike", named := ["batchline/wire.nibbles"], apart := false, laid := [("batchline/wire.nibbles", laid_batchline_wire_nibbles)], narrowed := true }
def TelegramUnlikeUptoSaid : Prop := telegramUnlikeUptoRow.holds Tryd.pinned (OpenSpec.upto telegramUnlikeSpec)

end Rows
end Go.Proofs.YtcjbhkocpfkcbaaDoor
