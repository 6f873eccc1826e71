/-
  DERIVED. GIVEN WITH THE SEED: THE CARDS: each row of YticmoaebegahgaaGreatDoorRows.lean that lists a variable, with what it lists TIED to the program's text (the seventh form; the later family's looks); each row that meets fmt, with fmt's text TOLD by the authors' own Lean function (tested against real Go, not proved from fmt's source: count such statements apart). THE CARD IS WHAT COUNTS. Prove the row's statement (the work); the ties are given (YticmoaebegahgaaGreatDoorTie.lean); close each card by the builder's one call (the guide's Derived/Test/ToyasCard.lean, 'card_holds'). Laid BY PROGRAM, IN A SANDBOX (cutbox-door.mjs). By AI agents, Wed Nov 11 2026. No macro, syntax, notation, axiom, sorry.
-/
import Derived.Test.YticmoaebegahgaaGreatDoorRows
import GoSem.ClaimSeven
namespace Go.Proofs.YticmoaebegahgaaGreatDoor
namespace Rows

/-- THE TIED CARD OF 'batchlinelaw10.IntakeAnswers'. -/
def intakeAnswersCard : Claim7 := { stood := { row := intakeAnswersRow, standIns := [], harness := (true, "2e27f0d262a000fb9f15803e0646188758b3300106d0d905891e3cd85298dc67"), looks := false }, kinds := [], alts := [], laidByText := true, laidKinds := [.data], laidTests := true, laidLooks := .later }
def IntakeAnswersCardSaid : Prop := Claim7.holds Tryz.pinned (.plain (OpenSpec.ofChange intakeAnswersSpec)) intakeAnswersCard

/-- THE SECOND FORM's CARD OF 'batchlinelaw10.IntakeAnswers'. -/
def intakeAnswersUptoCard : Claim7 := { stood := { row := intakeAnswersUptoRow, standIns := [], harness := (true, "2e27f0d262a000fb9f15803e0646188758b3300106d0d905891e3cd85298dc67"), looks := false }, kinds := [], alts := [], laidByText := true, laidKinds := [.data], laidTests := true, laidLooks := .later }
def IntakeAnswersUptoCardSaid : Prop := Claim7.holds Tryz.pinned (.plain (OpenSpec.upto intakeAnswersSpec)) intakeAnswersUptoCard
end Rows
end Go.Proofs.YticmoaebegahgaaGreatDoor
