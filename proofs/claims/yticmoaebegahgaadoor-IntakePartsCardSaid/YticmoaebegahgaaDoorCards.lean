/-
  DERIVED. GIVEN WITH THE SEED: THE CARDS: each row of YticmoaebegahgaaDoorRows.lean that lists a variable, with what it lists TIED to the program's text (the seventh form; the later family's looks); each row that meets fmt, with fmt's text TOLD by the authors' own Lean function (tested against real Go, not proved from fmt's source: count such statements apart). THE CARD IS WHAT COUNTS. Prove the row's statement (the work); the ties are given (YticmoaebegahgaaDoorTie.lean); close each card by the builder's one call (the guide's Derived/Test/ToyasCard.lean, 'card_holds'). Laid BY PROGRAM, IN A SANDBOX (cutbox-door.mjs). By AI agents, Wed Nov 11 2026. No macro, syntax, notation, axiom, sorry.
-/
import Derived.Test.YticmoaebegahgaaDoorRows
import GoSem.ClaimSeven
namespace Go.Proofs.YticmoaebegahgaaDoor
namespace Rows

/-- THE TIED CARD OF 'batchlinelaw10.IntakeParts'. -/
def intakePartsCard : Claim7 := { stood := { row := intakePartsRow, standIns := [], harness := (true, "c1a21a4c3bcc966e7cbf542558a500a7d777df1ad93af8944f42780160519d21"), looks := false }, kinds := [], alts := [], laidByText := true, laidKinds := [.data], laidTests := true, laidLooks := .later }
def IntakePartsCardSaid : Prop := Claim7.holds Tryd.pinned (.plain (OpenSpec.ofChange intakePartsSpec)) intakePartsCard

/-- THE TIED CARD OF 'batchlinelaw10.IntakeOrder'. -/
def intakeOrderCard : Claim7 := { stood := { row := intakeOrderRow, standIns := [], harness := (true, "c1a21a4c3bcc966e7cbf542558a500a7d777df1ad93af8944f42780160519d21"), looks := false }, kinds := [], alts := [], laidByText := true, laidKinds := [.data], laidTests := true, laidLooks := .later }
def IntakeOrderCardSaid : Prop := Claim7.holds Tryd.pinned (.plain (OpenSpec.ofChange intakeOrderSpec)) intakeOrderCard

/-- THE TIED CARD OF 'batchlinelaw10.IntakeDamage'. -/
def intakeDamageCard : Claim7 := { stood := { row := intakeDamageRow, standIns := [], harness := (true, "c1a21a4c3bcc966e7cbf542558a500a7d777df1ad93af8944f42780160519d21"), looks := false }, kinds := [], alts := [], laidByText := true, laidKinds := [.data], laidTests := true, laidLooks := .later }
def IntakeDamageCardSaid : Prop := Claim7.holds Tryd.pinned (.plain (OpenSpec.ofChange intakeDamageSpec)) intakeDamageCard

/-- THE SECOND FORM's CARD OF 'batchlinelaw10.IntakeParts'. -/
def intakePartsUptoCard : Claim7 := { stood := { row := intakePartsUptoRow, standIns := [], harness := (true, "c1a21a4c3bcc966e7cbf542558a500a7d777df1ad93af8944f42780160519d21"), looks := false }, kinds := [], alts := [], laidByText := true, laidKinds := [.data], laidTests := true, laidLooks := .later }
def IntakePartsUptoCardSaid : Prop := Claim7.holds Tryd.pinned (.plain (OpenSpec.upto intakePartsSpec)) intakePartsUptoCard

/-- THE SECOND FORM's CARD OF 'batchlinelaw10.IntakeOrder'. -/
def intakeOrderUptoCard : Claim7 := { stood := { row := intakeOrderUptoRow, standIns := [], harness := (true, "c1a21a4c3bcc966e7cbf542558a500a7d777df1ad93af8944f42780160519d21"), looks := false }, kinds := [], alts := [], laidByText := true, laidKinds := [.data], laidTests := true, laidLooks := .later }
def IntakeOrderUptoCardSaid : Prop := Claim7.holds Tryd.pinned (.plain (OpenSpec.upto intakeOrderSpec)) intakeOrderUptoCard

/-- THE SECOND FORM's CARD OF 'batchlinelaw10.IntakeDamage'. -/
def intakeDamageUptoCard : Claim7 := { stood := { row := intakeDamageUptoRow, standIns := [], harness := (true, "c1a21a4c3bcc966e7cbf542558a500a7d777df1ad93af8944f42780160519d21"), looks := false }, kinds := [], alts := [], laidByText := true, laidKinds := [.data], laidTests := true, laidLooks := .later }
def IntakeDamageUptoCardSaid : Prop := Claim7.holds Tryd.pinned (.plain (OpenSpec.upto intakeDamageSpec)) intakeDamageUptoCard
end Rows
end Go.Proofs.YticmoaebegahgaaDoor
