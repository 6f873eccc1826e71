/-
  DERIVED. GIVEN WITH THE SEED: THE CARDS: each row of YtcjbhkocpfkcbaaDoorRows.lean that lists a variable, with what it lists TIED to the program's text (the seventh form; the later family's looks); each row that meets fmt, with fmt's text TOLD by the authors' own Lean function (tested against real Go, not proved from fmt's source: count such statements apart). THE CARD IS WHAT COUNTS. Prove the row's statement (the work); the ties are given (YtcjbhkocpfkcbaaDoorTie.lean); close each card by the builder's one call (the guide's Derived/Test/ToyasCard.lean, 'card_holds'). Laid BY PROGRAM, IN A SANDBOX (cutbox-door.mjs). By AI agents, Wed Nov 11 2026. No macro, syntax, notation, axiom, sorry.
-/
import Derived.Test.YtcjbhkocpfkcbaaDoorRows
import GoSem.ClaimSeven
namespace Go.Proofs.YtcjbhkocpfkcbaaDoor
namespace Rows

/-- THE TIED CARD OF 'batchlinelaw09.TelegramAnswers'. -/
def telegramAnswersCard : Claim7 := { stood := { row := telegramAnswersRow, standIns := [], harness := (true, "12e4a7ccb87a9d4d74b7af9514cd09e2436b4eb8fb16f8daf71c405fb7b6cec0"), looks := false }, kinds := [], alts := [], laidByText := true, laidKinds := [.data], laidTests := true, laidLooks := .later }
def TelegramAnswersCardSaid : Prop := Claim7.holds Tryd.pinned (.plain (OpenSpec.ofChange telegramAnswersSpec)) telegramAnswersCard

/-- THE TIED CARD OF 'batchlinelaw09.TelegramBack'. -/
def telegramBackCard : Claim7 := { stood := { row := telegramBackRow, standIns := [], harness := (true, "12e4a7ccb87a9d4d74b7af9514cd09e2436b4eb8fb16f8daf71c405fb7b6cec0"), looks := false }, kinds := [], alts := [], laidByText := true, laidKinds := [.data], laidTests := true, laidLooks := .later }
def TelegramBackCardSaid : Prop := Claim7.holds Tryd.pinned (.plain (OpenSpec.ofChange telegramBackSpec)) telegramBackCard

/-- THE TIED CARD OF 'batchlinelaw09.TelegramDamage'. -/
def telegramDamageCard : Claim7 := { stood := { row := telegramDamageRow, standIns := [], harness := (true, "12e4a7ccb87a9d4d74b7af9514cd09e2436b4eb8fb16f8daf71c405fb7b6cec0"), looks := false }, kinds := [], alts := [], laidByText := true, laidKinds := [.data], laidTests := true, laidLooks := .later }
def TelegramDamageCardSaid : Prop := Claim7.holds Tryd.pinned (.plain (OpenSpec.ofChange telegramDamageSpec)) telegramDamageCard

/-- THE TIED CARD OF 'batchlinelaw09.TelegramOrder'. -/
def telegramOrderCard : Claim7 := { stood := { row := telegramOrderRow, standIns := [], harness := (true, "12e4a7ccb87a9d4d74b7af9514cd09e2436b4eb8fb16f8daf71c405fb7b6cec0"), looks := false }, kinds := [], alts := [], laidByText := true, laidKinds := [.data], laidTests := true, laidLooks := .later }
def TelegramOrderCardSaid : Prop := Claim7.holds Tryd.pinned (.plain (OpenSpec.ofChange telegramOrderSpec)) telegramOrderCard

/-- THE TIED CARD OF 'batchlinelaw09.TelegramUnlike'. -/
def telegramUnlikeCard : Claim7 := { stood := { row := telegramUnlikeRow, standIns := [], harness := (true, "12e4a7ccb87a9d4d74b7af9514cd09e2436b4eb8fb16f8daf71c405fb7b6cec0"), looks := false }, kinds := [], alts := [], laidByText := true, laidKinds := [.data], laidTests := true, laidLooks := .later }
def TelegramUnlikeCardSaid : Prop := Claim7.holds Tryd.pinned (.plain (OpenSpec.ofChange telegramUnlikeSpec)) telegramUnlikeCard

/-- THE SECOND FORM's CARD OF 'batchlinelaw09.TelegramAnswers'. -/
def telegramAnswersUptoCard : Claim7 := { stood := { row := telegramAnswersUptoRow, standIns := [], harness := (true, "12e4a7ccb87a9d4d74b7af9514cd09e2436b4eb8fb16f8daf71c405fb7b6cec0"), looks := false }, kinds := [], alts := [], laidByText := true, laidKinds := [.data], laidTests := true, laidLooks := .later }
def TelegramAnswersUptoCardSaid : Prop := Claim7.holds Tryd.pinned (.plain (OpenSpec.upto telegramAnswersSpec)) telegramAnswersUptoCard

/-- THE SECOND FORM's CARD OF 'batchlinelaw09.TelegramBack'. -/
def telegramBackUptoCard : Claim7 := { stood := { row := telegramBackUptoRow, standIns := [], harness := (true, "12e4a7ccb87a9d4d74b7af9514cd09e2436b4eb8fb16f8daf71c405fb7b6cec0"), looks := false }, kinds := [], alts := [], laidByText := true, laidKinds := [.data], laidTests := true, laidLooks := .later }
def TelegramBackUptoCardSaid : Prop := Claim7.holds Tryd.pinned (.plain (OpenSpec.upto telegramBackSpec)) telegramBackUptoCard

/-- THE SECOND FORM's CARD OF 'batchlinelaw09.TelegramDamage'. -/
def telegramDamageUptoCard : Claim7 := { stood := { row := telegramDamageUptoRow, standIns := [], harness := (true, "12e4a7ccb87a9d4d74b7af9514cd09e2436b4eb8fb16f8daf71c405fb7b6cec0"), looks := false }, kinds := [], alts := [], laidByText := true, laidKinds := [.data], laidTests := true, laidLooks := .later }
def TelegramDamageUptoCardSaid : Prop := Claim7.holds Tryd.pinned (.plain (OpenSpec.upto telegramDamageSpec)) telegramDamageUptoCard

/-- THE SECOND FORM's CARD OF 'batchlinelaw09.TelegramOrder'. -/
def telegramOrderUptoCard : Claim7 := { stood := { row := telegramOrderUptoRow, standIns := [], harness := (true, "12e4a7ccb87a9d4d74b7af9514cd09e2436b4eb8fb16f8daf71c405fb7b6cec0"), looks := false }, kinds := [], alts := [], laidByText := true, laidKinds := [.data], laidTests := true, laidLooks := .later }
def TelegramOrderUptoCardSaid : Prop := Claim7.holds Tryd.pinned (.plain (OpenSpec.upto telegramOrderSpec)) telegramOrderUptoCard

/-- THE SECOND FORM's CARD OF 'batchlinelaw09.TelegramUnlike'. -/
def telegramUnlikeUptoCard : Claim7 := { stood := { row := telegramUnlikeUptoRow, standIns := [], harness := (true, "12e4a7ccb87a9d4d74b7af9514cd09e2436b4eb8fb16f8daf71c405fb7b6cec0"), looks := false }, kinds := [], alts := [], laidByText := true, laidKinds := [.data], laidTests := true, laidLooks := .later }
def TelegramUnlikeUptoCardSaid : Prop := Claim7.holds Tryd.pinned (.plain (OpenSpec.upto telegramUnlikeSpec)) telegramUnlikeUptoCard
end Rows
end Go.Proofs.YtcjbhkocpfkcbaaDoor
