/- The walk of IntakeOrder, as the rows ask for it. -/
import Derived.Test.YticmoaebegahgaaDoorLh
import Derived.Test.YticmoaebegahgaaDoorWl
namespace Go.Proofs.YticmoaebegahgaaDoor.Iw
open Go.ChangeShapes Go.WideShapes Go.ChangeAt Go.RowKit
open Wr (tabled_of laidT own laidOut door_met IsRow inB inRow Tabled grown_below)

theorem order_row (a0 : Option Addr) (len0 cap0 : Nat) (z0 : List Int) (a1 : Int) (w : World) (ht : Tabled w) (w0 : IsRow .i64 w a0 len0 cap0 z0) (w1 : (Lit.int .u8 a1).wf = true) :
    Calls Tryd.prog 4 #[.slice a0 len0 cap0, .int .u8 a1] w fun e w' => e = .returned (.bool true) ∧ Below w.heap.size w w' :=
  (order_any a0 len0 cap0 _ a1 w (inRow w0) (by have := bounds_u8 w1; omega) ht).mono fun _ _ ⟨h1, h2⟩ => ⟨h1, grown_below h2⟩
end Go.Proofs.YticmoaebegahgaaDoor.Iw
