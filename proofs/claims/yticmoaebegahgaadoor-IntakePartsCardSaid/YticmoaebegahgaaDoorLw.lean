/- The walk of IntakeParts, as the rows ask for it. -/
import Derived.Test.YticmoaebegahgaaDoorLi
import Derived.Test.YticmoaebegahgaaDoorWl
namespace Go.Proofs.YticmoaebegahgaaDoor.Iw
open Go.ChangeShapes Go.WideShapes Go.ChangeAt Go.RowKit
open Wr (tabled_of laidT own laidOut door_met IsRow inB inRow Tabled grown_below)

theorem parts_row (a0 : Option Addr) (len0 cap0 : Nat) (z0 : List Int) (a1 : Option Addr) (len1 cap1 : Nat) (z1 : List Int) (a2 : Int) (w : World) (ht : Tabled w) (w0 : IsRow .i64 w a0 len0 cap0 z0) (w1 : IsRow .i64 w a1 len1 cap1 z1) (w2 : (Lit.int .u8 a2).wf = true) :
    Calls Tryd.prog 3 #[.slice a0 len0 cap0, .slice a1 len1 cap1, .int .u8 a2] w fun e w' => e = .returned (.bool true) ∧ Below w.heap.size w w' :=
  (parts_any a0 len0 cap0 _ a1 len1 cap1 _ a2 w (inRow w0) (inRow w1) (by have := bounds_u8 w2; omega) ht).mono fun _ _ ⟨h1, h2⟩ => ⟨h1, grown_below h2⟩
end Go.Proofs.YticmoaebegahgaaDoor.Iw
