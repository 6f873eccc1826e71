/- Both Valids, whatever the meter. -/
import Derived.Test.YtilchmlbihffdaaMlo
namespace Go.Proofs.Ytilchmlbihffdaa
open Go.ChangeShapes Go.WideShapes Go.ChangeAt Go.RowKit

theorem valid_any (p b f : Int) (w : World) : Calls Try.prog 12 #[mv p b f] w (Ret (.bool (Mt.valid p b f)) w) := by
  cases h : Mt.valid p b f
  · exact meterValid_no p b f w h
  · exact meterValid_yes p b f w h
theorem rvalid_any (p b f : Int) (w : World) : Calls Try.prog 13 #[mv p b f] w (Ret (.bool (Mt.valid p b f)) w) := by
  cases h : Mt.valid p b f
  · exact refValid_no p b f w h
  · exact refValid_yes p b f w h
theorem read_of (p b f l q n r1 r2 r3 : Int) (h : rd p b f l q n = (r1, r2, r3)) (w : World) :
    Calls Try.prog 14 #[mv p b f, cv l q, .int .i64 n] w (Ret (.tuple #[.agg #[.int .i64 r1, .int .i64 r2], .int .i64 r3]) w) := by
  have := read_any p b f l q n w
  rw [h] at this
  exact this
theorem rread_of (p b f l q n r1 r2 r3 : Int) (h : rd p b f l q n = (r1, r2, r3)) (w : World) :
    Calls Try.prog 15 #[mv p b f, cv l q, .int .i64 n] w (Ret (.tuple #[.agg #[.int .i64 r1, .int .i64 r2], .int .i64 r3]) w) := by
  have := rread_any p b f l q n w
  rw [h] at this
  exact this
end Go.Proofs.Ytilchmlbihffdaa
