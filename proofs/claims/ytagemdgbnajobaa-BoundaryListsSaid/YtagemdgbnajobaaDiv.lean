/- Contracts of the dividing functions of package round and of its reference. -/
import Derived.Test.YtagemdgbnajobaaRows
import Derived.Test.YtagemdgbnajobaaMath
import Derived.WalkKit
import Derived.ProofKit
import Derived.OpenShut
import Derived.Outline
import Derived.Lib.Hide
namespace Go.Proofs.Ytagemdgbnajobaa
open Go.ChangeShapes Go.WideShapes Go.ChangeAt Go.RowKit

theorem ret_int {k : IntKind} {a b : Int} (h : a = b) : Ending.returned (.int k a) = .returned (.int k b) := by rw [h]

/-- An int. -/
def I64 (a : Int) : Prop := -9223372036854775808 ≤ a ∧ a ≤ 9223372036854775807

theorem divides_yes (a b : Int) (w : World) (h : Rd.ok a b = true) :
    Calls Try.prog 62 #[.int .i64 a, .int .i64 b] w fun e w' => e = .returned (.bool true) ∧ w = w' := by
  obtain ⟨h1, h2, h3, h4⟩ := Rd.ok_true h
  clear h
  go_enter Try.func62, Try.ntmps62
  go_wp2
  go_ret
  exact ⟨rfl, rfl⟩
theorem divides_no (a b : Int) (w : World) (h : Rd.ok a b = false) :
    Calls Try.prog 62 #[.int .i64 a, .int .i64 b] w fun e w' => e = .returned (.bool false) ∧ w = w' := by
  have h := Rd.ok_false h
  by_cases h1 : -2305843009213693952 ≤ a
  · by_cases h2 : a ≤ 2305843009213693952
    · by_cases h3 : 1 ≤ b
      · have h4 : ¬ b ≤ 1099511627776 := by omega
        clear h
        go_enter Try.func62, Try.ntmps62
        go_wp2
        go_ret
        exact ⟨rfl, rfl⟩
      · clear h
        go_enter Try.func62, Try.ntmps62
        go_wp2
        go_ret
        exact ⟨rfl, rfl⟩
    · clear h
      go_enter Try.func62, Try.ntmps62
      go_wp2
      go_ret
      exact ⟨rfl, rfl⟩
  · clear h
    go_enter Try.func62, Try.ntmps62
    go_wp2
    go_ret
    exact ⟨rfl, rfl⟩

theorem floor_any (a b : Int) (w : World) (h1 : -9223372036854775807 ≤ a) (h2 : a ≤ 9223372036854775807) (h3 : 1 ≤ b) (h4 : b ≤ 9223372036854775807) :
    Calls Try.prog 63 #[.int .i64 a, .int .i64 b] w fun e w' => e = .returned (.int .i64 (a / b)) ∧ w = w' := by
  have hr := Rd.tdiv_range a b h3 9223372036854775807 (by omega) h1 h2
  have hd := Rd.ediv_range a b h3 9223372036854775807 (by omega) h1 h2
  by_cases h : a.tmod b < 0
  · have ht := Rd.tdiv_down a b h3 h
    have : -9223372036854775807 ≤ a.tdiv b - 1 := by omega
    have HT := Lib.hid ht
    clear ht
    go_enter Try.func63, Try.ntmps63
    go_wp2
    go_ret
    exact ⟨ret_int HT.out, rfl⟩
  · have h : 0 ≤ a.tmod b := by omega
    have ht := Rd.tdiv_same a b h3 h
    have HT := Lib.hid ht
    clear ht
    go_enter Try.func63, Try.ntmps63
    go_wp2
    go_ret
    exact ⟨ret_int HT.out, rfl⟩

theorem down_any (a b : Int) (w : World) :
    Calls Try.prog 59 #[.int .i64 a, .int .i64 b] w fun e w' => e = .returned (.int .i64 (Rd.down a b)) ∧ w = w' := by
  cases h : Rd.ok a b
  · have e : Rd.down a b = 0 := by unfold Rd.down; rw [h]; rfl
    have H := Lib.hid h
    clear h
    go_enter Try.func59, Try.ntmps59
    go_wp2_with (go_at_call 62; refine (divides_no _ _ _ H.out).mono ?_; rintro e w' ⟨rfl, rfl⟩)
    go_ret
    exact ⟨ret_int e.symm, rfl⟩
  · have e : Rd.down a b = a / b := by unfold Rd.down; rw [h]; rfl
    have hb := Rd.ok_true h
    have H := Lib.hid h
    have E := Lib.hid e
    clear h e
    go_enter Try.func59, Try.ntmps59
    go_wp2_with (first | (go_at_call 62; refine (divides_yes _ _ _ H.out).mono ?_; rintro e w' ⟨rfl, rfl⟩) | (go_at_call 63; refine (floor_any _ _ _ (by omega) (by omega) (by omega) (by omega)).mono ?_; rintro e w' ⟨rfl, rfl⟩))
    go_ret
    exact ⟨ret_int E.out.symm, rfl⟩

theorem up_any (a b : Int) (w : World) :
    Calls Try.prog 58 #[.int .i64 a, .int .i64 b] w fun e w' => e = .returned (.int .i64 (Rd.up a b)) ∧ w = w' := by
  cases h : Rd.ok a b
  · have e : Rd.up a b = 0 := by unfold Rd.up; rw [h]; rfl
    have H := Lib.hid h
    clear h
    go_enter Try.func58, Try.ntmps58
    go_wp2_with (go_at_call 62; refine (divides_no _ _ _ H.out).mono ?_; rintro e w' ⟨rfl, rfl⟩)
    go_ret
    exact ⟨ret_int e.symm, rfl⟩
  · have e : Rd.up a b = -(-a / b) := by unfold Rd.up; rw [h]; rfl
    have hb := Rd.ok_true h
    have hr := Rd.ediv_range (-a) b (by omega) 2305843009213693952 (by omega) (by omega) (by omega)
    have H := Lib.hid h
    have E := Lib.hid e
    clear h e
    go_enter Try.func58, Try.ntmps58
    go_wp2_with (first | (go_at_call 62; refine (divides_yes _ _ _ H.out).mono ?_; rintro e w' ⟨rfl, rfl⟩) | (go_at_call 63; refine (floor_any _ _ _ (by omega) (by omega) (by omega) (by omega)).mono ?_; rintro e w' ⟨rfl, rfl⟩))
    go_ret
    exact ⟨ret_int E.out.symm, rfl⟩

end Go.Proofs.Ytagemdgbnajobaa
