/- Contracts of the roots of package round. -/
import Derived.Test.YtagemdgbnajobaaDiv
import Derived.Deep.LoopGhost
import Derived.Shelf.Abstract
namespace Go.Proofs.Ytagemdgbnajobaa
open Go.ChangeShapes Go.WideShapes Go.ChangeAt Go.RowKit

def SearchEnd (p : Int → Bool) (n : Int) (w : World) (e : Ending) (w' : World) : Prop :=
  ∃ r : Int, 0 ≤ r ∧ r ≤ n ∧ (0 < r → p (r - 1) = false) ∧ (r < n → p r = true) ∧ e = .returned (.int .i64 r) ∧ w = w'

def InvS (p : Int → Bool) (n i j : Int) : Prop := (0 < i → p (i - 1) = false) ∧ (j < n → p j = true)

set_option maxHeartbeats 400000 in
theorem search_any (g : Nat) (cb : Array Value) (n : Int) (p : Int → Bool) (w : World) (h0 : 0 ≤ n) (hn : n ≤ 4611686018427387903)
    (hf : ∀ i : Int, 0 ≤ i → i < n → Calls Try.prog g (#[.int .i64 i] ++ cb) w fun e w' => e = .returned (.bool (p i)) ∧ w = w')
    (eg : ∀ args w, (callFunc g args).run Try.prog w = .ok (.enter g args) w) :
    Calls Try.prog 47 #[.int .i64 n, .func (.func g) #[] cb] w (SearchEnd p n w) := by
  have HF := Lib.hid hf
  clear hf
  go_enter Try.func47, Try.ntmps47
  go_wp2
  go_loop [5, 6] (fun a b => ∃ i j : Int, a = .int .i64 i ∧ b = .int .i64 j ∧ 0 ≤ i ∧ i ≤ j ∧ j ≤ n ∧ InvS p n i j) (fun a b => (intOf b - intOf a).toNat)
  case atStart => exact ⟨0, n, rfl, rfl, by omega, by omega, by omega, fun h => absurd h (by omega), fun h => absurd h (by omega)⟩
  case round =>
    obtain ⟨i, j, rfl, rfl, hi, hij, hj, I⟩ := hrel
    by_cases hlt : i < j
    · have hc := HF.out ((i + j) / 2) (by omega) (by omega)
      have hm1 : i ≤ (i + j) / 2 := by omega
      have hm2 : (i + j) / 2 < j := by omega
      cases hp : p ((i + j) / 2) <;> rw [hp] at hc
      · have HP := Lib.hid hp
        have HC := Lib.hid hc
        clear hp hc
        go_wp2_with (go_at_fn g; refine HC.out.mono ?_; rintro e w' ⟨rfl, rfl⟩)
        go_round
        case rel => exact ⟨_, _, rfl, rfl, by omega, by omega, by omega, fun _ => by rw [show (i + j) / 2 + 1 - 1 = (i + j) / 2 by omega]; exact HP.out, I.2⟩
        case measure => simp [intOf]; omega
      · have HP := Lib.hid hp
        have HC := Lib.hid hc
        clear hp hc
        go_wp2_with (go_at_fn g; refine HC.out.mono ?_; rintro e w' ⟨rfl, rfl⟩)
        go_round
        case rel => exact ⟨_, _, rfl, rfl, by omega, by omega, by omega, I.1, fun _ => HP.out⟩
        case measure => simp [intOf]; omega
    · have e : j = i := by omega
      subst e
      go_wp2
      go_ret
      exact ⟨_, hi, hj, I.1, I.2, rfl, rfl⟩

theorem eg34 : ∀ args w, (callFunc 48 args).run Try.prog w = .ok (.enter 48 args) w := fun _ _ => by kernel_rfl


theorem clo34 (a : Addr) (n i : Int) (w : World) (hc : w.cell? a = some (.int .i64 n))
    (_hm1 : 0 ≤ i * i) (_hm2 : i * i ≤ 4611686018427387904) :
    Calls Try.prog 48 (#[.int .i64 i] ++ #[.pointer (some a)]) w fun e w' => e = .returned (.bool (decide (n ≤ i * i))) ∧ w = w' := by
  go_enter Try.func48, Try.ntmps48
  go_wp2
  go_ret
  exact ⟨rfl, rfl⟩

theorem hasRoot_yes (n : Int) (w : World) (h0 : 0 ≤ n) (hn : n ≤ 4611686018427387904) :
    Calls Try.prog 46 #[.int .i64 n] w fun e w' => e = .returned (.bool true) ∧ w = w' := by
  go_enter Try.func46, Try.ntmps46
  go_wp2
  go_ret
  exact ⟨rfl, rfl⟩
theorem hasRoot_no (n : Int) (w : World) (h : n < 0 ∨ 4611686018427387904 < n) :
    Calls Try.prog 46 #[.int .i64 n] w fun e w' => e = .returned (.bool false) ∧ w = w' := by
  by_cases h0 : 0 ≤ n
  · have hn : ¬ n ≤ 4611686018427387904 := by omega
    clear h
    go_enter Try.func46, Try.ntmps46
    go_wp2
    go_ret
    exact ⟨rfl, rfl⟩
  · clear h
    go_enter Try.func46, Try.ntmps46
    go_wp2
    go_ret
    exact ⟨rfl, rfl⟩

theorem sq_bd (i : Int) (h0 : 0 ≤ i) (h : i ≤ 2147483648) : 0 ≤ i * i ∧ i * i ≤ 4611686018427387904 := by
  refine ⟨Int.mul_nonneg h0 h0, ?_⟩
  have : i * i ≤ 2147483648 * 2147483648 := Int.mul_le_mul h h h0 (by omega)
  omega

def SomeI (P : Int → Prop) (w : World) (e : Ending) (w' : World) : Prop := ∃ r : Int, P r ∧ e = .returned (.int .i64 r) ∧ Below w.heap.size w w'
def SameI (P : Int → Prop) (w : World) (e : Ending) (w' : World) : Prop := ∃ r : Int, P r ∧ e = .returned (.int .i64 r) ∧ w = w'

/-- r is the root of n, rounded down. -/
def IsRoot (n r : Int) : Prop := 0 ≤ r ∧ r ≤ 2147483648 ∧ r * r ≤ n ∧ n < (r + 1) * (r + 1)
/-- r is the root of n, rounded up. -/
def IsRootUp (n r : Int) : Prop := 0 ≤ r ∧ r ≤ 2147483648 ∧ n ≤ r * r ∧ (0 < r → (r - 1) * (r - 1) < n)

theorem isRoot_of (n r : Int) (h0 : 0 ≤ n) (hn : n ≤ 4611686018427387904) (h1 : 0 ≤ r) (h2 : r ≤ 2147483648)
    (h3 : 0 < r → decide (n < (r - 1 + 1) * (r - 1 + 1)) = false) (h4 : r < 2147483648 → decide (n < (r + 1) * (r + 1)) = true) : IsRoot n r := by
  refine ⟨h1, h2, ?_, ?_⟩
  · by_cases h : 0 < r
    · have := h3 h
      rw [show r - 1 + 1 = r by omega] at this
      have := of_decide_eq_false this; omega
    · obtain rfl : r = 0 := by omega
      omega
  · by_cases h : r < 2147483648
    · exact of_decide_eq_true (h4 h)
    · obtain rfl : r = 2147483648 := by omega
      omega
theorem isRootUp_of (n r : Int) (_h0 : 0 ≤ n) (hn : n ≤ 4611686018427387904) (h1 : 0 ≤ r) (h2 : r ≤ 2147483648)
    (h3 : 0 < r → decide (n ≤ (r - 1) * (r - 1)) = false) (h4 : r < 2147483648 → decide (n ≤ r * r) = true) : IsRootUp n r := by
  refine ⟨h1, h2, ?_, fun h => ?_⟩
  · by_cases h : r < 2147483648
    · exact of_decide_eq_true (h4 h)
    · obtain rfl : r = 2147483648 := by omega
      omega
  · have := of_decide_eq_false (h3 h); omega

theorem rootUp_yes (n : Int) (w : World) (h0 : 0 ≤ n) (hn : n ≤ 4611686018427387904) :
    Calls Try.prog 35 #[.int .i64 n] w (SomeI (IsRootUp n) w) := by
  have hs := search_any 48 #[.pointer (some ⟨w.heap.size, 0, none⟩)] 2147483648 (fun i => decide (n ≤ i * i)) (w.alloc (.cells #[.int .i64 n] 3)) (by omega) (by omega)
    (fun i hi hi2 => clo34 ⟨w.heap.size, 0, none⟩ n i _ (by simp) (sq_bd _ (by omega) (by omega)).1 (sq_bd _ (by omega) (by omega)).2) eg34
  have HS := Lib.hid hs
  clear hs
  go_enter Try.func35, Try.ntmps35
  go_wp2_with fail
  refine (hasRoot_yes _ _ h0 hn).mono ?_; rintro e w' ⟨rfl, rfl⟩
  go_wp2_with fail
  refine HS.out.mono ?_
  rintro e w' ⟨r, h1, h2, h3, h4, rfl, rfl⟩
  have H := Lib.hid (isRootUp_of n r h0 hn h1 h2 h3 h4)
  clear h3 h4
  go_wp2
  go_ret
  exact ⟨r, H.out, rfl, (Below.refl _ _).alloc (Nat.le_refl _) _⟩
theorem rootUp_no (n : Int) (w : World) (h : n < 0 ∨ 4611686018427387904 < n) :
    Calls Try.prog 35 #[.int .i64 n] w (SomeI (· = 0) w) := by
  have H := Lib.hid h
  clear h
  go_enter Try.func35, Try.ntmps35
  go_wp2_with fail
  refine (hasRoot_no _ _ H.out).mono ?_; rintro e w' ⟨rfl, rfl⟩
  go_wp2
  go_ret
  exact ⟨0, rfl, rfl, (Below.refl _ _).alloc (Nat.le_refl _) _⟩
end Go.Proofs.Ytagemdgbnajobaa
