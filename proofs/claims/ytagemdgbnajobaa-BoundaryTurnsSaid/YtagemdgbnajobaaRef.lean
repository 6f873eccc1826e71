/- Contracts of the reference's dividing functions and roots. -/
import Derived.Test.YtagemdgbnajobaaRoot
namespace Go.Proofs.Ytagemdgbnajobaa
open Go.ChangeShapes Go.WideShapes Go.ChangeAt Go.RowKit

theorem half_bd (a b : Int) (h1 : -2305843009213693952 ≤ a) (h2 : a ≤ 2305843009213693952) (h3 : 1 ≤ b) (h4 : b ≤ 1099511627776) :
    -2305843009213693952 - 1099511627776 ≤ a / b * b ∧ a / b * b ≤ a ∧ a / b * b + b > a := by
  have e := Int.mul_ediv_add_emod a b
  have l := Int.emod_lt_of_pos a (b := b) (by omega)
  have l2 := Int.emod_nonneg a (b := b) (by omega)
  rw [Int.mul_comm] at e
  omega

def InvR (n r t : Int) : Prop := r * r ≤ n ∧ ((t = 0 ∧ n < (r + 1) * (r + 1)) ∨ (∃ k : Nat, t = 2 ^ k ∧ n < (r + 2 * t) * (r + 2 * t)))

theorem pow_half (k : Nat) (t : Int) (h : t = 2 ^ k) : 1 ≤ t ∧ ((t = 1 ∧ t / 2 = 0) ∨ (2 * (t / 2) = t ∧ ∃ j : Nat, t / 2 = 2 ^ j)) := by
  cases k with
  | zero => subst h; exact ⟨by decide, .inl ⟨rfl, rfl⟩⟩
  | succ j =>
    have : (2 : Int) ^ (j + 1) = 2 * 2 ^ j := by rw [Int.pow_succ, Int.mul_comm]
    have p : (0 : Int) < 2 ^ j := Int.pow_pos (by omega)
    rw [this] at h
    refine ⟨by omega, .inr ⟨by omega, j, by omega⟩⟩

theorem invR_take (n r t : Int) (h : InvR n r t) (h1 : 0 < t) (h3 : (r + t) * (r + t) ≤ n) : InvR n (r + t) (t / 2) := by
  obtain ⟨_, h | ⟨k, hk, hn⟩⟩ := h
  · omega
  · refine ⟨h3, ?_⟩
    obtain ⟨_, ⟨e, e2⟩ | ⟨e, j, ej⟩⟩ := pow_half k t hk
    · exact .inl ⟨e2, by rw [e] at hn ⊢; rw [show r + 1 + 1 = r + 2 * 1 by omega]; exact hn⟩
    · exact .inr ⟨j, ej, by rw [e, show r + t + t = r + 2 * t by omega]; exact hn⟩
theorem invR_leave (n r t : Int) (h : InvR n r t) (h1 : 0 < t) (h3 : n < (r + t) * (r + t)) : InvR n r (t / 2) := by
  obtain ⟨h0, h | ⟨k, hk, hn⟩⟩ := h
  · omega
  · refine ⟨h0, ?_⟩
    obtain ⟨_, ⟨e, e2⟩ | ⟨e, j, ej⟩⟩ := pow_half k t hk
    · exact .inl ⟨e2, by rw [e] at h3; exact h3⟩
    · exact .inr ⟨j, ej, by rw [e]; exact h3⟩
theorem over_sq (n r t : Int) (hn : n ≤ 4611686018427387904) (h : 2147483648 < r + t) : n < (r + t) * (r + t) := by
  have : 2147483649 * 2147483649 ≤ (r + t) * (r + t) := Int.mul_le_mul (by omega) (by omega) (by omega) (by omega)
  omega
theorem invR_end (n r t : Int) (h : InvR n r t) (h1 : ¬ 0 < t) : r * r ≤ n ∧ n < (r + 1) * (r + 1) := by
  obtain ⟨h0, h | ⟨k, hk, hn⟩⟩ := h
  · exact ⟨h0, h.2⟩
  · have := pow_half k t hk; omega

set_option maxHeartbeats 400000 in
theorem rroot_yes (n : Int) (w : World) (h0 : 0 ≤ n) (hn : n ≤ 4611686018427387904) :
    Calls Try.prog 49 #[.int .i64 n] w (SameI (IsRoot n) w) := by
  go_enter Try.func49, Try.ntmps49
  go_wp2
  go_loop [3, 4] (fun a b => ∃ r t : Int, a = .int .i64 r ∧ b = .int .i64 t ∧ 0 ≤ r ∧ r ≤ 2147483648 ∧ 0 ≤ t ∧ t ≤ 2147483648 ∧ InvR n r t) (fun _ b => (intOf b).toNat)
  case atStart => exact ⟨0, 2147483648, rfl, rfl, by omega, by omega, by omega, by omega, by omega, .inr ⟨31, by decide, by omega⟩⟩
  case round =>
    obtain ⟨r, t, rfl, rfl, hr0, hr1, ht0, ht1, I⟩ := hrel
    by_cases hlt : 0 < t
    · by_cases hs : r + t ≤ 2147483648
      · have bq := sq_bd (r + t) (by omega) hs
        by_cases hq : (r + t) * (r + t) ≤ n
        · have I' := Lib.hid (invR_take n r t I hlt hq)
          go_wp2
          go_round
          case rel => exact ⟨_, _, rfl, rfl, by omega, by omega, by omega, by omega, I'.out⟩
          case measure => simp [intOf]; omega
        · have I' := Lib.hid (invR_leave n r t I hlt (by omega))
          go_wp2
          go_round
          case rel => exact ⟨_, _, rfl, rfl, by omega, by omega, by omega, by omega, I'.out⟩
          case measure => simp [intOf]; omega
      · have I' := Lib.hid (invR_leave n r t I hlt (over_sq n r t hn (by omega)))
        go_wp2
        go_round
        case rel => exact ⟨_, _, rfl, rfl, by omega, by omega, by omega, by omega, I'.out⟩
        case measure => simp [intOf]; omega
    · have I' := Lib.hid (invR_end n r t I hlt)
      go_wp2
      go_ret
      exact ⟨r, ⟨hr0, hr1, I'.out.1, I'.out.2⟩, rfl, rfl⟩

theorem rroot_no (n : Int) (w : World) (h : n < 0 ∨ 4611686018427387904 < n) :
    Calls Try.prog 49 #[.int .i64 n] w (SameI (· = 0) w) := by
  by_cases h1 : n < 0
  · clear h
    go_enter Try.func49, Try.ntmps49
    go_wp2
    go_ret
    exact ⟨0, rfl, rfl, rfl⟩
  · have h2 : 4611686018427387904 < n := by omega
    clear h
    go_enter Try.func49, Try.ntmps49
    go_wp2
    go_ret
    exact ⟨0, rfl, rfl, rfl⟩

theorem upOf_more (n r : Int) (hn : n ≤ 4611686018427387904) (h : IsRoot n r) (h1 : r * r < n) : IsRootUp n (r + 1) := by
  obtain ⟨a, b, c, d⟩ := h
  have hr : r < 2147483648 := by
    by_cases e : r = 2147483648
    · subst e; omega
    · omega
  exact ⟨by omega, by omega, by omega, fun _ => by rw [show r + 1 - 1 = r by omega]; exact h1⟩
theorem upOf_same (n r : Int) (h : IsRoot n r) (h1 : ¬ r * r < n) : IsRootUp n r := by
  obtain ⟨a, b, c, d⟩ := h
  refine ⟨a, b, by omega, fun h => ?_⟩
  have : (r - 1) * (r - 1) < r * r := by
    rw [Int.sub_mul, Int.mul_sub]; omega
  omega

theorem rrootUp_yes (n : Int) (w : World) (h0 : 0 ≤ n) (hn : n ≤ 4611686018427387904) :
    Calls Try.prog 36 #[.int .i64 n] w (SameI (IsRootUp n) w) := by
  go_enter Try.func36, Try.ntmps36
  go_wp2_with fail
  refine (rroot_yes n _ h0 hn).mono ?_
  rintro e w' ⟨r, hr, rfl, rfl⟩
  have hb := sq_bd r hr.1 hr.2.1
  have hb1 := hr.1
  have hb2 := hr.2.1
  by_cases hq : r * r < n
  · have H := Lib.hid (upOf_more n r hn hr hq)
    clear hr
    go_wp2
    go_ret
    exact ⟨_, H.out, rfl, rfl⟩
  · have H := Lib.hid (upOf_same n r hr hq)
    clear hr
    go_wp2
    go_ret
    exact ⟨_, H.out, rfl, rfl⟩
theorem rrootUp_no (n : Int) (w : World) (h : n < 0 ∨ 4611686018427387904 < n) :
    Calls Try.prog 36 #[.int .i64 n] w (SameI (· = 0) w) := by
  have H := Lib.hid h
  by_cases h1 : n < 0
  · clear h
    go_enter Try.func36, Try.ntmps36
    go_wp2_with fail
    refine (rroot_no n _ H.out).mono ?_
    rintro e w' ⟨r, rfl, rfl, rfl⟩
    go_wp2
    go_ret
    exact ⟨_, rfl, rfl, rfl⟩
  · have h2 : 4611686018427387904 < n := by omega
    clear h
    go_enter Try.func36, Try.ntmps36
    go_wp2_with fail
    refine (rroot_no n _ H.out).mono ?_
    rintro e w' ⟨r, rfl, rfl, rfl⟩
    go_wp2
    go_ret
    exact ⟨_, rfl, rfl, rfl⟩

/- There is one root. -/
theorem root_one (n r s : Int) (h : IsRoot n r) (k : IsRoot n s) : r = s := by
  obtain ⟨a, b, c, d⟩ := h
  obtain ⟨a', b', c', d'⟩ := k
  have key : ∀ x y : Int, 0 ≤ x → x < y → y * y ≤ n → n < (x + 1) * (x + 1) → False := fun x y hx h h1 h2 => by
    have : (x + 1) * (x + 1) ≤ y * y := Int.mul_le_mul (by omega) (by omega) (by omega) (by omega)
    omega
  by_cases h1 : r < s
  · exact (key r s a h1 c' d).elim
  · by_cases h2 : s < r
    · exact (key s r a' h2 c d').elim
    · omega
theorem rootUp_one (n r s : Int) (h : IsRootUp n r) (k : IsRootUp n s) : r = s := by
  obtain ⟨a, b, c, d⟩ := h
  obtain ⟨a', b', c', d'⟩ := k
  have key : ∀ x y : Int, 0 ≤ x → x < y → n ≤ x * x → (0 < y → (y - 1) * (y - 1) < n) → False := fun x y hx h h1 h2 => by
    have h2 := h2 (by omega)
    have : x * x ≤ (y - 1) * (y - 1) := Int.mul_le_mul (by omega) (by omega) (by omega) (by omega)
    omega
  by_cases h1 : r < s
  · exact (key r s a h1 c d').elim
  · by_cases h2 : s < r
    · exact (key s r a' h2 c' d).elim
    · omega
end Go.Proofs.Ytagemdgbnajobaa
