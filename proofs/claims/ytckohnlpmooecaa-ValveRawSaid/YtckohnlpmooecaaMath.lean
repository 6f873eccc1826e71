/- Plain mathematics of package round: dividing, roots. No program is named here. -/
namespace Go.Proofs.Ytckohnlpmooecaa.Rd

theorem tdiv_down (a b : Int) (hb : 1 ≤ b) (h : a.tmod b < 0) : a.tdiv b - 1 = a / b := by
  have e := Int.mul_tdiv_add_tmod a b
  have hl := Int.lt_tmod_of_pos a (b := b) (by omega)
  rw [Int.mul_comm] at e
  refine Eq.symm ((Int.ediv_eq_iff_of_pos (by omega)).2 ?_)
  rw [Int.sub_mul]
  omega

theorem tdiv_same (a b : Int) (hb : 1 ≤ b) (h : 0 ≤ a.tmod b) : a.tdiv b = a / b := by
  have e := Int.mul_tdiv_add_tmod a b
  have hl : a.tmod b < b := Int.tmod_lt_of_pos a (by omega)
  rw [Int.mul_comm] at e
  refine Eq.symm ((Int.ediv_eq_iff_of_pos (by omega)).2 ?_)
  omega

theorem tmod_range (a b : Int) (hb : 1 ≤ b) : -b < a.tmod b ∧ a.tmod b < b :=
  ⟨by have := Int.lt_tmod_of_pos a (b := b) (by omega); omega, Int.tmod_lt_of_pos a (by omega)⟩

theorem ediv_range (a b : Int) (hb : 1 ≤ b) (k : Int) (hk : 0 ≤ k) (h1 : -k ≤ a) (h2 : a ≤ k) : -k ≤ a / b ∧ a / b ≤ k := by
  constructor
  · rw [Int.le_ediv_iff_mul_le (by omega)]
    have : k * 1 ≤ k * b := Int.mul_le_mul_of_nonneg_left hb hk
    rw [Int.neg_mul]; omega
  · have : a / b < k + 1 := by
      rw [Int.ediv_lt_iff_lt_mul (by omega)]
      have : (k + 1) * 1 ≤ (k + 1) * b := Int.mul_le_mul_of_nonneg_left hb (by omega)
      omega
    omega

theorem tdiv_range (a b : Int) (hb : 1 ≤ b) (k : Int) (hk : 0 ≤ k) (h1 : -k ≤ a) (h2 : a ≤ k) : -k ≤ a.tdiv b ∧ a.tdiv b ≤ k := by
  have e := Int.mul_tdiv_add_tmod a b
  have r := tmod_range a b hb
  have d := ediv_range a b hb k hk h1 h2
  by_cases h : a.tmod b < 0
  · have t := tdiv_down a b hb h
    refine ⟨by omega, ?_⟩
    by_cases h3 : a.tdiv b ≤ k
    · exact h3
    · have : (k + 1) * 1 ≤ b * a.tdiv b := by
        rw [Int.mul_comm b]; exact Int.mul_le_mul (by omega) hb (by omega) (by omega)
      have : b * (k+1) ≤ b * a.tdiv b := Int.mul_le_mul_of_nonneg_left (by omega) (by omega)
      have : b * (k+1) = b * k + b := by rw [Int.mul_add, Int.mul_one]
      have : 0 ≤ b * k := Int.mul_nonneg (by omega) hk
      have : 1 * k ≤ b * k := Int.mul_le_mul_of_nonneg_right hb hk
      omega
  · have t := tdiv_same a b hb (by omega); omega

/-- The numbers that may be divided. -/
def ok (a b : Int) : Bool := decide (-2305843009213693952 ≤ a) && decide (a ≤ 2305843009213693952) && decide (1 ≤ b) && decide (b ≤ 1099511627776)
def down (a b : Int) : Int := if ok a b then a / b else 0
def up (a b : Int) : Int := if ok a b then -(-a / b) else 0
def half (a b : Int) : Int := if ok a b then (2 * a + b) / (2 * b) else 0

theorem ok_true {a b : Int} (h : ok a b = true) : -2305843009213693952 ≤ a ∧ a ≤ 2305843009213693952 ∧ 1 ≤ b ∧ b ≤ 1099511627776 := by
  unfold ok at h; simp only [Bool.and_eq_true, decide_eq_true_eq] at h; omega
theorem ok_mk {a b : Int} (h1 : -2305843009213693952 ≤ a) (h2 : a ≤ 2305843009213693952) (h3 : 1 ≤ b) (h4 : b ≤ 1099511627776) : ok a b = true := by
  unfold ok; simp [*]
theorem ok_false {a b : Int} (h : ok a b = false) : a < -2305843009213693952 ∨ 2305843009213693952 < a ∨ b < 1 ∨ 1099511627776 < b := by
  by_cases h1 : -2305843009213693952 ≤ a
  · by_cases h2 : a ≤ 2305843009213693952
    · by_cases h3 : 1 ≤ b
      · by_cases h4 : b ≤ 1099511627776
        · rw [ok_mk h1 h2 h3 h4] at h; cases h
        · omega
      · omega
    · omega
  · omega
theorem down_range (a b : Int) : -2305843009213693952 ≤ down a b ∧ down a b ≤ 2305843009213693952 := by
  unfold down; split
  · rename_i h; have := ok_true h; exact ediv_range a b (by omega) _ (by omega) (by omega) (by omega)
  · omega

/- The reference's ways. -/
theorem up_ref_more (a b : Int) (hb : 1 ≤ b) (h : 0 < a.tmod b) : a.tdiv b + 1 = -(-a / b) := by
  have := tdiv_down (-a) b hb (by rw [Int.neg_tmod]; omega)
  rw [Int.neg_tdiv] at this; omega
theorem up_ref_same (a b : Int) (hb : 1 ≤ b) (h : a.tmod b ≤ 0) : a.tdiv b = -(-a / b) := by
  have := tdiv_same (-a) b hb (by rw [Int.neg_tmod]; omega)
  rw [Int.neg_tdiv] at this; omega
theorem half_more (a b : Int) (hb : 1 ≤ b) (h : b ≤ 2 * (a - a / b * b)) : a / b + 1 = (2 * a + b) / (2 * b) := by
  have e := Int.mul_ediv_add_emod a b
  have l := Int.emod_lt_of_pos a (b := b) (by omega)
  rw [Int.mul_comm] at e
  refine Eq.symm ((Int.ediv_eq_iff_of_pos (by omega)).2 ?_)
  rw [show (a / b + 1) * (2 * b) = 2 * (a / b * b) + 2 * b by rw [Int.add_mul, Int.one_mul]; congr 1; rw [← Int.mul_assoc, Int.mul_comm (a / b) 2, Int.mul_assoc]]
  omega
theorem half_same (a b : Int) (hb : 1 ≤ b) (h : 2 * (a - a / b * b) < b) : a / b = (2 * a + b) / (2 * b) := by
  have e := Int.mul_ediv_add_emod a b
  have l := Int.emod_nonneg a (b := b) (by omega)
  rw [Int.mul_comm] at e
  refine Eq.symm ((Int.ediv_eq_iff_of_pos (by omega)).2 ?_)
  rw [show (a / b) * (2 * b) = 2 * (a / b * b) by rw [← Int.mul_assoc, Int.mul_comm (a / b) 2, Int.mul_assoc]]
  omega
end Go.Proofs.Ytckohnlpmooecaa.Rd
