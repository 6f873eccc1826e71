/- Plain mathematics of package meter: valid meters, counts, volumes. No program is named here. -/
import Derived.Test.YtjeejdoahhkjbaaMath
namespace Go.Proofs.Ytjeejdoahhkjbaa.Mt

def valid (p b f : Int) : Bool := decide (1 ≤ p) && decide (p ≤ 1048576) && (decide (b = 16) || decide (b = 32)) && decide (50000 ≤ f) && decide (f ≤ 200000)
/-- How many readings a counter of b bits has. -/
def span (b : Int) : Int := if b = 16 then 65536 else 4294967296
def isC (b l q : Int) : Bool := decide (0 ≤ l) && decide (l < span b) && decide (0 ≤ q) && decide (q ≤ 1099511627776)
def vol (p f n : Int) : Int := n * f / (100 * p)
def step (b l n : Int) : Int := if n - l < 0 then n - l + span b else n - l

theorem valid_true {p b f : Int} (h : valid p b f = true) : 1 ≤ p ∧ p ≤ 1048576 ∧ (b = 16 ∨ b = 32) ∧ 50000 ≤ f ∧ f ≤ 200000 := by
  unfold valid at h; simp only [Bool.and_eq_true, Bool.or_eq_true, decide_eq_true_eq] at h; omega
theorem valid_mk {p b f : Int} (h1 : 1 ≤ p) (h2 : p ≤ 1048576) (h3 : b = 16 ∨ b = 32) (h4 : 50000 ≤ f) (h5 : f ≤ 200000) : valid p b f = true := by
  unfold valid; simp only [Bool.and_eq_true, Bool.or_eq_true, decide_eq_true_eq]; omega
theorem valid_false {p b f : Int} (h : valid p b f = false) : p < 1 ∨ 1048576 < p ∨ (¬ b = 16 ∧ ¬ b = 32) ∨ f < 50000 ∨ 200000 < f := by
  unfold valid at h
  simp only [Bool.and_eq_false_iff, Bool.or_eq_false_iff, decide_eq_false_iff_not] at h
  omega
theorem span_cases {b : Int} (h : b = 16 ∨ b = 32) : (b = 16 ∧ span b = 65536) ∨ (b = 32 ∧ span b = 4294967296) := by
  rcases h with rfl | rfl
  · exact Or.inl ⟨rfl, rfl⟩
  · exact Or.inr ⟨rfl, rfl⟩
theorem isC_true {b l q : Int} (h : isC b l q = true) : 0 ≤ l ∧ l < span b ∧ 0 ≤ q ∧ q ≤ 1099511627776 := by
  unfold isC at h; simp only [Bool.and_eq_true, decide_eq_true_eq] at h; omega
theorem isC_mk {b l q : Int} (h1 : 0 ≤ l) (h2 : l < span b) (h3 : 0 ≤ q) (h4 : q ≤ 1099511627776) : isC b l q = true := by
  unfold isC; simp only [Bool.and_eq_true, decide_eq_true_eq]; omega
theorem isC_false {b l q : Int} (h : isC b l q = false) : l < 0 ∨ span b ≤ l ∨ q < 0 ∨ 1099511627776 < q := by
  unfold isC at h
  simp only [Bool.and_eq_false_iff, decide_eq_false_iff_not] at h
  omega
theorem mul_range {n f : Int} (h1 : 0 ≤ n) (h2 : n ≤ 1099511627776) (h3 : 0 ≤ f) (h4 : f ≤ 200000) : 0 ≤ n * f ∧ n * f ≤ 219902325555200000 := by
  refine ⟨Int.mul_nonneg h1 h3, ?_⟩
  have := Int.mul_le_mul h2 h4 h3 (by omega)
  omega
theorem vol_range {p f n : Int} (hp : 1 ≤ p) (h1 : 0 ≤ n) (h2 : n ≤ 1099511627776) (h3 : 0 ≤ f) (h4 : f ≤ 200000) : 0 ≤ vol p f n ∧ vol p f n ≤ 219902325555200000 := by
  obtain ⟨a, b⟩ := mul_range h1 h2 h3 h4
  refine ⟨Int.ediv_nonneg a (by omega), ?_⟩
  exact (Rd.ediv_range (n * f) (100 * p) (by omega) 219902325555200000 (by omega) (by omega) b).2
theorem vol_mono {p f n m : Int} (hp : 1 ≤ p) (h3 : 0 ≤ f) (h : n ≤ m) : vol p f n ≤ vol p f m := by
  unfold vol
  exact Int.ediv_le_ediv (by omega) (Int.mul_le_mul_of_nonneg_right h h3)
theorem vol_tdiv {p f n : Int} (h1 : 0 ≤ n) (h3 : 0 ≤ f) : (n * f).tdiv (100 * p) = vol p f n := by
  unfold vol
  exact Int.tdiv_eq_ediv_of_nonneg (Int.mul_nonneg h1 h3)
end Go.Proofs.Ytjeejdoahhkjbaa.Mt
