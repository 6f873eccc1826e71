/- Plain mathematics of package prover: valid provers, runs, their least and greatest, windows, the factor. No program is named here. -/
import Derived.Test.YtjeejdoahhkjbaaMm
namespace Go.Proofs.Ytjeejdoahhkjbaa.Pm

def pvalid (v t : Int) : Bool := decide (1 ≤ v) && decide (v ≤ 100000) && decide (0 ≤ t) && decide (t ≤ 10000)
theorem pvalid_true {v t : Int} (h : pvalid v t = true) : 1 ≤ v ∧ v ≤ 100000 ∧ 0 ≤ t ∧ t ≤ 10000 := by
  unfold pvalid at h; simp only [Bool.and_eq_true, decide_eq_true_eq] at h; omega
theorem pvalid_mk {v t : Int} (h1 : 1 ≤ v) (h2 : v ≤ 100000) (h3 : 0 ≤ t) (h4 : t ≤ 10000) : pvalid v t = true := by
  unfold pvalid; simp only [Bool.and_eq_true, decide_eq_true_eq]; omega
theorem pvalid_false {v t : Int} (h : pvalid v t = false) : v < 1 ∨ 100000 < v ∨ t < 0 ∨ 10000 < t := by
  unfold pvalid at h
  simp only [Bool.and_eq_false_iff, decide_eq_false_iff_not] at h
  omega

/-- All of the first n numbers are runs. -/
def Runs (n : Nat) (x : Nat → Int) : Prop := ∀ i, i < n → 1 ≤ x i ∧ x i ≤ 1073741824
/-- The i-th number is the first that is no run. -/
def Bad (n : Nat) (x : Nat → Int) (i : Nat) : Prop := i < n ∧ (x i < 1 ∨ 1073741824 < x i) ∧ ∀ j, j < i → 1 ≤ x j ∧ x j ≤ 1073741824
theorem runs_or_bad (n : Nat) (x : Nat → Int) : Runs n x ∨ ∃ i, Bad n x i := by
  induction n with
  | zero => exact .inl fun i hi => absurd hi (by omega)
  | succ n ih =>
    rcases ih with h | ⟨i, h1, h2, h3⟩
    · by_cases e : 1 ≤ x n ∧ x n ≤ 1073741824
      · refine .inl fun i hi => ?_
        by_cases hin : i = n
        · rw [hin]; exact e
        · exact h i (by omega)
      · exact .inr ⟨n, by omega, by omega, h⟩
    · exact .inr ⟨i, by omega, h2, h3⟩
theorem Runs.not_bad {n : Nat} {x : Nat → Int} (h : Runs n x) (i : Nat) : ¬ Bad n x i := fun ⟨a, b, _⟩ => by have := h i a; omega

/-- The least and the greatest of the first k + 1 numbers. -/
def lo (x : Nat → Int) : Nat → Int
  | 0 => x 0
  | k + 1 => if lo x k ≤ x (k + 1) then lo x k else x (k + 1)
def hi (x : Nat → Int) : Nat → Int
  | 0 => x 0
  | k + 1 => if x (k + 1) ≤ hi x k then hi x k else x (k + 1)

theorem lo_le (x : Nat → Int) (k i : Nat) (h : i ≤ k) : lo x k ≤ x i := by
  induction k with
  | zero => obtain rfl : i = 0 := by omega
            exact Int.le_refl _
  | succ k ih =>
    unfold lo
    by_cases e : i = k + 1
    · subst e; split <;> omega
    · have := ih (by omega); split <;> omega
theorem hi_ge (x : Nat → Int) (k i : Nat) (h : i ≤ k) : x i ≤ hi x k := by
  induction k with
  | zero => obtain rfl : i = 0 := by omega
            exact Int.le_refl _
  | succ k ih =>
    unfold hi
    by_cases e : i = k + 1
    · subst e; split <;> omega
    · have := ih (by omega); split <;> omega
theorem lo_mem (x : Nat → Int) (k : Nat) : ∃ i, i ≤ k ∧ lo x k = x i := by
  induction k with
  | zero => exact ⟨0, by omega, rfl⟩
  | succ k ih =>
    obtain ⟨i, h1, h2⟩ := ih
    unfold lo
    split
    · exact ⟨i, by omega, h2⟩
    · exact ⟨k + 1, by omega, rfl⟩
theorem hi_mem (x : Nat → Int) (k : Nat) : ∃ i, i ≤ k ∧ hi x k = x i := by
  induction k with
  | zero => exact ⟨0, by omega, rfl⟩
  | succ k ih =>
    obtain ⟨i, h1, h2⟩ := ih
    unfold hi
    split
    · exact ⟨i, by omega, h2⟩
    · exact ⟨k + 1, by omega, rfl⟩
theorem lo_congr {x y : Nat → Int} (k : Nat) (h : ∀ i, i ≤ k → x i = y i) : lo x k = lo y k := by
  induction k with
  | zero => exact h 0 (by omega)
  | succ k ih => unfold lo; rw [ih (fun i hi => h i (by omega)), h (k + 1) (by omega)]
theorem hi_congr {x y : Nat → Int} (k : Nat) (h : ∀ i, i ≤ k → x i = y i) : hi x k = hi y k := by
  induction k with
  | zero => exact h 0 (by omega)
  | succ k ih => unfold hi; rw [ih (fun i hi => h i (by omega)), h (k + 1) (by omega)]
theorem lo_hi (x : Nat → Int) (k : Nat) : lo x k ≤ hi x k := by
  have a := lo_le x k 0 (by omega)
  have b := hi_ge x k 0 (by omega)
  omega
theorem lo_range {n : Nat} {x : Nat → Int} (h : Runs n x) (k : Nat) (hk : k < n) : 1 ≤ lo x k ∧ lo x k ≤ 1073741824 := by
  obtain ⟨i, hi, e⟩ := lo_mem x k
  rw [e]; exact h i (by omega)
theorem hi_range {n : Nat} {x : Nat → Int} (h : Runs n x) (k : Nat) (hk : k < n) : 1 ≤ hi x k ∧ hi x k ≤ 1073741824 := by
  obtain ⟨i, hi', e⟩ := hi_mem x k
  rw [e]; exact h i (by omega)

/-- n runs (n at least 1) repeat. -/
def rep (t : Int) (n : Nat) (x : Nat → Int) : Bool := decide ((hi x (n - 1) - lo x (n - 1)) * 1000000 ≤ t * lo x (n - 1))

/-- Some of what repeats repeats; a greater tolerance never refuses what a lesser one accepts. -/
theorem rep_some {t u : Int} {n m : Nat} {x y : Nat → Int} (hn : 1 ≤ n) (hm : 1 ≤ m) (ht : 0 ≤ t) (htu : t ≤ u) (hx : Runs n x) (hs : ∀ i, i < m → ∃ j, j < n ∧ y i = x j) (h : rep t n x = true) : rep u m y = true := by
  unfold rep at h ⊢
  rw [decide_eq_true_eq] at h ⊢
  obtain ⟨i, h1, e1⟩ := lo_mem y (m - 1)
  obtain ⟨j, h2, e2⟩ := hi_mem y (m - 1)
  obtain ⟨i', h3, e3⟩ := hs i (by omega)
  obtain ⟨j', h4, e4⟩ := hs j (by omega)
  have a := lo_le x (n - 1) i' (by omega)
  have b := hi_ge x (n - 1) j' (by omega)
  rw [e1, e2, e3, e4]
  have c := lo_range hx (n - 1) (by omega)
  generalize lo x (n - 1) = L at *
  generalize hi x (n - 1) = H at *
  have d1 : t * L ≤ u * L := Int.mul_le_mul_of_nonneg_right htu (by omega)
  have d2 : u * L ≤ u * x i' := Int.mul_le_mul_of_nonneg_left a (by omega)
  have d3 : (x j' - x i') * 1000000 ≤ (H - L) * 1000000 := Int.mul_le_mul_of_nonneg_right (by omega) (by omega)
  omega
/-- The order of runs doesn't matter. -/
theorem rep_turn {t : Int} {n : Nat} {x y : Nat → Int} (hn : 1 ≤ n) (ht : 0 ≤ t) (hx : Runs n x) (hs : ∀ i, i < n → y i = x (n - 1 - i)) : rep t n y = rep t n x := by
  have hy : Runs n y := fun i hi => by rw [hs i hi]; exact hx _ (by omega)
  have a : rep t n x = true → rep t n y = true := rep_some hn hn ht (Int.le_refl _) hx fun i hi => ⟨n - 1 - i, by omega, hs i hi⟩
  have b : rep t n y = true → rep t n x = true := rep_some hn hn ht (Int.le_refl _) hy fun i hi => ⟨n - 1 - i, by omega, by rw [hs _ (by omega)]; congr 1; omega⟩
  cases h : rep t n x
  · cases k : rep t n y
    · rfl
    · rw [b k] at h; cases h
  · exact a h
theorem lo_twice {x y : Nat → Int} (k : Nat) (h : ∀ i, i ≤ k → y i = 2 * x i) : lo y k = 2 * lo x k := by
  induction k with
  | zero => exact h 0 (by omega)
  | succ k ih => unfold lo; rw [ih (fun i hi => h i (by omega)), h (k + 1) (by omega)]; split <;> split <;> omega
theorem hi_twice {x y : Nat → Int} (k : Nat) (h : ∀ i, i ≤ k → y i = 2 * x i) : hi y k = 2 * hi x k := by
  induction k with
  | zero => exact h 0 (by omega)
  | succ k ih => unfold hi; rw [ih (fun i hi => h i (by omega)), h (k + 1) (by omega)]; split <;> split <;> omega
theorem rep_twice {t : Int} {n : Nat} {x y : Nat → Int} (hn : 1 ≤ n) (h : ∀ i, i < n → y i = 2 * x i) : rep t n y = rep t n x := by
  unfold rep
  rw [lo_twice (x := x) (n - 1) (fun i hi => h i (by omega)), hi_twice (x := x) (n - 1) (fun i hi => h i (by omega))]
  generalize lo x (n - 1) = L
  generalize hi x (n - 1) = H
  have e : t * (2 * L) = 2 * (t * L) := by rw [← Int.mul_assoc, Int.mul_comm t 2, Int.mul_assoc]
  rw [e]
  generalize t * L = M
  by_cases k : (H - L) * 1000000 ≤ M
  · rw [decide_eq_true k, decide_eq_true (by omega)]
  · rw [decide_eq_false k, decide_eq_false (by omega)]

/-- The window of five from k on. -/
def at' (x : Nat → Int) (k : Nat) : Nat → Int := fun i => x (k + i)
theorem Runs.at' {n : Nat} {x : Nat → Int} (h : Runs n x) (k m : Nat) (hk : k + m ≤ n) : Runs m (at' x k) := fun i hi => h (k + i) (by omega)
def sum5 (x : Nat → Int) (k : Nat) : Int := x k + x (k + 1) + x (k + 2) + x (k + 3) + x (k + 4)
theorem sum5_range {n : Nat} {x : Nat → Int} (h : Runs n x) (k : Nat) (hk : k + 5 ≤ n) : 5 ≤ sum5 x k ∧ sum5 x k ≤ 5368709120 := by
  have a0 := h k (by omega)
  have a1 := h (k + 1) (by omega)
  have a2 := h (k + 2) (by omega)
  have a3 := h (k + 3) (by omega)
  have a4 := h (k + 4) (by omega)
  unfold sum5
  omega
/-- The first window that repeats is the one from k on. -/
def First (t : Int) (n : Nat) (x : Nat → Int) (k : Nat) : Prop := k + 5 ≤ n ∧ rep t 5 (at' x k) = true ∧ ∀ j, j < k → rep t 5 (at' x j) = false
def None' (t : Int) (n : Nat) (x : Nat → Int) : Prop := ∀ j, j + 5 ≤ n → rep t 5 (at' x j) = false
theorem first_or_none (t : Int) (n : Nat) (x : Nat → Int) : (∃ k, First t n x k) ∨ None' t n x := by
  induction n with
  | zero => exact .inr fun j hj => absurd hj (by omega)
  | succ n ih =>
    rcases ih with ⟨k, h1, h2, h3⟩ | h
    · exact .inl ⟨k, by omega, h2, h3⟩
    · by_cases h5 : n < 4
      · exact .inr fun j hj => absurd hj (by omega)
      · cases e : rep t 5 (at' x (n - 4))
        · refine .inr fun j hj => ?_
          by_cases hjn : j = n - 4
          · rw [hjn]; exact e
          · exact h j (by omega)
        · exact .inl ⟨n - 4, by omega, e, fun j hj => h j (by omega)⟩

/-- The factor for the window from k on. -/
def fac (v p : Int) (x : Nat → Int) (k : Nat) : Int := Rd.half (5 * v * p * 100) (sum5 x k)
/-- What Prove returns. -/
inductive Pr (v t p b f : Int) (n : Nat) (x : Nat → Int) : Int → Int → Int → Prop
  | inv (h : pvalid v t = false ∨ Mt.valid p b f = false) : Pr v t p b f n x 0 0 9
  | limit (h1 : pvalid v t = true) (h2 : Mt.valid p b f = true) (h3 : 20 < n) : Pr v t p b f n x 0 0 4
  | range (h1 : pvalid v t = true) (h2 : Mt.valid p b f = true) (h3 : n ≤ 20) (i : Nat) (h4 : Bad n x i) : Pr v t p b f n x 0 0 1
  | none (h1 : pvalid v t = true) (h2 : Mt.valid p b f = true) (h3 : n ≤ 20) (h4 : Runs n x) (h5 : None' t n x) : Pr v t p b f n x 0 0 10
  | far (h1 : pvalid v t = true) (h2 : Mt.valid p b f = true) (h3 : n ≤ 20) (h4 : Runs n x) (k : Nat) (h5 : First t n x k) (h6 : fac v p x k < 50000 ∨ 200000 < fac v p x k) : Pr v t p b f n x 0 0 1
  | ok (h1 : pvalid v t = true) (h2 : Mt.valid p b f = true) (h3 : n ≤ 20) (h4 : Runs n x) (k : Nat) (h5 : First t n x k) (h6 : 50000 ≤ fac v p x k) (h7 : fac v p x k ≤ 200000) : Pr v t p b f n x (fac v p x k) k 0
theorem pr_any (v t p b f : Int) (n : Nat) (x : Nat → Int) : ∃ F k e, Pr v t p b f n x F k e := by
  cases h1 : pvalid v t
  · exact ⟨_, _, _, .inv (.inl h1)⟩
  cases h2 : Mt.valid p b f
  · exact ⟨_, _, _, .inv (.inr h2)⟩
  by_cases h3 : n ≤ 20
  · rcases runs_or_bad n x with h4 | ⟨i, h4⟩
    · rcases first_or_none t n x with ⟨k, h5⟩ | h5
      · by_cases h6 : fac v p x k < 50000 ∨ 200000 < fac v p x k
        · exact ⟨_, _, _, .far h1 h2 h3 h4 k h5 h6⟩
        · exact ⟨_, _, _, .ok h1 h2 h3 h4 k h5 (by omega) (by omega)⟩
      · exact ⟨_, _, _, .none h1 h2 h3 h4 h5⟩
    · exact ⟨_, _, _, .range h1 h2 h3 i h4⟩
  · exact ⟨_, _, _, .limit h1 h2 (by omega)⟩

/-- What Repeats reports. -/
inductive Rp (v t : Int) (n : Nat) (x : Nat → Int) : Bool → Prop
  | inv (h : pvalid v t = false) : Rp v t n x false
  | empty (h1 : pvalid v t = true) (h2 : n = 0) : Rp v t n x false
  | limit (h1 : pvalid v t = true) (h2 : 20 < n) : Rp v t n x false
  | range (h1 : pvalid v t = true) (h2 : 1 ≤ n) (h3 : n ≤ 20) (i : Nat) (h4 : Bad n x i) : Rp v t n x false
  | said (h1 : pvalid v t = true) (h2 : 1 ≤ n) (h3 : n ≤ 20) (h4 : Runs n x) : Rp v t n x (rep t n x)
theorem rp_any (v t : Int) (n : Nat) (x : Nat → Int) : ∃ r, Rp v t n x r := by
  cases h1 : pvalid v t
  · exact ⟨_, .inv h1⟩
  by_cases h2 : n = 0
  · exact ⟨_, .empty h1 h2⟩
  by_cases h3 : n ≤ 20
  · rcases runs_or_bad n x with h4 | ⟨i, h4⟩
    · exact ⟨_, .said h1 (by omega) h3 h4⟩
    · exact ⟨_, .range h1 (by omega) h3 i h4⟩
  · exact ⟨_, .limit h1 (by omega)⟩
end Go.Proofs.Ytjeejdoahhkjbaa.Pm
