/- What shares are: plain mathematics of quo, rem, share over an order. -/
import Derived.Test.YtkpmhgikcipedaaShares
namespace Go.Proofs.Ytkpmhgikcipedaa

/-- g is one to one on the first n places, and stays among them. -/
def OneOne (g : Nat → Nat) (n : Nat) : Prop := (∀ p, p < n → g p < n) ∧ ∀ i j, i < j → j < n → g i ≠ g j

theorem Sorted.oneOne {r : Nat → Int} {n : Nat} {g : Nat → Nat} (h : Sorted r n g) : OneOne g n := ⟨h.1, fun i j hij hj => h.inj i j hij hj⟩

/-- No one to one from n + 1 places into n. -/
theorem pigeon : ∀ (n : Nat) (g : Nat → Nat), (∀ p, p < n + 1 → g p < n) → ¬ (∀ i j, i < j → j < n + 1 → g i ≠ g j) := by
  intro n
  induction n with
  | zero => intro g h _; exact absurd (h 0 (by omega)) (by omega)
  | succ n ih =>
    intro g h hi
    -- the last place's image is put where n is
    by_cases e : ∃ a, a < n + 1 ∧ g a = n
    · obtain ⟨a, ha, ea⟩ := e
      refine ih (fun p => if p = a then g (n + 1) else g p) (fun p hp => ?_) (fun i j hij hj => ?_)
      · skip
        split
        · have := h (n + 1) (by omega); have := hi a (n + 1) (by omega) (by omega); omega
        · rename_i e
          have := h p (by omega)
          have : g p ≠ n := by
            by_cases l : p < a
            · have := hi p a l (by omega); omega
            · have := hi a p (by omega) (by omega); omega
          omega
      · skip
        split
        · rename_i e; subst e
          rw [if_neg (by omega)]
          exact fun x => hi j (n + 1) (by omega) (by omega) x.symm
        · split
          · exact hi i (n + 1) (by omega) (by omega)
          · exact hi i j hij (by omega)
    · by_cases l : g (n + 1) = n
      · refine ih g (fun p hp => ?_) (fun i j hij hj => hi i j hij (by omega))
        have := h p (by omega)
        have : g p ≠ n := fun x => e ⟨p, hp, x⟩
        omega
      · refine ih g (fun p hp => ?_) (fun i j hij hj => hi i j hij (by omega))
        have := h p (by omega)
        have : g p ≠ n := fun x => e ⟨p, hp, x⟩
        omega

theorem onto (g : Nat → Nat) (n : Nat) (h : OneOne g n) (q : Nat) (hq : q < n) : ∃ a, a < n ∧ g a = q := by
  by_cases e : ∃ a, a < n ∧ g a = q
  · exact e
  · exfalso
    obtain ⟨m, rfl⟩ : ∃ m, n = m + 1 := ⟨n - 1, by omega⟩
    refine pigeon m (fun p => if g p = m then q else g p) (fun p hp => ?_) (fun i j hij hj => ?_)
    · skip
      have := h.1 p hp
      have : g p ≠ q := fun x => e ⟨p, hp, x⟩
      split
      · rename_i l; omega
      · omega
    · skip
      have a := h.2 i j hij hj
      have b : g i ≠ q := fun x => e ⟨i, by omega, x⟩
      have c : g j ≠ q := fun x => e ⟨j, hj, x⟩
      split
      · split
        · omega
        · exact fun x => c x.symm
      · split
        · exact b
        · exact a

/-- One where p is q. -/
def ind (q : Nat) (p : Nat) : Int := if q = p then 1 else 0
theorem psum_ind (q n : Nat) : psum (ind q) n = if q < n then 1 else 0 := by
  induction n with
  | zero => rw [if_neg (by omega)]; rfl
  | succ n ih =>
    unfold psum; rw [ih]; unfold ind
    by_cases a : q = n
    · subst a; rw [if_neg (by omega), if_pos rfl, if_pos (by omega)]; rfl
    · by_cases b : q < n
      · rw [if_pos b, if_neg a, if_pos (by omega)]; rfl
      · rw [if_neg b, if_neg a, if_neg (by omega)]; rfl

theorem psum_add (x y : Nat → Int) (n : Nat) : psum (fun p => x p + y p) n = psum x n + psum y n := by
  induction n with
  | zero => rfl
  | succ n ih => unfold psum; rw [ih]; omega
theorem psum_congr {x y : Nat → Int} {n : Nat} (h : ∀ p, p < n → x p = y p) : psum x n = psum y n := by
  induction n with
  | zero => rfl
  | succ n ih => unfold psum; rw [ih (fun p hp => h p (by omega)), h n (by omega)]
theorem psum_mul (c : Int) (x : Nat → Int) (n : Nat) : psum (fun p => c * x p) n = c * psum x n := by
  induction n with
  | zero => simp [psum]
  | succ n ih => unfold psum; rw [ih, Int.mul_add]

def hitN (g : Nat → Nat) (j p : Nat) : Int := if hit g j p then 1 else 0

theorem hit_none (g : Nat → Nat) (j q : Nat) (h : ∀ i, i < j → g i ≠ q) : hit g j q = false := by
  induction j with
  | zero => rfl
  | succ j ih => unfold hit; rw [ih (fun i hi => h i (by omega)), Bool.false_or, beq_eq_false_iff_ne]; exact h j (by omega)
theorem hit_some (g : Nat → Nat) (j i : Nat) (h : i < j) : hit g j (g i) = true := by
  induction j with
  | zero => omega
  | succ j ih =>
    unfold hit
    by_cases e : i = j
    · subst e; simp
    · rw [ih (by omega)]; rfl

theorem hitN_step (g : Nat → Nat) (n j : Nat) (h : OneOne g n) (hj : j < n) (p : Nat) : hitN g (j + 1) p = hitN g j p + ind (g j) p := by
  unfold hitN ind
  show (if hit g j p || (g j == p) then (1 : Int) else 0) = _
  by_cases e : g j = p
  · subst e
    rw [hit_none g j (g j) (fun i hi => h.2 i j hi hj)]; simp
  · have : (g j == p) = false := by rw [beq_eq_false_iff_ne]; exact e
    rw [this, Bool.or_false, if_neg e]; omega

theorem psum_hit (g : Nat → Nat) (n : Nat) (h : OneOne g n) (j : Nat) (hj : j ≤ n) : psum (hitN g j) n = j := by
  induction j with
  | zero =>
    have : psum (hitN g 0) n = psum (fun p => 0 * ind 0 p) n := psum_congr (fun p _ => by unfold hitN hit; simp)
    rw [this, psum_mul]; omega
  | succ j ih =>
    rw [psum_congr (fun p _ => hitN_step g n j h (by omega) p), psum_add, ih (by omega), psum_ind, if_pos (h.1 j (by omega))]
    omega

/-- The sum over an order is the sum. -/
theorem psum_order (f : Nat → Int) (g : Nat → Nat) (n : Nat) (h : OneOne g n) (j : Nat) (hj : j ≤ n) : psum (fun i => f (g i)) j = psum (fun p => f p * hitN g j p) n := by
  induction j with
  | zero =>
    have : psum (fun p => f p * hitN g 0 p) n = psum (fun p => 0 * ind 0 p) n := psum_congr (fun p _ => by unfold hitN hit; simp)
    rw [this, psum_mul]; simp [psum]
  | succ j ih =>
    have e : psum (fun p => f p * hitN g (j + 1) p) n = psum (fun p => f p * hitN g j p) n + psum (fun p => f (g j) * ind (g j) p) n := by
      rw [← psum_add]
      refine psum_congr (fun p _ => ?_)
      rw [hitN_step g n j h (by omega) p, Int.mul_add]
      congr 1
      unfold ind
      by_cases e : g j = p
      · rw [if_pos e, e]
      · rw [if_neg e]; simp
    rw [e, psum_mul, psum_ind, if_pos (h.1 j (by omega)), ← ih (by omega)]
    show psum _ j + f (g j) = _
    omega
theorem hit_all (g : Nat → Nat) (n : Nat) (h : OneOne g n) (p : Nat) (hp : p < n) : hit g n p = true := by
  obtain ⟨a, ha, rfl⟩ := onto g n h p hp
  exact hit_some g n a ha
theorem psum_perm (f : Nat → Int) (g : Nat → Nat) (n : Nat) (h : OneOne g n) : psum (fun i => f (g i)) n = psum f n := by
  rw [psum_order f g n h n (Nat.le_refl _)]
  refine psum_congr (fun p hp => ?_)
  unfold hitN
  rw [hit_all g n h p hp]; simp

theorem sum_rem (t s : Int) (x : Nat → Int) (n : Nat) (hp : psum x n = s) : s * left t s x n = psum (rem t s x) n := by
  have e := psum_split t s x n
  rw [hp] at e
  unfold left
  rw [Int.mul_sub, Int.mul_comm s t]; omega

theorem psum_le_c (x : Nat → Int) (c : Int) (n : Nat) (h : ∀ i, i < n → x i ≤ c) : psum x n ≤ c * n := by
  induction n with
  | zero => simp [psum]
  | succ k ih =>
    have a := ih (fun i hi => h i (by omega))
    have b := h k (by omega)
    have e : c * ((k + 1 : Nat) : Int) = c * (k : Int) + c := by rw [Int.natCast_succ, Int.mul_add, Int.mul_one]
    unfold psum; omega
theorem psum_tail0 (x : Nat → Int) (j n : Nat) (hj : j ≤ n) (h : ∀ i, j ≤ i → i < n → x i ≤ 0) : psum x n ≤ psum x j := by
  induction n with
  | zero => obtain rfl : j = 0 := by omega
            exact Int.le_refl _
  | succ n ih =>
    by_cases e : j = n + 1
    · subst e; exact Int.le_refl _
    · have := ih (by omega) (fun i h1 h2 => h i h1 (by omega))
      have := h n (by omega) (by omega)
      show psum x n + x n ≤ _
      omega

/-- Whoever gets a litre more has a remainder. -/
theorem hit_rem (t s : Int) (x : Nat → Int) (n : Nat) (g : Nat → Nat) (hs : 1 ≤ s) (hp : psum x n = s) (hn : 0 < n) (h : Sorted (rem t s x) n g) (p : Nat) (hh : hit g (left t s x n).toNat p = true) :
    0 < rem t s x p := by
  have lr := left_range t s x n hs hp hn
  obtain ⟨j, hj, rfl⟩ := hit_or g _ p hh
  by_cases e : 0 < rem t s x (g j)
  · exact e
  · exfalso
    have z : ∀ i, j ≤ i → i < n → rem t s x (g i) ≤ 0 := by
      intro i h1 h2
      by_cases e2 : i = j
      · subst e2; omega
      · rcases h.2 j i (Nat.zero_le _) (by omega) h2 with h | ⟨h, _⟩ <;> omega
    have a := psum_tail0 (fun i => rem t s x (g i)) j n (by omega) z
    have b := psum_le_c (fun i => rem t s x (g i)) s j (fun i hi => by have := (rem_range t s x (g i) hs).2; omega)
    rw [psum_perm (rem t s x) g n h.oneOne, ← sum_rem t s x n hp] at a
    have c : s * left t s x n ≤ s * (j : Int) := by omega
    have d : s * (j : Int) < s * left t s x n := Int.mul_lt_mul_of_pos_left (by omega) (by omega)
    omega

/-- Shares add up. -/
theorem share_sum (t s : Int) (x : Nat → Int) (n : Nat) (g : Nat → Nat) (hs : 1 ≤ s) (hp : psum x n = s) (hn : 0 < n) (h : Sorted (rem t s x) n g) : psum (share t s x g (left t s x n).toNat) n = t := by
  have lr := left_range t s x n hs hp hn
  have e : psum (share t s x g (left t s x n).toNat) n = psum (quo t s x) n + psum (hitN g (left t s x n).toNat) n := by
    rw [← psum_add]; rfl
  rw [e, psum_hit g n h.oneOne _ (by omega)]
  unfold left at *
  omega
/-- Each share is the exact part, rounded down or up. -/
theorem share_up (t s : Int) (x : Nat → Int) (n : Nat) (g : Nat → Nat) (hs : 1 ≤ s) (hp : psum x n = s) (hn : 0 < n) (h : Sorted (rem t s x) n g) (p : Nat) :
    share t s x g (left t s x n).toNat p * s ≤ t * x p + s - 1 := by
  have e := Int.mul_ediv_add_emod (t * x p) s
  have r := rem_range t s x p hs
  unfold share quo
  unfold rem at r
  rw [Int.add_mul, Int.mul_comm (t * x p / s)]
  split
  · rename_i hh
    have := hit_rem t s x n g hs hp hn h p hh
    unfold rem at this
    omega
  · omega
theorem share_down (t s : Int) (x : Nat → Int) (g : Nat → Nat) (j : Nat) (hs : 1 ≤ s) (p : Nat) : t * x p < (share t s x g j p + 1) * s := by
  have e := Int.mul_ediv_add_emod (t * x p) s
  have r := rem_range t s x p hs
  unfold share quo
  unfold rem at r
  rw [Int.add_mul, Int.add_mul, Int.mul_comm (t * x p / s)]
  split <;> omega
theorem share_none (t s : Int) (x : Nat → Int) (n : Nat) (g : Nat → Nat) (hs : 1 ≤ s) (hp : psum x n = s) (hn : 0 < n) (h : Sorted (rem t s x) n g) (p : Nat) (h0 : x p = 0) :
    share t s x g (left t s x n).toNat p = 0 := by
  unfold share
  split
  · rename_i hh
    have := hit_rem t s x n g hs hp hn h p hh
    unfold rem at this
    rw [h0] at this; simp at this
  · unfold quo; rw [h0]; simp
/-- Of equal weights the earlier one has as much, or one more. -/
theorem share_equal (t s : Int) (x : Nat → Int) (n : Nat) (g : Nat → Nat) (hs : 1 ≤ s) (hp : psum x n = s) (hn : 0 < n) (h : Sorted (rem t s x) n g) (k i : Nat) (hk : k < i) (hi : i < n) (e : x k = x i) :
    share t s x g (left t s x n).toNat k = share t s x g (left t s x n).toNat i ∨ share t s x g (left t s x n).toNat k = share t s x g (left t s x n).toNat i + 1 := by
  have lr := left_range t s x n hs hp hn
  have q : quo t s x k = quo t s x i := by unfold quo; rw [e]
  have r : rem t s x k = rem t s x i := by unfold rem; rw [e]
  have imp : hit g (left t s x n).toNat i = true → hit g (left t s x n).toNat k = true := by
    intro hh
    obtain ⟨a, ha, ea⟩ := hit_or g _ i hh
    obtain ⟨b, hb, eb⟩ := onto g n h.oneOne k (by omega)
    have : b < a := by
      by_cases l : b < a
      · exact l
      · exfalso
        by_cases l2 : a = b
        · subst l2; omega
        · have := h.2 a b (Nat.zero_le _) (by omega) hb
          rw [ea, eb] at this
          rcases this with u | ⟨u, v⟩ <;> omega
    rw [← eb]
    exact hit_some g _ b (by omega)
  unfold share
  rw [q]
  cases h1 : hit g (left t s x n).toNat i
  · cases h2 : hit g (left t s x n).toNat k
    · exact .inl rfl
    · exact .inr (by simp)
  · rw [imp h1]; exact .inl rfl
end Go.Proofs.Ytkpmhgikcipedaa
