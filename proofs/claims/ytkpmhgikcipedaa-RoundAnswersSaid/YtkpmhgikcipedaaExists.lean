/- There is a sorted order; the choice of the greatest remainders. -/
import Derived.Test.YtkpmhgikcipedaaMerge
import Derived.Test.YtkpmhgikcipedaaDeal
namespace Go.Proofs.Ytkpmhgikcipedaa

theorem Lt.total (r : Nat → Int) (i j : Nat) (h : i ≠ j) : Lt r i j ∨ Lt r j i := by
  unfold Lt
  by_cases h1 : r j < r i
  · exact .inl (.inl h1)
  · by_cases h2 : r i < r j
    · exact .inr (.inl h2)
    · by_cases h3 : i < j
      · exact .inl (.inr ⟨by omega, h3⟩)
      · exact .inr (.inr ⟨by omega, by omega⟩)

theorem split_at (r : Nat → Int) (f : Nat → Nat) (n : Nat) (hs : SortedOn r f 0 n) (hne : ∀ c, c < n → f c ≠ f n) : ∀ k, k ≤ n → ∃ i, i ≤ k ∧ (∀ c, c < i → Lt r (f c) (f n)) ∧ ∀ c, i ≤ c → c < k → Lt r (f n) (f c) := by
  intro k
  induction k with
  | zero => intro _; exact ⟨0, by omega, fun c h => absurd h (by omega), fun c _ h => absurd h (by omega)⟩
  | succ k ih =>
    intro hk
    obtain ⟨i, hi, h1, h2⟩ := ih (by omega)
    by_cases e : i = k
    · subst e
      rcases Lt.total r (f i) (f n) (hne i (by omega)) with l | l
      · exact ⟨i + 1, by omega, fun c hc => by
          by_cases e : c = i
          · subst e; exact l
          · exact h1 c (by omega), fun c c1 c2 => absurd c1 (by omega)⟩
      · exact ⟨i, by omega, h1, fun c c1 c2 => by
          have : c = i := by omega
          subst this; exact l⟩
    · refine ⟨i, by omega, h1, fun c c1 c2 => ?_⟩
      by_cases e2 : c = k
      · subst e2; exact (h2 i (Nat.le_refl _) (by omega)).trans (hs i c (by omega) (by omega) (by omega))
      · exact h2 c c1 (by omega)

theorem sorted_exists (r : Nat → Int) : ∀ n, ∃ g, Sorted r n g := by
  intro n
  induction n with
  | zero => exact ⟨fun p => p, fun p h => absurd h (by omega), fun p q _ _ h => absurd h (by omega)⟩
  | succ n ih =>
    obtain ⟨g, g1, g2⟩ := ih
    let f : Nat → Nat := fun p => if p < n then g p else n
    have f1 : ∀ p, p < n → f p = g p := fun p hp => by show (if p < n then g p else n) = g p; rw [if_pos hp]
    have f2 : f n = n := by show (if n < n then g n else n) = n; rw [if_neg (by omega)]
    have fs : SortedOn r f 0 n := fun p q h1 h2 h3 => by rw [f1 p (by omega), f1 q h3]; exact g2 p q h1 h2 h3
    obtain ⟨i, hi, h1, h2⟩ := split_at r f n fs (fun c hc => by rw [f1 c hc, f2]; have := g1 c hc; omega) n (Nat.le_refl _)
    refine ⟨rotF f i n (n + 1), fun p hp => ?_, merge_last r f 0 n i (by omega) hi fs (fun c _ hc => h1 c hc) (fun c c1 c2 => h2 c c1 c2)⟩
    refine (rotF_from f (a := 0) (b := n + 1) (Nat.zero_le _) hi (by omega) (Nat.le_refl _)).lt (fun p hp => ?_) (Nat.le_refl _) p hp
    by_cases e : p < n
    · rw [f1 p e]; have := g1 p e; omega
    · have : p = n := by omega
      subst this; rw [f2]; exact hp

/-- What is left of the remainders behind j choices. -/
def restF (r : Nat → Int) (g : Nat → Nat) (j : Nat) : Nat → Int := fun p => if hit g j p then -1 else r p

theorem restF_zero (r : Nat → Int) (g : Nat → Nat) (p : Nat) : restF r g 0 p = r p := rfl
theorem restF_step (r : Nat → Int) (g : Nat → Nat) (j p : Nat) : setF (restF r g j) (g j) (-1) p = restF r g (j + 1) p := by
  unfold setF restF
  show _ = if hit g j p || (g j == p) then -1 else r p
  by_cases e : p = g j
  · subst e; rw [if_pos rfl]; simp
  · rw [if_neg e]
    have : (g j == p) = false := by rw [beq_eq_false_iff_ne]; exact fun h => e h.symm
    rw [this, Bool.or_false]

/-- The first of the greatest is the next of the order. -/
theorem best_is (r : Nat → Int) (g : Nat → Nat) (n j b : Nat) (h : Sorted r n g) (hr : ∀ p, p < n → 0 ≤ r p) (hj : j < n) (hb : b < n)
    (h1 : ∀ p, p < n → restF r g j p ≤ restF r g j b) (h2 : ∀ p, p < b → restF r g j p < restF r g j b) : b = g j := by
  have hgj := h.1 j hj
  have hno : hit g j (g j) = false := hit_none g j (g j) (fun i hi => h.inj i j hi hj)
  have vg : restF r g j (g j) = r (g j) := by unfold restF; rw [hno]; rfl
  have k1 := h1 (g j) hgj
  rw [vg] at k1
  by_cases e : b = g j
  · exact e
  · exfalso
    have hr0 := hr (g j) hgj
    cases hh : hit g j b with
    | true =>
      have : restF r g j b = -1 := by unfold restF; rw [hh]; rfl
      omega
    | false =>
      have vb : restF r g j b = r b := by unfold restF; rw [hh]; rfl
      obtain ⟨c, hc, ec⟩ := onto g n h.oneOne b hb
      have hcj : j < c := by
        by_cases l : j < c
        · exact l
        · exfalso
          by_cases l2 : c = j
          · subst l2; exact e ec.symm
          · have := hit_some g j c (by omega)
            rw [ec, hh] at this; cases this
      have := h.2 j c (Nat.zero_le _) hcj hc
      rw [ec] at this
      rcases this with l | ⟨l1, l2⟩
      · omega
      · have := h2 (g j) l2
        rw [vg, vb] at this
        omega
end Go.Proofs.Ytkpmhgikcipedaa
