/- Plain mathematics of package deal: who gets the next litre, counts, litres dealt. No program is named here. -/
import Derived.Test.YtafkagaakjfkoaaFm
namespace Go.Proofs.Ytafkagaakjfkoaa.Dm
open Fm (Pc)

/-! ## Sums -/
theorem getD_set (g : List Int) (i : Nat) (x : Int) (j : Nat) : (g.set i x).getD j 0 = if i = j ∧ i < g.length then x else g.getD j 0 := by
  simp only [List.getD_eq_getElem?_getD, List.getElem?_set]
  by_cases h : i = j
  · subst h
    by_cases h2 : i < g.length
    · simp [h2]
    · simp [h2]
  · simp [h]
theorem sum_set (g : List Int) (i : Nat) (x : Int) (hi : i < g.length) : (g.set i x).sum = g.sum - g.getD i 0 + x := by
  induction g generalizing i with
  | nil => simp at hi
  | cons a g ih =>
    cases i with
    | zero => simp [List.getD]; omega
    | succ i =>
      have := ih i (by simpa using hi)
      simp only [List.set_cons_succ, List.sum_cons, List.getD_cons_succ] at this ⊢
      omega
theorem sum_le : ∀ (a b : List Int), a.length = b.length → (∀ i, i < a.length → a.getD i 0 ≤ b.getD i 0) → a.sum ≤ b.sum
  | [], [], _, _ => by simp
  | [], _ :: _, h, _ => by simp at h
  | _ :: _, [], h, _ => by simp at h
  | x :: a, y :: b, h, k => by
    have h0 := k 0 (by simp)
    have h1 := sum_le a b (by simpa using h) (fun i hi => by have := k (i + 1) (by simp; omega); simpa using this)
    simp only [List.getD_cons_zero] at h0
    simp only [List.sum_cons]
    omega
theorem sum_lt : ∀ (a b : List Int) (j : Nat), a.length = b.length → (∀ i, i < a.length → a.getD i 0 ≤ b.getD i 0) → j < a.length → a.getD j 0 < b.getD j 0 → a.sum < b.sum
  | [], _, _, _, _, hj, _ => by simp at hj
  | _ :: _, [], _, h, _, _, _ => by simp at h
  | x :: a, y :: b, 0, h, k, _, hj => by
    have h1 := sum_le a b (by simpa using h) (fun i hi => by have := k (i + 1) (by simp; omega); simpa using this)
    simp only [List.getD_cons_zero] at hj
    simp only [List.sum_cons]
    omega
  | x :: a, y :: b, j + 1, h, k, hj, hlt => by
    have h0 := k 0 (by simp)
    have h1 := sum_lt a b j (by simpa using h) (fun i hi => by have := k (i + 1) (by simp; omega); simpa using this) (by simpa using hj) (by simpa using hlt)
    simp only [List.getD_cons_zero] at h0
    simp only [List.sum_cons]
    omega
theorem ext_getD {a b : List Int} (h : a.length = b.length) (k : ∀ i, i < a.length → a.getD i 0 = b.getD i 0) : a = b := by
  apply List.ext_getElem h
  intro i hi hj
  have := k i hi
  simpa [List.getD_eq_getElem?_getD, List.getElem?_eq_getElem hi, List.getElem?_eq_getElem hj] using this
theorem sum_eq {a b : List Int} (h : a.length = b.length) (k : ∀ i, i < a.length → a.getD i 0 ≤ b.getD i 0) (e : a.sum = b.sum) : a = b := by
  refine ext_getD h (fun i hi => ?_)
  rcases Int.lt_or_eq_of_le (k i hi) with hlt | he
  · have := sum_lt a b i h k hi hlt; omega
  · exact he
theorem sum_mul (a : List Int) (c : Int) : (a.map (· * c)).sum = a.sum * c := by
  induction a with
  | nil => simp
  | cons x a ih => simp only [List.map_cons, List.sum_cons, ih, Int.add_mul]
theorem mul_sum (a : List Int) (c : Int) : (a.map (c * ·)).sum = c * a.sum := by
  induction a with
  | nil => simp
  | cons x a ih => simp only [List.map_cons, List.sum_cons, ih, Int.mul_add]
theorem getD_map (a : List Int) (f : Int → Int) (i : Nat) (hi : i < a.length) : (a.map f).getD i 0 = f (a.getD i 0) := by
  simp [List.getD_eq_getElem?_getD, List.getElem?_eq_getElem hi]
theorem sum_nonneg {a : List Int} (h : ∀ i, i < a.length → 0 ≤ a.getD i 0) : 0 ≤ a.sum := by
  have := sum_le (List.replicate a.length 0) a (by simp) (fun i hi => by
    have := h i (by simpa using hi)
    simp only [List.length_replicate] at hi
    simp [List.getD_eq_getElem?_getD, hi] at this ⊢
    exact this)
  simpa using this
theorem le_sum {a : List Int} (h : ∀ i, i < a.length → 0 ≤ a.getD i 0) (i : Nat) (hi : i < a.length) : a.getD i 0 ≤ a.sum := by
  have e := sum_set a i 0 hi
  have := sum_nonneg (a := a.set i 0) (fun j hj => by
    rw [getD_set]
    split
    · omega
    · exact h j (by simpa using hj))
  omega

/-! ## The next one -/
/-- Who of the first k gets the next litre. -/
def best (r g : List Int) : Nat → Option Nat
  | 0 => none
  | k + 1 => match best r g k with
    | none => if 0 < r.getD k 0 then some k else none
    | some b => if 0 < r.getD k 0 ∧ (g.getD k 0 + 1) * r.getD b 0 < (g.getD b 0 + 1) * r.getD k 0 then some k else some b
def next (r g : List Int) : Option Nat := best r g r.length
theorem best_none {r g : List Int} : ∀ {k}, best r g k = none → ∀ i, i < k → r.getD i 0 ≤ 0
  | 0, _, i, hi => by omega
  | k + 1, h, i, hi => by
    rw [best] at h
    cases e : best r g k with
    | none =>
      rw [e] at h
      dsimp only at h
      split at h
      · cases h
      · by_cases hk : i = k
        · subst hk; omega
        · exact best_none e i (by omega)
    | some b =>
      rw [e] at h
      dsimp only at h
      split at h <;> cases h
theorem best_some {r g : List Int} : ∀ {k b}, best r g k = some b → b < k ∧ 0 < r.getD b 0 ∧ (∀ i, i < k → 0 < r.getD i 0 → (g.getD b 0 + 1) * r.getD i 0 ≤ (g.getD i 0 + 1) * r.getD b 0)
  | 0, b, h => by cases h
  | k + 1, b, h => by
    rw [best] at h
    cases e : best r g k with
    | none =>
      rw [e] at h
      dsimp only at h
      split at h
      · cases h
        refine ⟨by omega, by assumption, fun i hi h0 => ?_⟩
        by_cases hk : i = k
        · subst hk; exact Int.le_refl _
        · have := best_none e i (by omega); omega
      · cases h
    | some c =>
      rw [e] at h
      dsimp only at h
      obtain ⟨h1, h2, h3⟩ := best_some e
      split at h
      · rename_i hc
        cases h
        refine ⟨by omega, hc.1, fun i hi h0 => ?_⟩
        by_cases hk : i = k
        · subst hk; exact Int.le_refl _
        · have h4 := h3 i (by omega) h0
          -- (gk+1) rc < (gc+1) rk, (gc+1) ri ≤ (gi+1) rc
          have h5 : (g.getD k 0 + 1) * r.getD i 0 * r.getD c 0 ≤ (g.getD i 0 + 1) * r.getD k 0 * r.getD c 0 := by
            have a1 := Int.mul_le_mul_of_nonneg_right (Int.le_of_lt hc.2) (Int.le_of_lt h0)
            have a2 := Int.mul_le_mul_of_nonneg_right h4 (Int.le_of_lt hc.1)
            have e1 : (g.getD k 0 + 1) * r.getD i 0 * r.getD c 0 = (g.getD k 0 + 1) * r.getD c 0 * r.getD i 0 := by rw [Int.mul_assoc, Int.mul_comm (r.getD i 0), ← Int.mul_assoc]
            have e2 : (g.getD i 0 + 1) * r.getD k 0 * r.getD c 0 = (g.getD i 0 + 1) * r.getD c 0 * r.getD k 0 := by rw [Int.mul_assoc, Int.mul_comm (r.getD k 0), ← Int.mul_assoc]
            have e3 : (g.getD c 0 + 1) * r.getD k 0 * r.getD i 0 = (g.getD c 0 + 1) * r.getD i 0 * r.getD k 0 := by rw [Int.mul_assoc, Int.mul_comm (r.getD k 0), ← Int.mul_assoc]
            rw [e1, e2]
            exact Int.le_trans a1 (by rw [e3]; exact a2)
          exact Int.le_of_mul_le_mul_right h5 h2
      · rename_i hc
        cases h
        refine ⟨by omega, h2, fun i hi h0 => ?_⟩
        by_cases hk : i = k
        · subst hk
          exact Int.not_lt.1 (fun hl => hc ⟨h0, hl⟩)
        · exact h3 i (by omega) h0
theorem next_none {r g : List Int} (h : next r g = none) : ∀ i, i < r.length → r.getD i 0 ≤ 0 := best_none h
theorem next_some {r g : List Int} {b : Nat} (h : next r g = some b) : b < r.length ∧ 0 < r.getD b 0 ∧ (∀ i, i < r.length → 0 < r.getD i 0 → (g.getD b 0 + 1) * r.getD i 0 ≤ (g.getD i 0 + 1) * r.getD b 0) := best_some h
/-- There is one, if there is a rate. -/
theorem next_is {r g : List Int} (hs : 0 < r.sum) : ∃ b, next r g = some b := by
  cases h : next r g with
  | some b => exact ⟨b, rfl⟩
  | none =>
    have h1 := sum_le r (List.replicate r.length 0) (by simp) (fun i hi => by
      have := next_none h i hi
      simp [List.getD_eq_getElem?_getD, hi] at this ⊢
      exact this)
    simp at h1
    omega
theorem best_scale {r g : List Int} {m : Int} (hm : 0 < m) : ∀ k, k ≤ r.length → best (r.map (· * m)) g k = best r g k
  | 0, _ => rfl
  | k + 1, hk => by
    have pos : ∀ x : Int, 0 < x * m ↔ 0 < x := fun x => by
      constructor
      · intro h
        by_cases hx : 0 < x
        · exact hx
        · have := Int.mul_le_mul_of_nonneg_right (Int.not_lt.1 hx) (Int.le_of_lt hm)
          omega
      · exact fun h => Int.mul_pos h hm
    rw [best, best, best_scale hm k (by omega), getD_map _ _ _ (by omega)]
    cases e : best r g k with
    | none => simp only [pos]
    | some b =>
      have hb := (best_some e).1
      dsimp only
      rw [getD_map _ _ _ (by omega)]
      have lt : (g.getD k 0 + 1) * (r.getD b 0 * m) < (g.getD b 0 + 1) * (r.getD k 0 * m) ↔ (g.getD k 0 + 1) * r.getD b 0 < (g.getD b 0 + 1) * r.getD k 0 := by
        rw [← Int.mul_assoc, ← Int.mul_assoc]
        constructor
        · exact fun h => Int.lt_of_mul_lt_mul_right h (Int.le_of_lt hm)
        · exact fun h => Int.mul_lt_mul_of_pos_right h hm
      simp only [pos, lt]
theorem next_scale {r g : List Int} {m : Int} (hm : 0 < m) : next (r.map (· * m)) g = next r g := by
  unfold next
  rw [List.length_map]
  exact best_scale hm _ (Nat.le_refl _)
def step (r g : List Int) : List Int := match next r g with
  | some b => g.set b (g.getD b 0 + 1)
  | none => g
theorem step_some {r g : List Int} {b : Nat} (h : next r g = some b) : step r g = g.set b (g.getD b 0 + 1) := by unfold step; rw [h]
theorem step_len (r g : List Int) : (step r g).length = g.length := by
  unfold step
  split <;> simp
theorem step_get {r g : List Int} {b : Nat} (h : next r g = some b) (hg : g.length = r.length) (i : Nat) : (step r g).getD i 0 = g.getD i 0 + (if b = i then 1 else 0) := by
  rw [step_some h, getD_set]
  have := (next_some h).1
  by_cases e : b = i
  · subst e; rw [if_pos ⟨rfl, by omega⟩, if_pos rfl]
  · rw [if_neg (fun h => e h.1), if_neg e]; omega
/-- So many litres more are dealt. -/
def gots (r : List Int) : List Int → Nat → List Int
  | g, 0 => g
  | g, k + 1 => gots r (step r g) k
theorem gots_add (r : List Int) : ∀ (j k : Nat) (g : List Int), gots r g (j + k) = gots r (gots r g j) k
  | 0, k, g => by rw [Nat.zero_add]; rfl
  | j + 1, k, g => by rw [Nat.add_right_comm, gots, gots, gots_add r j k]
theorem gots_succ (r g : List Int) (k : Nat) : gots r g (k + 1) = step r (gots r g k) := gots_add r k 1 g
theorem gots_len (r : List Int) : ∀ (k : Nat) (g : List Int), (gots r g k).length = g.length
  | 0, _ => rfl
  | k + 1, g => by rw [gots, gots_len r k, step_len]
theorem gots_le (r : List Int) (g : List Int) (hg : g.length = r.length) (i : Nat) : ∀ k, g.getD i 0 ≤ (gots r g k).getD i 0
  | 0 => Int.le_refl _
  | k + 1 => by
    have h := gots_le r g hg i k
    rw [gots_succ]
    cases e : next r (gots r g k) with
    | none => unfold step; rw [e]; exact h
    | some b => rw [step_get e (by rw [gots_len]; exact hg)]; split <;> omega
def zeros (n : Nat) : List Int := List.replicate n 0
theorem zeros_get (n i : Nat) : (zeros n).getD i 0 = 0 := by
  unfold zeros
  by_cases h : i < n <;> simp [List.getD_eq_getElem?_getD, h]
/-- Counts of the first k litres. -/
def cnt (r : List Int) (k : Nat) : List Int := gots r (zeros r.length) k
theorem cnt_len (r : List Int) (k : Nat) : (cnt r k).length = r.length := by unfold cnt; rw [gots_len]; simp [zeros]
theorem cnt_succ (r : List Int) (k : Nat) : cnt r (k + 1) = step r (cnt r k) := gots_succ _ _ _
theorem cnt_add (r : List Int) (j k : Nat) : cnt r (j + k) = gots r (cnt r j) k := gots_add _ _ _ _
theorem cnt_scale {r : List Int} {m : Int} (hm : 0 < m) : ∀ k, cnt (r.map (· * m)) k = cnt r k
  | 0 => by unfold cnt; rw [List.length_map]; rfl
  | k + 1 => by rw [cnt_succ, cnt_succ, cnt_scale hm k]; unfold step; rw [next_scale hm]
/-- What holds of counts. -/
structure Inv (r g : List Int) (k : Nat) : Prop where
  len : g.length = r.length
  nn : ∀ i, 0 ≤ g.getD i 0
  sum : g.sum = k
  off : ∀ i, r.getD i 0 ≤ 0 → g.getD i 0 = 0
  fair : ∀ i j, i < r.length → 0 < r.getD i 0 → 0 < r.getD j 0 → g.getD j 0 * r.getD i 0 ≤ (g.getD i 0 + 1) * r.getD j 0
theorem inv_cnt {r : List Int} (hs : 0 < r.sum) : ∀ k, Inv r (cnt r k) k
  | 0 => by
    refine ⟨by simp [cnt, gots, zeros], fun i => ?_, by simp [cnt, gots, zeros], fun i _ => ?_, fun i j _ h1 h2 => ?_⟩
    · show 0 ≤ (zeros r.length).getD i 0; rw [zeros_get]; omega
    · show (zeros r.length).getD i 0 = 0; rw [zeros_get]
    · show (zeros r.length).getD j 0 * _ ≤ ((zeros r.length).getD i 0 + 1) * _
      rw [zeros_get, zeros_get]; omega
  | k + 1 => by
    have h := inv_cnt hs k
    obtain ⟨b, hb⟩ := next_is (g := cnt r k) hs
    obtain ⟨b1, b2, b3⟩ := next_some hb
    have gt := fun i => step_get hb h.len i
    rw [cnt_succ]
    refine ⟨by rw [step_len]; exact h.len, fun i => ?_, ?_, fun i hi => ?_, fun i j hil hi hj => ?_⟩
    · rw [gt]; have := h.nn i; split <;> omega
    · rw [step_some hb, sum_set _ _ _ (by rw [h.len]; exact b1), h.sum]
      omega
    · rw [gt, h.off i hi, if_neg (fun e => by subst e; omega)]; rfl
    · rw [gt, gt]
      have hf := h.fair i j hil hi hj
      by_cases e : b = j
      · subst e
        rw [if_pos rfl]
        by_cases e2 : b = i
        · subst e2
          rw [if_pos rfl]
          exact Int.mul_le_mul_of_nonneg_right (by omega) (by omega)
        · rw [if_neg e2]
          have h3 := b3 i hil hi
          rw [Int.add_zero]
          exact h3
      · rw [if_neg e, Int.add_zero]
        refine Int.le_trans hf (Int.mul_le_mul_of_nonneg_right ?_ (Int.le_of_lt hj))
        split <;> omega
/-- Nobody has more than the rate. -/
theorem cnt_cap {r : List Int} (hn : ∀ i, i < r.length → 0 ≤ r.getD i 0) (hs : 0 < r.sum) {k : Nat} (hk : (k : Int) ≤ r.sum) (j : Nat) (hj : j < r.length) : (cnt r k).getD j 0 ≤ r.getD j 0 := by
  have h := inv_cnt hs k
  rcases Int.lt_or_le (r.getD j 0) ((cnt r k).getD j 0) with hlt | hle
  · exfalso
    by_cases h0 : r.getD j 0 ≤ 0
    · have := h.off j h0; have := hn j hj; omega
    · have hge : ∀ i, i < r.length → r.getD i 0 ≤ (cnt r k).getD i 0 := fun i hi => by
        by_cases hi0 : r.getD i 0 ≤ 0
        · have := h.nn i; omega
        · have hf := h.fair i j hi (by omega) (by omega)
          -- gj ri ≤ (gi+1) rj and gj ≥ rj+1
          have h1 : (r.getD j 0 + 1) * r.getD i 0 ≤ (cnt r k).getD j 0 * r.getD i 0 := Int.mul_le_mul_of_nonneg_right (by omega) (by omega)
          have h2 : r.getD i 0 * r.getD j 0 < ((cnt r k).getD i 0 + 1) * r.getD j 0 := by
            have : (r.getD j 0 + 1) * r.getD i 0 = r.getD i 0 * r.getD j 0 + r.getD i 0 := by rw [Int.add_mul, Int.mul_comm, Int.one_mul]
            omega
          have h3 := Int.lt_of_mul_lt_mul_right h2 (by omega)
          omega
      have := sum_lt r (cnt r k) j h.len.symm hge hj hlt
      rw [h.sum] at this
      omega
  · exact hle
/-- All is dealt. -/
theorem cnt_all {r : List Int} (hn : ∀ i, i < r.length → 0 ≤ r.getD i 0) (hs : 0 < r.sum) {k : Nat} (hk : (k : Int) = r.sum) : cnt r k = r := by
  have h := inv_cnt hs k
  exact sum_eq h.len (fun i hi => cnt_cap hn hs (by omega) i (by rw [← h.len]; exact hi)) (by rw [h.sum, hk])
/-- .. and nobody less than the exact part, rounded down. -/
theorem cnt_low {r : List Int} (hn : ∀ i, i < r.length → 0 ≤ r.getD i 0) (hs : 0 < r.sum) (k : Nat) (i : Nat) (hi : i < r.length) : (k : Int) * r.getD i 0 < ((cnt r k).getD i 0 + 1) * r.sum := by
  have h := inv_cnt hs k
  by_cases h0 : r.getD i 0 ≤ 0
  · have e := hn i hi
    have e2 : r.getD i 0 = 0 := by omega
    rw [e2, Int.mul_zero]
    have := h.nn i
    exact Int.mul_pos (by omega) hs
  · have hl := sum_lt ((cnt r k).map (· * r.getD i 0)) (r.map (((cnt r k).getD i 0 + 1) * ·)) i (by simp [h.len]) (fun j hj => by
      have hj' : j < r.length := by simpa [h.len] using hj
      rw [getD_map _ _ _ (by rw [h.len]; exact hj'), getD_map _ _ _ hj']
      by_cases hj0 : r.getD j 0 ≤ 0
      · rw [h.off j hj0]
        have := hn j hj'
        have : r.getD j 0 = 0 := by omega
        rw [this]; omega
      · exact h.fair i j hi (by omega) (by omega)) (by simp [h.len]; exact hi) (by
      rw [getD_map _ _ _ (by rw [h.len]; exact hi), getD_map _ _ _ hi]
      exact Int.mul_lt_mul_of_pos_right (by omega) (by omega))
    rw [sum_mul, mul_sum, h.sum] at hl
    exact hl
end Go.Proofs.Ytafkagaakjfkoaa.Dm
