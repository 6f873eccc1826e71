/- Plain mathematics of package deal: there is but one next one; rates behind which noughts stand. No program is named here. -/
import Derived.Test.YtafkagaakjfkoaaDn
namespace Go.Proofs.Ytafkagaakjfkoaa.Dm

theorem cross_lt {a b c x y z : Int} (hy : 0 < y) (hz : 0 < z) (h1 : a * y < b * x) (h2 : b * z ≤ c * y) (hx : 0 < x) : a * z < c * x := by
  have e1 : a * z * y < b * x * z := by
    have := Int.mul_lt_mul_of_pos_right h1 hz
    rwa [show a * z * y = a * y * z by rw [Int.mul_assoc, Int.mul_comm z, ← Int.mul_assoc]]
  have e2 : b * x * z ≤ c * x * y := by
    have := Int.mul_le_mul_of_nonneg_right h2 (Int.le_of_lt hx)
    rwa [show b * x * z = b * z * x by rw [Int.mul_assoc, Int.mul_comm x, ← Int.mul_assoc], show c * x * y = c * y * x by rw [Int.mul_assoc, Int.mul_comm x, ← Int.mul_assoc]]
  exact Int.lt_of_mul_lt_mul_right (Int.lt_of_lt_of_le e1 e2) (Int.le_of_lt hy)
/-- Those ahead of it are greater. -/
theorem best_strict {r g : List Int} : ∀ {k b}, best r g k = some b → ∀ i, i < b → 0 < r.getD i 0 → (g.getD b 0 + 1) * r.getD i 0 < (g.getD i 0 + 1) * r.getD b 0
  | 0, b, h => by cases h
  | k + 1, b, h => by
    rw [best] at h
    cases e : best r g k with
    | none =>
      rw [e] at h
      dsimp only at h
      split at h
      · cases h
        intro i hi h0
        have := best_none e i hi
        omega
      · cases h
    | some c =>
      rw [e] at h
      dsimp only at h
      split at h
      · rename_i hc
        cases h
        intro i hi h0
        obtain ⟨_, h2, h3⟩ := best_some e
        exact cross_lt h2 h0 hc.2 (h3 i hi h0) hc.1
      · cases h
        exact best_strict e
theorem next_unique {r g : List Int} {b : Nat} (hb : b < r.length) (h0 : 0 < r.getD b 0) (h1 : ∀ i, i < r.length → 0 < r.getD i 0 → (g.getD b 0 + 1) * r.getD i 0 ≤ (g.getD i 0 + 1) * r.getD b 0)
    (h2 : ∀ i, i < b → 0 < r.getD i 0 → (g.getD b 0 + 1) * r.getD i 0 < (g.getD i 0 + 1) * r.getD b 0) : next r g = some b := by
  cases e : next r g with
  | none => have := next_none e b hb; omega
  | some c =>
    obtain ⟨c1, c2, c3⟩ := next_some e
    rcases Nat.lt_trichotomy b c with hlt | heq | hgt
    · have a := best_strict e b hlt h0
      have := h1 c c1 c2
      omega
    · rw [heq]
    · have a := h2 c hgt c2
      have := c3 b hb h0
      omega
theorem best_ext {r g r' g' : List Int} : ∀ k, (∀ i, i < k → r.getD i 0 = r'.getD i 0 ∧ g.getD i 0 = g'.getD i 0) → best r g k = best r' g' k
  | 0, _ => rfl
  | k + 1, h => by
    rw [best, best, best_ext k (fun i hi => h i (by omega)), (h k (by omega)).1, (h k (by omega)).2]
    cases e : best r' g' k with
    | none => rfl
    | some b =>
      have hb := (best_some e).1
      dsimp only
      rw [(h b (by omega)).1, (h b (by omega)).2]
theorem best_over {r g : List Int} (n : Nat) (h : ∀ i, n ≤ i → r.getD i 0 ≤ 0) : ∀ k, best r g (n + k) = best r g n
  | 0 => rfl
  | k + 1 => by
    rw [← Nat.add_assoc, best, best_over n h k]
    have hz := h (n + k) (by omega)
    cases e : best r g n with
    | none => dsimp only; rw [if_neg (by omega)]
    | some b => dsimp only; rw [if_neg (fun h => by omega)]
/-- A list, and noughts behind it, m together. -/
def pad (m : Nat) (l : List Int) : List Int := l ++ zeros (m - l.length)
theorem pad_len {m : Nat} {l : List Int} (h : l.length ≤ m) : (pad m l).length = m := by unfold pad zeros; simp; omega
theorem pad_get (m : Nat) (l : List Int) (i : Nat) : (pad m l).getD i 0 = l.getD i 0 := by
  unfold pad
  by_cases h : i < l.length
  · rw [List.getD_eq_getElem?_getD, List.getElem?_append_left h, ← List.getD_eq_getElem?_getD]
  · rw [List.getD_eq_getElem?_getD, List.getElem?_append_right (by omega), ← List.getD_eq_getElem?_getD, zeros_get, List.getD_eq_getElem?_getD, List.getElem?_eq_none (by omega)]
    rfl
theorem pad_set {m : Nat} {l : List Int} {i : Nat} (hi : i < l.length) (x : Int) : (pad m l).set i x = pad m (l.set i x) := by
  unfold pad
  rw [List.set_append_left _ _ hi, List.length_set]
/-- .. change nothing. -/
theorem next_pad {m : Nat} {r g : List Int} (h : r.length ≤ m) : next (pad m r) (pad m g) = next r g := by
  unfold next
  rw [pad_len h]
  obtain ⟨k, rfl⟩ : ∃ k, m = r.length + k := ⟨m - r.length, by omega⟩
  rw [best_over r.length (fun i hi => by rw [pad_get, List.getD_eq_getElem?_getD, List.getElem?_eq_none hi]; exact Int.le_refl _)]
  exact best_ext _ (fun i _ => ⟨pad_get _ _ _, pad_get _ _ _⟩)
end Go.Proofs.Ytafkagaakjfkoaa.Dm
