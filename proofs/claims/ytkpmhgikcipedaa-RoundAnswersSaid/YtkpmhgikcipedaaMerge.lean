/- The plain mathematics of symMerge. -/
import Derived.Test.YtkpmhgikcipedaaRot
namespace Go.Proofs.Ytkpmhgikcipedaa

theorem Lt.trans {r : Nat → Int} {i j k : Nat} (h : Lt r i j) (l : Lt r j k) : Lt r i k := by
  rcases h with h | ⟨h1, h2⟩ <;> rcases l with l | ⟨l1, l2⟩
  · exact .inl (by omega)
  · exact .inl (by omega)
  · exact .inl (by omega)
  · exact .inr ⟨by omega, by omega⟩
/-- What cmp says of a later place against an earlier one. -/
theorem lt_of_cmp {r : Nat → Int} {u v : Nat} (h : r u < r v) : Lt r v u := .inl h
theorem lt_of_not {r : Nat → Int} {u v : Nat} (huv : u < v) (h : ¬ r u < r v) : Lt r u v := by
  by_cases e : r v = r u
  · exact .inr ⟨e, huv⟩
  · exact .inl (by omega)

theorem SortedOn.part {r : Nat → Int} {f : Nat → Nat} {a b c d : Nat} (h : SortedOn r f a b) (h1 : a ≤ c) (h2 : d ≤ b) : SortedOn r f c d := fun p q h3 h4 h5 => h p q (by omega) h4 (by omega)

theorem rotF_lo (f : Nat → Nat) {s m e p : Nat} (h : p < s) : rotF f s m e p = f p := by unfold rotF; rw [if_pos h]
theorem rotF_mid (f : Nat → Nat) {s m e p : Nat} (h : s ≤ p) (h2 : p < s + (e - m)) : rotF f s m e p = f (p - s + m) := by unfold rotF; rw [if_neg (by omega), if_pos h2]
theorem rotF_hi (f : Nat → Nat) {s m e p : Nat} (h : s + (e - m) ≤ p) (h2 : p < e) : rotF f s m e p = f (p - (e - m)) := by unfold rotF; rw [if_neg (by omega), if_neg (by omega), if_pos h2]
theorem rotF_out (f : Nat → Nat) {s m e p : Nat} (hs : s ≤ m) (hm : m ≤ e) (h : e ≤ p) : rotF f s m e p = f p := by unfold rotF; rw [if_neg (by omega), if_neg (by omega), if_neg (by omega)]

theorem rotF_from (f : Nat → Nat) {a s m e b : Nat} (h1 : a ≤ s) (h2 : s ≤ m) (h3 : m ≤ e) (h4 : e ≤ b) : From a b f (rotF f s m e) := by
  refine ⟨fun p hp => ?_, fun p p1 p2 => ?_⟩
  · rcases hp with hp | hp
    · exact rotF_lo f (by omega)
    · exact rotF_out f h2 h3 (by omega)
  · by_cases c1 : p < s
    · exact ⟨p, p1, p2, rotF_lo f c1⟩
    · by_cases c2 : p < s + (e - m)
      · exact ⟨p - s + m, by omega, by omega, rotF_mid f (by omega) c2⟩
      · by_cases c3 : p < e
        · exact ⟨p - (e - m), by omega, by omega, rotF_hi f (by omega) c3⟩
        · exact ⟨p, p1, p2, rotF_out f h2 h3 (by omega)⟩

/-- One of the left run is put among the right one. -/
theorem merge_one (r : Nat → Int) (f : Nat → Nat) (a b i : Nat) (hi : a + 1 ≤ i) (hb : i ≤ b) (hs : SortedOn r f (a + 1) b) (h1 : ∀ c, a + 1 ≤ c → c < i → Lt r (f c) (f a)) (h2 : ∀ c, i ≤ c → c < b → Lt r (f a) (f c)) :
    SortedOn r (rotF f a (a + 1) i) a b := by
  have v1 : ∀ p, a ≤ p → p < i - 1 → rotF f a (a + 1) i p = f (p + 1) := fun p h3 h4 => by rw [rotF_mid f h3 (by omega)]; congr 1; omega
  have v2 : rotF f a (a + 1) i (i - 1) = f a := by rw [rotF_hi f (by omega) (by omega)]; congr 1; omega
  have v3 : ∀ p, i ≤ p → rotF f a (a + 1) i p = f p := fun p h3 => rotF_out f (by omega) (by omega) h3
  intro p q p1 pq qb
  by_cases c1 : p < i - 1
  · rw [v1 p p1 c1]
    by_cases c2 : q < i - 1
    · rw [v1 q (by omega) c2]; exact hs _ _ (by omega) (by omega) (by omega)
    · by_cases c3 : q = i - 1
      · subst c3; rw [v2]; exact h1 _ (by omega) (by omega)
      · rw [v3 q (by omega)]; exact hs _ _ (by omega) (by omega) qb
  · by_cases c4 : p = i - 1
    · subst c4; rw [v2, v3 q (by omega)]; exact h2 q (by omega) qb
    · rw [v3 p (by omega), v3 q (by omega)]; exact hs _ _ (by omega) pq qb
/-- One of the right run is put among the left one. -/
theorem merge_last (r : Nat → Int) (f : Nat → Nat) (a m i : Nat) (hi : a ≤ i) (him : i ≤ m) (hs : SortedOn r f a m) (h1 : ∀ c, a ≤ c → c < i → Lt r (f c) (f m)) (h2 : ∀ c, i ≤ c → c < m → Lt r (f m) (f c)) :
    SortedOn r (rotF f i m (m + 1)) a (m + 1) := by
  have v1 : ∀ p, p < i → rotF f i m (m + 1) p = f p := fun p h => rotF_lo f h
  have v2 : rotF f i m (m + 1) i = f m := by rw [rotF_mid f (Nat.le_refl _) (by omega)]; congr 1; omega
  have v3 : ∀ p, i < p → p < m + 1 → rotF f i m (m + 1) p = f (p - 1) := fun p h3 h4 => by rw [rotF_hi f (by omega) h4]; congr 1; omega
  intro p q p1 pq qb
  by_cases c1 : p < i
  · rw [v1 p c1]
    by_cases c2 : q < i
    · rw [v1 q c2]; exact hs p q p1 pq (by omega)
    · by_cases c3 : q = i
      · subst c3; rw [v2]; exact h1 p p1 c1
      · rw [v3 q (by omega) qb]; exact hs _ _ p1 (by omega) (by omega)
  · by_cases c4 : p = i
    · subst c4; rw [v2, v3 q pq qb]; exact h2 _ (by omega) (by omega)
    · rw [v3 p (by omega) (by omega), v3 q (by omega) qb]; exact hs _ _ (by omega) (by omega) (by omega)

/-- Behind the rotation all in the left half belongs ahead of all in the right half. -/
theorem rot_cross (r : Nat → Int) (f : Nat → Nat) (a s m e b : Nat) (h1 : a ≤ s) (h2 : s ≤ m) (h3 : m ≤ e) (h4 : e ≤ b) (hl : SortedOn r f a m) (hr : SortedOn r f m b)
    (x1 : a < s → e < b → Lt r (f (s - 1)) (f e)) (x2 : s < m → m < e → Lt r (f (e - 1)) (f s)) (p q : Nat) (p1 : a ≤ p) (p2 : p < s + (e - m)) (q1 : s + (e - m) ≤ q) (q2 : q < b) :
    Lt r (rotF f s m e p) (rotF f s m e q) := by
  have le : ∀ (x y : Nat), a ≤ x → x ≤ y → y < m → x = y ∨ Lt r (f x) (f y) := fun x y h5 h6 h7 => by
    by_cases c : x = y
    · exact .inl c
    · exact .inr (hl x y h5 (by omega) h7)
  have re : ∀ (x y : Nat), m ≤ x → x ≤ y → y < b → x = y ∨ Lt r (f x) (f y) := fun x y h5 h6 h7 => by
    by_cases c : x = y
    · exact .inl c
    · exact .inr (hr x y h5 (by omega) h7)
  by_cases c1 : p < s
  · rw [rotF_lo f c1]
    by_cases c2 : q < e
    · rw [rotF_hi f q1 c2]; exact hl _ _ p1 (by omega) (by omega)
    · rw [rotF_out f h2 h3 (by omega)]
      have k := x1 (by omega) (by omega)
      have k1 : Lt r (f p) (f e) := by
        rcases le p (s - 1) p1 (by omega) (by omega) with c | c
        · rw [c]; exact k
        · exact c.trans k
      rcases re e q h3 (by omega) q2 with c | c
      · rw [← c]; exact k1
      · exact k1.trans c
  · rw [rotF_mid f (by omega) p2]
    by_cases c2 : q < e
    · rw [rotF_hi f q1 c2]
      have k := x2 (by omega) (by omega)
      have k1 : Lt r (f (p - s + m)) (f s) := by
        rcases re (p - s + m) (e - 1) (by omega) (by omega) (by omega) with c | c
        · rw [c]; exact k
        · exact c.trans k
      rcases le s (q - (e - m)) h1 (by omega) (by omega) with c | c
      · rw [← c]; exact k1
      · exact k1.trans c
    · rw [rotF_out f h2 h3 (by omega)]; exact hr _ _ (by omega) (by omega) q2

/-- Two halves that are sorted, and belong one behind the other, are sorted. -/
theorem halves (r : Nat → Int) (g h : Nat → Nat) (a d b : Nat) (hf : ∀ p, p < d → h p = g p) (hl : SortedOn r g a d) (hr : SortedOn r h d b)
    (x : ∀ p q, a ≤ p → p < d → d ≤ q → q < b → Lt r (g p) (h q)) : SortedOn r h a b := by
  intro p q p1 pq qb
  by_cases c1 : q < d
  · rw [hf p (by omega), hf q c1]; exact hl p q p1 pq c1
  · by_cases c2 : p < d
    · rw [hf p c2]; exact x p q p1 c2 (by omega) qb
    · exact hr p q (by omega) pq qb

/-- What the search for the split knows. -/
def Split (r : Nat → Int) (f : Nat → Nat) (s0 r0 n s t : Nat) : Prop := (∀ c, s0 ≤ c → c < s → Lt r (f c) (f (n - 1 - c))) ∧ ∀ c, t ≤ c → c < r0 → Lt r (f (n - 1 - c)) (f c)

/-- One merge. -/
def Merged (r : Nat → Int) (f : Nat → Nat) (a b : Nat) (g : Nat → Nat) : Prop := From a b f g ∧ SortedOn r g a b

def Runs (r : Nat → Int) (f : Nat → Nat) (a m b : Nat) : Prop := SortedOn r f a m ∧ SortedOn r f m b ∧ ∀ p q, a ≤ p → p < m → m ≤ q → q < b → f p < f q

theorem split_left {r : Nat → Int} {f : Nat → Nat} {a m b s0 r0 n s t c : Nat} (R : Runs r f a m b) (I : Split r f s0 r0 n s t) (ha : a ≤ s0) (hr : r0 ≤ m) (hn : n ≤ s0 + b) (hn2 : m + r0 ≤ n) (h1 : s ≤ c) (h0 : s0 ≤ c) (h2 : c < r0)
    (hc : ¬ r (f c) < r (f (n - 1 - c))) : Split r f s0 r0 n (c + 1) t := by
  have k : Lt r (f c) (f (n - 1 - c)) := lt_of_not (R.2.2 c (n - 1 - c) (by omega) (by omega) (by omega) (by omega)) hc
  refine ⟨fun d d1 d2 => ?_, I.2⟩
  by_cases e : d = c
  · subst e; exact k
  · exact ((R.1 d c (by omega) (by omega) (by omega)).trans k).trans (R.2.1 _ _ (by omega) (by omega) (by omega))
theorem split_right {r : Nat → Int} {f : Nat → Nat} {a m b s0 r0 n s t c : Nat} (R : Runs r f a m b) (I : Split r f s0 r0 n s t) (ha : a ≤ s0) (hr : r0 ≤ m) (hn : n ≤ s0 + b) (hn2 : m + r0 ≤ n) (h0 : s0 ≤ c) (h2 : c < r0)
    (hc : r (f c) < r (f (n - 1 - c))) : Split r f s0 r0 n s c := by
  refine ⟨I.1, fun d d1 d2 => ?_⟩
  have k : Lt r (f (n - 1 - c)) (f c) := lt_of_cmp hc
  by_cases e : d = c
  · subst e; exact k
  · exact ((R.2.1 (n - 1 - d) (n - 1 - c) (by omega) (by omega) (by omega)).trans k).trans (R.1 c d (by omega) (by omega) (by omega))
end Go.Proofs.Ytkpmhgikcipedaa
