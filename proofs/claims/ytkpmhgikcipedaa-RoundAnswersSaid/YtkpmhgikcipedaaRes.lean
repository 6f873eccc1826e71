/- Both Shares give one result, for whatever arguments; and so do the roots. -/
import Derived.Test.YtkpmhgikcipedaaRefS
import Derived.Test.YtkpmhgikcipedaaWide
namespace Go.Proofs.Ytkpmhgikcipedaa
open Go.ChangeShapes Go.WideShapes Go.ChangeAt Go.RowKit

theorem Lt.not_both {r : Nat → Int} {i j : Nat} (h : Lt r i j) (k : Lt r j i) : False := by
  rcases h with h | ⟨h1, h2⟩ <;> rcases k with k | ⟨k1, k2⟩ <;> omega

theorem hit_unique (r : Nat → Int) (n : Nat) (g g' : Nat → Nat) (h : Sorted r n g) (h' : Sorted r n g') : ∀ j, j ≤ n → ∀ p, hit g j p = hit g' j p := by
  intro j
  induction j with
  | zero => intro _ _; rfl
  | succ j ih =>
    intro hj p
    have ih := ih (by omega)
    have key : ∀ (f f' : Nat → Nat), Sorted r n f → Sorted r n f' → (∀ p, hit f j p = hit f' j p) → f j ≠ f' j → Lt r (f' j) (f j) := by
      intro f f' s s' hh hne
      obtain ⟨c, hc, ec⟩ := onto f' n s'.oneOne (f j) (s.1 j (by omega))
      have hno : hit f j (f j) = false := hit_none f j (f j) (fun i hi => s.inj i j hi (by omega))
      rw [hh] at hno
      have : j < c := by
        by_cases l : j < c
        · exact l
        · exfalso
          by_cases l2 : c = j
          · subst l2; exact hne ec.symm
          · have := hit_some f' j c (by omega)
            rw [ec, hno] at this; cases this
      have := s'.2 j c (Nat.zero_le _) this hc
      rw [ec] at this; exact this
    have e : g j = g' j := by
      by_cases e : g j = g' j
      · exact e
      · exact (Lt.not_both (key g g' h h' ih e) (key g' g h' h (fun p => (ih p).symm) (fun x => e x.symm))).elim
    show (hit g j p || (g j == p)) = (hit g' j p || (g' j == p))
    rw [ih p, e]

/-- The result of Shares. -/
def Res (t : Int) (n : Nat) (x : Nat → Int) (xs : List Int) (c : Int) : Prop :=
  (64 < n ∧ xs = [] ∧ c = 4) ∨
  (n ≤ 64 ∧ (t < 0 ∨ 1099511627776 < t) ∧ xs = [] ∧ c = 1) ∨
  (n ≤ 64 ∧ (0 ≤ t ∧ t ≤ 1099511627776) ∧ (∃ j, j < n ∧ ¬ goodW (x j)) ∧ xs = [] ∧ c = 1) ∨
  (n ≤ 64 ∧ (0 ≤ t ∧ t ≤ 1099511627776) ∧ (∀ j, j < n → goodW (x j)) ∧ psum x n = 0 ∧ xs = [] ∧ c = 9) ∨
  (n ≤ 64 ∧ (0 ≤ t ∧ t ≤ 1099511627776) ∧ (∀ j, j < n → goodW (x j)) ∧ 1 ≤ psum x n ∧ c = 0 ∧
    ∃ g, Sorted (rem t (psum x n) x) n g ∧ xs = (List.range n).map (share t (psum x n) x g (left t (psum x n) x n).toNat))

theorem Res.one {t : Int} {n : Nat} {x : Nat → Int} {xs ys : List Int} {c d : Int} (h : Res t n x xs c) (k : Res t n x ys d) : xs = ys ∧ c = d := by
  rcases h with ⟨a, rfl, rfl⟩ | ⟨a, b, rfl, rfl⟩ | ⟨a, b, ⟨j, hj, hj2⟩, rfl, rfl⟩ | ⟨a, b, b2, b3, rfl, rfl⟩ | ⟨a, b, b2, b3, rfl, g, hg, rfl⟩ <;>
  rcases k with ⟨a', rfl, rfl⟩ | ⟨a', b', rfl, rfl⟩ | ⟨a', b', ⟨j', hj', hj2'⟩, rfl, rfl⟩ | ⟨a', b', b2', b3', rfl, rfl⟩ | ⟨a', b', b2', b3', rfl, g', hg', rfl⟩
  all_goals first
    | exact ⟨rfl, rfl⟩
    | (exfalso; omega)
    | exact absurd (b2 _ hj') hj2'
    | exact absurd (b2' _ hj) hj2
    | skip
  refine ⟨?_, rfl⟩
  apply List.map_congr_left
  intro p hp
  have hn : 0 < n := by have := List.mem_range.1 hp; omega
  have lr := left_range t (psum x n) x n b3 rfl hn
  unfold share
  rw [hit_unique _ n g g' hg hg' _ (by omega) p]

def ResEnd (t : Int) (n : Nat) (x : Nat → Int) (w : World) (e : Ending) (w' : World) : Prop :=
  ∃ v xs c, e = .returned (.tuple #[v, .int .i64 c]) ∧ Res t n x xs c ∧ SlI w' v xs ∧ w.grownBy w' none ∧ xs.length ≤ 64

theorem slI_row {w : World} {B n cap : Nat} {f : Nat → Int} (h : RowZ w B n f) : SlI w (.slice (some ⟨B, 0, none⟩) n cap) ((List.range n).map f) := by
  refine ⟨some ⟨B, 0, none⟩, B, 0, cap, by simp, fun _ => rfl, fun i hi => ?_⟩
  have hi : i < n := by simpa using hi
  rw [Nat.zero_add, h.1 i hi]
  simp [List.getD_eq_getElem?_getD, hi]

/-- The first weight that is not allowed. -/
theorem first_bad (n : Nat) (x : Nat → Int) : (∀ j, j < n → goodW (x j)) ∨ ∃ j, j < n ∧ (∀ i, i < j → goodW (x i)) ∧ ¬ goodW (x j) := by
  induction n with
  | zero => exact .inl (fun j h => absurd h (by omega))
  | succ n ih =>
    rcases ih with h | ⟨j, h1, h2, h3⟩
    · by_cases e : goodW (x n)
      · exact .inl (fun j hj => by
          by_cases c : j = n
          · subst c; exact e
          · exact h j (by omega))
      · exact .inr ⟨n, by omega, h, e⟩
    · exact .inr ⟨j, by omega, h2, h3⟩

/-- What both functions do with whatever arguments: by cases. -/
theorem shares_cases (f : Nat) (t : Int) (a : Option Addr) (n cap : Nat) (x : Nat → Int) (w : World) (hn : n ≤ 9223372036854775807) (hx : Ws w a n x) (h64 : ∀ i, IsI64 (x i))
    (k1 : 64 < n → Calls Try.prog f #[.int .i64 t, .slice a n cap] w (SharesBad 4 w))
    (k2 : n ≤ 64 → t < 0 ∨ 1099511627776 < t → Calls Try.prog f #[.int .i64 t, .slice a n cap] w (SharesBad 1 w))
    (k3 : n ≤ 64 → 0 ≤ t → t ≤ 1099511627776 → ∀ j, j < n → (∀ i, i < j → goodW (x i)) → x j < 0 ∨ 1048576 < x j → Calls Try.prog f #[.int .i64 t, .slice a n cap] w (SharesBad 1 w))
    (k4 : n ≤ 64 → 0 ≤ t → t ≤ 1099511627776 → (∀ i, i < n → goodW (x i)) → psum x n = 0 → Calls Try.prog f #[.int .i64 t, .slice a n cap] w (SharesBad 9 w))
    (k5 : 0 < n → n ≤ 64 → 0 ≤ t → t ≤ 1099511627776 → (∀ i, i < n → goodW (x i)) → 1 ≤ psum x n → Calls Try.prog f #[.int .i64 t, .slice a n cap] w (RSharesEnd t (psum x n) x n w)) :
    Calls Try.prog f #[.int .i64 t, .slice a n cap] w (ResEnd t n x w) := by
  have nil : ∀ c, Res t n x [] c → Calls Try.prog f #[.int .i64 t, .slice a n cap] w (SharesBad c w) → Calls Try.prog f #[.int .i64 t, .slice a n cap] w (ResEnd t n x w) := by
    intro c hr h
    refine h.mono ?_
    rintro e w' ⟨rfl, rfl⟩
    exact ⟨_, [], c, rfl, hr, ⟨none, 0, 0, 0, rfl, fun h => absurd h (by simp), fun i h => absurd h (by simp)⟩, grown_refl _ _, by simp⟩
  by_cases h1 : 64 < n
  · exact nil 4 (.inl ⟨h1, rfl, rfl⟩) (k1 h1)
  · by_cases h2 : t < 0 ∨ 1099511627776 < t
    · exact nil 1 (.inr (.inl ⟨by omega, h2, rfl, rfl⟩)) (k2 (by omega) h2)
    · rcases first_bad n x with h3 | ⟨j, j1, j2, j3⟩
      · by_cases h4 : psum x n = 0
        · exact nil 9 (.inr (.inr (.inr (.inl ⟨by omega, by omega, h3, h4, rfl, rfl⟩)))) (k4 (by omega) (by omega) (by omega) h3 h4)
        · have hp := (psum_range x 1048576 n (fun i hi => h3 i hi)).1
          have h0 : 0 < n := by
            by_cases e : n = 0
            · subst e; exact absurd rfl h4
            · omega
          refine (k5 h0 (by omega) (by omega) (by omega) h3 (by omega)).mono ?_
          rintro e w' ⟨B, c, g, rfl, _, _, hs, hr, hg⟩
          exact ⟨_, _, 0, rfl, .inr (.inr (.inr (.inr ⟨by omega, by omega, h3, by omega, rfl, g, hs, rfl⟩))), slI_row hr, hg, by simp; omega⟩
      · have := h64 j
        exact nil 1 (.inr (.inr (.inl ⟨by omega, by omega, ⟨j, j1, j3⟩, rfl, rfl⟩))) (k3 (by omega) (by omega) (by omega) j j1 j2 (by unfold goodW at j3; omega))

theorem shares_res (t : Int) (a : Option Addr) (n cap : Nat) (x : Nat → Int) (w : World) (hn : n ≤ 9223372036854775807) (hx : Ws w a n x) (h64 : ∀ i, IsI64 (x i)) :
    Calls Try.prog 25 #[.int .i64 t, .slice a n cap] w (ResEnd t n x w) := by
  refine shares_cases 25 t a n cap x w hn hx h64 (fun h => shares_bad t 4 a n cap w (sumW_limit t a n cap w h hn) rfl) (fun h1 h2 => shares_bad t 1 a n cap w (sumW_total t a n cap w h1 h2) rfl)
    (fun h1 h2 h3 j h4 h5 h6 => shares_bad t 1 a n cap w (sumW_bad t a n cap x w h1 h2 h3 hx j h4 h5 h6 (h64 j)) rfl)
    (fun h1 h2 h3 h4 h5 => shares_bad t 9 a n cap w (sumW_good t a n cap x w h1 h2 h3 hx h4 0 9 (.inl ⟨h5, rfl, rfl⟩)) rfl)
    (fun h0 h1 h2 h3 h4 h5 => (shares64 t _ a n cap x w h0 h1 h2 h3 hx h4 rfl h5).mono ?_)
  rintro e w' ⟨B, g, rfl, a1, a2, a3, a4, a5⟩
  exact ⟨B, n, g, rfl, a1, a2, a3, a4, a5⟩
theorem rshares_res (t : Int) (a : Option Addr) (n cap : Nat) (x : Nat → Int) (w : World) (hn : n ≤ 9223372036854775807) (hx : Ws w a n x) (h64 : ∀ i, IsI64 (x i)) :
    Calls Try.prog 26 #[.int .i64 t, .slice a n cap] w (ResEnd t n x w) :=
  shares_cases 26 t a n cap x w hn hx h64 (fun h => rshares_limit t a n cap w h hn) (fun h1 h2 => rshares_total t a n cap w h1 h2)
    (fun h1 h2 h3 j h4 h5 h6 => rshares_bad t a n cap x w h1 h2 h3 hx j h4 h5 h6 (h64 j))
    (fun h1 h2 h3 h4 h5 => rshares_zero t a n cap x w h1 h2 h3 hx h4 h5)
    (fun h0 h1 h2 h3 h4 h5 => rshares_ok t _ a n cap x w h0 h1 h2 h3 hx h4 rfl h5)

/-- What the roots give for whatever number. -/
def RootS (n r : Int) : Prop := (0 ≤ n ∧ n ≤ 4611686018427387904 ∧ IsRoot n r) ∨ ((n < 0 ∨ 4611686018427387904 < n) ∧ r = 0)
def RootUpS (n r : Int) : Prop := (0 ≤ n ∧ n ≤ 4611686018427387904 ∧ IsRootUp n r) ∨ ((n < 0 ∨ 4611686018427387904 < n) ∧ r = 0)
theorem RootS.one {n r s : Int} (h : RootS n r) (k : RootS n s) : r = s := by
  rcases h with ⟨a, b, c⟩ | ⟨a, b⟩ <;> rcases k with ⟨a', b', c'⟩ | ⟨a', b'⟩
  · exact root_one n r s c c'
  · omega
  · omega
  · omega
theorem RootUpS.one {n r s : Int} (h : RootUpS n r) (k : RootUpS n s) : r = s := by
  rcases h with ⟨a, b, c⟩ | ⟨a, b⟩ <;> rcases k with ⟨a', b', c'⟩ | ⟨a', b'⟩
  · exact rootUp_one n r s c c'
  · omega
  · omega
  · omega
theorem root_all (n : Int) (w : World) : Calls Try.prog 19 #[.int .i64 n] w (SomeI (RootS n) w) := by
  by_cases h : 0 ≤ n ∧ n ≤ 4611686018427387904
  · exact (root_yes n w h.1 h.2).mono fun e w' ⟨r, a, b, c⟩ => ⟨r, .inl ⟨h.1, h.2, a⟩, b, c⟩
  · exact (root_no n w (by omega)).mono fun e w' ⟨r, a, b, c⟩ => ⟨r, .inr ⟨by omega, a⟩, b, c⟩
theorem rootUp_all (n : Int) (w : World) : Calls Try.prog 21 #[.int .i64 n] w (SomeI (RootUpS n) w) := by
  by_cases h : 0 ≤ n ∧ n ≤ 4611686018427387904
  · exact (rootUp_yes n w h.1 h.2).mono fun e w' ⟨r, a, b, c⟩ => ⟨r, .inl ⟨h.1, h.2, a⟩, b, c⟩
  · exact (rootUp_no n w (by omega)).mono fun e w' ⟨r, a, b, c⟩ => ⟨r, .inr ⟨by omega, a⟩, b, c⟩
theorem rroot_all (n : Int) (w : World) : Calls Try.prog 20 #[.int .i64 n] w (SameI (RootS n) w) := by
  by_cases h : 0 ≤ n ∧ n ≤ 4611686018427387904
  · exact (rroot_yes n w h.1 h.2).mono fun e w' ⟨r, a, b, c⟩ => ⟨r, .inl ⟨h.1, h.2, a⟩, b, c⟩
  · exact (rroot_no n w (by omega)).mono fun e w' ⟨r, a, b, c⟩ => ⟨r, .inr ⟨by omega, a⟩, b, c⟩
theorem rrootUp_all (n : Int) (w : World) : Calls Try.prog 22 #[.int .i64 n] w (SameI (RootUpS n) w) := by
  by_cases h : 0 ≤ n ∧ n ≤ 4611686018427387904
  · exact (rrootUp_yes n w h.1 h.2).mono fun e w' ⟨r, a, b, c⟩ => ⟨r, .inl ⟨h.1, h.2, a⟩, b, c⟩
  · exact (rrootUp_no n w (by omega)).mono fun e w' ⟨r, a, b, c⟩ => ⟨r, .inr ⟨by omega, a⟩, b, c⟩
end Go.Proofs.Ytkpmhgikcipedaa
