/- Contracts of swapRange and rotate. -/
import Derived.Test.YtkpmhgikcipedaaSort
namespace Go.Proofs.Ytkpmhgikcipedaa
open Go.ChangeShapes Go.WideShapes Go.ChangeAt Go.RowKit

/-- The k places from a and those from b are exchanged. -/
def swapB (f : Nat → Nat) (a b k : Nat) : Nat → Nat := fun p => if a ≤ p ∧ p < a + k then f (p - a + b) else if b ≤ p ∧ p < b + k then f (p - b + a) else f p

theorem swapB_step (f : Nat → Nat) (a b k : Nat) (h : a + k < b) (p : Nat) : swap (swapB f a b k) (a + k) (b + k) p = swapB f a b (k + 1) p := by
  unfold swap swapB
  by_cases e1 : p = a + k
  · subst e1
    rw [if_pos rfl, if_neg (by omega), if_neg (by omega), if_pos (by omega)]
    congr 1; omega
  · by_cases e2 : p = b + k
    · subst e2
      rw [if_neg (by omega), if_pos rfl, if_neg (by omega), if_neg (by omega), if_neg (by omega), if_pos (by omega)]
      congr 1; omega
    · rw [if_neg e1, if_neg e2]
      by_cases h1 : a ≤ p ∧ p < a + k
      · rw [if_pos h1, if_pos (by omega)]
      · rw [if_neg h1, if_neg (show ¬ (a ≤ p ∧ p < a + (k + 1)) by omega)]
        by_cases h2 : b ≤ p ∧ p < b + k
        · rw [if_pos h2, if_pos (by omega)]
        · rw [if_neg h2, if_neg (by omega)]
theorem swapB_zero (f : Nat → Nat) (a b p : Nat) : swapB f a b 0 p = f p := by unfold swapB; rw [if_neg (by omega), if_neg (by omega)]

theorem Row.congr {w : World} {B n : Nat} {f g : Nat → Nat} (h : Row w B n f) (e : ∀ p, f p = g p) : Row w B n g := by
  have : f = g := funext e
  rw [← this]; exact h

set_option maxHeartbeats 1000000 in
theorem swapRange_any (B n : Nat) (f : Nat → Nat) (a b k : Nat) (c : Value) (w : World) (hr : Row w B n f) (hab : a + k ≤ b) (hb : b + k ≤ n) (hn : n ≤ 1000000) :
    Calls Try.prog 46 #[.slice (some ⟨B, 0, none⟩) n n, .int .i64 a, .int .i64 b, .int .i64 k, c] w (SortEnd B n (· = swapB f a b k) w) := by
  have HR := Lib.hid hr
  clear hr
  go_enter Try.func46, Try.ntmps46
  go_wp2
  go_loopw [10] (fun s wr => ∃ i : Nat, s = .int .i64 i ∧ i ≤ k ∧ Hid (Row wr B n (swapB f a b i)) ∧ Hid (w.grownBy wr (some B))) (fun s _ => k - (intOf s).toNat)
  case atStart => exact ⟨0, rfl, by omega, HR.out.congr (fun p => (swapB_zero f a b p).symm), grown_refl _ _⟩
  case round =>
    obtain ⟨i, rfl, hi, R, G⟩ := hrel
    by_cases hlt : i < k
    · have c1 := R.out.1 (a + i) (by omega)
      have c2 := R.out.1 (b + i) (by omega)
      have f1 := R.out.2 (a + i)
      have f2 := R.out.2 (b + i)
      have hx : swapB f a b i (a + i) = swapB f a b i (a + i) := rfl
      have R2 := Lib.hid (fun q => (R.out.put (a + i) (b + i) (swapB f a b i (b + i)) (swapB f a b i (a + i)) q (by omega) (by omega) rfl rfl).congr (fun p => swapB_step f a b i (by omega) p))
      clear hx
      generalize swapB f a b i (a + i) = x at *
      generalize swapB f a b i (b + i) = y at *
      go_wp2
      go_region
      all_goals go_wp2
      go_roundw
      case rel => exact ⟨i + 1, by go_num, by omega, R2.out _, grown_put G.out _ _ _ _ _⟩
      case measure => simp [intOf]; omega
    · obtain rfl : i = k := by omega
      go_wp2
      go_end0
      exact ⟨rfl, _, rfl, R, G⟩

/-- [s, m) and [m, e) change places. -/
def rotF (f : Nat → Nat) (s m e : Nat) : Nat → Nat := fun p => if p < s then f p else if p < s + (e - m) then f (p - s + m) else if p < e then f (p - (e - m)) else f p

theorem rot_more (f : Nat → Nat) (m i j : Nat) (hi : i ≤ m) (h : j < i) (p : Nat) : rotF (swapB f (m - i) m j) (m - (i - j)) m (m + j) p = rotF f (m - i) m (m + j) p := by
  unfold rotF swapB
  repeat' split
  all_goals first | rfl | (exfalso; omega) | (congr 1; omega)
theorem rot_less (f : Nat → Nat) (m i j : Nat) (hi : i ≤ m) (h : i < j) (p : Nat) : rotF (swapB f (m - i) (m + j - i) i) (m - i) m (m + (j - i)) p = rotF f (m - i) m (m + j) p := by
  unfold rotF swapB
  repeat' split
  all_goals first | rfl | (exfalso; omega) | (congr 1; omega)
theorem rot_same (f : Nat → Nat) (m i : Nat) (hi : i ≤ m) (p : Nat) : swapB f (m - i) m i p = rotF f (m - i) m (m + i) p := by
  unfold rotF swapB
  repeat' split
  all_goals first | rfl | (exfalso; omega) | (congr 1; omega)

set_option maxHeartbeats 1000000 in
theorem rotate_any (B n : Nat) (f : Nat → Nat) (a m b : Nat) (c : Value) (w : World) (hr : Row w B n f) (ham : a < m) (hmb : m < b) (hb : b ≤ n) (hn : n ≤ 1000000) :
    Calls Try.prog 45 #[.slice (some ⟨B, 0, none⟩) n n, .int .i64 a, .int .i64 m, .int .i64 b, c] w (SortEnd B n (· = rotF f a m b) w) := by
  have HR := Lib.hid hr
  clear hr
  obtain ⟨i0, hi0⟩ : ∃ i, a + i = m := ⟨m - a, by omega⟩
  obtain ⟨j0, hj0⟩ : ∃ j, m + j = b := ⟨b - m, by omega⟩
  have E0 := Lib.hid (show ∀ p, rotF f (m - i0) m (m + j0) p = rotF f a m b p from fun p => by rw [show m - i0 = a by omega, hj0])
  have HI := Lib.hid hi0
  have HJ := Lib.hid hj0
  have k1 : (m : Int) - (a : Int) = (i0 : Int) := by omega
  have k2 : (b : Int) - (m : Int) = (j0 : Int) := by omega
  have k3 : 0 < i0 ∧ 0 < j0 ∧ i0 ≤ m ∧ m + j0 ≤ n := by omega
  clear hi0 hj0
  go_enter Try.func45, Try.ntmps45
  go_wp2
  go_loopw [10, 11] (fun s10 s11 wr => ∃ (i j : Nat) (h : Nat → Nat), s10 = .int .i64 i ∧ s11 = .int .i64 j ∧ 0 < i ∧ 0 < j ∧ i ≤ m ∧ m + j ≤ n ∧ Hid (Row wr B n h) ∧ Hid (w.grownBy wr (some B)) ∧ Hid (∀ p, rotF h (m - i) m (m + j) p = rotF f a m b p)) (fun s t _ => (intOf s).toNat + (intOf t).toNat)
  case atStart => exact ⟨i0, j0, f, rfl, rfl, by omega, by omega, by omega, by omega, HR, grown_refl _ _, E0⟩
  case round =>
    obtain ⟨i, j, h, rfl, rfl, h1, h2, h3, h4, R, G, E⟩ := hrel
    clear k1 k2 k3
    by_cases hlt : j < i
    · have hne : ((i : Int) != (j : Int)) = true := by rw [bne_iff_ne]; omega
      obtain ⟨k, hk⟩ : ∃ k, m - i = k := ⟨_, rfl⟩
      have hc := swapRange_any B n h k m j c wr R.out (by omega) (by omega) hn
      rw [show (k : Int) = (m : Int) - (i : Int) by omega] at hc
      have HC := Lib.hid hc
      have E2 := Lib.hid (show ∀ p, rotF (swapB h k m j) (m - (i - j)) m (m + j) p = rotF f a m b p from fun p => by rw [← hk, rot_more h m i j h3 hlt]; exact E.out p)
      clear hc hk
      go_wp2_with fail
      refine HC.out.mono ?_
      rintro e w2 ⟨rfl, g, rfl, hr2, hg2⟩
      have R2 := Lib.hid hr2
      have G2 := Lib.hid (grown_trans G.out hg2)
      clear hr2 hg2
      go_wp2
      go_roundw
      case rel => exact ⟨i - j, j, _, congrArg (Value.int .i64) (by omega), rfl, by omega, h2, by omega, h4, R2, G2, E2⟩
      case measure => simp [intOf]; omega
    · by_cases hlt2 : i < j
      · have hne : ((i : Int) != (j : Int)) = true := by rw [bne_iff_ne]; omega
        obtain ⟨k, hk⟩ : ∃ k, m - i = k := ⟨_, rfl⟩
        obtain ⟨l, hl⟩ : ∃ l, m + j - i = l := ⟨_, rfl⟩
        have hc := swapRange_any B n h k l i c wr R.out (by omega) (by omega) hn
        rw [show (k : Int) = (m : Int) - (i : Int) by omega, show (l : Int) = (m : Int) + (j : Int) - (i : Int) by omega] at hc
        have HC := Lib.hid hc
        have E2 := Lib.hid (show ∀ p, rotF (swapB h k l i) (m - i) m (m + (j - i)) p = rotF f a m b p from fun p => by rw [← hk, ← hl, rot_less h m i j h3 hlt2]; exact E.out p)
        clear hc hk hl
        go_wp2_with fail
        refine HC.out.mono ?_
        rintro e w2 ⟨rfl, g, rfl, hr2, hg2⟩
        have R2 := Lib.hid hr2
        have G2 := Lib.hid (grown_trans G.out hg2)
        clear hr2 hg2
        go_wp2
        go_roundw
        case rel => exact ⟨i, j - i, _, rfl, congrArg (Value.int .i64) (by omega), h1, by omega, h3, by omega, R2, G2, E2⟩
        case measure => simp [intOf]; omega
      · obtain rfl : i = j := by omega
        obtain ⟨k, hk⟩ : ∃ k, m - i = k := ⟨_, rfl⟩
        have hc := swapRange_any B n h k m i c wr R.out (by omega) (by omega) hn
        rw [show (k : Int) = (m : Int) - (i : Int) by omega] at hc
        have HC := Lib.hid hc
        have E2 := Lib.hid (show ∀ p, swapB h k m i p = rotF f a m b p from fun p => by rw [← hk, rot_same h m i h3]; exact E.out p)
        clear hc hk
        go_wp2_with fail
        refine HC.out.mono ?_
        rintro e w2 ⟨rfl, g, rfl, hr2, hg2⟩
        have R2 := Lib.hid (hr2.congr E2.out)
        have G2 := Lib.hid (grown_trans G.out hg2)
        clear hr2 hg2
        go_wp2
        go_end0
        exact ⟨rfl, _, rfl, R2.out, G2.out⟩
end Go.Proofs.Ytkpmhgikcipedaa
