/- Contracts of sumOfWeights. -/
import Derived.Test.YtkpmhgikcipedaaStable
namespace Go.Proofs.Ytkpmhgikcipedaa
open Go.ChangeShapes Go.WideShapes Go.ChangeAt Go.RowKit

/-- The sum of the first k numbers. -/
def psum (x : Nat → Int) : Nat → Int
  | 0 => 0
  | k + 1 => psum x k + x k

theorem psum_range (x : Nat → Int) (c : Int) (n : Nat) (h : ∀ i, i < n → 0 ≤ x i ∧ x i ≤ c) : 0 ≤ psum x n ∧ psum x n ≤ c * n := by
  induction n with
  | zero => simp [psum]
  | succ k ih =>
    have a := ih (fun i hi => h i (by omega))
    have b := h k (by omega)
    have e : c * ((k + 1 : Nat) : Int) = c * (k : Int) + c := by rw [Int.natCast_succ, Int.mul_add, Int.mul_one]
    unfold psum; omega

/-- The slice at a reads as the n numbers x. -/
def Ws (w : World) (a : Option Addr) (n : Nat) (x : Nat → Int) : Prop := ∀ i, i < n → ∃ b off, a = some ⟨b, off, none⟩ ∧ w.cell? ⟨b, off + i, none⟩ = some (.int .i64 (x i))

def goodW (v : Int) : Prop := 0 ≤ v ∧ v ≤ 1048576

def Two (s e : Int) (w : World) (en : Ending) (w' : World) : Prop := en = .returned (.tuple #[.int .i64 s, .int .i64 e]) ∧ w = w'

theorem sumW_limit (t : Int) (a : Option Addr) (n cap : Nat) (w : World) (hn : 64 < n) (hn2 : n ≤ 9223372036854775807) :
    Calls Try.prog 36 #[.int .i64 t, .slice a n cap] w (Two 0 4 w) := by
  go_enter Try.func36, Try.ntmps36
  go_wp2
  go_ret2
  exact ⟨rfl, rfl⟩
theorem sumW_total (t : Int) (a : Option Addr) (n cap : Nat) (w : World) (hn : n ≤ 64) (ht : t < 0 ∨ 1099511627776 < t) :
    Calls Try.prog 36 #[.int .i64 t, .slice a n cap] w (Two 0 1 w) := by
  by_cases h1 : t < 0
  · clear ht
    go_enter Try.func36, Try.ntmps36
    go_wp2
    go_ret2
    exact ⟨rfl, rfl⟩
  · have h2 : 1099511627776 < t := by omega
    clear ht
    go_enter Try.func36, Try.ntmps36
    go_wp2
    go_ret2
    exact ⟨rfl, rfl⟩

set_option maxHeartbeats 400000 in
theorem sumW_good (t : Int) (a : Option Addr) (n cap : Nat) (x : Nat → Int) (w : World) (hn : n ≤ 64) (ht : 0 ≤ t) (ht2 : t ≤ 1099511627776) (hx : Ws w a n x) (hg : ∀ i, i < n → goodW (x i))
    (s e : Int) (he : (psum x n = 0 ∧ s = 0 ∧ e = 9) ∨ (psum x n ≠ 0 ∧ s = psum x n ∧ e = 0)) :
    Calls Try.prog 36 #[.int .i64 t, .slice a n cap] w (Two s e w) := by
  have HX := Lib.hid hx
  have HG := Lib.hid hg
  have HE := Lib.hid he
  clear hx hg he
  go_enter Try.func36, Try.ntmps36
  go_wp2
  go_loop [6, 20] (fun s6 i => ∃ k : Nat, i = .int .i64 k ∧ k ≤ n ∧ s6 = .int .i64 (psum x k)) (fun _ i => n - (intOf i).toNat)
  case atStart => exact ⟨0, rfl, by omega, rfl⟩
  case round =>
    obtain ⟨k, rfl, hk, rfl⟩ := hrel
    have hr := psum_range x 1048576 k (fun i hi => HG.out i (by omega))
    by_cases hlt : k < n
    · obtain ⟨b, off, rfl, c1⟩ := HX.out k hlt
      obtain ⟨g1, g2⟩ := HG.out k hlt
      have HS := Lib.hid (show psum x (k + 1) = psum x k + x k from rfl)
      generalize psum x k = y at *
      generalize x k = v at *
      go_wp2
      go_round
      case rel => exact ⟨k + 1, by go_num, by omega, by rw [HS.out]⟩
      case measure => simp [intOf]; omega
    · obtain rfl : k = n := by omega
      rcases HE.out with ⟨h1, rfl, rfl⟩ | ⟨h1, rfl, rfl⟩
      · rw [h1]
        go_wp2
        go_ret2
        exact ⟨rfl, rfl⟩
      · have h2 : (psum x k == 0) = false := by simpa using h1
        generalize psum x k = y at *
        go_wp2
        go_ret2
        exact ⟨rfl, rfl⟩

set_option maxHeartbeats 400000 in
theorem sumW_bad (t : Int) (a : Option Addr) (n cap : Nat) (x : Nat → Int) (w : World) (hn : n ≤ 64) (ht : 0 ≤ t) (ht2 : t ≤ 1099511627776) (hx : Ws w a n x) (j : Nat) (hj : j < n) (hg : ∀ i, i < j → goodW (x i))
    (hb : x j < 0 ∨ 1048576 < x j) (_h64 : IsI64 (x j)) :
    Calls Try.prog 36 #[.int .i64 t, .slice a n cap] w (Two 0 1 w) := by
  have HX := Lib.hid hx
  have HG := Lib.hid hg
  have HB := Lib.hid hb
  clear hx hg hb
  go_enter Try.func36, Try.ntmps36
  go_wp2
  go_loop [6, 20] (fun s6 i => ∃ k : Nat, i = .int .i64 k ∧ k ≤ j ∧ s6 = .int .i64 (psum x k)) (fun _ i => j - (intOf i).toNat)
  case atStart => exact ⟨0, rfl, by omega, rfl⟩
  case round =>
    obtain ⟨k, rfl, hk, rfl⟩ := hrel
    have hr := psum_range x 1048576 k (fun i hi => HG.out i (by omega))
    obtain ⟨b, off, rfl, c1⟩ := HX.out k (by omega)
    by_cases hlt : k < j
    · obtain ⟨g1, g2⟩ := HG.out k hlt
      have HS := Lib.hid (show psum x (k + 1) = psum x k + x k from rfl)
      generalize psum x k = y at *
      generalize x k = v at *
      go_wp2
      go_round
      case rel => exact ⟨k + 1, by go_num, by omega, by rw [HS.out]⟩
      case measure => simp [intOf]; omega
    · obtain rfl : k = j := by omega
      have hb := HB.out
      clear HB _h64 HG
      generalize psum x k = y at *
      generalize x k = v at *
      by_cases h1 : v < 0
      · clear hb
        go_wp2
        go_ret2
        exact ⟨rfl, rfl⟩
      · have h2 : 1048576 < v := by omega
        clear hb
        go_wp2
        go_ret2
        exact ⟨rfl, rfl⟩
end Go.Proofs.Ytkpmhgikcipedaa
