/- awake: the examples of the chapter hold. -/
import Derived.Test.YtkpmhgikcipedaaShares
namespace Go.Proofs.Ytkpmhgikcipedaa
open Go.ChangeShapes Go.WideShapes Go.ChangeAt Go.RowKit

def wx (i : Nat) : Int := [2, 0, 3, 3].getD i 0
def LtB (i j : Nat) : Bool := decide (rem 5 8 wx j < rem 5 8 wx i) || (decide (rem 5 8 wx j = rem 5 8 wx i) && decide (i < j))

theorem order4 : ∀ a b c d : Fin 4, LtB a b = true → LtB b c = true → LtB c d = true → a = 2 ∧ b = 3 := by decide +kernel

theorem ltB_of {i j : Nat} (h : Lt (rem 5 8 wx) i j) : LtB i j = true := by
  unfold LtB
  rcases h with h | ⟨h1, h2⟩
  · simp [h]
  · simp [h1, h2]

theorem awake_order (g : Nat → Nat) (h : Sorted (rem 5 8 wx) 4 g) : g 0 = 2 ∧ g 1 = 3 := by
  obtain ⟨h1, h2⟩ := h
  have := order4 ⟨g 0, h1 0 (by omega)⟩ ⟨g 1, h1 1 (by omega)⟩ ⟨g 2, h1 2 (by omega)⟩ ⟨g 3, h1 3 (by omega)⟩
    (ltB_of (h2 0 1 (by omega) (by omega) (by omega))) (ltB_of (h2 1 2 (by omega) (by omega) (by omega))) (ltB_of (h2 2 3 (by omega) (by omega) (by omega)))
  simp [Fin.ext_iff] at this
  exact this

theorem left_awake : (left 5 8 wx 4).toNat = 2 := by decide
theorem share_awake (g : Nat → Nat) (h : Sorted (rem 5 8 wx) 4 g) (p : Nat) (hp : p < 4) : share 5 8 wx g 2 p = [1, 0, 2, 2].getD p 0 := by
  obtain ⟨a, b⟩ := awake_order g h
  unfold share hit hit hit
  rw [a, b]
  match p, hp with
  | 0, _ => decide
  | 1, _ => decide
  | 2, _ => decide
  | 3, _ => decide

theorem rootUp8 (r : Int) (h : IsRootUp 8 r) : r = 3 := rootUp_one 8 r 3 h ⟨by omega, by omega, by omega, by omega⟩

theorem awake_shares (b : Nat) (w : World) (h : ∀ i, i < 4 → w.cell? ⟨b, i, none⟩ = some (.int .i64 (wx i))) :
    Calls Try.prog 25 #[.int .i64 5, .slice (some ⟨b, 0, none⟩) 4 4] w fun e w' => ∃ B, e = .returned (.tuple #[.slice (some ⟨B, 0, none⟩) 4 4, .int .i64 0]) ∧ B < w'.heap.size ∧ (∀ i, i < 4 → w'.cell? ⟨B, i, none⟩ = some (.int .i64 ([1, 0, 2, 2].getD i 0))) ∧ w.grownBy w' none := by
  refine (shares_ok 5 8 (some ⟨b, 0, none⟩) 4 4 wx w (by omega) (by omega) (by omega) (by omega) (fun i hi => ⟨b, 0, rfl, by rw [Nat.zero_add]; exact h i hi⟩) ?_ (by decide) (by omega)).mono ?_
  · intro i hi
    match i, hi with
    | 0, _ => exact ⟨by decide, by decide⟩
    | 1, _ => exact ⟨by decide, by decide⟩
    | 2, _ => exact ⟨by decide, by decide⟩
    | 3, _ => exact ⟨by decide, by decide⟩
  · rintro e w' ⟨B, g, rfl, _, hB, hs, hr, hg⟩
    rw [left_awake] at hr
    exact ⟨B, rfl, hB, fun i hi => by rw [hr.1 i hi, share_awake g hs i hi], hg⟩

def AwakeEnd (w : World) (e : Ending) (w' : World) : Prop := e = .returned (.bool true) ∧ w.grownBy w' none

set_option maxHeartbeats 1000000 in
theorem awake_any (w : World) : Calls Try.prog 9 #[] w (AwakeEnd w) := by
  have hd := fun w => down_any (-7) 2 w
  have hu := fun w => up_any (-7) 2 w
  have hh := fun w => half_any 7 2 w
  rw [show Rd.down (-7) 2 = -4 by decide] at hd
  rw [show Rd.up (-7) 2 = -3 by decide] at hu
  rw [show Rd.half 7 2 = 4 by decide] at hh
  have HD := Lib.hid hd
  have HU := Lib.hid hu
  have HH := Lib.hid hh
  clear hd hu hh
  go_enter Try.func9, Try.ntmps9
  go_wp2_with fail
  refine (awake_shares w.heap.size _ ?_).mono ?_
  · intro i hi
    match i, hi with
    | 0, _ => simp [wx]
    | 1, _ => simp [wx]
    | 2, _ => simp [wx]
    | 3, _ => simp [wx]
  · rintro e w1 ⟨B, rfl, hB, hc, hg⟩
    have G1 := Lib.hid (grown_trans (World.grownBy_alloc w _ none) hg)
    have C1 := Lib.hid hc
    clear hg hc
    go_wp2_with (first | (go_at_call 13; refine (HD.out _).mono ?_; rintro e w' ⟨rfl, rfl⟩) | (go_at_call 15; refine (HU.out _).mono ?_; rintro e w' ⟨rfl, rfl⟩) | (go_at_call 17; refine (HH.out _).mono ?_; rintro e w' ⟨rfl, rfl⟩))
    refine (rootUp_yes 8 _ (by omega) (by omega)).mono ?_
    rintro e w2 ⟨r, hr, rfl, hb⟩
    obtain rfl := rootUp8 r hr
    have G2 := Lib.hid (below_grown hb)
    clear hr hb
    go_wp2_with fail
    refine (ints_any _ _ [1, 0, 2, 2] [1, 0, 2, 2] _ ⟨_, B, 0, 4, rfl, fun _ => rfl, fun i hi => ?_⟩ ⟨_, w2.heap.size, 0, 4, rfl, fun _ => rfl, fun i hi => ?_⟩ (by decide) (by decide)).mono ?_
    · rw [Nat.zero_add]
      exact (World.grownBy_alloc w2 _ none).cell (G2.out.cell (C1.out i hi) (by simp)) (by simp)
    · rw [Nat.zero_add]
      match i, hi with
      | 0, _ => simp
      | 1, _ => simp
      | 2, _ => simp
      | 3, _ => simp
    · rintro e w3 ⟨rfl, q, rfl⟩
      have G3 := Lib.hid (grown_trans G1.out (grown_trans G2.out (grown_trans (World.grownBy_alloc w2 (.cells #[.int .i64 1, .int .i64 0, .int .i64 2, .int .i64 2] 3) none) (grown_drewN _ q none))))
      rw [show eqB [1, 0, 2, 2] [1, 0, 2, 2] = true by decide]
      go_wp2
      go_ret
      exact ⟨rfl, G3.out⟩
end Go.Proofs.Ytkpmhgikcipedaa
