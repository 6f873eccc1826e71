/- Contracts of package meter. -/
import Derived.Test.YtilchmlbihffdaaKp
import Derived.Test.YtilchmlbihffdaaMm
import Derived.Deep.RegionHeld3
namespace Go.Proofs.Ytilchmlbihffdaa
open Go.ChangeShapes Go.WideShapes Go.ChangeAt Go.RowKit

def mv (p b f : Int) : Value := .agg #[.int .i64 p, .int .i64 b, .int .i64 f]
def cv (l q : Int) : Value := .agg #[.int .i64 l, .int .i64 q]

/-- The call returned v; it made memory at most. -/
def Ret (v : Value) (w : World) (e : Ending) (w' : World) : Prop := e = .returned v ∧ w.grownBy w' none

theorem meterValid_yes (p b f : Int) (w : World) (h : Mt.valid p b f = true) :
    Calls Try.prog 12 #[mv p b f] w (Ret (.bool true) w) := by
  obtain ⟨h1, h2, h3, h4, h5⟩ := Mt.valid_true h
  clear h
  unfold mv
  rcases h3 with rfl | rfl
  · go_enter Try.func12, Try.ntmps12
    go_wp2
    go_ret
    exact ⟨rfl, World.grownBy_alloc _ _ _⟩
  · go_enter Try.func12, Try.ntmps12
    go_wp2
    go_ret
    exact ⟨rfl, World.grownBy_alloc _ _ _⟩
theorem meterValid_no (p b f : Int) (w : World) (h : Mt.valid p b f = false) :
    Calls Try.prog 12 #[mv p b f] w (Ret (.bool false) w) := by
  have h := Mt.valid_false h
  unfold mv
  by_cases h1 : 1 ≤ p
  · by_cases h2 : p ≤ 1048576
    · by_cases h3 : b = 16
      · subst h3
        by_cases h4 : 50000 ≤ f
        · have h5 : ¬ f ≤ 200000 := by omega
          clear h
          go_enter Try.func12, Try.ntmps12
          go_wp2
          go_ret
          exact ⟨rfl, World.grownBy_alloc _ _ _⟩
        · clear h
          go_enter Try.func12, Try.ntmps12
          go_wp2
          go_ret
          exact ⟨rfl, World.grownBy_alloc _ _ _⟩
      · by_cases h6 : b = 32
        · subst h6
          by_cases h4 : 50000 ≤ f
          · have h5 : ¬ f ≤ 200000 := by omega
            clear h
            go_enter Try.func12, Try.ntmps12
            go_wp2
            go_ret
            exact ⟨rfl, World.grownBy_alloc _ _ _⟩
          · clear h
            go_enter Try.func12, Try.ntmps12
            go_wp2
            go_ret
            exact ⟨rfl, World.grownBy_alloc _ _ _⟩
        · clear h
          go_enter Try.func12, Try.ntmps12
          go_wp2
          go_ret
          exact ⟨rfl, World.grownBy_alloc _ _ _⟩
    · clear h
      go_enter Try.func12, Try.ntmps12
      go_wp2
      go_ret
      exact ⟨rfl, World.grownBy_alloc _ _ _⟩
  · clear h
    go_enter Try.func12, Try.ntmps12
    go_wp2
    go_ret
    exact ⟨rfl, World.grownBy_alloc _ _ _⟩

theorem refValid_yes (p b f : Int) (w : World) (h : Mt.valid p b f = true) :
    Calls Try.prog 13 #[mv p b f] w (Ret (.bool true) w) := by
  obtain ⟨h1, h2, h3, h4, h5⟩ := Mt.valid_true h
  clear h
  unfold mv
  rcases h3 with rfl | rfl
  · go_enter Try.func13, Try.ntmps13
    go_wp2
    go_ret
    exact ⟨rfl, World.grownBy_alloc _ _ _⟩
  · go_enter Try.func13, Try.ntmps13
    go_wp2
    go_ret
    exact ⟨rfl, World.grownBy_alloc _ _ _⟩
theorem refValid_no (p b f : Int) (w : World) (h : Mt.valid p b f = false) :
    Calls Try.prog 13 #[mv p b f] w (Ret (.bool false) w) := by
  have h := Mt.valid_false h
  unfold mv
  by_cases h1 : 1 ≤ p
  · by_cases h2 : p ≤ 1048576
    · by_cases h3 : b = 16
      · subst h3
        by_cases h4 : 50000 ≤ f
        · have h5 : ¬ f ≤ 200000 := by omega
          clear h
          go_enter Try.func13, Try.ntmps13
          go_wp2
          go_ret
          exact ⟨rfl, World.grownBy_alloc _ _ _⟩
        · clear h
          go_enter Try.func13, Try.ntmps13
          go_wp2
          go_ret
          exact ⟨rfl, World.grownBy_alloc _ _ _⟩
      · by_cases h6 : b = 32
        · subst h6
          by_cases h4 : 50000 ≤ f
          · have h5 : ¬ f ≤ 200000 := by omega
            clear h
            go_enter Try.func13, Try.ntmps13
            go_wp2
            go_ret
            exact ⟨rfl, World.grownBy_alloc _ _ _⟩
          · clear h
            go_enter Try.func13, Try.ntmps13
            go_wp2
            go_ret
            exact ⟨rfl, World.grownBy_alloc _ _ _⟩
        · clear h
          go_enter Try.func13, Try.ntmps13
          go_wp2
          go_ret
          exact ⟨rfl, World.grownBy_alloc _ _ _⟩
    · clear h
      go_enter Try.func13, Try.ntmps13
      go_wp2
      go_ret
      exact ⟨rfl, World.grownBy_alloc _ _ _⟩
  · clear h
    go_enter Try.func13, Try.ntmps13
    go_wp2
    go_ret
    exact ⟨rfl, World.grownBy_alloc _ _ _⟩


theorem readings_any (p b f : Int) (w : World) (h : b = 16 ∨ b = 32) :
    Calls Try.prog 24 #[mv p b f] w (Ret (.int .i64 (Mt.span b)) w) := by
  unfold mv
  rcases h with rfl | rfl
  · go_enter Try.func24, Try.ntmps24
    go_wp2
    go_ret
    exact ⟨rfl, World.grownBy_alloc _ _ _⟩
  · go_enter Try.func24, Try.ntmps24
    go_wp2
    go_ret
    exact ⟨rfl, World.grownBy_alloc _ _ _⟩

def within (n m : Int) : Int := if n < 0 then 0 else if m < n then m else n
theorem within_any (n m : Int) (w : World) (_hm : 0 ≤ m) :
    Calls Try.prog 29 #[.int .i64 n, .int .i64 m] w fun e w' => e = .returned (.int .i64 (within n m)) ∧ w = w' := by
  by_cases h : n < 0
  · have e : within n m = 0 := by unfold within; rw [if_pos h]
    have E := Lib.hid e
    clear e
    go_enter Try.func29, Try.ntmps29
    go_wp2
    go_ret
    exact ⟨ret_int E.out.symm, rfl⟩
  · have h0 : 0 ≤ n := by omega
    by_cases h2 : m < n
    · have e : within n m = m := by unfold within; rw [if_neg h, if_pos h2]
      have E := Lib.hid e
      clear e
      go_enter Try.func29, Try.ntmps29
      go_wp2
      go_ret
      exact ⟨ret_int E.out.symm, rfl⟩
    · have e : within n m = n := by unfold within; rw [if_neg h, if_neg h2]
      have E := Lib.hid e
      clear e
      go_enter Try.func29, Try.ntmps29
      go_wp2
      go_ret
      exact ⟨ret_int E.out.symm, rfl⟩
theorem within_id {n m : Int} (h1 : 0 ≤ n) (h2 : n ≤ m) : within n m = n := by
  unfold within; rw [if_neg (by omega), if_neg (by omega)]
theorem within_ne {n m : Int} (_hm : 0 ≤ m) (h : n < 0 ∨ m < n) : ¬ within n m = n := by
  unfold within
  split
  · omega
  · split
    · omega
    · omega

end Go.Proofs.Ytilchmlbihffdaa
