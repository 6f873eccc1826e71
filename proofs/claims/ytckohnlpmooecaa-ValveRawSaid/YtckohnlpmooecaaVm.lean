/- Plain mathematics of valves: when they are valid, where they are behind n ticks, and what they still need. -/
import Derived.Test.YtckohnlpmooecaaMath
namespace Go.Proofs.Ytckohnlpmooecaa.Vm

/-- Travel and Open are within their ranges. -/
def Ok (t o : Int) : Prop := 1 ≤ t ∧ t ≤ 60 ∧ 0 ≤ o ∧ o ≤ t
instance (t o : Int) : Decidable (Ok t o) := by unfold Ok; infer_instance

/-- Open behind a tick. -/
def up (t o : Int) (a s : Bool) : Int := if s then o else if a then (if o < t then o + 1 else o) else (if 0 < o then o - 1 else o)
/-- Open behind n ticks. -/
def pos (t o : Int) (a s : Bool) (n : Int) : Int := if s then o else if a then (if o + n ≤ t then o + n else t) else (if n ≤ o then o - n else 0)
/-- What is still to go. -/
def need (t o : Int) (a : Bool) : Int := if a then t - o else o
/-- What Left returns. -/
def left (t o : Int) (a s : Bool) : Int := if Ok t o then (if s = true ∧ 0 < need t o a then -1 else need t o a) else -1

theorem pos_zero {t o : Int} {a s : Bool} (h : Ok t o) : pos t o a s 0 = o := by
  unfold Ok at h; unfold pos
  cases s <;> cases a <;> simp <;> omega
theorem pos_next {t o : Int} {a s : Bool} {n : Int} (_h : Ok t o) (_hn : 0 ≤ n) : up t (pos t o a s n) a s = pos t o a s (n + 1) := by
  unfold Ok at _h; unfold pos up
  cases s <;> cases a <;> simp <;> (repeat' split) <;> omega
theorem pos_ok {t o : Int} {a s : Bool} {n : Int} (h : Ok t o) (hn : 0 ≤ n) : Ok t (pos t o a s n) := by
  unfold Ok at *; unfold pos
  cases s <;> cases a <;> simp <;> (repeat' split) <;> omega
/-- A valve that a tick leaves as it is stays. -/
theorem pos_same {t o : Int} {a s : Bool} {n m : Int} (_h : Ok t o) (_hn : 0 ≤ n) (hm : n ≤ m) (e : up t (pos t o a s n) a s = pos t o a s n) : pos t o a s m = pos t o a s n := by
  unfold Ok at _h; unfold up pos at *
  cases s <;> cases a <;> simp at * <;> (repeat' split at e) <;> (repeat' split) <;> omega
theorem up_ok {t o : Int} {a s : Bool} (h : Ok t o) : Ok t (up t o a s) := by
  unfold Ok at *; unfold up
  cases s <;> cases a <;> simp <;> (repeat' split) <;> omega
theorem need_range {t o : Int} {a : Bool} (h : Ok t o) : 0 ≤ need t o a ∧ need t o a ≤ t := by
  unfold Ok at h; unfold need
  cases a <;> simp <;> omega
end Go.Proofs.Ytckohnlpmooecaa.Vm
