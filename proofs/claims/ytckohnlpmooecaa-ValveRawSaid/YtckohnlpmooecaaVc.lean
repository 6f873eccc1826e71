/- The code's Valid; the worlds in which a valve has just been laid. -/
import Derived.Test.YtckohnlpmooecaaVa
namespace Go.Proofs.Ytckohnlpmooecaa
open Go.ChangeShapes Go.WideShapes Go.ChangeAt Go.RowKit

/-- The world in which a valve that came in by value has been laid, and one that is all nought. -/
theorem VC.start (w : World) (t o : Int) (a s : Bool) : VC ((w.alloc (Obj.cells #[.int .i64 t, .int .i64 o, .bool a, .bool s] 23)).alloc (Obj.cells #[.int .i64 0, .int .i64 0, .bool false, .bool false] 23)) w.heap.size t o a s := by
  unfold VC
  refine ⟨?_, ?_, ?_, ?_, ?_, ?_, ?_, ?_⟩
  all_goals go_simp
theorem VC.zero (w : World) : VC (w.alloc (Obj.cells #[.int .i64 0, .int .i64 0, .bool false, .bool false] 23)) w.heap.size 0 0 false false := by
  unfold VC
  refine ⟨?_, ?_, ?_, ?_, ?_, ?_, ?_, ?_⟩
  all_goals go_simp
theorem VC.one (w : World) (t o : Int) (a s : Bool) : VC (w.alloc (Obj.cells #[.int .i64 t, .int .i64 o, .bool a, .bool s] 23)) w.heap.size t o a s := by
  unfold VC
  refine ⟨?_, ?_, ?_, ?_, ?_, ?_, ?_, ?_⟩
  all_goals go_simp
theorem VC.zero2 (w : World) (x : Obj) : VC ((w.alloc x).alloc (Obj.cells #[.int .i64 0, .int .i64 0, .bool false, .bool false] 23)) (w.heap.size + 1) 0 0 false false := by
  unfold VC
  refine ⟨?_, ?_, ?_, ?_, ?_, ?_, ?_, ?_⟩
  all_goals go_simp
theorem start_grown (w : World) (a b : Obj) : w.grownBy ((w.alloc a).alloc b) none := grown_trans (World.grownBy_alloc _ _ _) (World.grownBy_alloc _ _ _)

theorem cvalid_yes (t o : Int) (a s : Bool) (w : World) (h : Vm.Ok t o) :
    Calls Try.prog 13 #[vv t o a s] w (Ret (.bool true) w) := by
  obtain ⟨h1, h2, h3, h4⟩ := h
  unfold vv
  go_enter Try.func13, Try.ntmps13
  go_wp2
  go_ret
  exact ⟨rfl, World.grownBy_alloc _ _ _⟩
theorem cvalid_no (t o : Int) (a s : Bool) (w : World) (h : ¬ Vm.Ok t o) :
    Calls Try.prog 13 #[vv t o a s] w (Ret (.bool false) w) := by
  unfold Vm.Ok at h
  unfold vv
  by_cases h1 : 1 ≤ t
  · by_cases h2 : t ≤ 60
    · by_cases h3 : 0 ≤ o
      · have h4 : ¬ o ≤ t := by omega
        clear h
        go_enter Try.func13, Try.ntmps13
        go_wp2
        go_ret
        exact ⟨rfl, World.grownBy_alloc _ _ _⟩
      · clear h
        go_enter Try.func13, Try.ntmps13
        go_wp2
        go_ret
        exact ⟨rfl, World.grownBy_alloc _ _ _⟩
    · clear h
      go_enter Try.func13, Try.ntmps13
      go_wp2
      go_ret
      exact ⟨rfl, World.grownBy_alloc _ _ _⟩
  · clear h
    go_enter Try.func13, Try.ntmps13
    go_wp2
    go_ret
    exact ⟨rfl, World.grownBy_alloc _ _ _⟩
end Go.Proofs.Ytckohnlpmooecaa
