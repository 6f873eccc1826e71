/- Contract of meter.isCount. -/
import Derived.Test.YtilchmlbihffdaaMt
namespace Go.Proofs.Ytilchmlbihffdaa
open Go.ChangeShapes Go.WideShapes Go.ChangeAt Go.RowKit

set_option maxHeartbeats 600000 in
theorem isCount_eq (p b f l q sp : Int) (w : World) (hs : 0 < sp ∧ sp ≤ 4294967296) (HR : Hid (∀ w, Calls Try.prog 24 #[mv p b f] w (Ret (.int .i64 sp) w)))
    (H1 : Hid (∀ w : World, Calls Try.prog 29 #[.int .i64 l, .int .i64 (sp - 1)] w fun e w' => e = .returned (.int .i64 l) ∧ w = w'))
    (H2 : Hid (∀ w : World, Calls Try.prog 29 #[.int .i64 q, .int .i64 1099511627776] w fun e w' => e = .returned (.int .i64 q) ∧ w = w'))  :
    Calls Try.prog 23 #[mv p b f, cv l q] w (Ret (.bool true) w) := by
  have k0 : ((w.alloc (Obj.cells #[.int .i64 p, .int .i64 b, .int .i64 f] 23)).alloc (Obj.cells #[.int .i64 l, .int .i64 q] 25)).cell? ⟨w.heap.size, 0, none⟩ = some (.int .i64 p) := by simp
  have k1 : ((w.alloc (Obj.cells #[.int .i64 p, .int .i64 b, .int .i64 f] 23)).alloc (Obj.cells #[.int .i64 l, .int .i64 q] 25)).cell? ⟨w.heap.size, 1, none⟩ = some (.int .i64 b) := by simp
  have k2 : ((w.alloc (Obj.cells #[.int .i64 p, .int .i64 b, .int .i64 f] 23)).alloc (Obj.cells #[.int .i64 l, .int .i64 q] 25)).cell? ⟨w.heap.size, 2, none⟩ = some (.int .i64 f) := by simp
  have k3 : ((w.alloc (Obj.cells #[.int .i64 p, .int .i64 b, .int .i64 f] 23)).alloc (Obj.cells #[.int .i64 l, .int .i64 q] 25)).cell? ⟨w.heap.size + 1, 0, none⟩ = some (.int .i64 l) := by simp
  have k4 : ((w.alloc (Obj.cells #[.int .i64 p, .int .i64 b, .int .i64 f] 23)).alloc (Obj.cells #[.int .i64 l, .int .i64 q] 25)).cell? ⟨w.heap.size + 1, 1, none⟩ = some (.int .i64 q) := by simp
  have gX := Lib.hid (show w.grownBy ((w.alloc (Obj.cells #[.int .i64 p, .int .i64 b, .int .i64 f] 23)).alloc (Obj.cells #[.int .i64 l, .int .i64 q] 25)) none from grown_trans (World.grownBy_alloc _ _ _) (World.grownBy_alloc _ _ _))
  have hwr : IntKind.i64.wrap (sp - 1) = sp - 1 := IntWalk.i64_in _ (by omega)
  unfold mv cv
  go_enter Try.func23, Try.ntmps23
  go_wp2_with fail
  obtain ⟨X, hX⟩ : ∃ X, X = w.heap.size := ⟨_, rfl⟩
  rw [← hX] at k0 k1 k2 k3 k4 ⊢
  generalize ((w.alloc (Obj.cells #[.int .i64 p, .int .i64 b, .int .i64 f] 23)).alloc (Obj.cells #[.int .i64 l, .int .i64 q] 25)) = WX at *
  clear hX
  have kk : Hid (WX.cell? ⟨X, 0, none⟩ = some (.int .i64 p) ∧ WX.cell? ⟨X, 1, none⟩ = some (.int .i64 b) ∧ WX.cell? ⟨X, 2, none⟩ = some (.int .i64 f) ∧ WX.cell? ⟨X + 1, 0, none⟩ = some (.int .i64 l) ∧ WX.cell? ⟨X + 1, 1, none⟩ = some (.int .i64 q)) := ⟨k0, k1, k2, k3, k4⟩
  go_region_held3 (fun w' => w'.cell? ⟨X, 0, none⟩ = some (.int .i64 p) ∧ w'.cell? ⟨X, 1, none⟩ = some (.int .i64 b) ∧ w'.cell? ⟨X, 2, none⟩ = some (.int .i64 f) ∧ w'.cell? ⟨X + 1, 0, none⟩ = some (.int .i64 l) ∧ w'.cell? ⟨X + 1, 1, none⟩ = some (.int .i64 q))
    (first | go_keep | exact ⟨hga.cell (show _ = some (Value.int .i64 p) from k0) (by simp), hga.cell (show _ = some (Value.int .i64 b) from k1) (by simp), hga.cell (show _ = some (Value.int .i64 f) from k2) (by simp), hga.cell (show _ = some (Value.int .i64 l) from k3) (by simp), hga.cell (show _ = some (Value.int .i64 q) from k4) (by simp)⟩)
    (first
      | (go_at_call 24; refine (HR.out _).mono ?_; rintro e wa ⟨rfl, hga⟩)
      | (go_at_call 29; refine (H1.out _).mono ?_; rintro e w' ⟨rfl, rfl⟩)
      | (go_at_call 29; refine (H2.out _).mono ?_; rintro e w' ⟨rfl, rfl⟩))
  have GE := Lib.hid (grown_trans gX.out (grown_trans (grown_drewN WX 1 none) hga))
  clear hga
  go_wp2
  go_ret
  exact ⟨rfl, GE.out⟩
set_option maxHeartbeats 600000 in
theorem isCount_l (p b f l q r1 r2 sp : Int) (w : World) (hs : 0 < sp ∧ sp ≤ 4294967296) (HR : Hid (∀ w, Calls Try.prog 24 #[mv p b f] w (Ret (.int .i64 sp) w)))
    (H1 : Hid (∀ w : World, Calls Try.prog 29 #[.int .i64 l, .int .i64 (sp - 1)] w fun e w' => e = .returned (.int .i64 r1) ∧ w = w'))
    (H2 : Hid (∀ w : World, Calls Try.prog 29 #[.int .i64 q, .int .i64 1099511627776] w fun e w' => e = .returned (.int .i64 r2) ∧ w = w')) (h1 : (l == r1) = false) :
    Calls Try.prog 23 #[mv p b f, cv l q] w (Ret (.bool false) w) := by
  have k0 : ((w.alloc (Obj.cells #[.int .i64 p, .int .i64 b, .int .i64 f] 23)).alloc (Obj.cells #[.int .i64 l, .int .i64 q] 25)).cell? ⟨w.heap.size, 0, none⟩ = some (.int .i64 p) := by simp
  have k1 : ((w.alloc (Obj.cells #[.int .i64 p, .int .i64 b, .int .i64 f] 23)).alloc (Obj.cells #[.int .i64 l, .int .i64 q] 25)).cell? ⟨w.heap.size, 1, none⟩ = some (.int .i64 b) := by simp
  have k2 : ((w.alloc (Obj.cells #[.int .i64 p, .int .i64 b, .int .i64 f] 23)).alloc (Obj.cells #[.int .i64 l, .int .i64 q] 25)).cell? ⟨w.heap.size, 2, none⟩ = some (.int .i64 f) := by simp
  have k3 : ((w.alloc (Obj.cells #[.int .i64 p, .int .i64 b, .int .i64 f] 23)).alloc (Obj.cells #[.int .i64 l, .int .i64 q] 25)).cell? ⟨w.heap.size + 1, 0, none⟩ = some (.int .i64 l) := by simp
  have k4 : ((w.alloc (Obj.cells #[.int .i64 p, .int .i64 b, .int .i64 f] 23)).alloc (Obj.cells #[.int .i64 l, .int .i64 q] 25)).cell? ⟨w.heap.size + 1, 1, none⟩ = some (.int .i64 q) := by simp
  have gX := Lib.hid (show w.grownBy ((w.alloc (Obj.cells #[.int .i64 p, .int .i64 b, .int .i64 f] 23)).alloc (Obj.cells #[.int .i64 l, .int .i64 q] 25)) none from grown_trans (World.grownBy_alloc _ _ _) (World.grownBy_alloc _ _ _))
  have hwr : IntKind.i64.wrap (sp - 1) = sp - 1 := IntWalk.i64_in _ (by omega)
  unfold mv cv
  go_enter Try.func23, Try.ntmps23
  go_wp2_with fail
  obtain ⟨X, hX⟩ : ∃ X, X = w.heap.size := ⟨_, rfl⟩
  rw [← hX] at k0 k1 k2 k3 k4 ⊢
  generalize ((w.alloc (Obj.cells #[.int .i64 p, .int .i64 b, .int .i64 f] 23)).alloc (Obj.cells #[.int .i64 l, .int .i64 q] 25)) = WX at *
  clear hX
  have kk : Hid (WX.cell? ⟨X, 0, none⟩ = some (.int .i64 p) ∧ WX.cell? ⟨X, 1, none⟩ = some (.int .i64 b) ∧ WX.cell? ⟨X, 2, none⟩ = some (.int .i64 f) ∧ WX.cell? ⟨X + 1, 0, none⟩ = some (.int .i64 l) ∧ WX.cell? ⟨X + 1, 1, none⟩ = some (.int .i64 q)) := ⟨k0, k1, k2, k3, k4⟩
  go_region_held3 (fun w' => w'.cell? ⟨X, 0, none⟩ = some (.int .i64 p) ∧ w'.cell? ⟨X, 1, none⟩ = some (.int .i64 b) ∧ w'.cell? ⟨X, 2, none⟩ = some (.int .i64 f) ∧ w'.cell? ⟨X + 1, 0, none⟩ = some (.int .i64 l) ∧ w'.cell? ⟨X + 1, 1, none⟩ = some (.int .i64 q))
    (first | go_keep | exact ⟨hga.cell (show _ = some (Value.int .i64 p) from k0) (by simp), hga.cell (show _ = some (Value.int .i64 b) from k1) (by simp), hga.cell (show _ = some (Value.int .i64 f) from k2) (by simp), hga.cell (show _ = some (Value.int .i64 l) from k3) (by simp), hga.cell (show _ = some (Value.int .i64 q) from k4) (by simp)⟩)
    (first
      | (go_at_call 24; refine (HR.out _).mono ?_; rintro e wa ⟨rfl, hga⟩)
      | (go_at_call 29; refine (H1.out _).mono ?_; rintro e w' ⟨rfl, rfl⟩)
      | (go_at_call 29; refine (H2.out _).mono ?_; rintro e w' ⟨rfl, rfl⟩))
  have GE := Lib.hid (grown_trans gX.out (grown_trans (grown_drewN WX 1 none) hga))
  clear hga
  go_wp2
  go_ret
  exact ⟨rfl, GE.out⟩
set_option maxHeartbeats 600000 in
theorem isCount_q (p b f l q r2 sp : Int) (w : World) (hs : 0 < sp ∧ sp ≤ 4294967296) (HR : Hid (∀ w, Calls Try.prog 24 #[mv p b f] w (Ret (.int .i64 sp) w)))
    (H1 : Hid (∀ w : World, Calls Try.prog 29 #[.int .i64 l, .int .i64 (sp - 1)] w fun e w' => e = .returned (.int .i64 l) ∧ w = w'))
    (H2 : Hid (∀ w : World, Calls Try.prog 29 #[.int .i64 q, .int .i64 1099511627776] w fun e w' => e = .returned (.int .i64 r2) ∧ w = w')) (h2 : (q == r2) = false) :
    Calls Try.prog 23 #[mv p b f, cv l q] w (Ret (.bool false) w) := by
  have k0 : ((w.alloc (Obj.cells #[.int .i64 p, .int .i64 b, .int .i64 f] 23)).alloc (Obj.cells #[.int .i64 l, .int .i64 q] 25)).cell? ⟨w.heap.size, 0, none⟩ = some (.int .i64 p) := by simp
  have k1 : ((w.alloc (Obj.cells #[.int .i64 p, .int .i64 b, .int .i64 f] 23)).alloc (Obj.cells #[.int .i64 l, .int .i64 q] 25)).cell? ⟨w.heap.size, 1, none⟩ = some (.int .i64 b) := by simp
  have k2 : ((w.alloc (Obj.cells #[.int .i64 p, .int .i64 b, .int .i64 f] 23)).alloc (Obj.cells #[.int .i64 l, .int .i64 q] 25)).cell? ⟨w.heap.size, 2, none⟩ = some (.int .i64 f) := by simp
  have k3 : ((w.alloc (Obj.cells #[.int .i64 p, .int .i64 b, .int .i64 f] 23)).alloc (Obj.cells #[.int .i64 l, .int .i64 q] 25)).cell? ⟨w.heap.size + 1, 0, none⟩ = some (.int .i64 l) := by simp
  have k4 : ((w.alloc (Obj.cells #[.int .i64 p, .int .i64 b, .int .i64 f] 23)).alloc (Obj.cells #[.int .i64 l, .int .i64 q] 25)).cell? ⟨w.heap.size + 1, 1, none⟩ = some (.int .i64 q) := by simp
  have gX := Lib.hid (show w.grownBy ((w.alloc (Obj.cells #[.int .i64 p, .int .i64 b, .int .i64 f] 23)).alloc (Obj.cells #[.int .i64 l, .int .i64 q] 25)) none from grown_trans (World.grownBy_alloc _ _ _) (World.grownBy_alloc _ _ _))
  have hwr : IntKind.i64.wrap (sp - 1) = sp - 1 := IntWalk.i64_in _ (by omega)
  unfold mv cv
  go_enter Try.func23, Try.ntmps23
  go_wp2_with fail
  obtain ⟨X, hX⟩ : ∃ X, X = w.heap.size := ⟨_, rfl⟩
  rw [← hX] at k0 k1 k2 k3 k4 ⊢
  generalize ((w.alloc (Obj.cells #[.int .i64 p, .int .i64 b, .int .i64 f] 23)).alloc (Obj.cells #[.int .i64 l, .int .i64 q] 25)) = WX at *
  clear hX
  have kk : Hid (WX.cell? ⟨X, 0, none⟩ = some (.int .i64 p) ∧ WX.cell? ⟨X, 1, none⟩ = some (.int .i64 b) ∧ WX.cell? ⟨X, 2, none⟩ = some (.int .i64 f) ∧ WX.cell? ⟨X + 1, 0, none⟩ = some (.int .i64 l) ∧ WX.cell? ⟨X + 1, 1, none⟩ = some (.int .i64 q)) := ⟨k0, k1, k2, k3, k4⟩
  go_region_held3 (fun w' => w'.cell? ⟨X, 0, none⟩ = some (.int .i64 p) ∧ w'.cell? ⟨X, 1, none⟩ = some (.int .i64 b) ∧ w'.cell? ⟨X, 2, none⟩ = some (.int .i64 f) ∧ w'.cell? ⟨X + 1, 0, none⟩ = some (.int .i64 l) ∧ w'.cell? ⟨X + 1, 1, none⟩ = some (.int .i64 q))
    (first | go_keep | exact ⟨hga.cell (show _ = some (Value.int .i64 p) from k0) (by simp), hga.cell (show _ = some (Value.int .i64 b) from k1) (by simp), hga.cell (show _ = some (Value.int .i64 f) from k2) (by simp), hga.cell (show _ = some (Value.int .i64 l) from k3) (by simp), hga.cell (show _ = some (Value.int .i64 q) from k4) (by simp)⟩)
    (first
      | (go_at_call 24; refine (HR.out _).mono ?_; rintro e wa ⟨rfl, hga⟩)
      | (go_at_call 29; refine (H1.out _).mono ?_; rintro e w' ⟨rfl, rfl⟩)
      | (go_at_call 29; refine (H2.out _).mono ?_; rintro e w' ⟨rfl, rfl⟩))
  have GE := Lib.hid (grown_trans gX.out (grown_trans (grown_drewN WX 1 none) hga))
  clear hga
  go_wp2
  go_ret
  exact ⟨rfl, GE.out⟩

theorem isCount_yes (p b f l q : Int) (w : World) (hb : b = 16 ∨ b = 32) (h : Mt.isC b l q = true) :
    Calls Try.prog 23 #[mv p b f, cv l q] w (Ret (.bool true) w) := by
  obtain ⟨h1, h2, h3, h4⟩ := Mt.isC_true h
  have hs : 0 < Mt.span b ∧ Mt.span b ≤ 4294967296 := by
    rcases Mt.span_cases hb with ⟨_, e⟩ | ⟨_, e⟩ <;> omega
  refine isCount_eq p b f l q (Mt.span b) w hs (Lib.hid (fun w => readings_any p b f w hb)) (Lib.hid (fun w => ?_)) (Lib.hid (fun w => ?_))
  · have := within_any l (Mt.span b - 1) w (by omega)
    rw [within_id h1 (by omega)] at this
    exact this
  · have := within_any q 1099511627776 w (by omega)
    rw [within_id h3 h4] at this
    exact this
theorem isCount_no (p b f l q : Int) (w : World) (hb : b = 16 ∨ b = 32) (h : Mt.isC b l q = false) :
    Calls Try.prog 23 #[mv p b f, cv l q] w (Ret (.bool false) w) := by
  have h := Mt.isC_false h
  have hs : 0 < Mt.span b ∧ Mt.span b ≤ 4294967296 := by
    rcases Mt.span_cases hb with ⟨_, e⟩ | ⟨_, e⟩ <;> omega
  by_cases h1 : 0 ≤ l ∧ l ≤ Mt.span b - 1
  · refine isCount_q p b f l q (within q 1099511627776) (Mt.span b) w hs (Lib.hid (fun w => readings_any p b f w hb)) (Lib.hid (fun w => ?_)) (Lib.hid (fun w => within_any q 1099511627776 w (by omega))) ?_
    · have := within_any l (Mt.span b - 1) w (by omega)
      rw [within_id h1.1 h1.2] at this
      exact this
    · rw [beq_eq_false_iff_ne]
      exact fun e => within_ne (n := q) (m := 1099511627776) (by omega) (by omega) e.symm
  · refine isCount_l p b f l q (within l (Mt.span b - 1)) (within q 1099511627776) (Mt.span b) w hs (Lib.hid (fun w => readings_any p b f w hb)) (Lib.hid (fun w => within_any _ _ w (by omega))) (Lib.hid (fun w => within_any q 1099511627776 w (by omega))) ?_
    rw [beq_eq_false_iff_ne]
    exact fun e => within_ne (n := l) (m := Mt.span b - 1) (by omega) (by omega) e.symm
end Go.Proofs.Ytilchmlbihffdaa
