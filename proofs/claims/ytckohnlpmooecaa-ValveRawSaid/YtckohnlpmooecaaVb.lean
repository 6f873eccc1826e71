/- Open, Closed and Command: the reference's and the code's. -/
import Derived.Test.YtckohnlpmooecaaVc
namespace Go.Proofs.Ytckohnlpmooecaa
open Go.ChangeShapes Go.WideShapes Go.ChangeAt Go.RowKit

theorem ropen_any (t o : Int) (a s : Bool) (w : World) (_h1 : IsI64 t) (_h2 : IsI64 o) :
    Calls Try.prog 16 #[vv t o a s] w (Ret (.bool (decide (Vm.Ok t o ∧ o = t))) w) := by
  by_cases h : Vm.Ok t o
  · have HV := Lib.hid (fun w => rvalid_yes t o a s w h)
    by_cases h3 : o = t
    · rw [show decide (Vm.Ok t o ∧ o = t) = true from decide_eq_true ⟨h, h3⟩]
      subst h3
      clear h
      unfold vv
      go_enter Try.func16, Try.ntmps16
      go_wp2_with fail
      refine (HV.out _).mono ?_
      rintro e w1 ⟨rfl, hg⟩
      have G := Lib.hid (grown_trans (World.grownBy_alloc _ _ _) hg)
      obtain ⟨k0, k1, _⟩ := (VC.one w _ _ _ _).grown hg
      clear hg
      go_wp2
      go_ret
      exact ⟨rfl, G.out⟩
    · rw [show decide (Vm.Ok t o ∧ o = t) = false from decide_eq_false (fun x => h3 x.2)]
      clear h
      unfold vv
      go_enter Try.func16, Try.ntmps16
      go_wp2_with fail
      refine (HV.out _).mono ?_
      rintro e w1 ⟨rfl, hg⟩
      have G := Lib.hid (grown_trans (World.grownBy_alloc _ _ _) hg)
      obtain ⟨k0, k1, _⟩ := (VC.one w _ _ _ _).grown hg
      clear hg
      go_wp2
      go_ret
      exact ⟨ret_bool (beq_eq_false_iff_ne.mpr h3), G.out⟩
  · have HV := Lib.hid (fun w => rvalid_no t o a s w h)
    rw [show decide (Vm.Ok t o ∧ o = t) = false from decide_eq_false (fun x => h x.1)]
    clear h
    unfold vv
    go_enter Try.func16, Try.ntmps16
    go_wp2_with fail
    refine (HV.out _).mono ?_
    rintro e w1 ⟨rfl, hg⟩
    have G := Lib.hid (grown_trans (World.grownBy_alloc _ _ _) hg)
    clear hg
    go_wp2
    go_ret
    exact ⟨rfl, G.out⟩

theorem rclosed_any (t o : Int) (a s : Bool) (w : World) (_h1 : IsI64 t) (_h2 : IsI64 o) :
    Calls Try.prog 18 #[vv t o a s] w (Ret (.bool (decide (Vm.Ok t o ∧ o = 0))) w) := by
  by_cases h : Vm.Ok t o
  · have HV := Lib.hid (fun w => rvalid_yes t o a s w h)
    by_cases h3 : o = 0
    · rw [show decide (Vm.Ok t o ∧ o = 0) = true from decide_eq_true ⟨h, h3⟩]
      subst h3
      clear h
      unfold vv
      go_enter Try.func18, Try.ntmps18
      go_wp2_with fail
      refine (HV.out _).mono ?_
      rintro e w1 ⟨rfl, hg⟩
      have G := Lib.hid (grown_trans (World.grownBy_alloc _ _ _) hg)
      obtain ⟨k0, k1, _⟩ := (VC.one w _ _ _ _).grown hg
      clear hg
      go_wp2
      go_ret
      exact ⟨rfl, G.out⟩
    · rw [show decide (Vm.Ok t o ∧ o = 0) = false from decide_eq_false (fun x => h3 x.2)]
      clear h
      unfold vv
      go_enter Try.func18, Try.ntmps18
      go_wp2_with fail
      refine (HV.out _).mono ?_
      rintro e w1 ⟨rfl, hg⟩
      have G := Lib.hid (grown_trans (World.grownBy_alloc _ _ _) hg)
      obtain ⟨k0, k1, _⟩ := (VC.one w _ _ _ _).grown hg
      clear hg
      go_wp2
      go_ret
      exact ⟨ret_bool (beq_eq_false_iff_ne.mpr h3), G.out⟩
  · have HV := Lib.hid (fun w => rvalid_no t o a s w h)
    rw [show decide (Vm.Ok t o ∧ o = 0) = false from decide_eq_false (fun x => h x.1)]
    clear h
    unfold vv
    go_enter Try.func18, Try.ntmps18
    go_wp2_with fail
    refine (HV.out _).mono ?_
    rintro e w1 ⟨rfl, hg⟩
    have G := Lib.hid (grown_trans (World.grownBy_alloc _ _ _) hg)
    clear hg
    go_wp2
    go_ret
    exact ⟨rfl, G.out⟩

theorem rcommand_yes (t o : Int) (a s b : Bool) (w : World) (h : Vm.Ok t o) :
    Calls Try.prog 8 #[vv t o a s, .bool b] w (Ret (ve t o b s 0) w) := by
  have HV := Lib.hid (fun w => rvalid_yes t o a s w h)
  clear h
  unfold vv
  go_enter Try.func8, Try.ntmps8
  go_wp2_with fail
  refine (HV.out _).mono ?_
  rintro e w1 ⟨rfl, hg⟩
  have V := Lib.hid ((VC.start w t o a s).grown hg)
  have R := Lib.hid ((VC.zero2 w _).grown hg)
  have G := Lib.hid (grown_trans (start_grown _ _ _) hg)
  clear hg
  obtain ⟨k0, k1, k2, k3, l0, l1, l2, l3⟩ := V.out
  obtain ⟨z0, z1, z2, z3, f0, f1, f2, f3⟩ := R.out
  go_wp2
  obtain ⟨q0, q1, q2, q3, _⟩ := (R.out.grownRow (grown_set w1 ⟨w.heap.size, 2, none⟩ (.bool b)) (by simp)).set4 t o b s
  unfold set4 at q0 q1 q2 q3
  refine bodyPost_ret (v := ve t o b s 0) (by simp [results, Try.results8, go_sem, q0, q1, q2, q3, ve, vv]) rfl ⟨rfl, grown_off (grown_off G.out (grown_set w1 ⟨w.heap.size, 2, none⟩ _) (Nat.le_refl _)) (set4_grown _ (w.heap.size + 1) _ _ _ _) (by omega)⟩

theorem rcommand_no (t o : Int) (a s b : Bool) (w : World) (h : ¬ Vm.Ok t o) :
    Calls Try.prog 8 #[vv t o a s, .bool b] w (Ret (ve t o a s 20) w) := by
  have HV := Lib.hid (fun w => rvalid_no t o a s w h)
  clear h
  unfold vv
  go_enter Try.func8, Try.ntmps8
  go_wp2_with fail
  refine (HV.out _).mono ?_
  rintro e w1 ⟨rfl, hg⟩
  have V := Lib.hid ((VC.start w t o a s).grown hg)
  have R := Lib.hid ((VC.zero2 w _).grown hg)
  have G := Lib.hid (grown_trans (start_grown _ _ _) hg)
  clear hg
  obtain ⟨k0, k1, k2, k3, l0, l1, l2, l3⟩ := V.out
  obtain ⟨z0, z1, z2, z3, f0, f1, f2, f3⟩ := R.out
  go_wp2
  obtain ⟨q0, q1, q2, q3, _⟩ := R.out.set4 t o a s
  unfold set4 at q0 q1 q2 q3
  refine bodyPost_ret (v := ve t o a s 20) (by simp [results, Try.results8, go_sem, q0, q1, q2, q3, ve, vv]) rfl ⟨rfl, grown_off G.out (set4_grown _ (w.heap.size + 1) _ _ _ _) (by omega)⟩

theorem copen_any (t o : Int) (a s : Bool) (w : World) (_h1 : IsI64 t) (_h2 : IsI64 o) :
    Calls Try.prog 15 #[vv t o a s] w (Ret (.bool (decide (Vm.Ok t o ∧ o = t))) w) := by
  by_cases h : Vm.Ok t o
  · have HV := Lib.hid (fun w => cvalid_yes t o a s w h)
    by_cases h3 : o = t
    · rw [show decide (Vm.Ok t o ∧ o = t) = true from decide_eq_true ⟨h, h3⟩]
      subst h3
      clear h
      unfold vv
      go_enter Try.func15, Try.ntmps15
      go_wp2_with fail
      refine (HV.out _).mono ?_
      rintro e w1 ⟨rfl, hg⟩
      have G := Lib.hid (grown_trans (World.grownBy_alloc _ _ _) hg)
      obtain ⟨k0, k1, _⟩ := (VC.one w _ _ _ _).grown hg
      clear hg
      go_wp2
      go_ret
      exact ⟨rfl, G.out⟩
    · rw [show decide (Vm.Ok t o ∧ o = t) = false from decide_eq_false (fun x => h3 x.2)]
      clear h
      unfold vv
      go_enter Try.func15, Try.ntmps15
      go_wp2_with fail
      refine (HV.out _).mono ?_
      rintro e w1 ⟨rfl, hg⟩
      have G := Lib.hid (grown_trans (World.grownBy_alloc _ _ _) hg)
      obtain ⟨k0, k1, _⟩ := (VC.one w _ _ _ _).grown hg
      clear hg
      go_wp2
      go_ret
      exact ⟨ret_bool (beq_eq_false_iff_ne.mpr h3), G.out⟩
  · have HV := Lib.hid (fun w => cvalid_no t o a s w h)
    rw [show decide (Vm.Ok t o ∧ o = t) = false from decide_eq_false (fun x => h x.1)]
    clear h
    unfold vv
    go_enter Try.func15, Try.ntmps15
    go_wp2_with fail
    refine (HV.out _).mono ?_
    rintro e w1 ⟨rfl, hg⟩
    have G := Lib.hid (grown_trans (World.grownBy_alloc _ _ _) hg)
    clear hg
    go_wp2
    go_ret
    exact ⟨rfl, G.out⟩

theorem cclosed_any (t o : Int) (a s : Bool) (w : World) (_h1 : IsI64 t) (_h2 : IsI64 o) :
    Calls Try.prog 17 #[vv t o a s] w (Ret (.bool (decide (Vm.Ok t o ∧ o = 0))) w) := by
  by_cases h : Vm.Ok t o
  · have HV := Lib.hid (fun w => cvalid_yes t o a s w h)
    by_cases h3 : o = 0
    · rw [show decide (Vm.Ok t o ∧ o = 0) = true from decide_eq_true ⟨h, h3⟩]
      subst h3
      clear h
      unfold vv
      go_enter Try.func17, Try.ntmps17
      go_wp2_with fail
      refine (HV.out _).mono ?_
      rintro e w1 ⟨rfl, hg⟩
      have G := Lib.hid (grown_trans (World.grownBy_alloc _ _ _) hg)
      obtain ⟨k0, k1, _⟩ := (VC.one w _ _ _ _).grown hg
      clear hg
      go_wp2
      go_ret
      exact ⟨rfl, G.out⟩
    · rw [show decide (Vm.Ok t o ∧ o = 0) = false from decide_eq_false (fun x => h3 x.2)]
      clear h
      unfold vv
      go_enter Try.func17, Try.ntmps17
      go_wp2_with fail
      refine (HV.out _).mono ?_
      rintro e w1 ⟨rfl, hg⟩
      have G := Lib.hid (grown_trans (World.grownBy_alloc _ _ _) hg)
      obtain ⟨k0, k1, _⟩ := (VC.one w _ _ _ _).grown hg
      clear hg
      go_wp2
      go_ret
      exact ⟨ret_bool (beq_eq_false_iff_ne.mpr h3), G.out⟩
  · have HV := Lib.hid (fun w => cvalid_no t o a s w h)
    rw [show decide (Vm.Ok t o ∧ o = 0) = false from decide_eq_false (fun x => h x.1)]
    clear h
    unfold vv
    go_enter Try.func17, Try.ntmps17
    go_wp2_with fail
    refine (HV.out _).mono ?_
    rintro e w1 ⟨rfl, hg⟩
    have G := Lib.hid (grown_trans (World.grownBy_alloc _ _ _) hg)
    clear hg
    go_wp2
    go_ret
    exact ⟨rfl, G.out⟩

theorem ccommand_yes (t o : Int) (a s b : Bool) (w : World) (h : Vm.Ok t o) :
    Calls Try.prog 7 #[vv t o a s, .bool b] w (Ret (ve t o b s 0) w) := by
  have HV := Lib.hid (fun w => cvalid_yes t o a s w h)
  clear h
  unfold vv
  go_enter Try.func7, Try.ntmps7
  go_wp2_with fail
  refine (HV.out _).mono ?_
  rintro e w1 ⟨rfl, hg⟩
  have V := Lib.hid ((VC.start w t o a s).grown hg)
  have R := Lib.hid ((VC.zero2 w _).grown hg)
  have G := Lib.hid (grown_trans (start_grown _ _ _) hg)
  clear hg
  obtain ⟨k0, k1, k2, k3, l0, l1, l2, l3⟩ := V.out
  obtain ⟨z0, z1, z2, z3, f0, f1, f2, f3⟩ := R.out
  go_wp2
  obtain ⟨q0, q1, q2, q3, _⟩ := (R.out.grownRow (grown_set w1 ⟨w.heap.size, 2, none⟩ (.bool b)) (by simp)).set4 t o b s
  unfold set4 at q0 q1 q2 q3
  refine bodyPost_ret (v := ve t o b s 0) (by simp [results, Try.results7, go_sem, q0, q1, q2, q3, ve, vv]) rfl ⟨rfl, grown_off (grown_off G.out (grown_set w1 ⟨w.heap.size, 2, none⟩ _) (Nat.le_refl _)) (set4_grown _ (w.heap.size + 1) _ _ _ _) (by omega)⟩

theorem ccommand_no (t o : Int) (a s b : Bool) (w : World) (h : ¬ Vm.Ok t o) :
    Calls Try.prog 7 #[vv t o a s, .bool b] w (Ret (ve t o a s 20) w) := by
  have HV := Lib.hid (fun w => cvalid_no t o a s w h)
  clear h
  unfold vv
  go_enter Try.func7, Try.ntmps7
  go_wp2_with fail
  refine (HV.out _).mono ?_
  rintro e w1 ⟨rfl, hg⟩
  have V := Lib.hid ((VC.start w t o a s).grown hg)
  have R := Lib.hid ((VC.zero2 w _).grown hg)
  have G := Lib.hid (grown_trans (start_grown _ _ _) hg)
  clear hg
  obtain ⟨k0, k1, k2, k3, l0, l1, l2, l3⟩ := V.out
  obtain ⟨z0, z1, z2, z3, f0, f1, f2, f3⟩ := R.out
  go_wp2
  obtain ⟨q0, q1, q2, q3, _⟩ := R.out.set4 t o a s
  unfold set4 at q0 q1 q2 q3
  refine bodyPost_ret (v := ve t o a s 20) (by simp [results, Try.results7, go_sem, q0, q1, q2, q3, ve, vv]) rfl ⟨rfl, grown_off G.out (set4_grown _ (w.heap.size + 1) _ _ _ _) (by omega)⟩
end Go.Proofs.Ytckohnlpmooecaa
