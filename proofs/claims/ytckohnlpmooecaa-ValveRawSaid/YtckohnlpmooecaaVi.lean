/- Package valve's own Step, Pass and Left. -/
import Derived.Test.YtckohnlpmooecaaVe
import Derived.Deep.DeepCutAuto
namespace Go.Proofs.Ytckohnlpmooecaa
open Go.ChangeShapes Go.WideShapes Go.ChangeAt Go.RowKit

set_option maxHeartbeats 1000000 in
theorem cmoved_yes (t o : Int) (a s : Bool) (w : World) (h : Vm.Ok t o) :
    Calls Try.prog 25 #[vv t o a s] w (Ret (vv t (Vm.up t o a s) a s) w) := by
  obtain ⟨h1, h2, h3, h4⟩ := h
  cases s with
  | true =>
    rw [show Vm.up t o a true = o from rfl]
    unfold vv
    go_enter Try.func25, Try.ntmps25
    have V := Lib.hid (VC.start w t o a true)
    have R := Lib.hid (VC.zero2 w (Obj.cells #[.int .i64 t, .int .i64 o, .bool a, .bool true] 23))
    have G := Lib.hid (start_grown w (Obj.cells #[.int .i64 t, .int .i64 o, .bool a, .bool true] 23) (Obj.cells #[.int .i64 0, .int .i64 0, .bool false, .bool false] 23))
    go_upto_region 1 with fail
    generalize (w.alloc (Obj.cells #[.int .i64 t, .int .i64 o, .bool a, .bool true] 23)).alloc (Obj.cells #[.int .i64 0, .int .i64 0, .bool false, .bool false] 23) = w1 at *
    obtain ⟨k0, k1, k2, k3, l0, l1, l2, l3⟩ := V.out
    obtain ⟨z0, z1, z2, z3, f0, f1, f2, f3⟩ := R.out
    go_wp2
    obtain ⟨q0, q1, q2, q3, _⟩ := R.out.set4 t (o) a true
    unfold set4 at q0 q1 q2 q3
    refine bodyPost_ret (v := vv t (o) a true) (by simp [results, Try.results25, go_sem, q0, q1, q2, q3, vv]) rfl ⟨rfl, grown_off G.out (set4_grown _ (w.heap.size + 1) _ _ _ _) (by omega)⟩
  | false =>
    cases a with
    | true =>
      by_cases h5 : o < t
      · rw [show Vm.up t o true false = o + 1 by unfold Vm.up; simp [h5]]
        unfold vv
        go_enter Try.func25, Try.ntmps25
        have V := Lib.hid (VC.start w t o true false)
        have R := Lib.hid (VC.zero2 w (Obj.cells #[.int .i64 t, .int .i64 o, .bool true, .bool false] 23))
        have G := Lib.hid (start_grown w (Obj.cells #[.int .i64 t, .int .i64 o, .bool true, .bool false] 23) (Obj.cells #[.int .i64 0, .int .i64 0, .bool false, .bool false] 23))
        go_upto_region 1 with fail
        generalize (w.alloc (Obj.cells #[.int .i64 t, .int .i64 o, .bool true, .bool false] 23)).alloc (Obj.cells #[.int .i64 0, .int .i64 0, .bool false, .bool false] 23) = w1 at *
        obtain ⟨k0, k1, k2, k3, l0, l1, l2, l3⟩ := V.out
        obtain ⟨z0, z1, z2, z3, f0, f1, f2, f3⟩ := R.out
        go_wp2
        obtain ⟨q0, q1, q2, q3, _⟩ := (R.out.grownRow (grown_set w1 ⟨w.heap.size, 1, none⟩ (.int .i64 (o + 1))) (by simp)).set4 t (o + 1) true false
        unfold set4 at q0 q1 q2 q3
        refine bodyPost_ret (v := vv t (o + 1) true false) (by simp [results, Try.results25, go_sem, q0, q1, q2, q3, vv]) rfl ⟨rfl, grown_off (grown_off G.out (grown_set w1 ⟨w.heap.size, 1, none⟩ _) (Nat.le_refl _)) (set4_grown _ (w.heap.size + 1) _ _ _ _) (by omega)⟩
      · rw [show Vm.up t o true false = o by unfold Vm.up; simp [h5]]
        unfold vv
        go_enter Try.func25, Try.ntmps25
        have V := Lib.hid (VC.start w t o true false)
        have R := Lib.hid (VC.zero2 w (Obj.cells #[.int .i64 t, .int .i64 o, .bool true, .bool false] 23))
        have G := Lib.hid (start_grown w (Obj.cells #[.int .i64 t, .int .i64 o, .bool true, .bool false] 23) (Obj.cells #[.int .i64 0, .int .i64 0, .bool false, .bool false] 23))
        go_upto_region 1 with fail
        generalize (w.alloc (Obj.cells #[.int .i64 t, .int .i64 o, .bool true, .bool false] 23)).alloc (Obj.cells #[.int .i64 0, .int .i64 0, .bool false, .bool false] 23) = w1 at *
        obtain ⟨k0, k1, k2, k3, l0, l1, l2, l3⟩ := V.out
        obtain ⟨z0, z1, z2, z3, f0, f1, f2, f3⟩ := R.out
        go_wp2
        obtain ⟨q0, q1, q2, q3, _⟩ := R.out.set4 t (o) true false
        unfold set4 at q0 q1 q2 q3
        refine bodyPost_ret (v := vv t (o) true false) (by simp [results, Try.results25, go_sem, q0, q1, q2, q3, vv]) rfl ⟨rfl, grown_off G.out (set4_grown _ (w.heap.size + 1) _ _ _ _) (by omega)⟩
    | false =>
      by_cases h5 : 0 < o
      · rw [show Vm.up t o false false = o - 1 by unfold Vm.up; simp [h5]]
        unfold vv
        go_enter Try.func25, Try.ntmps25
        have V := Lib.hid (VC.start w t o false false)
        have R := Lib.hid (VC.zero2 w (Obj.cells #[.int .i64 t, .int .i64 o, .bool false, .bool false] 23))
        have G := Lib.hid (start_grown w (Obj.cells #[.int .i64 t, .int .i64 o, .bool false, .bool false] 23) (Obj.cells #[.int .i64 0, .int .i64 0, .bool false, .bool false] 23))
        go_upto_region 1 with fail
        generalize (w.alloc (Obj.cells #[.int .i64 t, .int .i64 o, .bool false, .bool false] 23)).alloc (Obj.cells #[.int .i64 0, .int .i64 0, .bool false, .bool false] 23) = w1 at *
        obtain ⟨k0, k1, k2, k3, l0, l1, l2, l3⟩ := V.out
        obtain ⟨z0, z1, z2, z3, f0, f1, f2, f3⟩ := R.out
        go_wp2
        obtain ⟨q0, q1, q2, q3, _⟩ := (R.out.grownRow (grown_set w1 ⟨w.heap.size, 1, none⟩ (.int .i64 (o - 1))) (by simp)).set4 t (o - 1) false false
        unfold set4 at q0 q1 q2 q3
        refine bodyPost_ret (v := vv t (o - 1) false false) (by simp [results, Try.results25, go_sem, q0, q1, q2, q3, vv]) rfl ⟨rfl, grown_off (grown_off G.out (grown_set w1 ⟨w.heap.size, 1, none⟩ _) (Nat.le_refl _)) (set4_grown _ (w.heap.size + 1) _ _ _ _) (by omega)⟩
      · rw [show Vm.up t o false false = o by unfold Vm.up; simp [h5]]
        unfold vv
        go_enter Try.func25, Try.ntmps25
        have V := Lib.hid (VC.start w t o false false)
        have R := Lib.hid (VC.zero2 w (Obj.cells #[.int .i64 t, .int .i64 o, .bool false, .bool false] 23))
        have G := Lib.hid (start_grown w (Obj.cells #[.int .i64 t, .int .i64 o, .bool false, .bool false] 23) (Obj.cells #[.int .i64 0, .int .i64 0, .bool false, .bool false] 23))
        go_upto_region 1 with fail
        generalize (w.alloc (Obj.cells #[.int .i64 t, .int .i64 o, .bool false, .bool false] 23)).alloc (Obj.cells #[.int .i64 0, .int .i64 0, .bool false, .bool false] 23) = w1 at *
        obtain ⟨k0, k1, k2, k3, l0, l1, l2, l3⟩ := V.out
        obtain ⟨z0, z1, z2, z3, f0, f1, f2, f3⟩ := R.out
        go_wp2
        obtain ⟨q0, q1, q2, q3, _⟩ := R.out.set4 t (o) false false
        unfold set4 at q0 q1 q2 q3
        refine bodyPost_ret (v := vv t (o) false false) (by simp [results, Try.results25, go_sem, q0, q1, q2, q3, vv]) rfl ⟨rfl, grown_off G.out (set4_grown _ (w.heap.size + 1) _ _ _ _) (by omega)⟩

theorem cstep_yes (t o : Int) (a s : Bool) (w : World) (h : Vm.Ok t o) :
    Calls Try.prog 9 #[vv t o a s] w (Ret (ve t (Vm.up t o a s) a s 0) w) := by
  have HV := Lib.hid (fun w => cvalid_yes t o a s w h)
  have HM := Lib.hid (fun w => cmoved_yes t o a s w h)
  clear h
  generalize Vm.up t o a s = y at *
  unfold vv
  go_enter Try.func9, Try.ntmps9
  go_wp2_with fail
  refine (HV.out _).mono ?_
  rintro e w1 ⟨rfl, hg⟩
  have V := Lib.hid ((VC.start w t o a s).grown hg)
  have R := Lib.hid ((VC.zero2 w _).grown hg)
  have G := Lib.hid (grown_trans (start_grown _ _ _) hg)
  clear hg
  obtain ⟨k0, k1, k2, k3, l0, l1, l2, l3⟩ := V.out
  go_wp2_with fail
  refine (HM.out _).mono ?_
  rintro e w2 ⟨rfl, hg⟩
  replace R := Lib.hid (R.out.grown hg)
  replace G := Lib.hid (grown_trans G.out hg)
  clear hg k0 k1 k2 k3 l0 l1 l2 l3
  obtain ⟨z0, z1, z2, z3, f0, f1, f2, f3⟩ := R.out
  unfold vv
  go_wp2
  obtain ⟨q0, q1, q2, q3, _⟩ := R.out.set4 t y a s
  unfold set4 at q0 q1 q2 q3
  refine bodyPost_ret (v := ve t y a s 0) (by simp [results, Try.results9, go_sem, q0, q1, q2, q3, ve, vv]) rfl ⟨rfl, grown_off G.out (set4_grown _ (w.heap.size + 1) _ _ _ _) (by omega)⟩

theorem cstep_no (t o : Int) (a s : Bool) (w : World) (h : ¬ Vm.Ok t o) :
    Calls Try.prog 9 #[vv t o a s] w (Ret (ve t o a s 20) w) := by
  have HV := Lib.hid (fun w => cvalid_no t o a s w h)
  clear h
  unfold vv
  go_enter Try.func9, Try.ntmps9
  go_wp2_with fail
  refine (HV.out _).mono ?_
  rintro e w1 ⟨rfl, hg⟩
  have V := Lib.hid ((VC.start w _ _ _ _).grown hg)
  have R := Lib.hid ((VC.zero2 w _).grown hg)
  have G := Lib.hid (grown_trans (start_grown _ _ _) hg)
  clear hg
  obtain ⟨k0, k1, k2, k3, l0, l1, l2, l3⟩ := V.out
  obtain ⟨z0, z1, z2, z3, f0, f1, f2, f3⟩ := R.out
  go_wp2
  obtain ⟨q0, q1, q2, q3, _⟩ := R.out.set4 t (o) a s
  unfold set4 at q0 q1 q2 q3
  refine bodyPost_ret (v := ve t (o) a s 20) (by simp [results, Try.results9, go_sem, q0, q1, q2, q3, ve, vv]) rfl ⟨rfl, grown_off G.out (set4_grown _ (w.heap.size + 1) _ _ _ _) (by omega)⟩

theorem cleft_yes (t o : Int) (a s : Bool) (w : World) (h : Vm.Ok t o) :
    Calls Try.prog 19 #[vv t o a s] w (Ret (.int .i64 (Vm.left t o a s)) w) := by
  have HV := Lib.hid (fun w => cvalid_yes t o a s w h)
  have hL : Vm.left t o a s = if s = true ∧ 0 < Vm.need t o a then -1 else Vm.need t o a := if_pos h
  rw [hL]
  clear hL
  obtain ⟨h1, h2, h3, h4⟩ := h
  cases a with
  | true =>
    rw [show Vm.need t o true = t - o from rfl]
    cases s with
    | true =>
      by_cases h5 : 0 < t - o
      · rw [if_pos ⟨rfl, h5⟩]
        unfold vv
        go_enter Try.func19, Try.ntmps19
        go_wp2_with fail
        refine (HV.out _).mono ?_
        rintro e w1 ⟨rfl, hg⟩
        have G := Lib.hid (grown_trans (World.grownBy_alloc _ _ _) hg)
        obtain ⟨k0, k1, k2, k3, _⟩ := (VC.one w _ _ _ _).grown hg
        clear hg
        go_wp2
        go_ret
        exact ⟨rfl, G.out⟩
      · rw [if_neg (fun x => h5 x.2)]
        unfold vv
        go_enter Try.func19, Try.ntmps19
        go_wp2_with fail
        refine (HV.out _).mono ?_
        rintro e w1 ⟨rfl, hg⟩
        have G := Lib.hid (grown_trans (World.grownBy_alloc _ _ _) hg)
        obtain ⟨k0, k1, k2, k3, _⟩ := (VC.one w _ _ _ _).grown hg
        clear hg
        go_wp2
        go_ret
        exact ⟨rfl, G.out⟩
    | false =>
      rw [if_neg (fun x => by simp at x)]
      unfold vv
      go_enter Try.func19, Try.ntmps19
      go_wp2_with fail
      refine (HV.out _).mono ?_
      rintro e w1 ⟨rfl, hg⟩
      have G := Lib.hid (grown_trans (World.grownBy_alloc _ _ _) hg)
      obtain ⟨k0, k1, k2, k3, _⟩ := (VC.one w _ _ _ _).grown hg
      clear hg
      go_wp2
      go_ret
      exact ⟨rfl, G.out⟩
  | false =>
    rw [show Vm.need t o false = o from rfl]
    cases s with
    | true =>
      by_cases h5 : 0 < o
      · rw [if_pos ⟨rfl, h5⟩]
        unfold vv
        go_enter Try.func19, Try.ntmps19
        go_wp2_with fail
        refine (HV.out _).mono ?_
        rintro e w1 ⟨rfl, hg⟩
        have G := Lib.hid (grown_trans (World.grownBy_alloc _ _ _) hg)
        obtain ⟨k0, k1, k2, k3, _⟩ := (VC.one w _ _ _ _).grown hg
        clear hg
        go_wp2
        go_ret
        exact ⟨rfl, G.out⟩
      · rw [if_neg (fun x => h5 x.2)]
        unfold vv
        go_enter Try.func19, Try.ntmps19
        go_wp2_with fail
        refine (HV.out _).mono ?_
        rintro e w1 ⟨rfl, hg⟩
        have G := Lib.hid (grown_trans (World.grownBy_alloc _ _ _) hg)
        obtain ⟨k0, k1, k2, k3, _⟩ := (VC.one w _ _ _ _).grown hg
        clear hg
        go_wp2
        go_ret
        exact ⟨rfl, G.out⟩
    | false =>
      rw [if_neg (fun x => by simp at x)]
      unfold vv
      go_enter Try.func19, Try.ntmps19
      go_wp2_with fail
      refine (HV.out _).mono ?_
      rintro e w1 ⟨rfl, hg⟩
      have G := Lib.hid (grown_trans (World.grownBy_alloc _ _ _) hg)
      obtain ⟨k0, k1, k2, k3, _⟩ := (VC.one w _ _ _ _).grown hg
      clear hg
      go_wp2
      go_ret
      exact ⟨rfl, G.out⟩

theorem cleft_no (t o : Int) (a s : Bool) (w : World) (h : ¬ Vm.Ok t o) :
    Calls Try.prog 19 #[vv t o a s] w (Ret (.int .i64 (-1)) w) := by
  have HV := Lib.hid (fun w => cvalid_no t o a s w h)
  clear h
  unfold vv
  go_enter Try.func19, Try.ntmps19
  go_wp2_with fail
  refine (HV.out _).mono ?_
  rintro e w1 ⟨rfl, hg⟩
  have G := Lib.hid (grown_trans (World.grownBy_alloc _ _ _) hg)
  obtain ⟨k0, k1, k2, k3, _⟩ := (VC.one w _ _ _ _).grown hg
  clear hg
  go_wp2
  go_ret
  exact ⟨rfl, G.out⟩

theorem cpass_no (t o n : Int) (a s : Bool) (w : World) (h : ¬ Vm.Ok t o) :
    Calls Try.prog 11 #[vv t o a s, .int .i64 n] w (Ret (ve t o a s 20) w) := by
  have HV := Lib.hid (fun w => cvalid_no t o a s w h)
  clear h
  unfold vv
  go_enter Try.func11, Try.ntmps11
  go_wp2_with fail
  refine (HV.out _).mono ?_
  rintro e w1 ⟨rfl, hg⟩
  have V := Lib.hid ((VC.start w _ _ _ _).grown hg)
  have R := Lib.hid ((VC.zero2 w _).grown hg)
  have G := Lib.hid (grown_trans (start_grown _ _ _) hg)
  have SZ := Lib.hid (show w.heap.size + 1 < w1.heap.size by have := hg.size; simp at this; omega)
  clear hg
  obtain ⟨k0, k1, k2, k3, l0, l1, l2, l3⟩ := V.out
  obtain ⟨z0, z1, z2, z3, f0, f1, f2, f3⟩ := R.out
  go_wp2
  obtain ⟨q0, q1, q2, q3, _⟩ := R.out.set4 t (o) a s
  unfold set4 at q0 q1 q2 q3
  refine bodyPost_ret (v := ve t (o) a s 20) (by simp [results, Try.results11, go_sem, q0, q1, q2, q3, ve, vv]) rfl ⟨rfl, grown_off G.out (set4_grown _ (w.heap.size + 1) _ _ _ _) (by omega)⟩

theorem cpass_range (t o n : Int) (a s : Bool) (w : World) (h : Vm.Ok t o) (hn : ¬ (0 ≤ n ∧ n ≤ 400)) :
    Calls Try.prog 11 #[vv t o a s, .int .i64 n] w (Ret (ve t o a s 1) w) := by
  have HV := Lib.hid (fun w => cvalid_yes t o a s w h)
  clear h
  by_cases h1 : n < 0
  · unfold vv
    go_enter Try.func11, Try.ntmps11
    go_wp2_with fail
    refine (HV.out _).mono ?_
    rintro e w1 ⟨rfl, hg⟩
    have V := Lib.hid ((VC.start w _ _ _ _).grown hg)
    have R := Lib.hid ((VC.zero2 w _).grown hg)
    have G := Lib.hid (grown_trans (start_grown _ _ _) hg)
    have SZ := Lib.hid (show w.heap.size + 1 < w1.heap.size by have := hg.size; simp at this; omega)
    clear hg
    obtain ⟨k0, k1, k2, k3, l0, l1, l2, l3⟩ := V.out
    obtain ⟨z0, z1, z2, z3, f0, f1, f2, f3⟩ := R.out
    go_wp2
    obtain ⟨q0, q1, q2, q3, _⟩ := R.out.set4 t (o) a s
    unfold set4 at q0 q1 q2 q3
    refine bodyPost_ret (v := ve t (o) a s 1) (by simp [results, Try.results11, go_sem, q0, q1, q2, q3, ve, vv]) rfl ⟨rfl, grown_off G.out (set4_grown _ (w.heap.size + 1) _ _ _ _) (by omega)⟩
  · have h2 : 400 < n := by omega
    unfold vv
    go_enter Try.func11, Try.ntmps11
    go_wp2_with fail
    refine (HV.out _).mono ?_
    rintro e w1 ⟨rfl, hg⟩
    have V := Lib.hid ((VC.start w _ _ _ _).grown hg)
    have R := Lib.hid ((VC.zero2 w _).grown hg)
    have G := Lib.hid (grown_trans (start_grown _ _ _) hg)
    have SZ := Lib.hid (show w.heap.size + 1 < w1.heap.size by have := hg.size; simp at this; omega)
    clear hg
    obtain ⟨k0, k1, k2, k3, l0, l1, l2, l3⟩ := V.out
    obtain ⟨z0, z1, z2, z3, f0, f1, f2, f3⟩ := R.out
    go_wp2
    obtain ⟨q0, q1, q2, q3, _⟩ := R.out.set4 t (o) a s
    unfold set4 at q0 q1 q2 q3
    refine bodyPost_ret (v := ve t (o) a s 1) (by simp [results, Try.results11, go_sem, q0, q1, q2, q3, ve, vv]) rfl ⟨rfl, grown_off G.out (set4_grown _ (w.heap.size + 1) _ _ _ _) (by omega)⟩

/-- The world in which a tick's valve has been laid behind others. -/
theorem VC.zeroW (w : World) : VC (w.alloc (Obj.cells #[.int .i64 0, .int .i64 0, .bool false, .bool false] 23)) w.heap.size 0 0 false false := VC.zero w

set_option maxHeartbeats 2000000 in
theorem cpass_yes (t o n : Int) (a s : Bool) (w : World) (h : Vm.Ok t o) (hn : 0 ≤ n ∧ n ≤ 400) :
    Calls Try.prog 11 #[vv t o a s, .int .i64 n] w (Ret (ve t (Vm.pos t o a s n) a s 0) w) := by
  have HV := Lib.hid (fun w => cvalid_yes t o a s w h)
  have OK := Lib.hid h
  clear h
  obtain ⟨n, rfl⟩ := Int.eq_ofNat_of_zero_le hn.1
  have hn2 : n ≤ 400 := by omega
  clear hn
  unfold vv
  go_enter Try.func11, Try.ntmps11
  go_wp2_with fail
  refine (HV.out _).mono ?_
  rintro e w1 ⟨rfl, hg⟩
  have V := Lib.hid ((VC.start w _ _ _ _).grown hg)
  have R := Lib.hid ((VC.zero2 w _).grown hg)
  have G := Lib.hid (grown_trans (start_grown _ _ _) hg)
  clear hg
  obtain ⟨X, hX⟩ : ∃ X, X = w.heap.size := ⟨_, rfl⟩
  rw [← hX] at V R ⊢
  have HX := Lib.hid hX
  clear hX
  go_wp2
  go_loopw [21] (fun i wr => ∃ j : Nat, i = .int .i64 j ∧ j ≤ n ∧ Hid (VC wr X t (Vm.pos t o a s j) a s) ∧ Hid (VC wr (X + 1) 0 0 false false) ∧ Hid (w.grownBy wr none)) (fun i _ => n - (intOf i).toNat)
  case atStart => exact ⟨0, rfl, by omega, by rw [Int.natCast_zero, Vm.pos_zero OK.out]; exact V, R, G⟩
  case round =>
    obtain ⟨j, rfl, hj, VR, RR, GR⟩ := hrel
    by_cases hlt : j < n
    · have hlt2 : (j : Int) < (n : Int) := by omega
      have P := Lib.hid (Vm.pos_ok (n := j) OK.out (by omega) (a := a) (s := s))
      have Q := Lib.hid (Vm.pos_next (n := j) OK.out (by omega) (a := a) (s := s))
      have ST := Lib.hid (fun w => cmoved_yes t _ a s w P.out)
      rw [Q.out] at ST
      obtain ⟨y, hy⟩ : ∃ y, y = Vm.pos t o a s j := ⟨_, rfl⟩
      rw [← hy] at VR ST Q
      obtain ⟨z, hz⟩ : ∃ z, z = Vm.pos t o a s ((j : Int) + 1) := ⟨_, rfl⟩
      rw [← hz] at ST Q
      have HY := Lib.hid hy
      have HZ := Lib.hid hz
      clear hz hy P
      obtain ⟨k0, k1, k2, k3, l0, l1, l2, l3⟩ := VR.out
      go_wp2_with fail
      refine (ST.out _).mono ?_
      rintro e w3 ⟨rfl, hg⟩
      have V3 := Lib.hid (VR.out.grown hg)
      have R3 := Lib.hid (RR.out.grown hg)
      have G3 := Lib.hid (grown_trans GR.out hg)
      clear hg k0 k1 k2 k3 l0 l1 l2 l3
      unfold vv
      go_upto_region 8 with fail
      have N4 := Lib.hid (VC.one w3 t z a s)
      have V4 := Lib.hid (V3.out.grown (World.grownBy_alloc w3 (Obj.cells #[.int .i64 t, .int .i64 z, .bool a, .bool s] 23) none))
      have R4 := Lib.hid (R3.out.grown (World.grownBy_alloc w3 (Obj.cells #[.int .i64 t, .int .i64 z, .bool a, .bool s] 23) none))
      have G4 := Lib.hid (grown_trans G3.out (World.grownBy_alloc w3 (Obj.cells #[.int .i64 t, .int .i64 z, .bool a, .bool s] 23) none))
      have hXY := V3.out.lt
      clear V3 R3 G3 VR RR GR
      generalize w3.alloc (Obj.cells #[.int .i64 t, .int .i64 z, .bool a, .bool s] 23) = w4 at *
      generalize w3.heap.size = Y at *
      obtain ⟨k0, k1, k2, k3, l0, l1, l2, l3⟩ := V4.out
      obtain ⟨m0, m1, m2, m3, _⟩ := N4.out
      by_cases hzy : z = y
      · rw [hzy] at m1
        obtain ⟨z0, z1, z2, z3, f0, f1, f2, f3⟩ := R4.out
        go_wp2
        obtain ⟨q0, q1, q2, q3, _⟩ := R4.out.set4 t y a s
        unfold set4 at q0 q1 q2 q3
        have E : Vm.pos t o a s n = y := by rw [Vm.pos_same OK.out (n := j) (m := n) (by omega) (by omega) (by rw [← HY.out, Q.out, hzy]), ← HY.out]
        refine bodyPost_ret (v := ve t y a s 0) (by simp [results, Try.results11, go_sem, q0, q1, q2, q3, ve, vv]) rfl ⟨by rw [E], grown_off G4.out (set4_grown _ (X + 1) _ _ _ _) (by have := HX.out; omega)⟩
      · go_wp2
        have V5 := Lib.hid (V4.out.set4 t z a s)
        have R5 := Lib.hid (R4.out.grownRow (set4_grown w4 X (.int .i64 t) (.int .i64 z) (.bool a) (.bool s)) (by simp))
        have G5 := Lib.hid (grown_off G4.out (set4_grown w4 X (.int .i64 t) (.int .i64 z) (.bool a) (.bool s)) (Nat.le_of_eq HX.out.symm))
        go_roundw
        case rel => exact ⟨j + 1, by go_num, by omega, by rw [Int.natCast_add, Int.natCast_one, ← HZ.out]; exact V5, R5, G5⟩
        case measure => simp [intOf]; omega
    · obtain rfl : j = n := by omega
      obtain ⟨y, hy⟩ : ∃ y, y = Vm.pos t o a s j := ⟨_, rfl⟩
      rw [← hy] at VR
      have HY := Lib.hid hy
      clear hy
      obtain ⟨k0, k1, k2, k3, l0, l1, l2, l3⟩ := VR.out
      obtain ⟨z0, z1, z2, z3, f0, f1, f2, f3⟩ := RR.out
      go_wp2
      obtain ⟨q0, q1, q2, q3, _⟩ := RR.out.set4 t (y) a s
      unfold set4 at q0 q1 q2 q3
      refine bodyPost_ret (v := ve t (y) a s 0) (by simp [results, Try.results11, go_sem, q0, q1, q2, q3, ve, vv]) rfl ⟨by rw [HY.out], grown_off GR.out (set4_grown _ (X + 1) _ _ _ _) (by have := HX.out; omega)⟩
end Go.Proofs.Ytckohnlpmooecaa

