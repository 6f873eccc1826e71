/- The reference's Step and Left. -/
import Derived.Test.YtckohnlpmooecaaVb
namespace Go.Proofs.Ytckohnlpmooecaa
open Go.ChangeShapes Go.WideShapes Go.ChangeAt Go.RowKit

set_option maxHeartbeats 1000000 in
theorem rstep_yes (t o : Int) (a s : Bool) (w : World) (h : Vm.Ok t o) :
    Calls Try.prog 10 #[vv t o a s] w (Ret (ve t (Vm.up t o a s) a s 0) w) := by
  have HV := Lib.hid (fun w => rvalid_yes t o a s w h)
  obtain ⟨h1, h2, h3, h4⟩ := h
  cases s with
  | true =>
    rw [show Vm.up t o a true = o from rfl]
    unfold vv
    go_enter Try.func10, Try.ntmps10
    go_wp2_with fail
    refine (HV.out _).mono ?_
    rintro e w1 ⟨rfl, hg⟩
    have V := Lib.hid ((VC.start w _ _ _ _).grown hg)
    have R := Lib.hid ((VC.zero2 w _).grown hg)
    have G := Lib.hid (grown_trans (start_grown _ _ _) hg)
    clear hg
    obtain ⟨k0, k1, k2, k3, l0, l1, l2, l3⟩ := V.out
    obtain ⟨z0, z1, z2, z3, f0, f1, f2, f3⟩ := R.out
    go_wp2
    obtain ⟨q0, q1, q2, q3, _⟩ := R.out.set4 t (o) a true
    unfold set4 at q0 q1 q2 q3
    refine bodyPost_ret (v := ve t (o) a true 0) (by simp [results, Try.results10, go_sem, q0, q1, q2, q3, ve, vv]) rfl ⟨rfl, grown_off G.out (set4_grown _ (w.heap.size + 1) _ _ _ _) (by omega)⟩
  | false =>
    cases a with
    | true =>
      by_cases h5 : o < t
      · rw [show Vm.up t o true false = o + 1 by unfold Vm.up; simp [h5]]
        unfold vv
        go_enter Try.func10, Try.ntmps10
        go_wp2_with fail
        refine (HV.out _).mono ?_
        rintro e w1 ⟨rfl, hg⟩
        have V := Lib.hid ((VC.start w _ _ _ _).grown hg)
        have R := Lib.hid ((VC.zero2 w _).grown hg)
        have G := Lib.hid (grown_trans (start_grown _ _ _) hg)
        clear hg
        obtain ⟨k0, k1, k2, k3, l0, l1, l2, l3⟩ := V.out
        obtain ⟨z0, z1, z2, z3, f0, f1, f2, f3⟩ := R.out
        go_wp2
        obtain ⟨q0, q1, q2, q3, _⟩ := (R.out.grownRow (grown_set w1 ⟨w.heap.size, 1, none⟩ (.int .i64 (o + 1))) (by simp)).set4 t (o + 1) true false
        unfold set4 at q0 q1 q2 q3
        refine bodyPost_ret (v := ve t (o + 1) true false 0) (by simp [results, Try.results10, go_sem, q0, q1, q2, q3, ve, vv]) rfl ⟨rfl, grown_off (grown_off G.out (grown_set w1 ⟨w.heap.size, 1, none⟩ _) (Nat.le_refl _)) (set4_grown _ (w.heap.size + 1) _ _ _ _) (by omega)⟩
      · rw [show Vm.up t o true false = o by unfold Vm.up; simp [h5]]
        unfold vv
        go_enter Try.func10, Try.ntmps10
        go_wp2_with fail
        refine (HV.out _).mono ?_
        rintro e w1 ⟨rfl, hg⟩
        have V := Lib.hid ((VC.start w _ _ _ _).grown hg)
        have R := Lib.hid ((VC.zero2 w _).grown hg)
        have G := Lib.hid (grown_trans (start_grown _ _ _) hg)
        clear hg
        obtain ⟨k0, k1, k2, k3, l0, l1, l2, l3⟩ := V.out
        obtain ⟨z0, z1, z2, z3, f0, f1, f2, f3⟩ := R.out
        go_wp2
        obtain ⟨q0, q1, q2, q3, _⟩ := R.out.set4 t (o) true false
        unfold set4 at q0 q1 q2 q3
        refine bodyPost_ret (v := ve t (o) true false 0) (by simp [results, Try.results10, go_sem, q0, q1, q2, q3, ve, vv]) rfl ⟨rfl, grown_off G.out (set4_grown _ (w.heap.size + 1) _ _ _ _) (by omega)⟩
    | false =>
      by_cases h5 : 0 < o
      · rw [show Vm.up t o false false = o - 1 by unfold Vm.up; simp [h5]]
        unfold vv
        go_enter Try.func10, Try.ntmps10
        go_wp2_with fail
        refine (HV.out _).mono ?_
        rintro e w1 ⟨rfl, hg⟩
        have V := Lib.hid ((VC.start w _ _ _ _).grown hg)
        have R := Lib.hid ((VC.zero2 w _).grown hg)
        have G := Lib.hid (grown_trans (start_grown _ _ _) hg)
        clear hg
        obtain ⟨k0, k1, k2, k3, l0, l1, l2, l3⟩ := V.out
        obtain ⟨z0, z1, z2, z3, f0, f1, f2, f3⟩ := R.out
        go_wp2
        obtain ⟨q0, q1, q2, q3, _⟩ := (R.out.grownRow (grown_set w1 ⟨w.heap.size, 1, none⟩ (.int .i64 (o - 1))) (by simp)).set4 t (o - 1) false false
        unfold set4 at q0 q1 q2 q3
        refine bodyPost_ret (v := ve t (o - 1) false false 0) (by simp [results, Try.results10, go_sem, q0, q1, q2, q3, ve, vv]) rfl ⟨rfl, grown_off (grown_off G.out (grown_set w1 ⟨w.heap.size, 1, none⟩ _) (Nat.le_refl _)) (set4_grown _ (w.heap.size + 1) _ _ _ _) (by omega)⟩
      · rw [show Vm.up t o false false = o by unfold Vm.up; simp [h5]]
        unfold vv
        go_enter Try.func10, Try.ntmps10
        go_wp2_with fail
        refine (HV.out _).mono ?_
        rintro e w1 ⟨rfl, hg⟩
        have V := Lib.hid ((VC.start w _ _ _ _).grown hg)
        have R := Lib.hid ((VC.zero2 w _).grown hg)
        have G := Lib.hid (grown_trans (start_grown _ _ _) hg)
        clear hg
        obtain ⟨k0, k1, k2, k3, l0, l1, l2, l3⟩ := V.out
        obtain ⟨z0, z1, z2, z3, f0, f1, f2, f3⟩ := R.out
        go_wp2
        obtain ⟨q0, q1, q2, q3, _⟩ := R.out.set4 t (o) false false
        unfold set4 at q0 q1 q2 q3
        refine bodyPost_ret (v := ve t (o) false false 0) (by simp [results, Try.results10, go_sem, q0, q1, q2, q3, ve, vv]) rfl ⟨rfl, grown_off G.out (set4_grown _ (w.heap.size + 1) _ _ _ _) (by omega)⟩

theorem rstep_no (t o : Int) (a s : Bool) (w : World) (h : ¬ Vm.Ok t o) :
    Calls Try.prog 10 #[vv t o a s] w (Ret (ve t o a s 20) w) := by
  have HV := Lib.hid (fun w => rvalid_no t o a s w h)
  clear h
  unfold vv
  go_enter Try.func10, Try.ntmps10
  go_wp2_with fail
  refine (HV.out _).mono ?_
  rintro e w1 ⟨rfl, hg⟩
  have V := Lib.hid ((VC.start w _ _ _ _).grown hg)
  have R := Lib.hid ((VC.zero2 w _).grown hg)
  have G := Lib.hid (grown_trans (start_grown _ _ _) hg)
  clear hg
  obtain ⟨k0, k1, k2, k3, l0, l1, l2, l3⟩ := V.out
  obtain ⟨z0, z1, z2, z3, f0, f1, f2, f3⟩ := R.out
  go_wp2
  obtain ⟨q0, q1, q2, q3, _⟩ := R.out.set4 t (o) a s
  unfold set4 at q0 q1 q2 q3
  refine bodyPost_ret (v := ve t (o) a s 20) (by simp [results, Try.results10, go_sem, q0, q1, q2, q3, ve, vv]) rfl ⟨rfl, grown_off G.out (set4_grown _ (w.heap.size + 1) _ _ _ _) (by omega)⟩

theorem rleft_yes (t o : Int) (a s : Bool) (w : World) (h : Vm.Ok t o) :
    Calls Try.prog 20 #[vv t o a s] w (Ret (.int .i64 (Vm.left t o a s)) w) := by
  have HV := Lib.hid (fun w => rvalid_yes t o a s w h)
  have hL : Vm.left t o a s = if s = true ∧ 0 < Vm.need t o a then -1 else Vm.need t o a := if_pos h
  rw [hL]
  clear hL
  obtain ⟨h1, h2, h3, h4⟩ := h
  cases a with
  | true =>
    rw [show Vm.need t o true = t - o from rfl]
    cases s with
    | true =>
      by_cases h5 : 0 < t - o
      · rw [if_pos ⟨rfl, h5⟩]
        unfold vv
        go_enter Try.func20, Try.ntmps20
        go_wp2_with fail
        refine (HV.out _).mono ?_
        rintro e w1 ⟨rfl, hg⟩
        have G := Lib.hid (grown_trans (World.grownBy_alloc _ _ _) hg)
        obtain ⟨k0, k1, k2, k3, _⟩ := (VC.one w _ _ _ _).grown hg
        clear hg
        go_wp2
        go_ret
        exact ⟨rfl, G.out⟩
      · rw [if_neg (fun x => h5 x.2)]
        unfold vv
        go_enter Try.func20, Try.ntmps20
        go_wp2_with fail
        refine (HV.out _).mono ?_
        rintro e w1 ⟨rfl, hg⟩
        have G := Lib.hid (grown_trans (World.grownBy_alloc _ _ _) hg)
        obtain ⟨k0, k1, k2, k3, _⟩ := (VC.one w _ _ _ _).grown hg
        clear hg
        go_wp2
        go_ret
        exact ⟨rfl, G.out⟩
    | false =>
      rw [if_neg (fun x => by simp at x)]
      unfold vv
      go_enter Try.func20, Try.ntmps20
      go_wp2_with fail
      refine (HV.out _).mono ?_
      rintro e w1 ⟨rfl, hg⟩
      have G := Lib.hid (grown_trans (World.grownBy_alloc _ _ _) hg)
      obtain ⟨k0, k1, k2, k3, _⟩ := (VC.one w _ _ _ _).grown hg
      clear hg
      go_wp2
      go_ret
      exact ⟨rfl, G.out⟩
  | false =>
    rw [show Vm.need t o false = o from rfl]
    cases s with
    | true =>
      by_cases h5 : 0 < o
      · rw [if_pos ⟨rfl, h5⟩]
        unfold vv
        go_enter Try.func20, Try.ntmps20
        go_wp2_with fail
        refine (HV.out _).mono ?_
        rintro e w1 ⟨rfl, hg⟩
        have G := Lib.hid (grown_trans (World.grownBy_alloc _ _ _) hg)
        obtain ⟨k0, k1, k2, k3, _⟩ := (VC.one w _ _ _ _).grown hg
        clear hg
        go_wp2
        go_ret
        exact ⟨rfl, G.out⟩
      · rw [if_neg (fun x => h5 x.2)]
        unfold vv
        go_enter Try.func20, Try.ntmps20
        go_wp2_with fail
        refine (HV.out _).mono ?_
        rintro e w1 ⟨rfl, hg⟩
        have G := Lib.hid (grown_trans (World.grownBy_alloc _ _ _) hg)
        obtain ⟨k0, k1, k2, k3, _⟩ := (VC.one w _ _ _ _).grown hg
        clear hg
        go_wp2
        go_ret
        exact ⟨rfl, G.out⟩
    | false =>
      rw [if_neg (fun x => by simp at x)]
      unfold vv
      go_enter Try.func20, Try.ntmps20
      go_wp2_with fail
      refine (HV.out _).mono ?_
      rintro e w1 ⟨rfl, hg⟩
      have G := Lib.hid (grown_trans (World.grownBy_alloc _ _ _) hg)
      obtain ⟨k0, k1, k2, k3, _⟩ := (VC.one w _ _ _ _).grown hg
      clear hg
      go_wp2
      go_ret
      exact ⟨rfl, G.out⟩

theorem rleft_no (t o : Int) (a s : Bool) (w : World) (h : ¬ Vm.Ok t o) :
    Calls Try.prog 20 #[vv t o a s] w (Ret (.int .i64 (-1)) w) := by
  have HV := Lib.hid (fun w => rvalid_no t o a s w h)
  clear h
  unfold vv
  go_enter Try.func20, Try.ntmps20
  go_wp2_with fail
  refine (HV.out _).mono ?_
  rintro e w1 ⟨rfl, hg⟩
  have G := Lib.hid (grown_trans (World.grownBy_alloc _ _ _) hg)
  obtain ⟨k0, k1, k2, k3, _⟩ := (VC.one w _ _ _ _).grown hg
  clear hg
  go_wp2
  go_ret
  exact ⟨rfl, G.out⟩
end Go.Proofs.Ytckohnlpmooecaa
