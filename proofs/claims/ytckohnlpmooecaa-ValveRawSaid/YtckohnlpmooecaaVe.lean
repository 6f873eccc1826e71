/- The reference's Pass. -/
import Derived.Test.YtckohnlpmooecaaVd
namespace Go.Proofs.Ytckohnlpmooecaa
open Go.ChangeShapes Go.WideShapes Go.ChangeAt Go.RowKit

theorem rpass_no (t o n : Int) (a s : Bool) (w : World) (h : ¬ Vm.Ok t o) :
    Calls Try.prog 12 #[vv t o a s, .int .i64 n] w (Ret (ve t o a s 20) w) := by
  have HV := Lib.hid (fun w => rvalid_no t o a s w h)
  clear h
  unfold vv
  go_enter Try.func12, Try.ntmps12
  go_wp2_with fail
  refine (HV.out _).mono ?_
  rintro e w1 ⟨rfl, hg⟩
  have V := Lib.hid ((VC.start w _ _ _ _).grown hg)
  have R := Lib.hid ((VC.zero2 w _).grown hg)
  have G := Lib.hid (grown_trans (start_grown _ _ _) hg)
  have SZ := Lib.hid (show w.heap.size + 1 < w1.heap.size by have := hg.size; simp at this; omega)
  clear hg
  obtain ⟨k0, k1, k2, k3, l0, l1, l2, l3⟩ := V.out
  obtain ⟨z0, z1, z2, z3, f0, f1, f2, f3⟩ := R.out
  go_wp2
  obtain ⟨q0, q1, q2, q3, _⟩ := R.out.set4 t (o) a s
  unfold set4 at q0 q1 q2 q3
  refine bodyPost_ret (v := ve t (o) a s 20) (by simp [results, Try.results12, go_sem, q0, q1, q2, q3, ve, vv]) rfl ⟨rfl, grown_off G.out (set4_grown _ (w.heap.size + 1) _ _ _ _) (by omega)⟩

theorem rpass_range (t o n : Int) (a s : Bool) (w : World) (h : Vm.Ok t o) (hn : ¬ (0 ≤ n ∧ n ≤ 400)) :
    Calls Try.prog 12 #[vv t o a s, .int .i64 n] w (Ret (ve t o a s 1) w) := by
  have HV := Lib.hid (fun w => rvalid_yes t o a s w h)
  clear h
  by_cases h1 : n < 0
  · unfold vv
    go_enter Try.func12, Try.ntmps12
    go_wp2_with fail
    refine (HV.out _).mono ?_
    rintro e w1 ⟨rfl, hg⟩
    have V := Lib.hid ((VC.start w _ _ _ _).grown hg)
    have R := Lib.hid ((VC.zero2 w _).grown hg)
    have G := Lib.hid (grown_trans (start_grown _ _ _) hg)
    have SZ := Lib.hid (show w.heap.size + 1 < w1.heap.size by have := hg.size; simp at this; omega)
    clear hg
    obtain ⟨k0, k1, k2, k3, l0, l1, l2, l3⟩ := V.out
    obtain ⟨z0, z1, z2, z3, f0, f1, f2, f3⟩ := R.out
    go_wp2
    obtain ⟨q0, q1, q2, q3, _⟩ := R.out.set4 t (o) a s
    unfold set4 at q0 q1 q2 q3
    refine bodyPost_ret (v := ve t (o) a s 1) (by simp [results, Try.results12, go_sem, q0, q1, q2, q3, ve, vv]) rfl ⟨rfl, grown_off G.out (set4_grown _ (w.heap.size + 1) _ _ _ _) (by omega)⟩
  · have h2 : 400 < n := by omega
    unfold vv
    go_enter Try.func12, Try.ntmps12
    go_wp2_with fail
    refine (HV.out _).mono ?_
    rintro e w1 ⟨rfl, hg⟩
    have V := Lib.hid ((VC.start w _ _ _ _).grown hg)
    have R := Lib.hid ((VC.zero2 w _).grown hg)
    have G := Lib.hid (grown_trans (start_grown _ _ _) hg)
    have SZ := Lib.hid (show w.heap.size + 1 < w1.heap.size by have := hg.size; simp at this; omega)
    clear hg
    obtain ⟨k0, k1, k2, k3, l0, l1, l2, l3⟩ := V.out
    obtain ⟨z0, z1, z2, z3, f0, f1, f2, f3⟩ := R.out
    go_wp2
    obtain ⟨q0, q1, q2, q3, _⟩ := R.out.set4 t (o) a s
    unfold set4 at q0 q1 q2 q3
    refine bodyPost_ret (v := ve t (o) a s 1) (by simp [results, Try.results12, go_sem, q0, q1, q2, q3, ve, vv]) rfl ⟨rfl, grown_off G.out (set4_grown _ (w.heap.size + 1) _ _ _ _) (by omega)⟩

set_option maxHeartbeats 1000000 in
theorem rpass_yes (t o n : Int) (a s : Bool) (w : World) (h : Vm.Ok t o) (hn : 0 ≤ n ∧ n ≤ 400) :
    Calls Try.prog 12 #[vv t o a s, .int .i64 n] w (Ret (ve t (Vm.pos t o a s n) a s 0) w) := by
  have HV := Lib.hid (fun w => rvalid_yes t o a s w h)
  have OK := Lib.hid h
  clear h
  obtain ⟨n, rfl⟩ := Int.eq_ofNat_of_zero_le hn.1
  have hn2 : n ≤ 400 := by omega
  clear hn
  unfold vv
  go_enter Try.func12, Try.ntmps12
  go_wp2_with fail
  refine (HV.out _).mono ?_
  rintro e w1 ⟨rfl, hg⟩
  have V := Lib.hid ((VC.start w _ _ _ _).grown hg)
  have R := Lib.hid ((VC.zero2 w _).grown hg)
  have G := Lib.hid (grown_trans (start_grown _ _ _) hg)
  have SZ := Lib.hid (show w.heap.size + 1 < w1.heap.size by have := hg.size; simp at this; omega)
  clear hg
  obtain ⟨X, hX⟩ : ∃ X, X = w.heap.size := ⟨_, rfl⟩
  rw [← hX] at V R SZ ⊢
  have HX := Lib.hid hX
  clear hX
  go_wp2
  go_loopw [6] (fun i wr => ∃ j : Nat, i = .int .i64 j ∧ j ≤ n ∧ Hid (VC wr X t (Vm.pos t o a s j) a s) ∧ Hid (VC wr (X + 1) 0 0 false false) ∧ Hid (w.grownBy wr none)) (fun i _ => n - (intOf i).toNat)
  case atStart => exact ⟨0, rfl, by omega, by rw [Int.natCast_zero, Vm.pos_zero OK.out]; exact V, R, G⟩
  case round =>
    obtain ⟨j, rfl, hj, VR, RR, GR⟩ := hrel
    by_cases hlt : j < n
    · have hlt2 : (j : Int) < (n : Int) := by omega
      have P := Lib.hid (Vm.pos_ok (n := j) OK.out (by omega) (a := a) (s := s))
      have Q := Lib.hid (Vm.pos_next (n := j) OK.out (by omega) (a := a) (s := s))
      have ST := Lib.hid (fun w => rstep_yes t _ a s w P.out)
      rw [Q.out] at ST
      obtain ⟨y, hy⟩ : ∃ y, y = Vm.pos t o a s j := ⟨_, rfl⟩
      rw [← hy] at VR ST
      clear hy P Q
      obtain ⟨z, hz⟩ : ∃ z, z = Vm.pos t o a s ((j : Int) + 1) := ⟨_, rfl⟩
      rw [← hz] at ST
      have HZ := Lib.hid hz
      clear hz
      obtain ⟨k0, k1, k2, k3, l0, l1, l2, l3⟩ := VR.out
      go_wp2_with fail
      refine (ST.out _).mono ?_
      rintro e w3 ⟨rfl, hg⟩
      have V3 := Lib.hid (VR.out.grown hg)
      have R3 := Lib.hid (RR.out.grown hg)
      have G3 := Lib.hid (grown_trans GR.out hg)
      clear hg k0 k1 k2 k3 l0 l1 l2 l3
      obtain ⟨k0, k1, k2, k3, l0, l1, l2, l3⟩ := V3.out
      unfold ve vv
      go_wp2
      have V4 := Lib.hid (V3.out.set4 t z a s)
      have R4 := Lib.hid (R3.out.grownRow (set4_grown w3 X (.int .i64 t) (.int .i64 z) (.bool a) (.bool s)) (by simp))
      have G4 := Lib.hid (grown_off G3.out (set4_grown w3 X (.int .i64 t) (.int .i64 z) (.bool a) (.bool s)) (Nat.le_of_eq HX.out.symm))
      go_roundw
      case rel => exact ⟨j + 1, by go_num, by omega, by rw [Int.natCast_add, Int.natCast_one, ← HZ.out]; exact V4, R4, G4⟩
      case measure => simp [intOf]; omega
    · obtain rfl : j = n := by omega
      obtain ⟨y, hy⟩ : ∃ y, y = Vm.pos t o a s j := ⟨_, rfl⟩
      rw [← hy] at VR
      have HY := Lib.hid hy
      clear hy
      obtain ⟨k0, k1, k2, k3, l0, l1, l2, l3⟩ := VR.out
      obtain ⟨z0, z1, z2, z3, f0, f1, f2, f3⟩ := RR.out
      go_wp2
      obtain ⟨q0, q1, q2, q3, _⟩ := RR.out.set4 t (y) a s
      unfold set4 at q0 q1 q2 q3
      refine bodyPost_ret (v := ve t (y) a s 0) (by simp [results, Try.results12, go_sem, q0, q1, q2, q3, ve, vv]) rfl ⟨by rw [HY.out], grown_off GR.out (set4_grown _ (X + 1) _ _ _ _) (by have := HX.out; omega)⟩
end Go.Proofs.Ytckohnlpmooecaa
