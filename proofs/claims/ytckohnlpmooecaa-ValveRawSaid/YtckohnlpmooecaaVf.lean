/- The functions of valves, of the code and of the reference, whatever the valve is; the statements' awake. -/
import Derived.Test.YtckohnlpmooecaaVi
namespace Go.Proofs.Ytckohnlpmooecaa
open Go.ChangeShapes Go.WideShapes Go.ChangeAt Go.RowKit

def passO (t o : Int) (a s : Bool) (n : Int) : Int := if Vm.Ok t o ∧ 0 ≤ n ∧ n ≤ 400 then Vm.pos t o a s n else o
def passE (t o n : Int) : Int := if Vm.Ok t o then (if 0 ≤ n ∧ n ≤ 400 then 0 else 1) else 20
def cmdA (t o : Int) (a b : Bool) : Bool := if Vm.Ok t o then b else a
def cmdE (t o : Int) : Int := if Vm.Ok t o then 0 else 20
def stepO (t o : Int) (a s : Bool) : Int := if Vm.Ok t o then Vm.up t o a s else o

theorem rvalid_any (t o : Int) (a s : Bool) (w : World) : Calls Try.prog 14 #[vv t o a s] w (Ret (.bool (decide (Vm.Ok t o))) w) := by
  by_cases h : Vm.Ok t o
  · rw [decide_eq_true h]; exact rvalid_yes t o a s w h
  · rw [decide_eq_false h]; exact rvalid_no t o a s w h
theorem rcommand_any (t o : Int) (a s b : Bool) (w : World) : Calls Try.prog 8 #[vv t o a s, .bool b] w (Ret (ve t o (cmdA t o a b) s (cmdE t o)) w) := by
  unfold cmdA cmdE
  by_cases h : Vm.Ok t o
  · rw [if_pos h, if_pos h]; exact rcommand_yes t o a s b w h
  · rw [if_neg h, if_neg h]; exact rcommand_no t o a s b w h
theorem rstep_any (t o : Int) (a s : Bool) (w : World) : Calls Try.prog 10 #[vv t o a s] w (Ret (ve t (stepO t o a s) a s (cmdE t o)) w) := by
  unfold stepO cmdE
  by_cases h : Vm.Ok t o
  · rw [if_pos h, if_pos h]; exact rstep_yes t o a s w h
  · rw [if_neg h, if_neg h]; exact rstep_no t o a s w h
theorem rpass_any (t o n : Int) (a s : Bool) (w : World) : Calls Try.prog 12 #[vv t o a s, .int .i64 n] w (Ret (ve t (passO t o a s n) a s (passE t o n)) w) := by
  unfold passO passE
  by_cases h : Vm.Ok t o
  · by_cases hn : 0 ≤ n ∧ n ≤ 400
    · rw [if_pos ⟨h, hn⟩, if_pos h, if_pos hn]; exact rpass_yes t o n a s w h hn
    · rw [if_neg (fun x => hn x.2), if_pos h, if_neg hn]; exact rpass_range t o n a s w h hn
  · rw [if_neg (fun x => h x.1), if_neg h]; exact rpass_no t o n a s w h
theorem rleft_any (t o : Int) (a s : Bool) (w : World) : Calls Try.prog 20 #[vv t o a s] w (Ret (.int .i64 (Vm.left t o a s)) w) := by
  by_cases h : Vm.Ok t o
  · exact rleft_yes t o a s w h
  · rw [show Vm.left t o a s = -1 from if_neg h]; exact rleft_no t o a s w h

theorem cvalid_any (t o : Int) (a s : Bool) (w : World) : Calls Try.prog 13 #[vv t o a s] w (Ret (.bool (decide (Vm.Ok t o))) w) := by
  by_cases h : Vm.Ok t o
  · rw [decide_eq_true h]; exact cvalid_yes t o a s w h
  · rw [decide_eq_false h]; exact cvalid_no t o a s w h
theorem ccommand_any (t o : Int) (a s b : Bool) (w : World) : Calls Try.prog 7 #[vv t o a s, .bool b] w (Ret (ve t o (cmdA t o a b) s (cmdE t o)) w) := by
  unfold cmdA cmdE
  by_cases h : Vm.Ok t o
  · rw [if_pos h, if_pos h]; exact ccommand_yes t o a s b w h
  · rw [if_neg h, if_neg h]; exact ccommand_no t o a s b w h
theorem cstep_any (t o : Int) (a s : Bool) (w : World) : Calls Try.prog 9 #[vv t o a s] w (Ret (ve t (stepO t o a s) a s (cmdE t o)) w) := by
  unfold stepO cmdE
  by_cases h : Vm.Ok t o
  · rw [if_pos h, if_pos h]; exact cstep_yes t o a s w h
  · rw [if_neg h, if_neg h]; exact cstep_no t o a s w h
theorem cpass_any (t o n : Int) (a s : Bool) (w : World) : Calls Try.prog 11 #[vv t o a s, .int .i64 n] w (Ret (ve t (passO t o a s n) a s (passE t o n)) w) := by
  unfold passO passE
  by_cases h : Vm.Ok t o
  · by_cases hn : 0 ≤ n ∧ n ≤ 400
    · rw [if_pos ⟨h, hn⟩, if_pos h, if_pos hn]; exact cpass_yes t o n a s w h hn
    · rw [if_neg (fun x => hn x.2), if_pos h, if_neg hn]; exact cpass_range t o n a s w h hn
  · rw [if_neg (fun x => h x.1), if_neg h]; exact cpass_no t o n a s w h
theorem cleft_any (t o : Int) (a s : Bool) (w : World) : Calls Try.prog 19 #[vv t o a s] w (Ret (.int .i64 (Vm.left t o a s)) w) := by
  by_cases h : Vm.Ok t o
  · exact cleft_yes t o a s w h
  · rw [show Vm.left t o a s = -1 from if_neg h]; exact cleft_no t o a s w h

theorem ex_ok : Vm.Ok 3 0 ∧ Vm.Ok 3 2 := by decide
theorem awake23_any (w : World) : Calls Try.prog 21 #[] w (Ret (.bool true) w) := by
  have H1 := Lib.hid (fun w => cpass_yes 3 0 2 true false w ex_ok.1 (by decide))
  rw [show Vm.pos 3 0 true false 2 = 2 by decide] at H1
  have H2 := Lib.hid (fun w => cleft_yes 3 2 true false w ex_ok.2)
  rw [show Vm.left 3 2 true false = 1 by decide] at H2
  have H3 := Lib.hid (fun w => copen_any 3 2 true false w (by unfold IsI64; omega) (by unfold IsI64; omega))
  rw [show decide (Vm.Ok 3 2 ∧ (2 : Int) = 3) = false by decide] at H3
  have H4 := Lib.hid (fun w => cvalid_yes 3 2 true false w ex_ok.2)
  unfold ve vv at H1
  unfold vv at H2 H3 H4
  go_enter Try.func21, Try.ntmps21
  go_wp2_with fail
  refine (H1.out _).mono ?_
  rintro e w1 ⟨rfl, hg⟩
  have G := Lib.hid hg
  clear hg
  go_wp2_with fail
  refine (H2.out _).mono ?_
  rintro e w2 ⟨rfl, hg⟩
  have V := Lib.hid ((VC.one w1 3 2 true false).grown hg)
  have G2 := Lib.hid (grown_trans G.out (grown_trans (World.grownBy_alloc _ _ _) hg))
  clear hg G
  have k := V.out
  obtain ⟨k0, k1, k2, k3, _⟩ := k
  go_wp2_with fail
  refine (H3.out _).mono ?_
  rintro e w3 ⟨rfl, hg⟩
  clear k0 k1 k2 k3
  obtain ⟨k0, k1, k2, k3, _⟩ := V.out.grown hg
  have G3 := Lib.hid (grown_trans G2.out hg)
  clear hg G2 V
  go_wp2_with fail
  refine (H4.out _).mono ?_
  rintro e w4 ⟨rfl, hg⟩
  have G4 := Lib.hid (grown_trans G3.out hg)
  clear hg G3
  go_wp2
  go_ret
  exact ⟨rfl, G4.out⟩
end Go.Proofs.Ytckohnlpmooecaa
