/- The walk of ValveBack. -/
import Derived.Test.YtckohnlpmooecaaVg
namespace Go.Proofs.Ytckohnlpmooecaa
open Go.ChangeShapes Go.WideShapes Go.ChangeAt Go.RowKit

theorem back_pos {T n : Int} {s : Bool} (hn : 0 ≤ n ∧ n ≤ T) (_hT : 1 ≤ T ∧ T ≤ 60) : Vm.pos T (Vm.pos T 0 true s n) false s n = 0 ∧ Vm.pos T 0 true s n = (if s then 0 else n) := by
  unfold Vm.pos
  cases s <;> simp <;> (repeat' split) <;> omega

set_option maxHeartbeats 2000000 in
theorem back_walk (p q : Int) (s : Bool) (wp : (Lit.int .u8 p).wf = true) (wq : (Lit.int .u8 q).wf = true) (w : World) :
    Calls Try.prog 5 #[.int .u8 p, .int .u8 q, .bool s] w fun e w' => e = .returned (.bool true) ∧ Below w.heap.size w w' := by
  have hp : 0 ≤ p ∧ p ≤ 255 := by simp [Lit.wf, IntKind.min, IntKind.max, IntKind.signed, IntKind.bits] at wp; omega
  have hq : 0 ≤ q ∧ q ≤ 255 := by simp [Lit.wf, IntKind.min, IntKind.max, IntKind.signed, IntKind.bits] at wq; omega
  clear wp wq
  have hp1 : IntKind.i64.wrap p = p := IntWalk.i64_in _ (by omega)
  have hq1 : IntKind.i64.wrap q = q := IntWalk.i64_in _ (by omega)
  have hm : p.tmod 60 = p % 60 := Int.tmod_eq_emod_of_nonneg hp.1
  have hw1 : IntKind.i64.wrap (1 + p % 60) = 1 + p % 60 := IntWalk.i64_in _ (by omega)
  have hT0 : 1 ≤ 1 + p % 60 ∧ 1 + p % 60 ≤ 60 := by omega
  go_enter Try.func5, Try.ntmps5
  go_wp2_with fail
  generalize 1 + p % 60 = T at *
  have OK0 := Lib.hid (show Vm.Ok T 0 from ⟨hT0.1, hT0.2, by omega, by omega⟩)
  refine (ccommand_yes T 0 false s true _ OK0.out).mono ?_
  rintro e w1 ⟨rfl, hg⟩
  have A := Lib.hid ((VC.one w T 0 false s).grown hg)
  have G := Lib.hid (grown_trans (World.grownBy_alloc _ _ _) hg)
  clear hg
  obtain ⟨k0, k1, k2, k3, l0, l1, l2, l3⟩ := A.out
  have hw2 : IntKind.i64.wrap (T + 1) = T + 1 := IntWalk.i64_in _ (by omega)
  have hw3 : (T + 1 == 0) = false := by rw [beq_eq_false_iff_ne]; omega
  have hw4 : ¬ T + 1 = 0 := by omega
  have hm2 : q.tmod (T + 1) = q % (T + 1) := Int.tmod_eq_emod_of_nonneg hq.1
  have hn1 := Int.emod_nonneg q (show T + 1 ≠ 0 by omega)
  have hn2 := Int.emod_lt_of_pos q (show 0 < T + 1 by omega)
  unfold ve vv
  go_wp2_with fail
  generalize q % (T + 1) = n at *
  obtain ⟨E1, E2⟩ := back_pos (T := T) (n := n) (s := s) ⟨hn1, by omega⟩ hT0
  have HP1 := Lib.hid (fun w => cpass_yes T 0 n true s w OK0.out ⟨hn1, by omega⟩)
  obtain ⟨o1, ho1⟩ : ∃ o1, o1 = Vm.pos T 0 true s n := ⟨_, rfl⟩
  rw [← ho1] at E1 E2 HP1
  have HO := Lib.hid E2
  have OK1 := Lib.hid (show Vm.Ok T o1 by rw [ho1]; exact Vm.pos_ok OK0.out hn1)
  have HP2 := Lib.hid (fun w => cpass_yes T o1 n false s w OK1.out ⟨hn1, by omega⟩)
  rw [E1] at HP2
  clear ho1 E1 E2 hm2 hn2 hw2 hw3 hw4
  refine (HP1.out _).mono ?_
  rintro e w2 ⟨rfl, hg⟩
  replace A := Lib.hid ((A.out.set4 T 0 true s).grown hg)
  replace G := Lib.hid (grown_trans (grown_off G.out (set4_grown w1 w.heap.size (.int .i64 T) (.int .i64 0) (.bool true) (.bool s)) (Nat.le_refl _)) hg)
  clear hg k0 k1 k2 k3 l0 l1 l2 l3 HP1
  have hX2 := A.out.lt
  have hw12 : w.heap.size ≤ w2.heap.size := G.out.size
  unfold ve vv
  go_wp2_with fail
  refine (ccommand_yes T o1 true s false _ OK1.out).mono ?_
  rintro e w3 ⟨rfl, hg⟩
  have B := Lib.hid ((VC.one w2 T o1 true s).grown hg)
  replace A := Lib.hid (((A.out.grown (World.grownBy_alloc _ _ _))).grown hg)
  replace G := Lib.hid (grown_trans G.out (grown_trans (World.grownBy_alloc _ _ _) hg))
  clear hg
  obtain ⟨X2, hX2e⟩ : ∃ X, X = w2.heap.size := ⟨_, rfl⟩
  rw [← hX2e] at B hX2 hw12 ⊢
  clear hX2e
  have n12 : some w.heap.size ≠ some X2 := by intro e; injection e; omega
  obtain ⟨k0, k1, k2, k3, l0, l1, l2, l3⟩ := B.out
  unfold ve vv
  go_wp2_with fail
  refine (HP2.out _).mono ?_
  rintro e w4 ⟨rfl, hg⟩
  have g4 := set4_grown w3 X2 (.int .i64 T) (.int .i64 o1) (.bool false) (.bool s)
  replace B := Lib.hid ((B.out.set4 T o1 false s).grown hg)
  replace A := Lib.hid ((A.out.grownRow g4 n12).grown hg)
  replace G := Lib.hid (grown_trans (grown_off G.out g4 hw12) hg)
  clear hg g4 k0 k1 k2 k3 l0 l1 l2 l3 HP2
  have hX3 := B.out.lt
  have hX4 := A.out.lt
  obtain ⟨a0, a1, a2, a3, _⟩ := A.out
  obtain ⟨b0, b1, b2, b3, _⟩ := B.out
  unfold ve vv
  cases s with
  | true =>
    rw [if_pos rfl] at HO
    have HL := Lib.hid (fun w => cleft_yes T 0 true true w OK0.out)
    rw [show Vm.left T 0 true true = -1 by unfold Vm.left Vm.need; rw [if_pos OK0.out]; simp; omega] at HL
    rw [HO.out] at b1
    go_wp2_with fail
    refine (HL.out _).mono ?_
    rintro e w5 ⟨rfl, hg⟩
    replace G := Lib.hid (grown_trans G.out (grown_trans (World.grownBy_alloc _ _ _) hg))
    clear hg a0 a1 a2 a3 b0 b1 b2 b3
    go_wp2_with fail
    refine (awake23_any _).mono ?_
    rintro e w6 ⟨rfl, hg⟩
    replace G := Lib.hid (grown_trans G.out hg)
    clear hg
    go_wp2
    go_ret
    exact ⟨rfl, grown_below G.out⟩
  | false =>
    rw [if_neg (by simp)] at HO
    have HL := Lib.hid (fun w => cleft_yes T o1 false false w OK1.out)
    rw [show Vm.left T o1 false false = o1 by unfold Vm.left Vm.need; rw [if_pos OK1.out]; simp] at HL
    obtain rfl : o1 = n := HO.out
    go_wp2_with fail
    refine (HL.out _).mono ?_
    rintro e w5 ⟨rfl, hg⟩
    replace G := Lib.hid (grown_trans G.out (grown_trans (World.grownBy_alloc _ _ _) hg))
    clear hg a0 a1 a2 a3 b0 b1 b2 b3
    go_wp2_with fail
    refine (awake23_any _).mono ?_
    rintro e w6 ⟨rfl, hg⟩
    replace G := Lib.hid (grown_trans G.out hg)
    clear hg
    go_wp2
    go_ret
    exact ⟨rfl, grown_below G.out⟩
end Go.Proofs.Ytckohnlpmooecaa
