/- Package boundary: Mixture, the rules, Cut. -/
import Derived.Test.YtagemdgbnajobaaHc1
import Derived.Laws.EntriesVeiled
namespace Go.Proofs.Ytagemdgbnajobaa
open Go.ChangeShapes Go.WideShapes Go.ChangeAt Go.RowKit

theorem bmixture_any (f t : Int) (w : World) (_ : IsI64 f) (_ : IsI64 t) : Calls Try.prog 18 #[.int .i64 f, .int .i64 t] w (MixEnd f t w) := by
  by_cases h0 : f < 0
  · have M := Lib.hid (show MixOf f t 0 1 from .inr ⟨by omega, rfl, rfl⟩)
    go_enter Try.func18, Try.ntmps18
    go_wp2
    go_ret2
    exact ⟨_, _, rfl, M.out, grown_refl _ _⟩
  have e0 : decide (f < 0) = false := decide_eq_false h0
  by_cases h1 : 1000000 < f
  · have M := Lib.hid (show MixOf f t 0 1 from .inr ⟨by omega, rfl, rfl⟩)
    go_enter Try.func18, Try.ntmps18
    go_wp2
    go_ret2
    exact ⟨_, _, rfl, M.out, grown_refl _ _⟩
  have e1 : decide (1000000 < f) = false := decide_eq_false h1
  by_cases h2 : t < 0
  · have M := Lib.hid (show MixOf f t 0 1 from .inr ⟨by omega, rfl, rfl⟩)
    go_enter Try.func18, Try.ntmps18
    go_wp2
    go_ret2
    exact ⟨_, _, rfl, M.out, grown_refl _ _⟩
  have e2 : decide (t < 0) = false := decide_eq_false h2
  by_cases h3 : 1099511627776 < t
  · have M := Lib.hid (show MixOf f t 0 1 from .inr ⟨by omega, rfl, rfl⟩)
    go_enter Try.func18, Try.ntmps18
    go_wp2
    go_ret2
    exact ⟨_, _, rfl, M.out, grown_refl _ _⟩
  have e3 : decide (1099511627776 < t) = false := decide_eq_false h3
  have hok : 0 ≤ f ∧ f ≤ 1000000 ∧ 0 ≤ t ∧ t ≤ 1099511627776 := by omega
  have OK := Lib.hid hok
  have hb := mix_bound hok
  clear hok
  have hw : IntKind.i64.wrap (f * t) = f * t := IntWalk.i64_in _ (by omega)
  go_enter Try.func18, Try.ntmps18
  go_wp2_with fail
  refine (rootUp_yes (f * t) w hb.1 (by omega)).mono ?_
  rintro e w1 ⟨r, hr, rfl, hg⟩
  have R := Lib.hid hr
  have G := Lib.hid (below_grown hg)
  clear hr hg
  go_wp2
  go_ret2
  exact ⟨_, _, rfl, .inl ⟨OK.out, rfl, R.out⟩, G.out⟩

/-! ## The rules -/
theorem middle_any (m : Int) (w : World) (h0 : 0 ≤ m) (h1 : m ≤ 1000000) : Calls Try.prog 50 #[.agg #[.int .i64 m]] w (Ret (.tuple #[.int .i64 (m - m / 2), .int .i64 (m / 2), .int .i64 (0)]) w) := by
  have U := Lib.hid (show Rd.up m 2 = m - m / 2 by unfold Rd.up Rd.ok; simp only [Bool.and_eq_true, decide_eq_true_eq]; rw [if_pos (by omega)]; omega)
  have hr : 0 ≤ m - m / 2 ∧ m - m / 2 ≤ 1000000 := by omega
  obtain ⟨X, hX⟩ : ∃ X, X = m - m / 2 := ⟨_, rfl⟩
  have HX := Lib.hid hX
  rw [← hX] at hr U
  have Y := Lib.hid (show m - X = m / 2 by omega)
  clear hX
  go_enter Try.func50, Try.ntmps50
  go_wp2_with fail
  refine (up_any m 2 _).mono ?_
  rw [U.out]
  rintro e w1 ⟨rfl, rfl⟩
  go_wp2
  all_goals try go_region
  all_goals go_wp2
  all_goals go_ret3
  exact ⟨by rw [← HX.out, ← Y.out]; rfl, grown_trans (World.grownBy_alloc _ _ _) (grown_drewN _ 1 none)⟩
theorem left_any (m : Int) (w : World) (_ : 0 ≤ m) (_ : m ≤ 1000000) : Calls Try.prog 51 #[.agg #[.int .i64 m]] w (Ret (.tuple #[.int .i64 (m), .int .i64 (0), .int .i64 (0)]) w) := by
  go_enter Try.func51, Try.ntmps51
  go_wp2
  all_goals go_ret3
  exact ⟨rfl, World.grownBy_alloc _ _ _⟩
theorem right_any (m : Int) (w : World) (_ : 0 ≤ m) (_ : m ≤ 1000000) : Calls Try.prog 52 #[.agg #[.int .i64 m]] w (Ret (.tuple #[.int .i64 (0), .int .i64 (m), .int .i64 (0)]) w) := by
  go_enter Try.func52, Try.ntmps52
  go_wp2
  all_goals go_region
  all_goals go_wp2
  all_goals go_ret3
  exact ⟨rfl, grown_trans (World.grownBy_alloc _ _ _) (grown_drewN _ 1 none)⟩
theorem slop_any (m : Int) (w : World) (_ : 0 ≤ m) (_ : m ≤ 1000000) : Calls Try.prog 53 #[.agg #[.int .i64 m]] w (Ret (.tuple #[.int .i64 (0), .int .i64 (0), .int .i64 (m)]) w) := by
  go_enter Try.func53, Try.ntmps53
  go_wp2
  all_goals go_region
  all_goals go_wp2
  all_goals go_ret3
  exact ⟨rfl, grown_trans (World.grownBy_alloc _ _ _) (grown_drewN _ 1 none)⟩
theorem third_any (m : Int) (w : World) (h0 : 0 ≤ m) (h1 : m ≤ 1000000) : Calls Try.prog 54 #[.agg #[.int .i64 m]] w (Ret (.tuple #[.int .i64 (m / 3), .int .i64 (m / 3), .int .i64 (m - 2 * (m / 3))]) w) := by
  have U := Lib.hid (show Rd.down m 3 = m / 3 by unfold Rd.down Rd.ok; simp only [Bool.and_eq_true, decide_eq_true_eq]; rw [if_pos (by omega)])
  have hr : 0 ≤ m / 3 ∧ m / 3 ≤ 1000000 := by omega
  obtain ⟨X, hX⟩ : ∃ X, X = m / 3 := ⟨_, rfl⟩
  rw [← hX] at hr U ⊢
  clear hX
  go_enter Try.func54, Try.ntmps54
  go_wp2_with fail
  refine (down_any m 3 _).mono ?_
  rw [U.out]
  rintro e w1 ⟨rfl, rfl⟩
  go_wp2
  all_goals try go_region
  all_goals go_wp2
  all_goals go_ret3
  exact ⟨rfl, grown_trans (World.grownBy_alloc _ _ _) (grown_drewN _ 1 none)⟩

/-! ## Cut -/
/-- The rules' cells. -/
def RuleC (W : World) (A o k : Nat) (q : Int) (g : Nat) : Prop := W.cell? ⟨A, o + k * 2, none⟩ = some (.int .i64 q) ∧ W.cell? ⟨A, o + k * 2 + 1, none⟩ = some (.func (.func g) #[] #[])
def RulesAt (W : World) (A o : Nat) : Prop := ∀ k : Nat, (k = 0 → RuleC W A o k 1 50) ∧ (k = 1 → RuleC W A o k 2 51) ∧ (k = 2 → RuleC W A o k 3 52) ∧ (k = 3 → RuleC W A o k 4 53) ∧ (k = 4 → RuleC W A o k 5 54)
theorem RuleC.grown {w w' : World} {A o k g : Nat} {q : Int} (h : RuleC w A o k q g) (hg : w.grownBy w' none) : RuleC w' A o k q g := ⟨hg.cell h.1 (by simp), hg.cell h.2 (by simp)⟩
theorem RulesAt.grown {w w' : World} {A o : Nat} (h : RulesAt w A o) (hg : w.grownBy w' none) : RulesAt w' A o := fun k =>
  ⟨fun e => ((h k).1 e).grown hg, fun e => ((h k).2.1 e).grown hg, fun e => ((h k).2.2.1 e).grown hg, fun e => ((h k).2.2.2.1 e).grown hg, fun e => ((h k).2.2.2.2 e).grown hg⟩
theorem allrules_any (w : World) : Calls Try.prog 37 #[] w fun e w' => ∃ A o, e = .returned (.slice (some ⟨A, o, none⟩) 5 5) ∧ RulesAt w' A o ∧ w.grownBy w' none := by
  go_enter Try.func37, Try.ntmps37
  go_wp2
  go_ret
  refine ⟨w.heap.size, 0, rfl, fun k => ⟨?_, ?_, ?_, ?_, ?_⟩, World.grownBy_alloc _ _ _⟩ <;> (rintro rfl; exact ⟨by simp, by simp⟩)

set_option maxHeartbeats 1000000 in
theorem bcut_any (m r : Int) (w : World) (_ : IsI64 m) (_ : IsI64 r) : Calls Try.prog 20 #[.int .i64 m, .int .i64 r] w (Ret (cutV m r) w) := by
  by_cases h0 : m < 0
  · have C := Lib.hid (show Bm.cutOf m r = (0, 0, 0, 1) from if_pos (.inl h0))
    go_enter Try.func20, Try.ntmps20
    go_wp2
    (try simp only [Exit.inBlock, Exit.then]); refine bodyPost_ret (results_tmp4 rfl _ _ _) rfl ?_
    exact ⟨cutV_of C.out, grown_refl _ _⟩
  have e0 : decide (m < 0) = false := decide_eq_false h0
  by_cases h1 : 1000000 < m
  · have C := Lib.hid (show Bm.cutOf m r = (0, 0, 0, 1) from if_pos (.inr h1))
    go_enter Try.func20, Try.ntmps20
    go_wp2
    (try simp only [Exit.inBlock, Exit.then]); refine bodyPost_ret (results_tmp4 rfl _ _ _) rfl ?_
    exact ⟨cutV_of C.out, grown_refl _ _⟩
  have e1 : decide (1000000 < m) = false := decide_eq_false h1
  have hm : 0 ≤ m ∧ m ≤ 1000000 := by omega
  have HM := Lib.hid hm
  clear hm h0 h1
  go_enter Try.func20, Try.ntmps20
  go_wp2_with fail
  refine (allrules_any w).mono ?_
  rintro e w1 ⟨A, o, rfl, hc, hg⟩
  have RC := Lib.hid hc
  have G1 := Lib.hid hg
  clear hc hg
  go_wp2
  go_loopw [21] (fun i wr => ∃ k : Nat, i = .int .i64 k ∧ k ≤ 5 ∧ Hid (∀ q : Int, 1 ≤ q → q ≤ k → r ≠ q) ∧ Hid (w1.grownBy wr none)) (fun i _ => 5 - (intOf i).toNat)
  case atStart => exact ⟨0, rfl, by omega, Lib.hid (fun q h1 h2 => by omega), grown_refl _ _⟩
  case round =>
    obtain ⟨k, rfl, hk, NE, G⟩ := hrel
    by_cases hlt : k < 5
    · have hk5 : (k : Int) < 5 := by omega
      by_cases k0 : k = 0
      · obtain ⟨c0, c1⟩ := ((RC.out.grown G.out) k).1 k0
        have KE := Lib.hid k0
        clear k0
        by_cases hr : r = 1
        · subst hr
          have C := Lib.hid (show Bm.cutOf m 1 = (m - m / 2, m / 2, 0, 0) by unfold Bm.cutOf; rw [if_neg (by have := HM.out; omega)]; simp)
          go_wp2_with fail
          refine (middle_any m _ HM.out.1 HM.out.2).mono ?_
          rintro e w2 ⟨rfl, hg⟩
          have G2 := Lib.hid hg
          clear hg
          go_wp2
          (try simp only [Exit.inBlock, Exit.then]); refine bodyPost_ret (results_tmp4 rfl _ _ _) rfl ?_
          exact ⟨cutV_of C.out, grown_trans G1.out (grown_trans G.out (grown_trans (World.grownBy_alloc _ _ _) G2.out))⟩
        · have hb : ((1 : Int) == r) = false := by rw [beq_eq_false_iff_ne]; omega
          have NE2 := Lib.hid (show ∀ q : Int, 1 ≤ q → q ≤ (k + 1 : Nat) → r ≠ q from fun q h1 h2 => by have := KE.out; by_cases e : q ≤ k; exact NE.out q h1 e; omega)
          clear hr
          go_wp2
          go_roundw
          case rel => exact ⟨k + 1, by go_num, by omega, NE2, Lib.hid (grown_trans G.out (World.grownBy_alloc _ _ _))⟩
          case measure => simp [intOf]; omega
      by_cases k1 : k = 1
      · obtain ⟨c0, c1⟩ := ((RC.out.grown G.out) k).2.1 k1
        have KE := Lib.hid k1
        clear k0 k1
        by_cases hr : r = 2
        · subst hr
          have C := Lib.hid (show Bm.cutOf m 2 = (m, 0, 0, 0) by unfold Bm.cutOf; rw [if_neg (by have := HM.out; omega)]; simp)
          go_wp2_with fail
          refine (left_any m _ HM.out.1 HM.out.2).mono ?_
          rintro e w2 ⟨rfl, hg⟩
          have G2 := Lib.hid hg
          clear hg
          go_wp2
          (try simp only [Exit.inBlock, Exit.then]); refine bodyPost_ret (results_tmp4 rfl _ _ _) rfl ?_
          exact ⟨cutV_of C.out, grown_trans G1.out (grown_trans G.out (grown_trans (World.grownBy_alloc _ _ _) G2.out))⟩
        · have hb : ((2 : Int) == r) = false := by rw [beq_eq_false_iff_ne]; omega
          have NE2 := Lib.hid (show ∀ q : Int, 1 ≤ q → q ≤ (k + 1 : Nat) → r ≠ q from fun q h1 h2 => by have := KE.out; by_cases e : q ≤ k; exact NE.out q h1 e; omega)
          clear hr
          go_wp2
          go_roundw
          case rel => exact ⟨k + 1, by go_num, by omega, NE2, Lib.hid (grown_trans G.out (World.grownBy_alloc _ _ _))⟩
          case measure => simp [intOf]; omega
      by_cases k2 : k = 2
      · obtain ⟨c0, c1⟩ := ((RC.out.grown G.out) k).2.2.1 k2
        have KE := Lib.hid k2
        clear k0 k1 k2
        by_cases hr : r = 3
        · subst hr
          have C := Lib.hid (show Bm.cutOf m 3 = (0, m, 0, 0) by unfold Bm.cutOf; rw [if_neg (by have := HM.out; omega)]; simp)
          go_wp2_with fail
          refine (right_any m _ HM.out.1 HM.out.2).mono ?_
          rintro e w2 ⟨rfl, hg⟩
          have G2 := Lib.hid hg
          clear hg
          go_wp2
          (try simp only [Exit.inBlock, Exit.then]); refine bodyPost_ret (results_tmp4 rfl _ _ _) rfl ?_
          exact ⟨cutV_of C.out, grown_trans G1.out (grown_trans G.out (grown_trans (World.grownBy_alloc _ _ _) G2.out))⟩
        · have hb : ((3 : Int) == r) = false := by rw [beq_eq_false_iff_ne]; omega
          have NE2 := Lib.hid (show ∀ q : Int, 1 ≤ q → q ≤ (k + 1 : Nat) → r ≠ q from fun q h1 h2 => by have := KE.out; by_cases e : q ≤ k; exact NE.out q h1 e; omega)
          clear hr
          go_wp2
          go_roundw
          case rel => exact ⟨k + 1, by go_num, by omega, NE2, Lib.hid (grown_trans G.out (World.grownBy_alloc _ _ _))⟩
          case measure => simp [intOf]; omega
      by_cases k3 : k = 3
      · obtain ⟨c0, c1⟩ := ((RC.out.grown G.out) k).2.2.2.1 k3
        have KE := Lib.hid k3
        clear k0 k1 k2 k3
        by_cases hr : r = 4
        · subst hr
          have C := Lib.hid (show Bm.cutOf m 4 = (0, 0, m, 0) by unfold Bm.cutOf; rw [if_neg (by have := HM.out; omega)]; simp)
          go_wp2_with fail
          refine (slop_any m _ HM.out.1 HM.out.2).mono ?_
          rintro e w2 ⟨rfl, hg⟩
          have G2 := Lib.hid hg
          clear hg
          go_wp2
          (try simp only [Exit.inBlock, Exit.then]); refine bodyPost_ret (results_tmp4 rfl _ _ _) rfl ?_
          exact ⟨cutV_of C.out, grown_trans G1.out (grown_trans G.out (grown_trans (World.grownBy_alloc _ _ _) G2.out))⟩
        · have hb : ((4 : Int) == r) = false := by rw [beq_eq_false_iff_ne]; omega
          have NE2 := Lib.hid (show ∀ q : Int, 1 ≤ q → q ≤ (k + 1 : Nat) → r ≠ q from fun q h1 h2 => by have := KE.out; by_cases e : q ≤ k; exact NE.out q h1 e; omega)
          clear hr
          go_wp2
          go_roundw
          case rel => exact ⟨k + 1, by go_num, by omega, NE2, Lib.hid (grown_trans G.out (World.grownBy_alloc _ _ _))⟩
          case measure => simp [intOf]; omega
      by_cases k4 : k = 4
      · obtain ⟨c0, c1⟩ := ((RC.out.grown G.out) k).2.2.2.2 k4
        have KE := Lib.hid k4
        clear k0 k1 k2 k3 k4
        by_cases hr : r = 5
        · subst hr
          have C := Lib.hid (show Bm.cutOf m 5 = (m / 3, m / 3, m - 2 * (m / 3), 0) by unfold Bm.cutOf; rw [if_neg (by have := HM.out; omega)]; simp)
          go_wp2_with fail
          refine (third_any m _ HM.out.1 HM.out.2).mono ?_
          rintro e w2 ⟨rfl, hg⟩
          have G2 := Lib.hid hg
          clear hg
          go_wp2
          (try simp only [Exit.inBlock, Exit.then]); refine bodyPost_ret (results_tmp4 rfl _ _ _) rfl ?_
          exact ⟨cutV_of C.out, grown_trans G1.out (grown_trans G.out (grown_trans (World.grownBy_alloc _ _ _) G2.out))⟩
        · have hb : ((5 : Int) == r) = false := by rw [beq_eq_false_iff_ne]; omega
          have NE2 := Lib.hid (show ∀ q : Int, 1 ≤ q → q ≤ (k + 1 : Nat) → r ≠ q from fun q h1 h2 => by have := KE.out; by_cases e : q ≤ k; exact NE.out q h1 e; omega)
          clear hr
          go_wp2
          go_roundw
          case rel => exact ⟨k + 1, by go_num, by omega, NE2, Lib.hid (grown_trans G.out (World.grownBy_alloc _ _ _))⟩
          case measure => simp [intOf]; omega
      omega
    · obtain rfl : k = 5 := by omega
      have C := Lib.hid (show Bm.cutOf m r = (0, 0, 0, 3) by have := HM.out; have n1 := NE.out 1 (by omega) (by omega); have n2 := NE.out 2 (by omega) (by omega); have n3 := NE.out 3 (by omega) (by omega); have n4 := NE.out 4 (by omega) (by omega); have n5 := NE.out 5 (by omega) (by omega); unfold Bm.cutOf; rw [if_neg (by omega), if_neg n1, if_neg n2, if_neg n3, if_neg n4, if_neg n5])
      go_wp2
      (try simp only [Exit.inBlock, Exit.then]); refine bodyPost_ret (results_tmp4 rfl _ _ _) rfl ?_
      exact ⟨cutV_of C.out, grown_trans G1.out G.out⟩
end Go.Proofs.Ytagemdgbnajobaa
