/- The statements' awake. -/
import Derived.Test.YtaghcdelnjjncaaFp
namespace Go.Proofs.Ytaghcdelnjjncaa
open Go.ChangeShapes Go.WideShapes Go.ChangeAt Go.RowKit

/-- A literal of pieces. -/
theorem fr_new (w : World) (f : List Fm.Pc) {A : Nat} {cs : Array Value} (hA : A = w.heap.size) (hc : (f2 f).toArray = cs) (hl : f.length ≤ 1000) : FR (w.alloc (.cells cs 30)) ⟨some ⟨A, 0, none⟩, f.length, f.length⟩ f := by
  subst hA; subst hc
  refine ⟨⟨Nat.le_refl _, by dsimp only; omega⟩, rfl, fun j u hu => ⟨w.heap.size, 0, rfl, ?_⟩⟩
  rw [Nat.zero_add]
  have h1 : (f2 f).toArray[j]? = some u := by simpa using hu
  simp [h1]
theorem sameB_refl (f : List Fm.Pc) : sameB f f = true := by unfold sameB; simp
theorem aw_val1 : Fm.Val [(1, 60), (2, 40)] := ⟨by decide, fun p hp => by simp at hp; rcases hp with rfl | rfl <;> exact ⟨by decide, by decide, by decide, by decide⟩, ⟨by decide, fun q hq => by simp at hq; subst hq; decide, by decide, fun q hq => by simp at hq, trivial⟩, by decide⟩
theorem aw_val2 : Fm.Val [(3, 50)] := ⟨by decide, fun p hp => by simp at hp; subst hp; exact ⟨by decide, by decide, by decide, by decide⟩, ⟨by decide, fun q hq => by simp at hq, trivial⟩, by decide⟩
theorem aw_a : Fm.mer (Fm.shift (Fm.lit [(1, 60), (2, 40)]) (Fm.lit [(3, 50)]) false).1 = [(3, 50), (1, 50)] := by decide +kernel
theorem aw_b : Fm.mer (Fm.shift (Fm.lit [(1, 60), (2, 40)]) (Fm.lit [(3, 50)]) false).2 = [(1, 10), (2, 40)] := by decide +kernel
theorem aw_c : Fm.mer (Fm.shift (Fm.lit [(1, 60), (2, 40)]) (Fm.lit [(3, 50)]) true).1 = [(1, 10), (2, 40), (3, 50)] := by decide +kernel
theorem aw_d : Fm.mer (Fm.shift (Fm.lit [(1, 60), (2, 40)]) (Fm.lit [(3, 50)]) true).2 = [(1, 50)] := by decide +kernel
theorem aw_false : Pushed [(1, 60), (2, 40)] [(3, 50)] false [(3, 50), (1, 50)] [(1, 10), (2, 40)] 0 := by
  have h := Pushed.ok (back := false) aw_val1 aw_val2 (by rw [aw_a]; decide) (by rw [aw_b]; decide)
  rw [aw_a, aw_b] at h; exact h
theorem aw_true : Pushed [(1, 60), (2, 40)] [(3, 50)] true [(1, 10), (2, 40), (3, 50)] [(1, 50)] 0 := by
  have h := Pushed.ok (back := true) aw_val1 aw_val2 (by rw [aw_c]; decide) (by rw [aw_d]; decide)
  rw [aw_c, aw_d] at h; exact h
set_option maxRecDepth 100000 in
set_option maxHeartbeats 1000000 in
theorem awake_any (w : World) : Calls Try.prog 10 #[] w (Ret (.bool true) w) := by
  go_enter Try.func10, Try.ntmps10
  go_wp2_with fail
  have F1 := Lib.hid ((fr_new w [(1, 60), (2, 40)] (A := w.heap.size) (cs := #[.int .i64 1, .int .i64 60, .int .i64 2, .int .i64 40]) rfl rfl (by decide)).grown (World.grownBy_alloc _ (.cells #[.int .i64 3, .int .i64 50] 30) none))
  have F2 := Lib.hid (fr_new (w.alloc (.cells #[.int .i64 1, .int .i64 60, .int .i64 2, .int .i64 40] 30)) [(3, 50)] (A := w.heap.size + 1) (cs := #[.int .i64 3, .int .i64 50]) (by simp) rfl (by decide))
  refine (ppush_any ⟨some ⟨w.heap.size, 0, none⟩, 2, 2⟩ ⟨some ⟨w.heap.size + 1, 0, none⟩, 1, 1⟩ _ _ false _ F1.out F2.out aw_false).mono ?_
  rintro e w1 ⟨⟨aa, an, ac⟩, ⟨ba, bn, bc⟩, rfl, ha, hb, hg⟩
  have A := Lib.hid ha
  have B := Lib.hid hb
  have F3 := Lib.hid (F1.out.grown hg)
  have G1 := Lib.hid (grown_trans (grown_trans (World.grownBy_alloc w _ none) (World.grownBy_alloc _ _ none)) hg)
  clear ha hb hg F1 F2
  dsimp only [Sl.v]
  obtain ⟨N0, hN0⟩ : ∃ x, x = w.heap.size := ⟨_, rfl⟩
  rw [← hN0] at F3 ⊢
  clear hN0
  go_wp2_with fail
  refine (ppush_any ⟨some ⟨N0, 0, none⟩, 2, 2⟩ ⟨some ⟨w1.heap.size, 0, none⟩, 1, 1⟩ _ _ true _ (F3.out.grown (World.grownBy_alloc _ _ _)) (fr_new w1 [(3, 50)] (cs := #[.int .i64 3, .int .i64 50]) rfl rfl (by decide)) aw_true).mono ?_
  rintro e w2 ⟨⟨ca, cn, cc⟩, ⟨da, dn, dc⟩, rfl, hc, hd, hg⟩
  have C := Lib.hid hc
  have D := Lib.hid hd
  have GA := Lib.hid (grown_trans (World.grownBy_alloc w1 _ none) hg)
  have A2 := Lib.hid (A.out.grown GA.out)
  have B2 := Lib.hid (B.out.grown GA.out)
  have G2 := Lib.hid (grown_trans G1.out GA.out)
  clear hc hd hg A B G1 GA F3
  dsimp only [Sl.v]
  go_wp2_with fail
  refine (rsame_any ⟨aa, an, ac⟩ ⟨some ⟨w2.heap.size, 0, none⟩, 2, 2⟩ _ _ _ (A2.out.grown (World.grownBy_alloc _ _ _)) (fr_new w2 [(3, 50), (1, 50)] (cs := #[.int .i64 3, .int .i64 50, .int .i64 1, .int .i64 50]) rfl rfl (by decide))).mono ?_
  rw [sameB_refl]
  rintro e w3 ⟨rfl, hg⟩
  have GA := Lib.hid (grown_trans (World.grownBy_alloc w2 _ none) hg)
  have B3 := Lib.hid (B2.out.grown GA.out)
  have C3 := Lib.hid (C.out.grown GA.out)
  have D3 := Lib.hid (D.out.grown GA.out)
  have G3 := Lib.hid (grown_trans G2.out GA.out)
  clear hg A2 B2 C D G2 GA
  go_wp2_with fail
  refine (rsame_any ⟨ba, bn, bc⟩ ⟨some ⟨w3.heap.size, 0, none⟩, 2, 2⟩ _ _ _ (B3.out.grown (World.grownBy_alloc _ _ _)) (fr_new w3 [(1, 10), (2, 40)] (cs := #[.int .i64 1, .int .i64 10, .int .i64 2, .int .i64 40]) rfl rfl (by decide))).mono ?_
  rw [sameB_refl]
  rintro e w4 ⟨rfl, hg⟩
  have GA := Lib.hid (grown_trans (World.grownBy_alloc w3 _ none) hg)
  have C4 := Lib.hid (C3.out.grown GA.out)
  have D4 := Lib.hid (D3.out.grown GA.out)
  have G4 := Lib.hid (grown_trans G3.out GA.out)
  clear hg B3 C3 D3 G3 GA
  go_wp2_with fail
  refine (rsame_any ⟨ca, cn, cc⟩ ⟨some ⟨w4.heap.size, 0, none⟩, 3, 3⟩ _ _ _ (C4.out.grown (World.grownBy_alloc _ _ _)) (fr_new w4 [(1, 10), (2, 40), (3, 50)] (cs := #[.int .i64 1, .int .i64 10, .int .i64 2, .int .i64 40, .int .i64 3, .int .i64 50]) rfl rfl (by decide))).mono ?_
  rw [sameB_refl]
  rintro e w5 ⟨rfl, hg⟩
  have GA := Lib.hid (grown_trans (World.grownBy_alloc w4 _ none) hg)
  have D5 := Lib.hid (D4.out.grown GA.out)
  have G5 := Lib.hid (grown_trans G4.out GA.out)
  clear hg C4 D4 G4 GA
  go_wp2_with fail
  refine (rsame_any ⟨da, dn, dc⟩ ⟨some ⟨w5.heap.size, 0, none⟩, 1, 1⟩ _ _ _ (D5.out.grown (World.grownBy_alloc _ _ _)) (fr_new w5 [(1, 50)] (cs := #[.int .i64 1, .int .i64 50]) rfl rfl (by decide))).mono ?_
  rw [sameB_refl]
  rintro e w6 ⟨rfl, hg⟩
  have G6 := Lib.hid (grown_trans G5.out (grown_trans (World.grownBy_alloc w5 _ none) hg))
  clear hg D5 G5
  go_wp2
  go_ret
  exact ⟨rfl, G6.out⟩
end Go.Proofs.Ytaghcdelnjjncaa
