/- The statements' awake, of stage 15. -/
import Derived.Test.YtagemdgbnajobaaHd
namespace Go.Proofs.Ytagemdgbnajobaa
open Go.ChangeShapes Go.WideShapes Go.ChangeAt Go.RowKit

theorem ex_val : Fm.Val [(1, 60), (2, 40), (1, 5)] := ⟨by decide, fun p hp => by simp at hp; rcases hp with rfl | rfl | rfl <;> exact ⟨by decide, by decide, by decide, by decide⟩, ⟨by decide, fun q hq => by simp at hq; subst hq; decide, by decide, fun q hq => by simp at hq; subst hq; decide, by decide, fun q hq => by simp at hq, trivial⟩, by decide⟩
theorem ex_list : listOf [(1, 60), (2, 40), (1, 5)] = [(60, 1, 2), (100, 2, 1)] := by unfold listOf; rw [if_pos (Fm.valid_yes ex_val)]; decide
theorem ex_inv : invOf [(1, 60), (2, 40), (1, 5)] = 0 := if_pos (Fm.valid_yes ex_val)
theorem ex_ahead : aheadV [(1, 60), (2, 40), (1, 5)] 2 true = 60 ∧ aheadE [(1, 60), (2, 40), (1, 5)] 2 true = 0 := by
  unfold aheadV aheadE
  rw [if_pos (Fm.valid_yes ex_val), if_pos (Fm.valid_yes ex_val)]
  decide
theorem ex_cut : cutV 8 5 = .tuple #[.int .i64 2, .int .i64 2, .int .i64 4, .int .i64 0] := by
  unfold cutV
  rw [show Bm.cutOf 8 5 = (2, 2, 4, 0) by decide]
theorem ex_mix {r c : Int} (h : MixOf 4 101 r c) : r = 21 ∧ c = 0 :=
  mixOf_one h (.inl ⟨by omega, rfl, ⟨by omega, by omega, by decide, fun _ => by decide⟩⟩)
set_option maxRecDepth 100000 in
set_option maxHeartbeats 1000000 in
theorem awake15_any (w : World) : Calls Try.prog 9 #[] w (Ret (.bool true) w) := by
  go_enter Try.func9, Try.ntmps9
  go_wp2_with fail
  have F1 := Lib.hid (fr_new w [(1, 60), (2, 40), (1, 5)] (A := w.heap.size) (cs := #[.int .i64 1, .int .i64 60, .int .i64 2, .int .i64 40, .int .i64 1, .int .i64 5]) rfl rfl (by decide))
  refine (blist_any ⟨some ⟨w.heap.size, 0, none⟩, 3, 3⟩ _ _ F1.out).mono ?_
  rw [ex_list, ex_inv]
  rintro e w1 ⟨⟨ra, rn, rc⟩, rfl, hr, hg⟩
  have R := Lib.hid hr
  have F2 := Lib.hid (F1.out.grown hg)
  have G := Lib.hid (grown_trans (World.grownBy_alloc w _ none) hg)
  clear hr hg F1
  dsimp only [Sl.v]
  obtain ⟨N0, hN0⟩ : ∃ x, x = w.heap.size := ⟨_, rfl⟩
  rw [← hN0] at F2 ⊢
  clear hN0
  go_wp2_with fail
  refine (bahead_any ⟨some ⟨N0, 0, none⟩, 3, 3⟩ _ 2 true _ F2.out ⟨by omega, by omega⟩).mono ?_
  rw [ex_ahead.1, ex_ahead.2]
  rintro e w2 ⟨rfl, hg⟩
  replace R := Lib.hid (R.out.grown hg)
  replace G := Lib.hid (grown_trans G.out hg)
  clear hg F2
  go_wp2_with fail
  refine (bcut_any 8 5 w2 ⟨by omega, by omega⟩ ⟨by omega, by omega⟩).mono ?_
  rw [ex_cut]
  rintro e w3 ⟨rfl, hg⟩
  replace R := Lib.hid (R.out.grown hg)
  replace G := Lib.hid (grown_trans G.out hg)
  clear hg
  go_wp2_with fail
  refine (bmixture_any 4 101 w3 ⟨by omega, by omega⟩ ⟨by omega, by omega⟩).mono ?_
  rintro e w4 ⟨r, c, rfl, hm, hg⟩
  obtain ⟨rfl, rfl⟩ := ex_mix hm
  replace R := Lib.hid (R.out.grown hg)
  replace G := Lib.hid (grown_trans G.out hg)
  clear hg hm
  go_wp2_with fail
  refine (rsameL_any ⟨ra, rn, rc⟩ ⟨some ⟨w4.heap.size, 0, none⟩, 2, 2⟩ _ _ _ (R.out.grown (World.grownBy_alloc _ _ _)) (br_new w4 [(60, 1, 2), (100, 2, 1)] (cs := #[.int .i64 60, .int .i64 1, .int .i64 2, .int .i64 100, .int .i64 2, .int .i64 1]) rfl rfl (by decide))).mono ?_
  rw [sameL_refl]
  rintro e w5 ⟨rfl, hg⟩
  replace G := Lib.hid (grown_trans G.out (grown_trans (World.grownBy_alloc w4 _ none) hg))
  clear hg R
  go_wp2
  go_ret
  exact ⟨rfl, G.out⟩
end Go.Proofs.Ytagemdgbnajobaa
