/- The statements' awake, of stage 17. -/
import Derived.Test.YtafkagaakjfkoaaDi
namespace Go.Proofs.Ytafkagaakjfkoaa
open Go.ChangeShapes Go.WideShapes Go.ChangeAt Go.RowKit

/-- A literal of numbers. -/
theorem nr_new (w : World) (l : List Int) {A : Nat} {cs : Array Value} (hA : A = w.heap.size) (hc : (ni l).toArray = cs) (hl : l.length ≤ 1000) : NR (w.alloc (.cells cs 3)) ⟨some ⟨A, 0, none⟩, l.length, l.length⟩ l := by
  subst hA; subst hc
  refine ⟨⟨Nat.le_refl _, by dsimp only; omega⟩, rfl, fun j u hu => ⟨w.heap.size, 0, rfl, ?_⟩⟩
  rw [Nat.zero_add]
  have h1 : (ni l).toArray[j]? = some u := by simpa using hu
  simp [h1]
/-- A literal of pieces. -/
theorem fr_lit (w : World) (f : List Fm.Pc) {A : Nat} {cs : Array Value} (hA : A = w.heap.size) (hc : (f2 f).toArray = cs) (hl : f.length ≤ 1000) : FR (w.alloc (.cells cs 38)) ⟨some ⟨A, 0, none⟩, f.length, f.length⟩ f := by
  subst hA; subst hc
  refine ⟨⟨Nat.le_refl _, by dsimp only; omega⟩, rfl, fun j u hu => ⟨w.heap.size, 0, rfl, ?_⟩⟩
  rw [Nat.zero_add]
  have h1 : (f2 f).toArray[j]? = some u := by simpa using hu
  simp [h1]
/-- A literal of two rows. -/
theorem rr_two {w : World} {A : Nat} {u v : Sl} {f g : List Fm.Pc} (hA : A = w.heap.size) (hu : FR w u f) (hv : FR w v g) : RR (w.alloc (.cells #[u.v, v.v] 23)) ⟨some ⟨A, 0, none⟩, 2, 2⟩ [f, g] := by
  subst hA
  have ga := World.grownBy_alloc w (.cells #[u.v, v.v] 23) none
  refine ⟨⟨Nat.le_refl _, by dsimp only; omega⟩, rfl, fun i hi => ?_⟩
  match i, hi with
  | 0, _ => exact ⟨w.heap.size, 0, u, rfl, by simp, hu.grown ga⟩
  | 1, _ => exact ⟨w.heap.size, 0, v, rfl, by simp, hv.grown ga⟩
theorem ex_rok : Rok [3, 1] 3 := ⟨by decide, fun i hi => by
  match i, hi with
  | 0, _ => exact ⟨by decide, by decide⟩
  | 1, _ => exact ⟨by decide, by decide⟩, by decide, by decide, by decide⟩
theorem ex_chk : chk [3, 1] 3 = 0 := chk_ok.2 ex_rok
theorem ex_cnt : cntF [3, 1] 3 = [3, 0] := by unfold cntF; rw [if_pos ex_chk]; decide
theorem ex_merged : merged [(5, 2), (6, 2)] = [(5, 2), (6, 2)] := by
  rw [merged_yes ⟨by decide, fun p hp => by simp at hp; rcases hp with rfl | rfl <;> exact ⟨by decide, by decide, by decide, by decide⟩⟩]
  decide
theorem ex_dchk : dchk [(5, 2), (6, 2)] [3, 1] = 0 := by
  unfold dchk
  rw [ex_merged, if_neg (by decide)]
  exact chk_ok.2 ⟨by decide, ex_rok.ok, by decide, by decide, by decide⟩
theorem ex_deal : dealF [(5, 2), (6, 2)] [3, 1] = [[(5, 2), (6, 1)], [(6, 1)]] := by
  unfold dealF
  rw [if_pos ex_dchk, ex_merged]
  decide
theorem i64_two (i : Nat) : IsI64 (([3, 1] : List Int).getD i 0) := by
  match i with
  | 0 => exact ⟨by decide, by decide⟩
  | 1 => exact ⟨by decide, by decide⟩
  | i + 2 => exact ⟨by simp [List.getD], by simp [List.getD]⟩

set_option maxRecDepth 100000 in
set_option maxHeartbeats 1000000 in
theorem awake17_any (w : World) : Calls Try.prog 9 #[] w (Ret (.bool true) w) := by
  go_enter Try.func9, Try.ntmps9
  go_wp2_with fail
  have F1 := Lib.hid (nr_new w [3, 1] (A := w.heap.size) (cs := #[.int .i64 3, .int .i64 1]) rfl rfl (by decide))
  refine (dcounts_any ⟨some ⟨w.heap.size, 0, none⟩, 2, 2⟩ _ 3 _ F1.out i64_two ⟨by omega, by omega⟩).mono ?_
  rw [ex_cnt, ex_chk]
  rintro e w1 ⟨⟨ra, rn, rc⟩, rfl, hr, hg⟩
  have R := Lib.hid hr
  have G := Lib.hid (grown_trans (World.grownBy_alloc w _ none) hg)
  clear hr hg F1
  dsimp only [Sl.v]
  go_wp2_with fail
  have g1 := World.grownBy_alloc w1 (.cells #[.int .i64 5, .int .i64 2, .int .i64 6, .int .i64 2] 38) none
  have F2 := Lib.hid (fr_lit w1 [(5, 2), (6, 2)] (A := w1.heap.size) (cs := #[.int .i64 5, .int .i64 2, .int .i64 6, .int .i64 2]) rfl rfl (by decide))
  have F3 := Lib.hid (nr_new (w1.alloc (.cells #[.int .i64 5, .int .i64 2, .int .i64 6, .int .i64 2] 38)) [3, 1] (A := w1.heap.size + 1) (cs := #[.int .i64 3, .int .i64 1]) (by simp) rfl (by decide))
  refine (ddeal_any ⟨some ⟨w1.heap.size, 0, none⟩, 2, 2⟩ ⟨some ⟨w1.heap.size + 1, 0, none⟩, 2, 2⟩ _ _ _ (F2.out.grown (World.grownBy_alloc _ _ _)) F3.out i64_two).mono ?_
  rw [ex_deal, ex_dchk]
  rintro e w2 ⟨⟨da, dn, dc⟩, rfl, hd, hg⟩
  have D := Lib.hid hd
  replace R := Lib.hid (R.out.grown (grown_trans (grown_trans g1 (World.grownBy_alloc _ _ _)) hg))
  replace G := Lib.hid (grown_trans G.out (grown_trans (grown_trans g1 (World.grownBy_alloc _ _ _)) hg))
  clear hd hg F2 F3 g1
  dsimp only [Sl.v]
  go_wp2_with fail
  have I2 := Lib.hid (nr_new w2 [3, 0] (A := w2.heap.size) (cs := #[.int .i64 3, .int .i64 0]) rfl rfl (by decide))
  refine (ints_any _ _ _ _ _ (R.out.grown (World.grownBy_alloc _ _ _)).sl I2.out.sl (by decide) (by decide)).mono ?_
  rw [show eqB [3, 0] [3, 0] = true by decide]
  rintro e w3 ⟨rfl, q3, rfl⟩
  have g3 := grown_trans (World.grownBy_alloc w2 (.cells #[.int .i64 3, .int .i64 0] 3) none) (grown_drewN _ q3 none)
  obtain ⟨w3, hw3⟩ : ∃ w3, w3 = (w2.alloc (.cells #[.int .i64 3, .int .i64 0] 3)).drewN q3 := ⟨_, rfl⟩
  rw [← hw3] at g3 ⊢
  replace D := Lib.hid (D.out.grown g3)
  replace G := Lib.hid (grown_trans G.out g3)
  clear I2 R g3 hw3
  go_wp2_with fail
  have ga := World.grownBy_alloc w3 (.cells #[.int .i64 5, .int .i64 2, .int .i64 6, .int .i64 1] 38) none
  have gb := World.grownBy_alloc (w3.alloc (.cells #[.int .i64 5, .int .i64 2, .int .i64 6, .int .i64 1] 38)) (.cells #[.int .i64 6, .int .i64 1] 38) none
  have gc := World.grownBy_alloc ((w3.alloc (.cells #[.int .i64 5, .int .i64 2, .int .i64 6, .int .i64 1] 38)).alloc (.cells #[.int .i64 6, .int .i64 1] 38)) (.cells #[(⟨some ⟨w3.heap.size, 0, none⟩, 2, 2⟩ : Sl).v, (⟨some ⟨w3.heap.size + 1, 0, none⟩, 1, 1⟩ : Sl).v] 23) none
  have P1 := fr_lit w3 [(5, 2), (6, 1)] (A := w3.heap.size) (cs := #[.int .i64 5, .int .i64 2, .int .i64 6, .int .i64 1]) rfl rfl (by decide)
  have P2 := fr_lit (w3.alloc (.cells #[.int .i64 5, .int .i64 2, .int .i64 6, .int .i64 1] 38)) [(6, 1)] (A := w3.heap.size + 1) (cs := #[.int .i64 6, .int .i64 1]) (by simp) rfl (by decide)
  have L := rr_two (A := w3.heap.size + 1 + 1) (by simp) (P1.grown gb) P2
  refine (rsameR_any ⟨da, dn, dc⟩ ⟨some ⟨w3.heap.size + 1 + 1, 0, none⟩, 2, 2⟩ _ _ _ (D.out.grown (grown_trans (grown_trans ga gb) gc)) L).mono ?_
  rw [sameRB_refl]
  rintro e w4 ⟨rfl, hg⟩
  have GG := Lib.hid (grown_trans G.out (grown_trans (grown_trans (grown_trans ga gb) gc) hg))
  clear ga gb gc P1 P2 L hg
  go_wp2
  go_ret
  exact ⟨rfl, GG.out⟩
end Go.Proofs.Ytafkagaakjfkoaa
