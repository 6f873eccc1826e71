/- Contracts of package piece's Valid, Volume, At, Batch. -/
import Derived.Test.YtagemdgbnajobaaFl
namespace Go.Proofs.Ytagemdgbnajobaa
open Go.ChangeShapes Go.WideShapes Go.ChangeAt Go.RowKit

theorem okp_okm {p : Fm.Pc} (h : Fm.okp p) : okm p := by unfold Fm.okp at h; unfold okm; omega
theorem val_mok {f : List Fm.Pc} (h : Fm.Val f) : Mok f := ⟨by have := h.len; omega, fun p hp => okp_okm (h.ok p hp)⟩
theorem merged_fix {f : List Fm.Pc} (h : Fm.Val f) : merged f = f := by rw [merged_yes (val_mok h), Fm.mer_lit h.mgd]
theorem merged_same {f : List Fm.Pc} (h : merged f = f) : Mok f ∧ Fm.Mgd f := by
  by_cases m : Mok f
  · rw [merged_yes m] at h
    exact ⟨m, by rw [← h]; exact Fm.mer_mgd _⟩
  · have e := merged_no m
    rw [h] at e
    subst e
    exact absurd ⟨by simp, fun p hp => by cases hp⟩ m
theorem valid_sum {f : List Fm.Pc} (h : merged f = f) (hl : f.length ≤ 200) : Fm.valid f = decide (Fm.vol f ≤ 1000000) := by
  obtain ⟨m, g⟩ := merged_same h
  by_cases e : Fm.vol f ≤ 1000000
  · rw [Fm.valid_yes ⟨hl, fun p hp => ?_, g, e⟩, decide_eq_true e]
    have h1 := m.ok p hp
    have h2 := g.one p hp
    unfold okm at h1
    unfold Fm.okp
    omega
  · rw [Fm.valid_no (fun v => e v.vol), decide_eq_false e]

theorem pvalid_any (s : Sl) (f : List Fm.Pc) (w : World) (h : FR w s f) : Calls Try.prog 30 #[s.v] w (Ret (.bool (Fm.valid f)) w) := by
  have HF := Lib.hid h
  have fit := h.fit
  have hlen := h.len
  clear h
  obtain ⟨a, n, c⟩ := s
  dsimp only [Sl.fit] at fit hlen
  by_cases hl : n ≤ 200
  · have e200 : (n : Int) ≤ 200 := by omega
    by_cases hm : merged f = f
    · have SB := Lib.hid (show sameB (merged f) f = true by unfold sameB; rw [decide_eq_true_eq]; exact hm)
      have V := Lib.hid (valid_sum hm (by omega))
      have MP := Lib.hid (merged_same hm).1.pos
      have MV := Lib.hid (merged_same hm).1.vol
      clear hm
      unfold Sl.v
      dsimp only
      go_enter Try.func30, Try.ntmps30
      go_wp2_with fail
      refine (pmerged_any ⟨a, n, c⟩ f w HF.out).mono ?_
      rintro e w1 ⟨⟨ra, rn, rc⟩, rfl, hr, hg⟩
      have G := Lib.hid hg
      have R := Lib.hid hr.fr
      clear hg hr
      dsimp only [Sl.v]
      go_wp2_with fail
      refine (equal_any ⟨ra, rn, rc⟩ ⟨a, n, c⟩ (merged f) f w1 R.out (HF.out.grown G.out)).mono ?_
      rintro e w2 ⟨rfl, hg⟩
      have G2 := Lib.hid (grown_trans G.out hg)
      clear hg
      rw [SB.out]
      go_wp2_with fail
      refine (litres_any ⟨a, n, c⟩ f w2 (HF.out.grown G2.out) MP.out (by have := MV.out; omega)).mono ?_
      rintro e w3 ⟨rfl, hg⟩
      have G3 := Lib.hid (grown_trans G2.out hg)
      clear hg
      by_cases hv : Fm.vol f ≤ 1000000
      · go_wp2
        go_ret
        exact ⟨ret_bool (by rw [V.out]; simp [hv]), G3.out⟩
      · have hv2 : decide (Fm.vol f ≤ 1000000) = false := decide_eq_false hv
        go_wp2
        go_ret
        exact ⟨ret_bool (by rw [V.out]; simp [hv]), G3.out⟩
    · have SB := Lib.hid (show sameB (merged f) f = false by unfold sameB; rw [decide_eq_false_iff_not]; exact hm)
      have V := Lib.hid (Fm.valid_no (f := f) (fun v => hm (merged_fix v)))
      clear hm
      unfold Sl.v
      dsimp only
      go_enter Try.func30, Try.ntmps30
      go_wp2_with fail
      refine (pmerged_any ⟨a, n, c⟩ f w HF.out).mono ?_
      rintro e w1 ⟨⟨ra, rn, rc⟩, rfl, hr, hg⟩
      have G := Lib.hid hg
      have R := Lib.hid hr.fr
      clear hg hr
      dsimp only [Sl.v]
      go_wp2_with fail
      refine (equal_any ⟨ra, rn, rc⟩ ⟨a, n, c⟩ (merged f) f w1 R.out (HF.out.grown G.out)).mono ?_
      rintro e w2 ⟨rfl, hg⟩
      have G2 := Lib.hid (grown_trans G.out hg)
      clear hg
      rw [SB.out]
      go_wp2
      go_ret
      exact ⟨ret_bool V.out.symm, G2.out⟩
  · have V := Lib.hid (Fm.valid_no (f := f) (fun v => by have := v.len; omega))
    have e200 : decide ((n : Int) ≤ 200) = false := decide_eq_false (by omega)
    unfold Sl.v
    dsimp only
    go_enter Try.func30, Try.ntmps30
    go_wp2
    go_ret
    exact ⟨ret_bool V.out.symm, grown_refl _ _⟩

end Go.Proofs.Ytagemdgbnajobaa
