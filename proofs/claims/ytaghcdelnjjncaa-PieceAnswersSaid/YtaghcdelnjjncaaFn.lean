/- Contracts of package piece's Valid, Volume, At, Batch. -/
import Derived.Test.YtaghcdelnjjncaaFl
namespace Go.Proofs.Ytaghcdelnjjncaa
open Go.ChangeShapes Go.WideShapes Go.ChangeAt Go.RowKit

theorem okp_okm {p : Fm.Pc} (h : Fm.okp p) : okm p := by unfold Fm.okp at h; unfold okm; omega
theorem val_mok {f : List Fm.Pc} (h : Fm.Val f) : Mok f := ⟨by have := h.len; omega, fun p hp => okp_okm (h.ok p hp)⟩
theorem merged_fix {f : List Fm.Pc} (h : Fm.Val f) : merged f = f := by rw [merged_yes (val_mok h), Fm.mer_lit h.mgd]
theorem merged_same {f : List Fm.Pc} (h : merged f = f) : Mok f ∧ Fm.Mgd f := by
  by_cases m : Mok f
  · rw [merged_yes m] at h
    exact ⟨m, by rw [← h]; exact Fm.mer_mgd _⟩
  · have e := merged_no m
    rw [h] at e
    subst e
    exact absurd ⟨by simp, fun p hp => by cases hp⟩ m
theorem valid_sum {f : List Fm.Pc} (h : merged f = f) (hl : f.length ≤ 200) : Fm.valid f = decide (Fm.vol f ≤ 1000000) := by
  obtain ⟨m, g⟩ := merged_same h
  by_cases e : Fm.vol f ≤ 1000000
  · rw [Fm.valid_yes ⟨hl, fun p hp => ?_, g, e⟩, decide_eq_true e]
    have h1 := m.ok p hp
    have h2 := g.one p hp
    unfold okm at h1
    unfold Fm.okp
    omega
  · rw [Fm.valid_no (fun v => e v.vol), decide_eq_false e]

theorem pvalid_any (s : Sl) (f : List Fm.Pc) (w : World) (h : FR w s f) : Calls Try.prog 15 #[s.v] w (Ret (.bool (Fm.valid f)) w) := by
  have HF := Lib.hid h
  have fit := h.fit
  have hlen := h.len
  clear h
  obtain ⟨a, n, c⟩ := s
  dsimp only [Sl.fit] at fit hlen
  by_cases hl : n ≤ 200
  · have e200 : (n : Int) ≤ 200 := by omega
    by_cases hm : merged f = f
    · have SB := Lib.hid (show sameB (merged f) f = true by unfold sameB; rw [decide_eq_true_eq]; exact hm)
      have V := Lib.hid (valid_sum hm (by omega))
      have MP := Lib.hid (merged_same hm).1.pos
      have MV := Lib.hid (merged_same hm).1.vol
      clear hm
      unfold Sl.v
      dsimp only
      go_enter Try.func15, Try.ntmps15
      go_wp2_with fail
      refine (pmerged_any ⟨a, n, c⟩ f w HF.out).mono ?_
      rintro e w1 ⟨⟨ra, rn, rc⟩, rfl, hr, hg⟩
      have G := Lib.hid hg
      have R := Lib.hid hr.fr
      clear hg hr
      dsimp only [Sl.v]
      go_wp2_with fail
      refine (equal_any ⟨ra, rn, rc⟩ ⟨a, n, c⟩ (merged f) f w1 R.out (HF.out.grown G.out)).mono ?_
      rintro e w2 ⟨rfl, hg⟩
      have G2 := Lib.hid (grown_trans G.out hg)
      clear hg
      rw [SB.out]
      go_wp2_with fail
      refine (litres_any ⟨a, n, c⟩ f w2 (HF.out.grown G2.out) MP.out (by have := MV.out; omega)).mono ?_
      rintro e w3 ⟨rfl, hg⟩
      have G3 := Lib.hid (grown_trans G2.out hg)
      clear hg
      by_cases hv : Fm.vol f ≤ 1000000
      · go_wp2
        go_ret
        exact ⟨ret_bool (by rw [V.out]; simp [hv]), G3.out⟩
      · have hv2 : decide (Fm.vol f ≤ 1000000) = false := decide_eq_false hv
        go_wp2
        go_ret
        exact ⟨ret_bool (by rw [V.out]; simp [hv]), G3.out⟩
    · have SB := Lib.hid (show sameB (merged f) f = false by unfold sameB; rw [decide_eq_false_iff_not]; exact hm)
      have V := Lib.hid (Fm.valid_no (f := f) (fun v => hm (merged_fix v)))
      clear hm
      unfold Sl.v
      dsimp only
      go_enter Try.func15, Try.ntmps15
      go_wp2_with fail
      refine (pmerged_any ⟨a, n, c⟩ f w HF.out).mono ?_
      rintro e w1 ⟨⟨ra, rn, rc⟩, rfl, hr, hg⟩
      have G := Lib.hid hg
      have R := Lib.hid hr.fr
      clear hg hr
      dsimp only [Sl.v]
      go_wp2_with fail
      refine (equal_any ⟨ra, rn, rc⟩ ⟨a, n, c⟩ (merged f) f w1 R.out (HF.out.grown G.out)).mono ?_
      rintro e w2 ⟨rfl, hg⟩
      have G2 := Lib.hid (grown_trans G.out hg)
      clear hg
      rw [SB.out]
      go_wp2
      go_ret
      exact ⟨ret_bool V.out.symm, G2.out⟩
  · have V := Lib.hid (Fm.valid_no (f := f) (fun v => by have := v.len; omega))
    have e200 : decide ((n : Int) ≤ 200) = false := decide_eq_false (by omega)
    unfold Sl.v
    dsimp only
    go_enter Try.func15, Try.ntmps15
    go_wp2
    go_ret
    exact ⟨ret_bool V.out.symm, grown_refl _ _⟩

theorem pvolume_any (s : Sl) (f : List Fm.Pc) (w : World) (h : FR w s f) : Calls Try.prog 17 #[s.v] w (Ret (.int .i64 (volume f)) w) := by
  have HF := Lib.hid h
  clear h
  unfold volume
  cases hv : Fm.valid f with
  | false =>
    have V := Lib.hid hv
    clear hv
    go_enter Try.func17, Try.ntmps17
    go_wp2_with fail
    refine (pvalid_any s f w HF.out).mono ?_
    rintro e w1 ⟨rfl, hg⟩
    have G := Lib.hid hg
    clear hg
    rw [V.out]
    go_wp2
    go_ret
    exact ⟨ret_int (by simp), G.out⟩
  | true =>
    have V := Lib.hid hv
    have hV := Fm.valid_iff.1 hv
    have P := Lib.hid hV.pos
    have B := Lib.hid (Val.sum hV)
    clear hv hV
    go_enter Try.func17, Try.ntmps17
    go_wp2_with fail
    refine (pvalid_any s f w HF.out).mono ?_
    rintro e w1 ⟨rfl, hg⟩
    have G := Lib.hid hg
    clear hg
    rw [V.out]
    go_wp2_with fail
    refine (litres_any s f w1 (HF.out.grown G.out) P.out B.out).mono ?_
    rintro e w2 ⟨rfl, hg⟩
    have G2 := Lib.hid hg
    clear hg
    go_wp2
    go_ret
    exact ⟨ret_int (by simp), grown_trans G.out G2.out⟩

theorem pat_any (s : Sl) (f : List Fm.Pc) (p : Int) (w : World) (h : FR w s f) (hp63 : p ≤ 9223372036854775807) : Calls Try.prog 22 #[s.v, .int .i64 p] w (Ret (.int .i64 (atOf f p)) w) := by
  have HF := Lib.hid h
  have fit := h.fit
  have hlen := h.len
  clear h
  unfold atOf
  by_cases h0 : p < 0
  · rw [show (if Fm.valid f = true then Fm.at_ (Fm.lit f) p else -1) = -1 by split; exact Fm.at_neg _ h0; rfl]
    go_enter Try.func22, Try.ntmps22
    go_wp2
    go_ret
    exact ⟨rfl, grown_refl _ _⟩
  · have e0 : decide (p < 0) = false := decide_eq_false h0
    cases hv : Fm.valid f with
    | false =>
      have V := Lib.hid hv
      clear hv
      go_enter Try.func22, Try.ntmps22
      go_wp2_with fail
      refine (pvalid_any s f w HF.out).mono ?_
      rintro e w1 ⟨rfl, hg⟩
      have G := Lib.hid hg
      clear hg
      rw [V.out]
      go_wp2
      go_ret
      exact ⟨ret_int (by simp), G.out⟩
    | true =>
      have V := Lib.hid hv
      have hV := Fm.valid_iff.1 hv
      have P := Lib.hid hV.pos
      clear hv hV
      obtain ⟨a, n, c⟩ := s
      dsimp only [Sl.fit] at fit hlen
      unfold Sl.v
      dsimp only
      go_enter Try.func22, Try.ntmps22
      go_wp2_with fail
      refine (pvalid_any ⟨a, n, c⟩ f w HF.out).mono ?_
      rintro e w1 ⟨rfl, hg⟩
      have G := Lib.hid hg
      clear hg
      rw [V.out]
      go_wp2_with fail
      refine (find_any ⟨a, n, c⟩ f p w1 (HF.out.grown G.out) P.out (by omega) hp63).mono ?_
      rintro e w2 ⟨i, x, rfl, hi, hg⟩
      have G2 := Lib.hid (grown_trans G.out hg)
      have I := Lib.hid hi
      have hin := hi.le
      clear hg hi
      by_cases he : i = n
      · subst he
        have E := Lib.hid (Fm.at_end (l := Fm.lit f) (k := p) (by have h1 := Fm.lit_len P.out; have h2 := I.out.at_; have h3 := I.out.x0; rw [List.take_of_length_le (by omega)] at h2; omega))
        go_wp2
        go_ret
        exact ⟨ret_int (by simp [E.out]), G2.out⟩
      · have hlt : i < n := by omega
        have hb : ((i : Int) == (n : Int)) = false := by rw [beq_eq_false_iff_ne]; omega
        obtain ⟨b, off, x0, y0, rfl, hp0, c0, c1⟩ := (HF.out.grown G2.out).at_ i hlt
        have E := Lib.hid (Fm.at_here P.out (k := i) (x := p) (by omega) (by have := I.out.at_; have := I.out.x0; omega) (by have h1 := I.out.at_; have h2 := I.out.lt (by omega); omega))
        rw [hp0] at E
        clear hp0
        go_wp2
        go_ret
        exact ⟨ret_int (by simp [E.out]), G2.out⟩

set_option maxHeartbeats 400000 in
theorem pbatch_any (s : Sl) (f : List Fm.Pc) (d : Int) (w : World) (h : FR w s f) : Calls Try.prog 24 #[s.v, .int .i64 d] w (Ret (.int .i64 (batchOf f d)) w) := by
  have HF := Lib.hid h
  have fit := h.fit
  have hlen := h.len
  clear h
  unfold batchOf
  cases hv : Fm.valid f with
  | false =>
    have V := Lib.hid hv
    clear hv
    go_enter Try.func24, Try.ntmps24
    go_wp2_with fail
    refine (pvalid_any s f w HF.out).mono ?_
    rintro e w1 ⟨rfl, hg⟩
    have G := Lib.hid hg
    clear hg
    rw [V.out]
    go_wp2
    go_ret
    exact ⟨ret_int (by simp), G.out⟩
  | true =>
    have V := Lib.hid hv
    have hV := Fm.valid_iff.1 hv
    have HV := Lib.hid (fun k => show 0 ≤ Fm.of d (f.take k) ∧ Fm.of d (f.take k) ≤ 4611686018427387904 by have h1 := Fm.of_range d (hV.pos.take k); have h2 := Fm.vol_take_le hV.pos k; have h3 := Val.sum hV; omega)
    clear hv hV
    obtain ⟨a, n, c⟩ := s
    dsimp only [Sl.fit] at fit hlen
    unfold Sl.v
    dsimp only
    go_enter Try.func24, Try.ntmps24
    go_wp2_with fail
    refine (pvalid_any ⟨a, n, c⟩ f w HF.out).mono ?_
    rintro e w1 ⟨rfl, hg⟩
    have G0 := Lib.hid hg
    clear hg
    rw [V.out]
    go_wp2
    go_loopw [5, 13] (fun sm i wr => ∃ (k : Nat) (x : Int), sm = .int .i64 x ∧ i = .int .i64 k ∧ k ≤ n ∧ Hid (x = Fm.of d (f.take k)) ∧ Hid (w.grownBy wr none)) (fun _ i _ => n - (intOf i).toNat)
    case atStart => exact ⟨0, 0, rfl, rfl, by omega, Lib.hid (by simp [Fm.of]), G0⟩
    case round =>
      obtain ⟨k, x, rfl, rfl, hk, X, G⟩ := hrel
      by_cases hlt : k < n
      · obtain ⟨b, off, x0, y0, rfl, hp0, c0, c1⟩ := (HF.out.grown G.out).at_ k hlt
        have e0 := Fm.of_next d (f := f) (k := k) (by omega)
        rw [hp0, ← X.out] at e0
        dsimp only at e0
        have v1 := HV.out k
        have v2 := HV.out (k + 1)
        rw [← X.out] at v1
        by_cases hd : x0 = d
        · rw [if_pos hd] at e0
          subst hd
          rw [e0] at v2
          have E := Lib.hid e0.symm
          clear hp0 e0
          go_wp2
          go_roundw
          case rel => exact ⟨k + 1, _, rfl, by go_num, by omega, E, Lib.hid (grown_trans G.out (World.grownBy_alloc _ _ _))⟩
          case measure => simp [intOf]; omega
        · rw [if_neg hd, Int.add_zero] at e0
          have E := Lib.hid e0.symm
          have hb : (x0 == d) = false := by rw [beq_eq_false_iff_ne]; exact hd
          clear hp0 e0 v2
          go_wp2
          go_roundw
          case rel => exact ⟨k + 1, _, rfl, by go_num, by omega, E, Lib.hid (grown_trans G.out (World.grownBy_alloc _ _ _))⟩
          case measure => simp [intOf]; omega
      · obtain rfl : k = n := by omega
        have E := Lib.hid (show x = Fm.of d f by rw [X.out, List.take_of_length_le (by omega)])
        go_wp2
        go_ret
        exact ⟨ret_int (by simp [E.out]), G.out⟩
end Go.Proofs.Ytaghcdelnjjncaa
