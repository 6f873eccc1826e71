/- Contract of the reference's Deal; what the code's own functions are asked for. -/
import Derived.Test.YtafkagaakjfkoaaDg
namespace Go.Proofs.Ytafkagaakjfkoaa
open Go.ChangeShapes Go.WideShapes Go.ChangeAt Go.RowKit

/-- The first error of Deal. -/
noncomputable def dchk (f : List Fm.Pc) (r : List Int) : Int := if (merged f = [] ∧ f ≠ []) ∨ 200 < (merged f).length then 9 else chk r (Fm.vol (merged f))
/-- What Deal returns. -/
noncomputable def dealF (f : List Fm.Pc) (r : List Int) : List (List Fm.Pc) := if dchk f r = 0 then Dm.dealt r (Fm.lit (merged f)) else []
/-- Rows of pieces, and an error. -/
def DealEnd (fs : List (List Fm.Pc)) (c : Int) (w : World) (e : Ending) (w' : World) : Prop := ∃ q : Sl, e = .returned (.tuple #[q.v, .int .i64 c]) ∧ RR w' q fs ∧ w.grownBy w' none
theorem ret_i2 {v : Value} {a b : Int} (h : a = b) : Ending.returned (.tuple #[v, .int .i64 b]) = .returned (.tuple #[v, .int .i64 a]) := by rw [h]
theorem merged_facts (f : List Fm.Pc) : Fm.Pos (merged f) ∧ (merged f).length ≤ 400 ∧ Fm.vol (merged f) ≤ 400000000 := by
  by_cases h : Mok f
  · rw [merged_yes h]
    have h1 := Fm.lit_len (Fm.mer_mgd (Fm.lit f)).pos
    rw [Fm.lit_mer, Fm.lit_len h.pos] at h1
    have h2 := Fm.mer_lit_len f
    have h3 := h.len
    have h4 := h.vol
    exact ⟨(Fm.mer_mgd _).pos, by omega, by omega⟩
  · rw [merged_no h]
    exact ⟨Fm.Pos.nil, by simp, by simp [Fm.vol]⟩

set_option maxHeartbeats 1000000 in
theorem rdeal_any (s t : Sl) (f : List Fm.Pc) (r : List Int) (w : World) (h : FR w s f) (k : NR w t r) : Calls Try.prog 19 #[s.v, t.v] w (DealEnd (dealF f r) (dchk f r) w) := by
  have HF := Lib.hid h
  have HR := Lib.hid k
  have hlen := h.len
  clear h k
  obtain ⟨M, hM⟩ : ∃ M, M = merged f := ⟨_, rfl⟩
  have MF := merged_facts f
  rw [← hM] at MF
  obtain ⟨mp, ml, mv⟩ := MF
  have MP := Lib.hid mp
  have HM := Lib.hid hM
  clear mp hM
  obtain ⟨E, hE⟩ : ∃ E, E = dchk f r := ⟨_, rfl⟩
  rw [← hE]
  have HE := Lib.hid hE
  obtain ⟨a, n, c⟩ := s
  dsimp only at hlen
  obtain ⟨a', n', c'⟩ := t
  unfold Sl.v
  dsimp only
  clear hE
  go_enter Try.func19, Try.ntmps19
  go_wp2_with fail
  refine (rmerge_any ⟨a, n, c⟩ f w HF.out).mono ?_
  rw [← HM.out]
  rintro e w1 ⟨⟨ma, mn, mc⟩, rfl, hm, hg⟩
  have O1 := Lib.hid hm
  have G1 := Lib.hid hg
  have hmn : M.length = mn := hm.fr.len
  clear hm hg
  dsimp only [Sl.v]
  by_cases hbad : (mn = 0 ∧ 0 < n) ∨ 200 < mn
  · have B := Lib.hid (show dchk f r = 9 from if_pos (by
      rw [← HM.out]
      rcases hbad with ⟨h1, h2⟩ | h1
      · exact .inl ⟨List.eq_nil_of_length_eq_zero (by omega), fun e => by rw [e] at hlen; simp at hlen; omega⟩
      · exact .inr (by omega)))
    have F := Lib.hid (show dealF f r = [] from if_neg (by rw [B.out]; omega))
    by_cases h0 : mn = 0
    · subst h0
      have hn : (0 : Int) < (n : Int) := by omega
      clear hbad hmn
      go_wp2
      go_ret2
      exact ⟨⟨none, 0, 0⟩, ret_i2 (by rw [HE.out, B.out]), by rw [F.out]; exact RR.nil, G1.out⟩
    · have h2 : (200 : Int) < (mn : Int) := by omega
      have hb : ((mn : Int) == 0) = false := by rw [beq_eq_false_iff_ne]; omega
      clear hbad hmn
      go_wp2
      go_ret2
      exact ⟨⟨none, 0, 0⟩, ret_i2 (by rw [HE.out, B.out]), by rw [F.out]; exact RR.nil, G1.out⟩
  · have C := Lib.hid (show dchk f r = chk r (Fm.vol M) by
      rw [HM.out]
      exact if_neg (by
        rw [← HM.out]
        rintro (⟨h1, h2⟩ | h1)
        · exact hbad (.inl ⟨by rw [h1] at hmn; simpa using hmn.symm, by rw [← hlen]; exact List.length_pos_iff.2 h2⟩)
        · exact hbad (.inr (by omega))))
    have h200 : ¬ (200 : Int) < (mn : Int) := by omega
    have e200 : decide ((200 : Int) < (mn : Int)) = false := decide_eq_false h200
    have SU := Lib.hid (rsum_any ⟨ma, mn, mc⟩ M w1 O1.out.fr MP.out (by omega))
    have CK := Lib.hid (fun (W : World) (hW : w1.grownBy W none) => rcheck_any ⟨a', n', c'⟩ r (Fm.vol M) W (HR.out.grown (grown_trans G1.out hW)))
    rw [← C.out, ← HE.out] at CK
    unfold Sl.v at SU CK
    dsimp only at SU CK
    obtain ⟨Vo, hV⟩ : ∃ Vo, Vo = Fm.vol M := ⟨_, rfl⟩
    rw [← hV] at SU CK
    have HV := Lib.hid hV
    clear hV mv
    by_cases h0 : mn = 0
    · subst h0
      obtain rfl : n = 0 := by omega
      clear hbad hmn hlen
      go_wp2_with fail
      refine SU.out.mono ?_
      rintro e w2 ⟨rfl, hg⟩
      have G2 := Lib.hid hg
      clear hg
      go_wp2_with fail
      refine (CK.out w2 G2.out).mono ?_
      rintro e w3 ⟨rfl, rfl⟩
      by_cases hE0 : E = 0
      · subst hE0
        have RO := Lib.hid (chk_ok.1 (show chk r (Fm.vol M) = 0 by rw [← C.out]; exact HE.out.symm))
        have F := Lib.hid (show dealF f r = Dm.dealt r (Fm.lit M) by rw [HM.out]; exact if_pos HE.out.symm)
        have HD := Lib.hid (rhand_any ⟨ma, 0, mc⟩ ⟨a', n', c'⟩ M r w3 (O1.out.fr.grown G2.out) (HR.out.grown (grown_trans G1.out G2.out)) MP.out RO.out ml)
        unfold Sl.v at HD
        dsimp only at HD
        go_wp2_with fail
        refine HD.out.mono ?_
        rintro e w4 ⟨⟨qa, qn, qc⟩, rfl, hq, hg⟩
        have G3 := Lib.hid hg
        have HQ := Lib.hid hq
        clear hg hq HD
        go_wp2
        go_ret2
        exact ⟨⟨qa, qn, qc⟩, rfl, by rw [F.out]; exact HQ.out, grown_trans G1.out (grown_trans G2.out G3.out)⟩
      · have hEb : (E != 0) = true := by simp [hE0]
        have F := Lib.hid (show dealF f r = [] from if_neg (by rw [← HE.out]; exact hE0))
        go_wp2
        go_ret2
        exact ⟨⟨none, 0, 0⟩, rfl, by rw [F.out]; exact RR.nil, grown_trans G1.out G2.out⟩
    · have hb : ((mn : Int) == 0) = false := by rw [beq_eq_false_iff_ne]; omega
      clear hbad hmn hlen
      go_wp2_with fail
      refine SU.out.mono ?_
      rintro e w2 ⟨rfl, hg⟩
      have G2 := Lib.hid hg
      clear hg
      go_wp2_with fail
      refine (CK.out w2 G2.out).mono ?_
      rintro e w3 ⟨rfl, rfl⟩
      by_cases hE0 : E = 0
      · subst hE0
        have RO := Lib.hid (chk_ok.1 (show chk r (Fm.vol M) = 0 by rw [← C.out]; exact HE.out.symm))
        have F := Lib.hid (show dealF f r = Dm.dealt r (Fm.lit M) by rw [HM.out]; exact if_pos HE.out.symm)
        have HD := Lib.hid (rhand_any ⟨ma, mn, mc⟩ ⟨a', n', c'⟩ M r w3 (O1.out.fr.grown G2.out) (HR.out.grown (grown_trans G1.out G2.out)) MP.out RO.out ml)
        unfold Sl.v at HD
        dsimp only at HD
        go_wp2_with fail
        refine HD.out.mono ?_
        rintro e w4 ⟨⟨qa, qn, qc⟩, rfl, hq, hg⟩
        have G3 := Lib.hid hg
        have HQ := Lib.hid hq
        clear hg hq HD
        go_wp2
        go_ret2
        exact ⟨⟨qa, qn, qc⟩, rfl, by rw [F.out]; exact HQ.out, grown_trans G1.out (grown_trans G2.out G3.out)⟩
      · have hEb : (E != 0) = true := by simp [hE0]
        have F := Lib.hid (show dealF f r = [] from if_neg (by rw [← HE.out]; exact hE0))
        go_wp2
        go_ret2
        exact ⟨⟨none, 0, 0⟩, rfl, by rw [F.out]; exact RR.nil, grown_trans G1.out G2.out⟩
end Go.Proofs.Ytafkagaakjfkoaa
