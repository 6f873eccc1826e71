/- Contracts of package piece's Merge (read) and Push. -/
import Derived.Test.YtaghcdelnjjncaaFo
import Derived.Test.YtaghcdelnjjncaaFh
namespace Go.Proofs.Ytaghcdelnjjncaa
open Go.ChangeShapes Go.WideShapes Go.ChangeAt Go.RowKit

/-- A row that can be read is returned, and memory is made at most. -/
def ReadEnd (f : List Fm.Pc) (w : World) (e : Ending) (w' : World) : Prop := ∃ r : Sl, e = .returned r.v ∧ FR w' r f ∧ w.grownBy w' none
theorem pmerge_any (s : Sl) (f : List Fm.Pc) (w : World) (h : FR w s f) : Calls Try.prog 20 #[s.v] w (ReadEnd (merged f) w) :=
  (pmerged_any s f w h).mono fun _ _ ⟨r, e, hr, hg⟩ => ⟨r, e, hr.fr, hg⟩

/-- The results of a push, as far as they have been made. -/
theorem push_tail {f g : List Fm.Pc} {back : Bool} {n o : List Fm.Pc} {c : Int} (hP : Pushed f g back n o c) (hf : Fm.Val f) (hg : Fm.Val g) {p q : List Fm.Pc}
    (hp : p = Fm.mer (Fm.shift (Fm.lit f) (Fm.lit g) back).1) (hq : q = Fm.mer (Fm.shift (Fm.lit f) (Fm.lit g) back).2) :
    (200 < p.length → n = [] ∧ o = [] ∧ c = 4) ∧ (200 < q.length → n = [] ∧ o = [] ∧ c = 4) ∧ (p.length ≤ 200 → q.length ≤ 200 → n = p ∧ o = q ∧ c = 0) := by
  subst hp; subst hq
  refine ⟨fun h => pushed_one hP (.full hf hg (.inl h)), fun h => pushed_one hP (.full hf hg (.inr h)), fun h1 h2 => pushed_one hP (.ok hf hg h1 h2)⟩

set_option maxHeartbeats 1000000 in
theorem ppush_any (s t : Sl) (f g : List Fm.Pc) (back : Bool) (w : World) (h : FR w s f) (k : FR w t g) {n o : List Fm.Pc} {c : Int} (hP : Pushed f g back n o c) :
    Calls Try.prog 26 #[s.v, t.v, .bool back] w (PushEnd n o c w) := by
  have HF := Lib.hid h
  have HG := Lib.hid k
  clear h k
  cases hvf : Fm.valid f with
  | false =>
    have V := Lib.hid hvf
    obtain ⟨rfl, rfl, rfl⟩ := pushed_one hP (.bad (fun v => by rw [Fm.valid_yes v.1] at hvf; cases hvf))
    clear hvf hP
    go_enter Try.func26, Try.ntmps26
    go_wp2_with fail
    refine (pvalid_any s f w HF.out).mono ?_
    rintro e w1 ⟨rfl, hg⟩
    have G := Lib.hid hg
    clear hg
    rw [V.out]
    go_wp2
    go_ret3
    exact ⟨⟨none, 0, 0⟩, ⟨none, 0, 0⟩, rfl, FR.nil, FR.nil, G.out⟩
  | true =>
    have V := Lib.hid hvf
    have VF := Lib.hid (Fm.valid_iff.1 hvf)
    clear hvf
    cases hvg : Fm.valid g with
    | false =>
      have V2 := Lib.hid hvg
      obtain ⟨rfl, rfl, rfl⟩ := pushed_one hP (.bad (fun v => by rw [Fm.valid_yes v.2] at hvg; cases hvg))
      clear hvg hP
      go_enter Try.func26, Try.ntmps26
      go_wp2_with fail
      refine (pvalid_any s f w HF.out).mono ?_
      rintro e w1 ⟨rfl, hg⟩
      have G := Lib.hid hg
      clear hg
      rw [V.out]
      go_wp2_with fail
      refine (pvalid_any t g w1 (HG.out.grown G.out)).mono ?_
      rintro e w2 ⟨rfl, hg⟩
      have G2 := Lib.hid hg
      clear hg
      rw [V2.out]
      go_wp2
      go_ret3
      exact ⟨⟨none, 0, 0⟩, ⟨none, 0, 0⟩, rfl, FR.nil, FR.nil, grown_trans G.out G2.out⟩
    | true =>
      have V2 := Lib.hid hvg
      have VG := Lib.hid (Fm.valid_iff.1 hvg)
      have PT := Lib.hid (fun p q : List Fm.Pc => push_tail (p := p) (q := q) hP VF.out VG.out)
      have LF := Lib.hid (Fm.lit_len VF.out.pos)
      have LG := Lib.hid (Fm.lit_len VG.out.pos)
      have BF := Lib.hid VF.out.vol
      have BG := Lib.hid VG.out.vol
      clear hvg hP
      cases back with
      | true =>
        have SB := Lib.hid (shift_bound VF.out VG.out)
        go_enter Try.func26, Try.ntmps26
        go_wp2_with fail
        refine (pvalid_any s f w HF.out).mono ?_
        rintro e w1 ⟨rfl, hg⟩
        have G := Lib.hid hg
        clear hg
        rw [V.out]
        go_wp2_with fail
        refine (pvalid_any t g w1 (HG.out.grown G.out)).mono ?_
        rintro e w2 ⟨rfl, hg⟩
        have G2 := Lib.hid (grown_trans G.out hg)
        clear hg
        rw [V2.out]
        go_wp2_with fail
        refine (join_any s t f g w2 (HF.out.grown G2.out) (HG.out.grown G2.out) VF.out VG.out).mono ?_
        rintro e w3 ⟨⟨ja, jn, jc⟩, rfl, hj, hg⟩
        have J := Lib.hid hj
        have G3 := Lib.hid (grown_trans G2.out hg)
        clear hj hg
        dsimp only [Sl.v]
        go_wp2_with fail
        refine (litres_any t g w3 (HG.out.grown G3.out) VG.out.pos (Val.sum VG.out)).mono ?_
        rintro e w4 ⟨rfl, hg⟩
        have J4 := Lib.hid (J.out.grown hg)
        have G4 := Lib.hid (grown_trans G3.out hg)
        clear hg
        obtain ⟨V0, hV0⟩ : ∃ V0, V0 = Fm.vol g := ⟨_, rfl⟩
        have HV := Lib.hid hV0
        rw [← hV0]
        clear hV0
        go_wp2_with fail
        refine (cut_any w2.heap.size ⟨ja, jn, jc⟩ (Fm.mer (Fm.lit (f ++ g))) V0 w4 J4.out (Fm.mer_mgd _) ?b1 ?b2 ?b3 ?b4).mono ?_
        case b1 => have h1 := Fm.mer_lit_len (f ++ g); have h2 := SB.out.2.1; omega
        case b2 => have := Fm.vol_pos VG.out.pos; rw [HV.out]; exact this
        case b3 => rw [← Fm.lit_len (Fm.mer_mgd _).pos, Fm.lit_mer, Fm.lit_len SB.out.1, Fm.vol_app, HV.out]; have := Fm.vol_pos VF.out.pos; omega
        case b4 => rw [← Fm.lit_len (Fm.mer_mgd _).pos, Fm.lit_mer, Fm.lit_len SB.out.1]; exact SB.out.2.2
        rintro e w5 ⟨⟨la, ln, lc⟩, ⟨ra, rn, rc⟩, rfl, hL, hR, hg⟩
        have G5 := Lib.hid (grown_trans G4.out hg)
        have e1 : V0.toNat = (Fm.lit g).length := by have := LG.out; rw [HV.out]; omega
        rw [Fm.lit_mer, Fm.lit_app, e1] at hL hR
        have T := PT.out (Fm.mer ((Fm.lit f ++ Fm.lit g).drop (Fm.lit g).length)) (Fm.mer ((Fm.lit f ++ Fm.lit g).take (Fm.lit g).length)) rfl rfl
        have hl := hL.len
        have hr := hR.len
        have fl := hL.fit
        have fr := hR.fit
        dsimp only [Sl.fit] at hl hr fl fr
        rw [hl, hr] at T
        have L5 := Lib.hid hL
        have R5 := Lib.hid hR
        have T5 := Lib.hid T
        clear hL hR hg T hl hr e1
        dsimp only [Sl.v]
        by_cases c1 : 200 < rn
        · obtain ⟨rfl, rfl, rfl⟩ := T5.out.1 c1
          have c2 : (200 : Int) < (rn : Int) := by omega
          go_wp2
          go_ret3
          exact ⟨⟨none, 0, 0⟩, ⟨none, 0, 0⟩, rfl, FR.nil, FR.nil, G5.out⟩
        · have c2 : decide ((200 : Int) < (rn : Int)) = false := decide_eq_false (by omega)
          by_cases c3 : 200 < ln
          · obtain ⟨rfl, rfl, rfl⟩ := T5.out.2.1 c3
            have c4 : (200 : Int) < (ln : Int) := by omega
            go_wp2
            go_ret3
            exact ⟨⟨none, 0, 0⟩, ⟨none, 0, 0⟩, rfl, FR.nil, FR.nil, G5.out⟩
          · obtain ⟨rfl, rfl, rfl⟩ := T5.out.2.2 (by omega) (by omega)
            have c4 : decide ((200 : Int) < (ln : Int)) = false := decide_eq_false (by omega)
            go_wp2
            go_ret3
            exact ⟨⟨ra, rn, rc⟩, ⟨la, ln, lc⟩, rfl, R5.out, L5.out, G5.out⟩
      | false =>
        have SB := Lib.hid (shift_bound VG.out VF.out)
        go_enter Try.func26, Try.ntmps26
        go_wp2_with fail
        refine (pvalid_any s f w HF.out).mono ?_
        rintro e w1 ⟨rfl, hg⟩
        have G := Lib.hid hg
        clear hg
        rw [V.out]
        go_wp2_with fail
        refine (pvalid_any t g w1 (HG.out.grown G.out)).mono ?_
        rintro e w2 ⟨rfl, hg⟩
        have G2 := Lib.hid (grown_trans G.out hg)
        clear hg
        rw [V2.out]
        go_wp2_with fail
        refine (join_any t s g f w2 (HG.out.grown G2.out) (HF.out.grown G2.out) VG.out VF.out).mono ?_
        rintro e w3 ⟨⟨ja, jn, jc⟩, rfl, hj, hg⟩
        have J := Lib.hid hj
        have G3 := Lib.hid (grown_trans G2.out hg)
        clear hj hg
        dsimp only [Sl.v]
        go_wp2_with fail
        refine (litres_any s f w3 (HF.out.grown G3.out) VF.out.pos (Val.sum VF.out)).mono ?_
        rintro e w4 ⟨rfl, hg⟩
        have J4 := Lib.hid (J.out.grown hg)
        have G4 := Lib.hid (grown_trans G3.out hg)
        clear hg
        obtain ⟨V0, hV0⟩ : ∃ V0, V0 = Fm.vol f := ⟨_, rfl⟩
        have HV := Lib.hid hV0
        rw [← hV0]
        clear hV0
        go_wp2_with fail
        refine (cut_any w2.heap.size ⟨ja, jn, jc⟩ (Fm.mer (Fm.lit (g ++ f))) V0 w4 J4.out (Fm.mer_mgd _) ?b1 ?b2 ?b3 ?b4).mono ?_
        case b1 => have h1 := Fm.mer_lit_len (g ++ f); have h2 := SB.out.2.1; omega
        case b2 => have := Fm.vol_pos VF.out.pos; rw [HV.out]; exact this
        case b3 => rw [← Fm.lit_len (Fm.mer_mgd _).pos, Fm.lit_mer, Fm.lit_len SB.out.1, Fm.vol_app, HV.out]; have := Fm.vol_pos VG.out.pos; omega
        case b4 => rw [← Fm.lit_len (Fm.mer_mgd _).pos, Fm.lit_mer, Fm.lit_len SB.out.1]; exact SB.out.2.2
        rintro e w5 ⟨⟨la, ln, lc⟩, ⟨ra, rn, rc⟩, rfl, hL, hR, hg⟩
        have G5 := Lib.hid (grown_trans G4.out hg)
        have e1 : V0.toNat = (Fm.lit f).length := by have := LF.out; rw [HV.out]; omega
        rw [Fm.lit_mer, Fm.lit_app, e1] at hL hR
        have T := PT.out (Fm.mer ((Fm.lit g ++ Fm.lit f).take (Fm.lit f).length)) (Fm.mer ((Fm.lit g ++ Fm.lit f).drop (Fm.lit f).length)) rfl rfl
        have hl := hL.len
        have hr := hR.len
        have fl := hL.fit
        have fr := hR.fit
        dsimp only [Sl.fit] at hl hr fl fr
        rw [hl, hr] at T
        have L5 := Lib.hid hL
        have R5 := Lib.hid hR
        have T5 := Lib.hid T
        clear hL hR hg T hl hr e1
        dsimp only [Sl.v]
        by_cases c1 : 200 < ln
        · obtain ⟨rfl, rfl, rfl⟩ := T5.out.1 c1
          have c2 : (200 : Int) < (ln : Int) := by omega
          go_wp2
          go_ret3
          exact ⟨⟨none, 0, 0⟩, ⟨none, 0, 0⟩, rfl, FR.nil, FR.nil, G5.out⟩
        · have c2 : decide ((200 : Int) < (ln : Int)) = false := decide_eq_false (by omega)
          by_cases c3 : 200 < rn
          · obtain ⟨rfl, rfl, rfl⟩ := T5.out.2.1 c3
            have c4 : (200 : Int) < (rn : Int) := by omega
            go_wp2
            go_ret3
            exact ⟨⟨none, 0, 0⟩, ⟨none, 0, 0⟩, rfl, FR.nil, FR.nil, G5.out⟩
          · obtain ⟨rfl, rfl, rfl⟩ := T5.out.2.2 (by omega) (by omega)
            have c4 : decide ((200 : Int) < (rn : Int)) = false := decide_eq_false (by omega)
            go_wp2
            go_ret3
            exact ⟨⟨la, ln, lc⟩, ⟨ra, rn, rc⟩, rfl, L5.out, R5.out, G5.out⟩
end Go.Proofs.Ytaghcdelnjjncaa
