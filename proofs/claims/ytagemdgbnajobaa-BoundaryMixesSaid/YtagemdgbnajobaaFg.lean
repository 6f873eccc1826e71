/- Contracts of the reference's Shift and Push. -/
import Derived.Test.YtagemdgbnajobaaFf
namespace Go.Proofs.Ytagemdgbnajobaa
open Go.ChangeShapes Go.WideShapes Go.ChangeAt Go.RowKit

/-- What a push returns: the new fill, what leaves, the error. -/
inductive Pushed (f g : List Fm.Pc) (back : Bool) : List Fm.Pc → List Fm.Pc → Int → Prop
  | bad : ¬ (Fm.Val f ∧ Fm.Val g) → Pushed f g back [] [] 9
  | full : Fm.Val f → Fm.Val g → 200 < (Fm.mer (Fm.shift (Fm.lit f) (Fm.lit g) back).1).length ∨ 200 < (Fm.mer (Fm.shift (Fm.lit f) (Fm.lit g) back).2).length → Pushed f g back [] [] 4
  | ok : Fm.Val f → Fm.Val g → (Fm.mer (Fm.shift (Fm.lit f) (Fm.lit g) back).1).length ≤ 200 → (Fm.mer (Fm.shift (Fm.lit f) (Fm.lit g) back).2).length ≤ 200 → Pushed f g back (Fm.mer (Fm.shift (Fm.lit f) (Fm.lit g) back).1) (Fm.mer (Fm.shift (Fm.lit f) (Fm.lit g) back).2) 0
theorem pushed_any (f g : List Fm.Pc) (back : Bool) : ∃ n o c, Pushed f g back n o c := by
  by_cases h1 : Fm.Val f
  · by_cases h2 : Fm.Val g
    · by_cases h3 : (Fm.mer (Fm.shift (Fm.lit f) (Fm.lit g) back).1).length ≤ 200
      · by_cases h4 : (Fm.mer (Fm.shift (Fm.lit f) (Fm.lit g) back).2).length ≤ 200
        · exact ⟨_, _, _, .ok h1 h2 h3 h4⟩
        · exact ⟨_, _, _, .full h1 h2 (.inr (by omega))⟩
      · exact ⟨_, _, _, .full h1 h2 (.inl (by omega))⟩
    · exact ⟨_, _, _, .bad (fun h => h2 h.2)⟩
  · exact ⟨_, _, _, .bad (fun h => h1 h.1)⟩
/-- Three values are returned, and memory is made at most. -/
def PushEnd (n o : List Fm.Pc) (c : Int) (w : World) (e : Ending) (w' : World) : Prop :=
  ∃ r t : Sl, e = .returned (.tuple #[r.v, t.v, .int .i64 c]) ∧ FR w' r n ∧ FR w' t o ∧ w.grownBy w' none

/-- A literal without elements. -/
theorem or_lit (W : World) : OP W.heap.size (W.alloc (.cells #[] 49)) ⟨some ⟨W.heap.size, 0, none⟩, 0, 0⟩ [] := by
  refine ⟨?_⟩
  have := World.ownsRow_lit (base := W.heap.size) (e := 49) (size := 2) W #[] 0 (Nat.le_refl _) (by unfold maxLen; omega) (by simp)
  simpa [Sl.v, f2] using this
theorem shift_bound {f g : List Fm.Pc} (hf : Fm.Val f) (hg : Fm.Val g) : Fm.Pos (f ++ g) ∧ (f ++ g).length ≤ 400 ∧ Fm.vol (f ++ g) ≤ 2000000 := by
  refine ⟨hf.pos.app hg.pos, ?_, ?_⟩
  · have := hf.len; have := hg.len; rw [List.length_append]; omega
  · have := hf.vol; have := hg.vol; rw [Fm.vol_app]; omega

set_option maxHeartbeats 1000000 in
theorem rshift_any (s t : Sl) (f g : List Fm.Pc) (back : Bool) (w : World) (h : FR w s f) (k : FR w t g) (hf : Fm.Val f) (hg : Fm.Val g) :
    Calls Try.prog 39 #[s.v, t.v, .bool back] w (SplitEnd (Fm.mer (Fm.shift (Fm.lit f) (Fm.lit g) back).1) (Fm.mer (Fm.shift (Fm.lit f) (Fm.lit g) back).2) w) := by
  obtain ⟨i0, hi, hz0, hz1, hz2⟩ := parts_p
  obtain ⟨sa, sn, sc⟩ := s
  obtain ⟨ta, tn, tc⟩ := t
  have HF := Lib.hid h
  have HG := Lib.hid k
  have hfl := h.len
  have hgl := k.len
  have hf2 := hf.len
  have hg2 := hg.len
  have VF := Lib.hid hf
  have VG := Lib.hid hg
  have OL := Lib.hid (or_lit w)
  have sf := Val.sum hf
  have sg := Val.sum hg
  have SF := Lib.hid (Fm.lit_len hf.pos)
  have SG := Lib.hid (Fm.lit_len hg.pos)
  have SF2 := Lib.hid hf.vol
  have SG2 := Lib.hid hg.vol
  clear h k hf hg
  dsimp only at hfl hgl
  unfold Sl.v
  dsimp only
  cases back with
  | true =>
    have B := Lib.hid (shift_bound VF.out VG.out)
    go_enter Try.func39, Try.ntmps39
    go_wp2_with (first
      | (at_builtin
         refine wpList_appV rfl _ _ 22 rfl (S := ⟨some ⟨w.heap.size, 0, none⟩, 0, 0⟩) (V := ⟨sa, sn, sc⟩) (vs := f2 f) Try.underlying22 hi hz0 hz1 hz2 (by rfl) (by omega) rfl rfl OL.out ?a1 ?a2 (HF.out.grown (World.grownBy_alloc _ _ _)).cr (f2_one _) ?a3 ?a4 ?_
         case a1 => simp
         case a2 => rw [f2_len]; dsimp only; omega
         case a3 => dsimp only; omega
         case a4 => dsimp only; omega
         intro r w1 hrn hr hg1 hbl
         obtain ⟨ra, rn, rc⟩ := r
         dsimp only [Sl.v] at *
         have L1 := Lib.hid (show rn = sn by omega)
         clear hrn
         have R1 := Lib.hid hr
         have G1 := Lib.hid (grown_row0 (World.grownBy_alloc _ _ _) hg1 (fun b hb => by simp [Sl.blk] at hb; omega))
         clear hr hg1 hbl)
      | (at_builtin
         refine wpList_appV rfl _ _ 22 rfl (S := ⟨ra, rn, rc⟩) (V := ⟨ta, tn, tc⟩) (vs := f2 g) Try.underlying22 hi hz0 hz1 hz2 (by rfl) (by omega) rfl rfl R1.out ?b1 ?b2 (HG.out.grown G1.out).cr (f2_one _) ?b3 ?b4 ?_
         case b1 => exact G1.out.size
         case b2 => rw [f2_len]; dsimp only; omega
         case b3 => have := L1.out; dsimp only; omega
         case b4 => have := L1.out; dsimp only; omega
         intro r2 w2 hrn2 hr2 hg2' hbl2
         clear hrn2
         obtain ⟨qa, qn, qc⟩ := r2
         dsimp only [Sl.v] at *
         have R2 := Lib.hid (show OP w.heap.size w2 ⟨qa, qn, qc⟩ (f ++ g) by rw [OP, f2_app]; exact hr2)
         have G2 := Lib.hid (grown_row0 G1.out hg2' (fun b hb => (R1.out.blk b hb).1))
         clear hr2 hg2' hbl2)
      | fail)
    refine (rsum_any ⟨ta, tn, tc⟩ g w2 (HG.out.grown G2.out) VG.out.pos sg).mono ?_
    rintro e w3 ⟨rfl, hg3⟩
    have G3 := Lib.hid (grown_trans G2.out hg3)
    have R3 := Lib.hid (R2.out.grown hg3)
    clear hg3
    have hb := Lib.hid (Fm.vol_pos VG.out.pos)
    obtain ⟨V, hV⟩ : ∃ V, V = Fm.vol g := ⟨_, rfl⟩
    have HV := Lib.hid hV
    rw [← hV]
    clear hV
    go_wp2_with fail
    refine (rsplit_any ⟨qa, qn, qc⟩ (f ++ g) V w3 R3.out.fr B.out.1 (by have := B.out.2.1; omega) (by have := B.out.2.2; omega) (by rw [HV.out]; exact hb.out) (by have := SG2.out; rw [HV.out]; omega)).mono ?_
    rintro e w4 ⟨⟨r1a, r1n, r1c⟩, ⟨r2a, r2n, r2c⟩, rfl, ho1, ho2, hg4⟩
    have O1 := Lib.hid ho1
    have O2 := Lib.hid ho2
    have G4 := Lib.hid hg4
    clear ho1 ho2 hg4
    dsimp only [Sl.v]
    go_wp2
    go_ret2
    have e1 : V.toNat = (Fm.lit g).length := by have := SG.out; rw [HV.out]; omega
    have s3 := G3.out.size
    refine ⟨⟨r2a, r2n, r2c⟩, ⟨r1a, r1n, r1c⟩, rfl, ?_, ?_, grown_trans G3.out G4.out⟩
    · have := O2.out.base_ s3
      rw [Fm.lit_app, e1] at this
      exact this
    · have := O1.out.base_ s3
      rw [Fm.lit_app, e1] at this
      exact this
  | false =>
    have B := Lib.hid (shift_bound VG.out VF.out)
    go_enter Try.func39, Try.ntmps39
    go_wp2_with (first
      | (at_builtin
         refine wpList_appV rfl _ _ 22 rfl (S := ⟨some ⟨w.heap.size, 0, none⟩, 0, 0⟩) (V := ⟨ta, tn, tc⟩) (vs := f2 g) Try.underlying22 hi hz0 hz1 hz2 (by rfl) (by omega) rfl rfl OL.out ?a1 ?a2 (HG.out.grown (World.grownBy_alloc _ _ _)).cr (f2_one _) ?a3 ?a4 ?_
         case a1 => simp
         case a2 => rw [f2_len]; dsimp only; omega
         case a3 => dsimp only; omega
         case a4 => dsimp only; omega
         intro r w1 hrn hr hg1 hbl
         obtain ⟨ra, rn, rc⟩ := r
         dsimp only [Sl.v] at *
         have L1 := Lib.hid (show rn = tn by omega)
         clear hrn
         have R1 := Lib.hid hr
         have G1 := Lib.hid (grown_row0 (World.grownBy_alloc _ _ _) hg1 (fun b hb => by simp [Sl.blk] at hb; omega))
         clear hr hg1 hbl)
      | (at_builtin
         refine wpList_appV rfl _ _ 22 rfl (S := ⟨ra, rn, rc⟩) (V := ⟨sa, sn, sc⟩) (vs := f2 f) Try.underlying22 hi hz0 hz1 hz2 (by rfl) (by omega) rfl rfl R1.out ?b1 ?b2 (HF.out.grown G1.out).cr (f2_one _) ?b3 ?b4 ?_
         case b1 => exact G1.out.size
         case b2 => rw [f2_len]; dsimp only; omega
         case b3 => have := L1.out; dsimp only; omega
         case b4 => have := L1.out; dsimp only; omega
         intro r2 w2 hrn2 hr2 hg2' hbl2
         clear hrn2
         obtain ⟨qa, qn, qc⟩ := r2
         dsimp only [Sl.v] at *
         have R2 := Lib.hid (show OP w.heap.size w2 ⟨qa, qn, qc⟩ (g ++ f) by rw [OP, f2_app]; exact hr2)
         have G2 := Lib.hid (grown_row0 G1.out hg2' (fun b hb => (R1.out.blk b hb).1))
         clear hr2 hg2' hbl2)
      | fail)
    refine (rsum_any ⟨sa, sn, sc⟩ f w2 (HF.out.grown G2.out) VF.out.pos sf).mono ?_
    rintro e w3 ⟨rfl, hg3⟩
    have G3 := Lib.hid (grown_trans G2.out hg3)
    have R3 := Lib.hid (R2.out.grown hg3)
    clear hg3
    have hb := Lib.hid (Fm.vol_pos VF.out.pos)
    obtain ⟨V, hV⟩ : ∃ V, V = Fm.vol f := ⟨_, rfl⟩
    have HV := Lib.hid hV
    rw [← hV]
    clear hV
    go_wp2_with fail
    refine (rsplit_any ⟨qa, qn, qc⟩ (g ++ f) V w3 R3.out.fr B.out.1 (by have := B.out.2.1; omega) (by have := B.out.2.2; omega) (by rw [HV.out]; exact hb.out) (by have := SF2.out; rw [HV.out]; omega)).mono ?_
    rintro e w4 ⟨⟨r1a, r1n, r1c⟩, ⟨r2a, r2n, r2c⟩, rfl, ho1, ho2, hg4⟩
    have O1 := Lib.hid ho1
    have O2 := Lib.hid ho2
    have G4 := Lib.hid hg4
    clear ho1 ho2 hg4
    dsimp only [Sl.v]
    go_wp2
    go_ret2
    have e1 : V.toNat = (Fm.lit f).length := by have := SF.out; rw [HV.out]; omega
    have s3 := G3.out.size
    refine ⟨⟨r1a, r1n, r1c⟩, ⟨r2a, r2n, r2c⟩, rfl, ?_, ?_, grown_trans G3.out G4.out⟩
    · have := O1.out.base_ s3
      rw [Fm.lit_app, e1] at this
      exact this
    · have := O2.out.base_ s3
      rw [Fm.lit_app, e1] at this
      exact this

theorem pushed_val {f g n o : List Fm.Pc} {back : Bool} {c : Int} (h : Pushed f g back n o c) : n.length ≤ 200 ∧ o.length ≤ 200 := by
  cases h with
  | bad _ => simp
  | full _ _ _ => simp
  | ok _ _ h1 h2 => exact ⟨h1, h2⟩
theorem pushed_one {f g n o n' o' : List Fm.Pc} {back : Bool} {c c' : Int} (h : Pushed f g back n o c) (k : Pushed f g back n' o' c') : n = n' ∧ o = o' ∧ c = c' := by
  cases h with
  | bad h =>
    cases k with
    | bad _ => exact ⟨rfl, rfl, rfl⟩
    | full a b _ => exact absurd ⟨a, b⟩ h
    | ok a b _ _ => exact absurd ⟨a, b⟩ h
  | full a b h =>
    cases k with
    | bad k => exact absurd ⟨a, b⟩ k
    | full _ _ _ => exact ⟨rfl, rfl, rfl⟩
    | ok _ _ h1 h2 => omega
  | ok a b h1 h2 =>
    cases k with
    | bad k => exact absurd ⟨a, b⟩ k
    | full _ _ h => omega
    | ok _ _ _ _ => exact ⟨rfl, rfl, rfl⟩

set_option maxHeartbeats 1000000 in
theorem rpush_any (s t : Sl) (f g : List Fm.Pc) (back : Bool) (w : World) (h : FR w s f) (k : FR w t g) {n o : List Fm.Pc} {c : Int} (hP : Pushed f g back n o c) :
    Calls Try.prog 25 #[s.v, t.v, .bool back] w (PushEnd n o c w) := by
  have HF := Lib.hid h
  have HG := Lib.hid k
  clear h k
  cases hvf : Fm.valid f with
  | false =>
    have V := Lib.hid hvf
    obtain ⟨rfl, rfl, rfl⟩ := pushed_one hP (.bad (fun v => by rw [Fm.valid_yes v.1] at hvf; cases hvf))
    clear hvf hP
    go_enter Try.func25, Try.ntmps25
    go_wp2_with fail
    refine (rvalid_any s f w HF.out).mono ?_
    rintro e w1 ⟨rfl, hg⟩
    have G := Lib.hid hg
    clear hg
    rw [V.out]
    go_wp2
    go_ret3
    exact ⟨⟨none, 0, 0⟩, ⟨none, 0, 0⟩, rfl, FR.nil, FR.nil, G.out⟩
  | true =>
    have V := Lib.hid hvf
    have VF := Lib.hid (Fm.valid_iff.1 hvf)
    clear hvf
    cases hvg : Fm.valid g with
    | false =>
      have V2 := Lib.hid hvg
      obtain ⟨rfl, rfl, rfl⟩ := pushed_one hP (.bad (fun v => by rw [Fm.valid_yes v.2] at hvg; cases hvg))
      clear hvg hP
      go_enter Try.func25, Try.ntmps25
      go_wp2_with fail
      refine (rvalid_any s f w HF.out).mono ?_
      rintro e w1 ⟨rfl, hg⟩
      have G := Lib.hid hg
      clear hg
      rw [V.out]
      go_wp2_with fail
      refine (rvalid_any t g w1 (HG.out.grown G.out)).mono ?_
      rintro e w2 ⟨rfl, hg⟩
      have G2 := Lib.hid hg
      clear hg
      rw [V2.out]
      go_wp2
      go_ret3
      exact ⟨⟨none, 0, 0⟩, ⟨none, 0, 0⟩, rfl, FR.nil, FR.nil, grown_trans G.out G2.out⟩
    | true =>
      have V2 := Lib.hid hvg
      have VG := Lib.hid (Fm.valid_iff.1 hvg)
      have PP := Lib.hid hP
      clear hvg hP
      go_enter Try.func25, Try.ntmps25
      go_wp2_with fail
      refine (rvalid_any s f w HF.out).mono ?_
      rintro e w1 ⟨rfl, hg⟩
      have G := Lib.hid hg
      clear hg
      rw [V.out]
      go_wp2_with fail
      refine (rvalid_any t g w1 (HG.out.grown G.out)).mono ?_
      rintro e w2 ⟨rfl, hg⟩
      have G2 := Lib.hid (grown_trans G.out hg)
      clear hg
      rw [V2.out]
      go_wp2_with fail
      refine (rshift_any s t f g back w2 (HF.out.grown G2.out) (HG.out.grown G2.out) VF.out VG.out).mono ?_
      rintro e w3 ⟨⟨ra, rn, rc⟩, ⟨qa, qn, qc⟩, rfl, h1, h2, hg⟩
      have R := Lib.hid h1.fr
      have Q := Lib.hid h2.fr
      have l1 := h1.fr.len
      have l2 := h2.fr.len
      dsimp only at l1 l2
      have G3 := Lib.hid (grown_trans G2.out hg)
      clear h1 h2 hg
      dsimp only [Sl.v]
      have fit1 := R.out.fit
      have fit2 := Q.out.fit
      dsimp only [Sl.fit] at fit1 fit2
      by_cases c1 : 200 < rn
      · obtain ⟨rfl, rfl, rfl⟩ := pushed_one PP.out (.full VF.out VG.out (.inl (by omega)))
        have c2 : (200 : Int) < (rn : Int) := by omega
        clear PP l1 l2
        go_wp2
        go_ret3
        exact ⟨⟨none, 0, 0⟩, ⟨none, 0, 0⟩, rfl, FR.nil, FR.nil, G3.out⟩
      · have c2 : decide ((200 : Int) < (rn : Int)) = false := decide_eq_false (by omega)
        by_cases c3 : 200 < qn
        · obtain ⟨rfl, rfl, rfl⟩ := pushed_one PP.out (.full VF.out VG.out (.inr (by omega)))
          have c4 : (200 : Int) < (qn : Int) := by omega
          clear PP l1 l2
          go_wp2
          go_ret3
          exact ⟨⟨none, 0, 0⟩, ⟨none, 0, 0⟩, rfl, FR.nil, FR.nil, G3.out⟩
        · obtain ⟨rfl, rfl, rfl⟩ := pushed_one PP.out (.ok VF.out VG.out (by omega) (by omega))
          have c4 : decide ((200 : Int) < (qn : Int)) = false := decide_eq_false (by omega)
          clear PP l1 l2
          go_wp2
          go_ret3
          exact ⟨⟨ra, rn, rc⟩, ⟨qa, qn, qc⟩, rfl, R.out, Q.out, G3.out⟩
end Go.Proofs.Ytagemdgbnajobaa
