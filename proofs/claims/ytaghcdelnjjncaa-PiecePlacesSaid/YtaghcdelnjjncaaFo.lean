/- Contracts of package piece's join, cut and Push. -/
import Derived.Test.YtaghcdelnjjncaaFn
namespace Go.Proofs.Ytaghcdelnjjncaa
open Go.ChangeShapes Go.WideShapes Go.ChangeAt Go.RowKit

set_option maxHeartbeats 400000 in
theorem join_any (s t : Sl) (f g : List Fm.Pc) (w : World) (h : FR w s f) (k : FR w t g) (hf : Fm.Val f) (hg : Fm.Val g) : Calls Try.prog 44 #[s.v, t.v] w (PEnd (Fm.mer (Fm.lit (f ++ g))) w) := by
  obtain ⟨i0, hi, hz0, hz1, hz2⟩ := parts_p
  obtain ⟨sa, sn, sc⟩ := s
  obtain ⟨ta, tn, tc⟩ := t
  have HF := Lib.hid h
  have HG := Lib.hid k
  have hfl := h.len
  have hgl := k.len
  have hf2 := hf.len
  have hg2 := hg.len
  have MM := Lib.hid (merged_yes (f := f ++ g) ⟨by rw [List.length_append]; omega, fun p hp => by
    rcases List.mem_append.1 hp with e | e
    · exact okp_okm (hf.ok p e)
    · exact okp_okm (hg.ok p e)⟩)
  clear h k hf hg
  dsimp only at hfl hgl
  unfold Sl.v
  dsimp only
  go_enter Try.func44, Try.ntmps44
  go_wp2_with fail
  refine (clone_p ⟨sa, sn, sc⟩ f w HF.out (by dsimp only; omega)).mono ?_
  rintro e w1 ⟨⟨ra, rn, rc⟩, rfl, hr, hg1⟩
  have L1 := Lib.hid (show rn = sn by have := hr.fr.len; dsimp only at this; omega)
  have R1 := Lib.hid hr
  have G1 := Lib.hid hg1
  clear hr hg1
  dsimp only [Sl.v]
  go_wp2_with (first
    | (at_builtin
       refine wpList_appV rfl _ _ 22 rfl (S := ⟨ra, rn, rc⟩) (V := ⟨ta, tn, tc⟩) (vs := f2 g) Try.underlying22 hi hz0 hz1 hz2 (by rfl) (by omega) rfl rfl R1.out ?b1 ?b2 (HG.out.grown G1.out).cr (f2_one _) ?b3 ?b4 ?_
       case b1 => exact G1.out.size
       case b2 => rw [f2_len]; dsimp only; omega
       case b3 => have := L1.out; dsimp only; omega
       case b4 => have := L1.out; dsimp only; omega
       intro r2 w2 hrn2 hr2 hg2' hbl2
       clear hrn2
       obtain ⟨qa, qn, qc⟩ := r2
       dsimp only [Sl.v] at *
       have R2 := Lib.hid (show OP w.heap.size w2 ⟨qa, qn, qc⟩ (f ++ g) by rw [OP, f2_app]; exact hr2)
       have G2 := Lib.hid (grown_row0 G1.out hg2' (fun b hb => (R1.out.blk b hb).1))
       clear hr2 hg2' hbl2)
    | fail)
  refine (pmerged_any ⟨qa, qn, qc⟩ (f ++ g) w2 R2.out.fr).mono ?_
  rintro e w3 ⟨⟨ma, mn, mc⟩, rfl, hr3, hg3⟩
  rw [MM.out] at hr3
  have R3 := Lib.hid (OR.base_ hr3 G2.out.size)
  have G3 := Lib.hid (grown_trans G2.out hg3)
  clear hr3 hg3
  dsimp only [Sl.v]
  go_wp2
  go_ret
  exact ⟨⟨ma, mn, mc⟩, rfl, R3.out, G3.out⟩

/-! ## Cutting -/
theorem mgd_last {a : List Fm.Pc} {b x y : Int} (h : Fm.Mgd (a ++ [(b, y)])) (hx : 1 ≤ x) : Fm.Mgd (a ++ [(b, x)]) := by
  induction a with
  | nil => exact ⟨hx, fun q hq => by simp at hq, trivial⟩
  | cons p r ih =>
    obtain ⟨h1, h2, h3⟩ := h
    refine ⟨h1, fun q hq => ?_, ih h3⟩
    cases r with
    | nil =>
      simp at hq
      subst hq
      exact h2 (b, y) rfl
    | cons c r => exact h2 q (by simpa using hq)
theorem drop_here {f : List Fm.Pc} {i : Nat} (hi : i < f.length) : f.drop i = f.getD i Fm.zp :: f.drop (i + 1) := by
  rw [List.drop_eq_getElem_cons hi]
  simp [List.getD_eq_getElem?_getD, List.getElem?_eq_getElem hi]
/-- Between two pieces. -/
theorem cut_whole {f : List Fm.Pc} {K : Int} {i : Nat} (hm : Fm.Mgd f) (h : Found f K i 0) : f.take i = Fm.mer ((Fm.lit f).take K.toNat) ∧ f.drop i = Fm.mer ((Fm.lit f).drop K.toNat) := by
  have e : f = f.take i ++ f.drop i := (List.take_append_drop i f).symm
  have h1 : Fm.Mgd (f.take i) := Fm.mgd_front (g := f.drop i) (by rw [← e]; exact hm)
  have h2 : Fm.Mgd (f.drop i) := Fm.mgd_back (f := f.take i) (by rw [← e]; exact hm)
  have hl := Fm.lit_len h1.pos
  have ha := h.at_
  have hk : K.toNat = (Fm.lit (f.take i)).length := by omega
  have el : Fm.lit f = Fm.lit (f.take i) ++ Fm.lit (f.drop i) := by rw [← Fm.lit_app, ← e]
  rw [el, hk, List.take_left, List.drop_left, Fm.mer_lit h1, Fm.mer_lit h2]
  exact ⟨rfl, rfl⟩
/-- Within a piece. -/
theorem cut_inner {f : List Fm.Pc} {K x b y : Int} {i : Nat} (hm : Fm.Mgd f) (h : Found f K i x) (hx : 0 < x) (hi : i < f.length) (hp : f.getD i Fm.zp = (b, y)) :
    f.take i ++ [(b, x)] = Fm.mer ((Fm.lit f).take K.toNat) ∧ (b, y - x) :: f.drop (i + 1) = Fm.mer ((Fm.lit f).drop K.toNat) := by
  have hd := drop_here hi
  rw [hp] at hd
  have e : f = f.take i ++ (b, y) :: f.drop (i + 1) := by rw [← hd, List.take_append_drop]
  have hlt := h.lt hi
  rw [hp] at hlt
  dsimp only at hlt
  have h1 : Fm.Mgd (f.take i ++ [(b, x)]) := mgd_last (y := y) (Fm.mgd_front (g := f.drop (i + 1)) (by rw [List.append_assoc, List.singleton_append, ← e]; exact hm)) (by omega)
  have h2 : Fm.Mgd ((b, y) :: f.drop (i + 1)) := Fm.mgd_back (f := f.take i) (by rw [← e]; exact hm)
  have h3 : Fm.Mgd ((b, y - x) :: f.drop (i + 1)) := ⟨by dsimp only; omega, h2.2.1, h2.2.2⟩
  have hl := Fm.lit_len (Fm.mgd_front h1).pos
  have ha := h.at_
  have hk : K.toNat = (Fm.lit (f.take i ++ [(b, x)])).length := by
    rw [Fm.lit_app, List.length_append, Fm.lit_one, List.length_replicate]
    dsimp only
    omega
  have el : Fm.lit f = Fm.lit (f.take i ++ [(b, x)]) ++ Fm.lit ((b, y - x) :: f.drop (i + 1)) := by
    conv => lhs; rw [e]
    rw [Fm.lit_app, Fm.lit_app, Fm.lit_one, List.append_assoc]
    congr 1
    simp only [Fm.lit]
    rw [← List.append_assoc, List.replicate_append_replicate, show x.toNat + (y - x).toNat = y.toNat by omega]
  rw [el, hk, List.take_left, List.drop_left, Fm.mer_lit h1, Fm.mer_lit h3]
  exact ⟨rfl, rfl⟩
theorem FR.front {w : World} {a : Option Addr} {n c : Nat} {f : List Fm.Pc} (h : FR w ⟨a, n, c⟩ f) (i : Nat) (hi : i ≤ n) : FR w ⟨a, i, c⟩ (f.take i) := by
  have hf := h.fit
  dsimp only [Sl.fit] at hf
  refine ⟨⟨by dsimp only; omega, hf.2⟩, by have := h.len; dsimp only at this ⊢; rw [List.length_take]; omega, fun j u hu => ?_⟩
  refine h.cr j u ?_
  rw [f2, ← flat_take pcs_len, List.getElem?_take] at hu
  split at hu
  · exact hu
  · cases hu
theorem FR.tail {w : World} {b n c : Nat} {f : List Fm.Pc} (h : FR w ⟨some ⟨b, 0, none⟩, n, c⟩ f) (i : Nat) (hi : i ≤ n) {ad : Option Addr} (ha : (if c = i then some (⟨b, 0, none⟩ : Addr) else some ⟨b, i * 2, none⟩) = ad) : FR w ⟨ad, n - i, c - i⟩ (f.drop i) := by
  have hf := h.fit
  dsimp only [Sl.fit] at hf
  have hl := h.len
  dsimp only at hl
  refine ⟨⟨by dsimp only; omega, by dsimp only; omega⟩, by rw [List.length_drop, hl], fun j u hu => ?_⟩
  have hj : j < (f2 (f.drop i)).length := by rcases Nat.lt_or_ge j (f2 (f.drop i)).length with e | e; exact e; rw [List.getElem?_eq_none e] at hu; cases hu
  rw [f2_len, List.length_drop] at hj
  rw [if_neg (by omega)] at ha
  rw [f2, ← flat_drop pcs_len, List.getElem?_drop] at hu
  obtain ⟨b', off', e, hc⟩ := h.cr (i * 2 + j) u hu
  injection e with e
  injection e with e1 e2
  subst e1; subst e2
  refine ⟨b, i * 2, ha.symm, ?_⟩
  rw [Nat.zero_add] at hc
  exact hc
/-- Two rows of pieces that can be read. -/
def CutEnd (p q : List Fm.Pc) (w : World) (e : Ending) (w' : World) : Prop :=
  ∃ r t : Sl, e = .returned (.tuple #[r.v, t.v]) ∧ FR w' r p ∧ FR w' t q ∧ w.grownBy w' none

set_option maxHeartbeats 1000000 in
theorem cut_any (base : Nat) (s : Sl) (f : List Fm.Pc) (K : Int) (w : World) (h : OP base w s f) (hm : Fm.Mgd f) (hl : f.length ≤ 400) (h0 : 0 ≤ K) (hv : K ≤ Fm.vol f) (hv2 : Fm.vol f ≤ 2000000) :
    Calls Try.prog 43 #[s.v, .int .i64 K] w (CutEnd (Fm.mer ((Fm.lit f).take K.toNat)) (Fm.mer ((Fm.lit f).drop K.toNat)) w) := by
  obtain ⟨i0, hi, hz0, hz1, hz2⟩ := parts_p
  have HF := Lib.hid h.fr
  have hlen := h.fr.len
  have fit := h.fit
  have M := Lib.hid hm
  have HP := Lib.hid hm.pos
  have VV := Lib.hid hv
  have hform := h.form
  clear h hm hv
  obtain ⟨a, n, c⟩ := s
  dsimp only [Sl.fit] at hlen hform fit
  rcases hform with ⟨rfl, rfl, rfl, hnil⟩ | ⟨g, rfl, _, hgw⟩
  · have hfn : f = [] := List.eq_nil_of_length_eq_zero hlen
    subst hfn
    have hK : K = 0 := by have := VV.out; simp [Fm.vol] at this; omega
    subst hK
    unfold Sl.v
    dsimp only
    go_enter Try.func43, Try.ntmps43
    go_wp2_with fail
    refine (find_any ⟨none, 0, 0⟩ [] 0 w HF.out HP.out h0 (by omega)).mono ?_
    rintro e w1 ⟨i, x, rfl, hi1, hg⟩
    have G1 := Lib.hid hg
    obtain rfl : i = 0 := by have := hi1.le; simpa using this
    obtain rfl : x = 0 := by have h1 := hi1.x0; have h2 := hi1.xp; omega
    clear hg hi1
    go_wp2
    go_region_held3 (fun _ => True) (first | trivial | fail)
      (first
        | (have hgo := GA.out; go_at_call 47; refine (clone_p ⟨none, 0, 0⟩ [] _ FR.nil (by dsimp only; omega)).mono ?_; rintro e wb ⟨⟨ra, rn, rc⟩, rfl, hrb, hgb⟩)
        | (go_at_call 47; refine (clone_p ⟨none, 0, 0⟩ [] _ FR.nil (by dsimp only; omega)).mono ?_; rintro e wa ⟨⟨la, ln, lc⟩, rfl, hra, hga⟩; have GA := Lib.hid hga)
        | fail)
    have A1 := Lib.hid (hra.fr.grown hgb)
    have B1 := Lib.hid hrb.fr
    have GB := Lib.hid (grown_trans (grown_trans G1.out (grown_drewN w1 1 none)) (grown_trans hga hgb))
    clear hra hga GA hgo hrb hgb
    dsimp only [Sl.v]
    go_wp2
    go_ret2
    exact ⟨⟨la, ln, lc⟩, ⟨ra, rn, rc⟩, rfl, by simpa [Fm.lit, Fm.mer] using A1.out, by simpa [Fm.lit, Fm.mer] using B1.out, GB.out⟩
  · unfold Sl.v
    dsimp only
    go_enter Try.func43, Try.ntmps43
    go_wp2_with fail
    refine (find_any ⟨some ⟨g, 0, none⟩, n, c⟩ f K w HF.out HP.out h0 (by have := VV.out; omega)).mono ?_
    rintro e w1 ⟨i, x, rfl, hi1, hg⟩
    have G1 := Lib.hid hg
    have hin := hi1.le
    have hx0 := hi1.x0
    have I := Lib.hid hi1
    clear hg hi1
    obtain ⟨ad, had⟩ : ∃ ad, (if c = i then some (⟨g, 0, none⟩ : Addr) else some ⟨g, i * 2, none⟩) = ad := ⟨_, rfl⟩
    have T1 := Lib.hid ((HF.out.grown G1.out).front i (by omega))
    have T2 := Lib.hid ((HF.out.grown G1.out).tail i (by omega) had)
    have hin' : (i : Int) ≤ (n : Int) := by omega
    have hic' : (i : Int) ≤ (c : Int) := by omega
    go_wp2
    go_region_held3 (fun _ => True) (first | trivial | fail)
      (first
        | (have hgo := GA.out; go_at_call 47; refine (clone_p ⟨ad, n - i, c - i⟩ (f.drop i) _ (T2.out.grown (grown_trans (grown_drewN w1 1 none) hgo)) (by dsimp only; omega)).mono ?_; rintro e wb ⟨⟨ra, rn, rc⟩, rfl, hrb, hgb⟩)
        | (go_at_call 47; refine (clone_p ⟨some ⟨g, 0, none⟩, i, c⟩ (f.take i) _ (T1.out.grown (grown_drewN w1 1 none)) (by dsimp only; omega)).mono ?_; rintro e wa ⟨⟨la, ln, lc⟩, rfl, hra, hga⟩; have GA := Lib.hid hga)
        | fail)
    have LA := Lib.hid ((hra.base_ (show w.heap.size ≤ (w1.drewN 1).heap.size from G1.out.size)).grown hgb)
    have RB := Lib.hid (hrb.base_ (show w.heap.size ≤ wa.heap.size from Nat.le_trans G1.out.size hga.size))
    have NE := Lib.hid (show ∀ q, (⟨la, ln, lc⟩ : Sl).blk = some q → (⟨ra, rn, rc⟩ : Sl).blk ≠ some q from fun q hq hr => by have h1 := (hra.blk q hq).2; have h2 := (hrb.blk q hr).1; omega)
    have GB := Lib.hid (grown_trans (grown_trans G1.out (grown_drewN w1 1 none)) (grown_trans hga hgb))
    have hln : ln = i := by have := hra.fr.len; dsimp only at this; rw [List.length_take] at this; omega
    have hrn : rn = n - i := by have := hrb.fr.len; dsimp only at this; rw [List.length_drop] at this; omega
    clear hra hga GA hgo hrb hgb
    have hln2 := hln.symm
    subst hln2
    subst hrn
    clear hln
    dsimp only [Sl.v]
    by_cases hx : 0 < x
    · have hlt : i < n := by
        rcases Nat.lt_or_ge i n with e | e
        · exact e
        · have h1 := I.out.at_
          rw [List.take_of_length_le (by omega)] at h1
          have := VV.out
          omega
      obtain ⟨b0, y0, hp0, c0, c1⟩ := (HF.out.grown GB.out).got i hlt
      have CI := Lib.hid (cut_inner M.out I.out hx (by omega) hp0)
      have hxy : x < y0 := by have := I.out.lt (by omega); rw [hp0] at this; exact this
      have hyb : y0 ≤ 2000000 := by
        have h1 := Fm.vol_next (f := f) (k := i) (by omega)
        rw [hp0] at h1
        have h2 := Fm.vol_take_le HP.out (i + 1)
        have h3 := Fm.vol_take_le HP.out i
        dsimp only at h1
        omega
      have DH := drop_here (f := f) (i := i) (by omega)
      rw [hp0] at DH
      rcases RB.out.form with ⟨_, e0, _⟩ | ⟨q, e0, q1, q2⟩
      · dsimp only at e0; omega
      · dsimp only at e0
        subst e0
        have lnb : i ≤ 400 := by omega
        have hrn0 : 0 < n - i := by omega
        have hrn0' : (0 : Int) < ((n - i : Nat) : Int) := by omega
        have QN := Lib.hid (show (⟨la, i, lc⟩ : Sl).blk ≠ some q from fun h => NE.out q h rfl)
        rw [DH] at RB
        have DI := Lib.hid hp0
        clear DH hp0 NE
        rw [Nat.zero_add] at c0
        go_wp2_with (first
          | (at_builtin
             refine wpList_appV rfl _ _ 22 rfl (S := ⟨la, i, lc⟩) (V := ⟨some ⟨wb.heap.size, 0, none⟩, 1, 1⟩) (vs := pcs (b0, x)) Try.underlying22 hi hz0 hz1 hz2 (by rfl) (by omega) rfl rfl (LA.out.grown (World.grownBy_alloc _ _ _)) ?a1 (by rfl) (cr_new _ _ _ (by simp)) (pcs_one _) ?a2 ?a3 ?_
             case a1 => simp; have := GB.out.size; omega
             case a2 => dsimp only; omega
             case a3 => dsimp only; omega
             intro r w5 hrn5 hr hg5 hbl
             obtain ⟨sa, sn, sc⟩ := r
             rw [f2_snoc2, CI.out.1] at hr
             have RB5 := Lib.hid ((RB.out.grown (World.grownBy_alloc wb (.cells #[.int .i64 b0, .int .i64 x] 30) none)).chg (L := (⟨la, i, lc⟩ : Sl).blk.toList) (Chg.of hg5 (fun b hb => by rw [hb]; simp)) (fun b hb hm => by simp [Sl.blk] at hb; subst hb; rw [Option.mem_toList] at hm; exact QN.out hm))
             have SA := Lib.hid hr
             have SQ := Lib.hid (show (⟨sa, sn, sc⟩ : Sl).blk ≠ some q from fun h => by
               rcases hbl q h with e | e
               · exact QN.out e
               · have h1 : (wb.alloc (.cells #[.int .i64 b0, .int .i64 x] 30)).heap.size = wb.heap.size + 1 := by simp
                 omega)
             have G5 := Lib.hid (grown_row0 (grown_trans GB.out (World.grownBy_alloc _ _ _)) hg5 (fun b hb => (LA.out.blk b hb).1))
             have z1 : w5.cell? ⟨q, 1, none⟩ = some (.int .i64 y0) := own_cell RB5.out.own 1 _ rfl
             have z2 := RB5.out.own.frozenAt 1
             clear hr hg5 hbl hrn5
             dsimp only [Sl.v])
          | fail)
        go_ret2
        have ST := RB5.out.stored 1 (.int .i64 (y0 - x))
        have e1 : (f2 ((b0, y0) :: f.drop (i + 1))).set 1 (.int .i64 (y0 - x)) = f2 (Fm.mer ((Fm.lit f).drop K.toNat)) := by rw [← CI.out.2]; rfl
        rw [e1] at ST
        refine ⟨⟨sa, sn, sc⟩, ⟨some ⟨q, 0, none⟩, n - i, rc⟩, rfl, ?_, ST.1.fr, grown_row0 G5.out ST.2 (fun b hb => by cases hb; exact q1)⟩
        exact (SA.out.chg (L := [q]) (Chg.of ST.2 (fun b hb => by cases hb; simp)) (fun b hb hm => by rw [List.mem_singleton] at hm; subst hm; exact SQ.out hb)).fr
    · obtain rfl : x = 0 := by omega
      have CW := Lib.hid (cut_whole M.out I.out)
      go_wp2
      go_ret2
      exact ⟨⟨la, i, lc⟩, ⟨ra, n - i, rc⟩, rfl, by rw [← CW.out.1]; exact LA.out.fr, by rw [← CW.out.2]; exact RB.out.fr, GB.out⟩
end Go.Proofs.Ytaghcdelnjjncaa
