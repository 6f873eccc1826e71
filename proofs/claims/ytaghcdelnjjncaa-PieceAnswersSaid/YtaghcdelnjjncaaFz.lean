/- Contract of the statements' odd. -/
import Derived.Test.YtaghcdelnjjncaaFy
namespace Go.Proofs.Ytaghcdelnjjncaa
open Go.ChangeShapes Go.WideShapes Go.ChangeAt Go.RowKit

/-- A row that can be read, apart from the reader. -/
def OddEnd (S : Nat) (w : World) (e : Ending) (w' : World) : Prop :=
  ∃ (r : Sl) (f : List Fm.Pc), e = .returned r.v ∧ FR w' r f ∧ r.blk ≠ some S ∧ w.grownBy w' (some S) ∧ SrcOK w' S
theorem row_apart {w w' : World} {S : Nat} {s : Sl} {us : List Value} (h : OR w.heap.size w' 30 2 s us) (hS : S < w.heap.size) : s.blk ≠ some S := fun e => by
  have := (h.blk S e).1; omega
/-- A number is written into a row of the call's own, of any pieces. -/
theorem f2_set0 {f : List Fm.Pc} {k : Nat} (hk : k < f.length) (v : Int) : (f2 f).set (k * 2) (.int .i64 v) = f2 (f.set k (v, (f.getD k Fm.zp).2)) := by
  have e : f = f.take k ++ (f.getD k Fm.zp :: f.drop (k + 1)) := by
    conv => lhs; rw [← List.take_append_drop k f, List.drop_eq_getElem_cons hk]
    simp [List.getD_eq_getElem?_getD, List.getElem?_eq_getElem hk]
  have hl : (f.take k).length = k := by rw [List.length_take]; omega
  generalize f.getD k Fm.zp = q at *
  generalize f.take k = a at *
  generalize f.drop (k + 1) = c at *
  subst e
  rw [f2_app, List.set_append_right _ _ (by rw [f2_len]; omega), f2_len, hl, Nat.sub_self, List.set_append_right _ _ (by omega), hl, Nat.sub_self, f2_app]
  rfl
theorem f2_set1 {f : List Fm.Pc} {k : Nat} (hk : k < f.length) (v : Int) : (f2 f).set (k * 2 + 1) (.int .i64 v) = f2 (f.set k ((f.getD k Fm.zp).1, v)) := by
  have e : f = f.take k ++ (f.getD k Fm.zp :: f.drop (k + 1)) := by
    conv => lhs; rw [← List.take_append_drop k f, List.drop_eq_getElem_cons hk]
    simp [List.getD_eq_getElem?_getD, List.getElem?_eq_getElem hk]
  have hl : (f.take k).length = k := by rw [List.length_take]; omega
  generalize f.getD k Fm.zp = q at *
  generalize f.take k = a at *
  generalize f.drop (k + 1) = c at *
  subst e
  rw [f2_app, List.set_append_right _ _ (by rw [f2_len]; omega), f2_len, hl, show k * 2 + 1 - k * 2 = 1 by omega, List.set_append_right _ _ (by omega), hl, Nat.sub_self, f2_app]
  rfl

set_option maxRecDepth 100000 in
set_option maxHeartbeats 4000000 in
theorem odd_any (S : Nat) (s : Sl) (f : List Fm.Pc) (w : World) (hs : SrcOK w S) (h : FR w s f) (hl : f.length ≤ 1000) :
    Calls Try.prog 14 #[.pointer (some ⟨S, 0, none⟩), s.v] w (OddEnd S w) := by
  obtain ⟨i0, hi0, hz0, hz1, hz2⟩ := parts_p
  obtain ⟨sa, sn, sc⟩ := s
  have OL := Lib.hid (or_lit w)
  have F := Lib.hid h
  have LF := h.len
  dsimp only at LF
  have HS := Lib.hid hs
  have hS := src_lt hs
  clear h hs
  unfold Sl.v
  dsimp only
  go_enter Try.func14, Try.ntmps14
  go_upto_region 2 with (first
    | (at_builtin
       refine wpList_appV rfl _ _ 22 rfl (S := ⟨some ⟨w.heap.size, 0, none⟩, 0, 0⟩) (V := ⟨sa, sn, sc⟩) (vs := f2 f) Try.underlying22 hi0 hz0 hz1 hz2 (by rfl) (by omega) rfl rfl OL.out ?a1 ?a2 (F.out.grown (World.grownBy_alloc _ _ _)).cr (f2_one _) ?a3 ?a4 ?_
       case a1 => simp
       case a2 => rw [f2_len]; dsimp only; omega
       case a3 => dsimp only; omega
       case a4 => dsimp only; omega
       intro r w1 hrn hr hg1 hbl
       obtain ⟨ra, rn, rc⟩ := r
       clear hrn
       dsimp only [Sl.v])
    | fail)
  have R := Lib.hid (show OP w.heap.size w1 ⟨ra, rn, rc⟩ f from hr)
  have G := Lib.hid (grown_row0 (World.grownBy_alloc _ _ _) hg1 (fun b hb => by simp [Sl.blk] at hb; omega))
  have hrl := R.out.fr.len
  dsimp only at hrl
  have hrn2 : rn ≤ 1000 := by omega
  have RL := Lib.hid hrl
  replace HS := Lib.hid (HS.out.grown G.out)
  clear hr hg1 hbl hrl LF OL F
  have rfit := R.out.fit
  dsimp only [Sl.fit] at rfit
  by_cases h0 : rn = 0
  · have h0b : ((rn : Int) == 0) = true := by rw [h0]; rfl
    go_wp2_with fail
    refine (range_any S (-1) 1 w1 HS.out (by omega) (by omega) (by omega)).mono ?_
    rintro e w2 ⟨x, _, rfl, hg, hs⟩
    have N := Lib.hid (fr_new w2 [(x, 0)] (A := w2.heap.size) (cs := #[.int .i64 x, .int .i64 0]) rfl rfl (by simp))
    have g2 := hg.size
    have gs := G.out.size
    have G2 := Lib.hid (grown_trans (grown_trans (grown_weak _ G.out) hg) (World.grownBy_alloc w2 (.cells #[.int .i64 x, .int .i64 0] 30) (some S)))
    have H2 := Lib.hid (SrcOK.grown hs (World.grownBy_alloc w2 (.cells #[.int .i64 x, .int .i64 0] 30) none))
    clear hg hs
    go_wp2
    go_ret
    exact ⟨⟨some ⟨w2.heap.size, 0, none⟩, 1, 1⟩, [(x, 0)], rfl, N.out, fun e => by simp [Sl.blk] at e; omega, G2.out, H2.out⟩
  · have h0b : ((rn : Int) == 0) = false := by rw [beq_eq_false_iff_ne]; omega
    rcases R.out.form with ⟨_, e0, _⟩ | ⟨g, e0, hg1, hg2⟩
    · dsimp only at e0; omega
    dsimp only at e0
    subst e0
    go_wp2_with fail
    refine (n_any S rn w1 HS.out (by omega) (by omega)).mono ?_
    rintro e w2 ⟨x, ⟨hx0, hx1⟩, rfl, hg, hs⟩
    obtain ⟨k, rfl⟩ := Int.eq_ofNat_of_zero_le hx0
    have hk : k < rn := by omega
    have R2 := Lib.hid (show OP w.heap.size w2 ⟨some ⟨g, 0, none⟩, rn, rc⟩ f from R.out.chg (L := [S]) (Chg.of hg (fun b hb => by cases hb; simp)) (fun b hb hm => by rw [List.mem_singleton] at hm; subst hm; exact row_apart R.out hS hb))
    have G2 := Lib.hid (grown_trans (grown_weak (some S) G.out) hg)
    have H2 := Lib.hid hs
    clear hg hs R G HS
    go_wp2_with fail
    refine (n_any S 3 w2 H2.out (by omega) (by omega)).mono ?_
    rintro e w3 ⟨c, ⟨hc0, hc1⟩, rfl, hg, hs⟩
    have R3 := Lib.hid (show OP w.heap.size w3 ⟨some ⟨g, 0, none⟩, rn, rc⟩ f from R2.out.chg (L := [S]) (Chg.of hg (fun b hb => by cases hb; simp)) (fun b hb hm => by rw [List.mem_singleton] at hm; subst hm; exact row_apart R2.out hS hb))
    have G3 := Lib.hid (grown_trans G2.out hg)
    have H3 := Lib.hid hs
    have g3 := G3.out.size
    have hgS : g ≠ S := by omega
    clear hg hs R2 G2 H2
    have hki : (k : Int) < (rn : Int) := by omega
    by_cases c0 : c = 0
    · subst c0
      go_wp2_with fail
      refine (pick_any S w3.heap.size 0 6 6 [-1, 0, 1, 999, 1000, 4611686018427387904] (w3.alloc (.cells #[.int .i64 (-1), .int .i64 0, .int .i64 1, .int .i64 999, .int .i64 1000, .int .i64 4611686018427387904] 3)) (H3.out.grown (World.grownBy_alloc _ _ _)) (by omega) rfl (by omega) (by omega) ?_).mono ?_
      · intro j hj
        match j, hj with
        | 0, _ => simp
        | 1, _ => simp
        | 2, _ => simp
        | 3, _ => simp
        | 4, _ => simp
        | 5, _ => simp
      rintro e w4 ⟨v, _, rfl, hg, hs⟩
      have ga := World.grownBy_alloc w3 (.cells #[.int .i64 (-1), .int .i64 0, .int .i64 1, .int .i64 999, .int .i64 1000, .int .i64 4611686018427387904] 3) none
      have R4 := Lib.hid (show OP w.heap.size w4 ⟨some ⟨g, 0, none⟩, rn, rc⟩ f from (R3.out.grown ga).chg (L := [S]) (Chg.of hg (fun b hb => by cases hb; simp)) (fun b hb hm => by rw [List.mem_singleton] at hm; subst hm; exact row_apart R3.out hS hb))
      have G4 := Lib.hid (grown_trans G3.out (grown_trans (grown_weak (some S) ga) hg))
      have H4 := Lib.hid hs
      clear hg hs ga
      obtain ⟨x1, y1, hp, d0, d1⟩ := R4.out.fr.got k hk
      rw [Nat.zero_add] at d0 d1
      have fz := R4.out.own.frozenAt (k * 2)
      have ST := Lib.hid (R4.out.stored (k * 2) (.int .i64 v))
      rw [f2_set0 (by have := RL.out; omega), hp] at ST
      have H5 := Lib.hid (H4.out.grownRow ST.out.2 (fun b hb => by cases hb; omega))
      have G5 := Lib.hid (grown_skip G4.out ST.out.2 hg1)
      clear hp
      go_wp2
      go_ret
      exact ⟨⟨some ⟨g, 0, none⟩, rn, rc⟩, _, rfl, OR.fr (T := 30) ST.out.1, fun e => by simp [Sl.blk] at e; omega, G5.out, H5.out⟩
    · have c0b : (c == 0) = false := by rw [beq_eq_false_iff_ne]; exact c0
      by_cases c1 : c = 1
      · subst c1
        go_wp2_with fail
        refine (pick_any S w3.heap.size 0 6 6 [0, -1, 1, 1000000, 1000001, 4611686018427387904] (w3.alloc (.cells #[.int .i64 0, .int .i64 (-1), .int .i64 1, .int .i64 1000000, .int .i64 1000001, .int .i64 4611686018427387904] 3)) (H3.out.grown (World.grownBy_alloc _ _ _)) (by omega) rfl (by omega) (by omega) ?_).mono ?_
        · intro j hj
          match j, hj with
          | 0, _ => simp
          | 1, _ => simp
          | 2, _ => simp
          | 3, _ => simp
          | 4, _ => simp
          | 5, _ => simp
        rintro e w4 ⟨v, _, rfl, hg, hs⟩
        have ga := World.grownBy_alloc w3 (.cells #[.int .i64 0, .int .i64 (-1), .int .i64 1, .int .i64 1000000, .int .i64 1000001, .int .i64 4611686018427387904] 3) none
        have R4 := Lib.hid (show OP w.heap.size w4 ⟨some ⟨g, 0, none⟩, rn, rc⟩ f from (R3.out.grown ga).chg (L := [S]) (Chg.of hg (fun b hb => by cases hb; simp)) (fun b hb hm => by rw [List.mem_singleton] at hm; subst hm; exact row_apart R3.out hS hb))
        have G4 := Lib.hid (grown_trans G3.out (grown_trans (grown_weak (some S) ga) hg))
        have H4 := Lib.hid hs
        clear hg hs ga
        obtain ⟨x1, y1, hp, d0, d1⟩ := R4.out.fr.got k hk
        rw [Nat.zero_add] at d0 d1
        have fz := R4.out.own.frozenAt (k * 2 + 1)
        have ST := Lib.hid (R4.out.stored (k * 2 + 1) (.int .i64 v))
        rw [f2_set1 (by have := RL.out; omega), hp] at ST
        have H5 := Lib.hid (H4.out.grownRow ST.out.2 (fun b hb => by cases hb; omega))
        have G5 := Lib.hid (grown_skip G4.out ST.out.2 hg1)
        clear hp
        go_wp2
        go_ret
        exact ⟨⟨some ⟨g, 0, none⟩, rn, rc⟩, _, rfl, OR.fr (T := 30) ST.out.1, fun e => by simp [Sl.blk] at e; omega, G5.out, H5.out⟩
      · have c1b : (c == 1) = false := by rw [beq_eq_false_iff_ne]; exact c1
        obtain ⟨x1, y1, hp, d0, d1⟩ := R3.out.fr.got k hk
        rw [Nat.zero_add] at d0 d1
        have O := Lib.hid (R3.out.grown (World.grownBy_alloc w3 (.cells #[.int .i64 x1, .int .i64 y1] 30) none))
        clear hp
        go_wp2_with (first
          | (at_builtin
             refine wpList_appV rfl _ _ 22 rfl (S := ⟨some ⟨g, 0, none⟩, rn, rc⟩) (V := ⟨some ⟨w3.heap.size, 0, none⟩, 1, 1⟩) (vs := pcs (x1, y1)) Try.underlying22 hi0 hz0 hz1 hz2 (by rfl) (by omega) rfl rfl O.out ?b1 (by rfl) (cr_new _ _ _ rfl) (pcs_one _) ?b3 ?b4 ?_
             case b1 => simp; omega
             case b3 => dsimp only; omega
             case b4 => dsimp only; omega
             intro r5 w5 hrn hr hg5 hbl
             obtain ⟨qa, qn, qc⟩ := r5
             clear hrn
             rw [f2_snoc2] at hr
             have RR := Lib.hid hr
             have gg := grown_trans (grown_weak (some S) (World.grownBy_alloc w3 (.cells #[.int .i64 x1, .int .i64 y1] 30) none)) (grown_weak (some S) (grown_refl _ _))
             have G5 := Lib.hid (grown_skip (grown_trans G3.out gg) hg5 hg1)
             have H5 := Lib.hid ((H3.out.grown (World.grownBy_alloc w3 (.cells #[.int .i64 x1, .int .i64 y1] 30) none)).grownRow hg5 (fun b hb => by simp [Sl.blk] at hb; omega))
             clear hr hg5 hbl gg
             dsimp only [Sl.v])
          | fail)
        go_ret
        exact ⟨⟨qa, qn, qc⟩, _, rfl, OR.fr (T := 30) RR.out, row_apart RR.out hS, G5.out, H5.out⟩
end Go.Proofs.Ytaghcdelnjjncaa
