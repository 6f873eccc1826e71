/- PieceParts: the walk. -/
import Derived.Test.YtaghcdelnjjncaaFw
namespace Go.Proofs.Ytaghcdelnjjncaa
open Go.ChangeShapes Go.WideShapes Go.ChangeAt Go.RowKit

/-- The two parts of what is pushed in. -/
def hd (g : List Fm.Pc) (k : Int) : List Fm.Pc := Fm.mer ((Fm.lit g).take k.toNat)
def tl (g : List Fm.Pc) (k : Int) : List Fm.Pc := Fm.mer ((Fm.lit g).drop k.toNat)
theorem Few.hd {g : List Fm.Pc} {n : Nat} (h : Few g n) (k : Int) : Few (hd g k) n := by
  have h1 := Fm.mer_take_len (Fm.lit g) k.toNat
  rw [Fm.mer_lit h.val.mgd] at h1
  have hl := h.len
  have hv := h.val.len
  refine ⟨Fm.val_mer (by omega) (fun b hb => h.val.lits b (List.mem_of_mem_take hb)) ?_, by unfold Go.Proofs.Ytaghcdelnjjncaa.hd; omega⟩
  have := h.val.litlen
  rw [List.length_take]; omega
theorem Few.tl {g : List Fm.Pc} {n : Nat} (h : Few g n) (k : Int) : Few (tl g k) n := by
  have h1 := Fm.mer_drop_len (Fm.lit g) k.toNat
  rw [Fm.mer_lit h.val.mgd] at h1
  have hl := h.len
  have hv := h.val.len
  refine ⟨Fm.val_mer (by omega) (fun b hb => h.val.lits b (List.mem_of_mem_drop hb)) ?_, by unfold Go.Proofs.Ytaghcdelnjjncaa.tl; omega⟩
  have := h.val.litlen
  rw [List.length_drop]; omega
theorem hd_tl (g : List Fm.Pc) (k : Int) : Fm.lit (hd g k) ++ Fm.lit (tl g k) = Fm.lit g := by unfold hd tl; rw [Fm.lit_mer, Fm.lit_mer, List.take_append_drop]
/-- Pushed at the end, the head first. -/
theorem two_back (f g : List Fm.Pc) (k : Int) : nx (nx f (hd g k) true) (tl g k) true = nx f g true ∧ Fm.lit (ou f (hd g k) true) ++ Fm.lit (ou (nx f (hd g k) true) (tl g k) true) = Fm.lit (ou f g true) := by
  obtain ⟨h1, h2⟩ := Fm.shift_two_back (Fm.lit f) (Fm.lit (hd g k)) (Fm.lit (tl g k))
  rw [hd_tl] at h1 h2
  constructor
  · unfold nx at *
    rw [Fm.lit_mer, h1]
  · rw [lit_ou, lit_ou, lit_ou, lit_nx]; exact h2
/-- Pushed at the beginning, the tail first. -/
theorem two_front (f g : List Fm.Pc) (k : Int) : nx (nx f (tl g k) false) (hd g k) false = nx f g false ∧ Fm.lit (ou (nx f (tl g k) false) (hd g k) false) ++ Fm.lit (ou f (tl g k) false) = Fm.lit (ou f g false) := by
  obtain ⟨h1, h2⟩ := Fm.shift_two_front (Fm.lit f) (Fm.lit (hd g k)) (Fm.lit (tl g k))
  rw [hd_tl] at h1 h2
  constructor
  · unfold nx at *
    rw [Fm.lit_mer, h1]
  · rw [lit_ou, lit_ou, lit_ou, lit_nx]; exact h2
theorem Few.mok {f g : List Fm.Pc} {n m : Nat} (h : Few f n) (k : Few g m) : Mok (f ++ g) := by
  refine ⟨by have := h.val.len; have := k.val.len; rw [List.length_append]; omega, fun p hp => ?_⟩
  unfold okm
  rcases List.mem_append.1 hp with e | e
  · have := h.val.ok p e; unfold Fm.okp at this; omega
  · have := k.val.ok p e; unfold Fm.okp at this; omega
theorem merged_two {u v x : List Fm.Pc} {n m : Nat} (h : Few u n) (k : Few v m) (hx : Fm.Mgd x) (e : Fm.lit u ++ Fm.lit v = Fm.lit x) : merged (u ++ v) = x := by
  rw [merged_yes (h.mok k), Fm.lit_app, e, Fm.mer_lit hx]
theorem or_at {w wr : World} {s : Sl} {f : List Fm.Pc} (h : OP w.heap.size wr s f) : FR wr s f := h.fr
set_option maxRecDepth 100000 in
set_option maxHeartbeats 4000000 in
theorem parts_walk (a : Option Addr) (len cap : Nat) (zs : List Int) (cut : Int) (back : Bool) (hc : (Lit.int .u16 cut).wf = true) (w : World) (hi : InRow w a len cap zs) :
    Calls Try.prog 6 #[.slice a len cap, .int .u16 cut, .bool back] w fun e w' => e = .returned (.bool true) ∧ Below w.heap.size w w' := by
  obtain ⟨i0, hi0, hz0, hz1, hz2⟩ := parts_p
  have b0 := bounds_u16 hc
  clear hc
  cases back with
  | true =>
    go_enter Try.func6, Try.ntmps6
    go_wp2_with fail
    refine (new_any a len cap zs w hi).mono ?_
    rintro e w1 ⟨rfl, hg, hs, _⟩
    have G := Lib.hid hg
    have HS := Lib.hid hs
    clear hi hg hs
    obtain ⟨S, hS⟩ : ∃ S, S = w.heap.size := ⟨_, rfl⟩
    have SW := Lib.hid hS
    rw [← hS] at HS ⊢
    clear hS
    go_wp2_with fail
    refine (n_any S 200 w1 HS.out (by omega) (by omega)).mono ?_
    rintro e w2 ⟨V1, ⟨hv1, hv2⟩, rfl, hg, hs⟩
    replace G := Lib.hid (G.out.under SW.out hg)
    replace HS := Lib.hid hs
    clear hg hs
    go_wp2_with fail
    refine (fill_any S V1 3 w2 HS.out (by omega) (by omega) (by omega) (by omega)).mono ?_
    rintro e w3 ⟨⟨fa, fn, fc⟩, f, rfl, ho, hf, hg, hs⟩
    have F := Lib.hid ho.fr
    have FB := Lib.hid (off_of ho HS.out)
    have FF := Lib.hid hf
    replace G := Lib.hid (G.out.under SW.out hg)
    replace HS := Lib.hid hs
    clear ho hf hg hs
    dsimp only [Sl.v]
    go_wp2_with fail
    refine (n_any S 300 w3 HS.out (by omega) (by omega)).mono ?_
    rintro e w4 ⟨V2, ⟨hv3, hv4⟩, rfl, hg, hs⟩
    replace F := Lib.hid (F.out.row hg FB.out)
    replace G := Lib.hid (G.out.under SW.out hg)
    replace HS := Lib.hid hs
    clear hg hs
    go_wp2_with fail
    refine (fill_any S V2 4 w4 HS.out (by omega) (by omega) (by omega) (by omega)).mono ?_
    rintro e w5 ⟨⟨ga, gn, gc⟩, g, rfl, ho, hf, hg, hs⟩
    replace F := Lib.hid (F.out.row hg FB.out)
    have K := Lib.hid ho.fr
    have FG := Lib.hid hf
    replace G := Lib.hid (G.out.under SW.out hg)
    clear ho hf hg hs HS FB
    dsimp only [Sl.v]
    have SV := FG.out.vol
    have hs4 : Fm.vol g ≤ 4611686018427387904 := by omega
    have HSV := Lib.hid hs4
    clear SV hs4
    go_wp2_with fail
    refine (rsum_any ⟨ga, gn, gc⟩ _ w5 K.out FG.out.val.pos HSV.out).mono ?_
    rw [FG.out.vol]
    rintro e w6 ⟨rfl, hg⟩
    replace F := Lib.hid (F.out.grown hg)
    replace K := Lib.hid (K.out.grown hg)
    replace G := Lib.hid (grown_trans G.out hg)
    clear hg
    have hw1 : IntKind.i64.wrap (V2 + 1) = V2 + 1 := IntWalk.i64_in _ (by omega)
    go_wp2_with fail
    refine (mod_pos cut (V2 + 1) w6 (by omega) (by omega) (by omega) (by omega)).mono ?_
    rintro e w7 ⟨rfl, rfl⟩
    have m1 := Int.emod_nonneg cut (b := V2 + 1) (by omega)
    have m2 := Int.emod_lt_of_pos cut (b := V2 + 1) (by omega)
    generalize cut % (V2 + 1) = k at *
    clear hw1
    go_wp2_with fail
    refine (rsplit_any ⟨ga, gn, gc⟩ g k w6 K.out FG.out.val.pos (by have := FG.out.len; omega) (by have := FG.out.vol; omega) m1 (by omega)).mono ?_
    rintro e w8 ⟨⟨ha, hn, hc⟩, ⟨ta, tn, tc⟩, rfl, hH, hT, hg⟩
    have H := Lib.hid (show FR w8 ⟨ha, hn, hc⟩ (hd g k) from hH.fr)
    have T := Lib.hid (show FR w8 ⟨ta, tn, tc⟩ (tl g k) from hT.fr)
    replace F := Lib.hid (F.out.grown hg)
    replace K := Lib.hid (K.out.grown hg)
    replace G := Lib.hid (grown_trans G.out hg)
    clear hH hT hg
    dsimp only [Sl.v]
    have FWA := Lib.hid (FG.out.few.hd k)
    have FWB := Lib.hid (FG.out.few.tl k)
    have N1 := Lib.hid (FF.out.few.nx FWA.out (by omega) true)
    have N2 := Lib.hid (N1.out.1.nx FWB.out (by omega) true)
    have N3 := Lib.hid (FF.out.few.nx FG.out.few (by omega) true)
    have TW := Lib.hid (two_back f g k)
    have P1 := Lib.hid (FF.out.few.pushed FWA.out (by omega) true)
    have P2' := N1.out.1.pushed FWB.out (by omega) true
    rw [TW.out.1] at P2'
    have P2 := Lib.hid P2'
    have P3 := Lib.hid (FF.out.few.pushed FG.out.few (by omega) true)
    have UL := Lib.hid (show (ou f (hd g k) true).length ≤ 200 from N1.out.2.val.len)
    have VL := Lib.hid (show (ou (nx f (hd g k) true) (tl g k) true).length ≤ 200 from N2.out.2.val.len)
    clear P2'
    go_wp2_with fail
    refine (ppush_any ⟨fa, fn, fc⟩ ⟨ha, hn, hc⟩ _ _ true w8 F.out H.out P1.out).mono ?_
    rintro e w9 ⟨⟨xa, xn, xc⟩, ⟨ua, un, uc⟩, rfl, hX, hU, hg⟩
    replace F := Lib.hid (F.out.grown hg)
    replace K := Lib.hid (K.out.grown hg)
    replace H := Lib.hid (H.out.grown hg)
    replace T := Lib.hid (T.out.grown hg)
    replace G := Lib.hid (grown_trans G.out hg)
    have X := Lib.hid hX
    have U := Lib.hid hU
    clear hX hU hg
    dsimp only [Sl.v]
    go_wp2_with fail
    refine (ppush_any ⟨xa, xn, xc⟩ ⟨ta, tn, tc⟩ _ _ true w9 X.out T.out P2.out).mono ?_
    rintro e w10 ⟨⟨ya, yn, yc⟩, ⟨va, vn, vc⟩, rfl, hY, hV, hg⟩
    replace F := Lib.hid (F.out.grown hg)
    replace K := Lib.hid (K.out.grown hg)
    replace H := Lib.hid (H.out.grown hg)
    replace T := Lib.hid (T.out.grown hg)
    replace X := Lib.hid (X.out.grown hg)
    replace U := Lib.hid (U.out.grown hg)
    replace G := Lib.hid (grown_trans G.out hg)
    have Y := Lib.hid hY
    have V := Lib.hid hV
    clear hY hV hg
    dsimp only [Sl.v]
    go_wp2_with fail
    refine (ppush_any ⟨fa, fn, fc⟩ ⟨ga, gn, gc⟩ _ _ true w10 F.out K.out P3.out).mono ?_
    rintro e w11 ⟨⟨za, zn, zc⟩, ⟨qa, qn, qc⟩, rfl, hZ, hQ, hg⟩
    replace F := Lib.hid (F.out.grown hg)
    replace K := Lib.hid (K.out.grown hg)
    replace H := Lib.hid (H.out.grown hg)
    replace T := Lib.hid (T.out.grown hg)
    replace X := Lib.hid (X.out.grown hg)
    replace U := Lib.hid (U.out.grown hg)
    replace Y := Lib.hid (Y.out.grown hg)
    replace V := Lib.hid (V.out.grown hg)
    replace G := Lib.hid (grown_trans G.out hg)
    have Z := Lib.hid hZ
    have Q := Lib.hid hQ
    clear hZ hQ hg
    dsimp only [Sl.v]
    go_wp2_with fail
    refine (rsame_any ⟨ya, yn, yc⟩ ⟨za, zn, zc⟩ _ _ w11 Y.out Z.out).mono ?_
    rw [sameB_refl]
    rintro e w12 ⟨rfl, hg⟩
    replace F := Lib.hid (F.out.grown hg)
    replace K := Lib.hid (K.out.grown hg)
    replace H := Lib.hid (H.out.grown hg)
    replace T := Lib.hid (T.out.grown hg)
    replace X := Lib.hid (X.out.grown hg)
    replace U := Lib.hid (U.out.grown hg)
    replace Y := Lib.hid (Y.out.grown hg)
    replace V := Lib.hid (V.out.grown hg)
    replace Z := Lib.hid (Z.out.grown hg)
    replace Q := Lib.hid (Q.out.grown hg)
    replace G := Lib.hid (grown_trans G.out hg)
    clear hg
    clear F
    clear K
    clear H
    clear T
    clear X
    clear Y
    clear Z
    have OL1 := Lib.hid (or_lit w12)
    have LU := U.out.len
    have LV := V.out.len
    have BU := UL.out
    have BV := VL.out
    dsimp only at LU LV
    go_wp2_with (first
      | (at_builtin
         refine wpList_appV rfl _ _ 22 rfl (S := ⟨some ⟨w12.heap.size, 0, none⟩, 0, 0⟩) (V := ⟨ua, un, uc⟩) (vs := f2 (ou f (hd g k) true)) Try.underlying22 hi0 hz0 hz1 hz2 (by rfl) (by omega) rfl rfl OL1.out ?a1 ?a2 (U.out.grown (World.grownBy_alloc _ _ _)).cr (f2_one _) ?a3 ?a4 ?_
         case a1 => simp
         case a2 => rw [f2_len]; dsimp only; omega
         case a3 => dsimp only; omega
         case a4 => dsimp only; omega
         intro r x1 hrn hr hg1 hbl
         obtain ⟨ra, rn, rc⟩ := r
         dsimp only [Sl.v] at *
         have L11 := Lib.hid (show rn = un by omega)
         clear hrn
         have R11 := Lib.hid hr
         have G11 := Lib.hid (grown_row0 (World.grownBy_alloc _ _ _) hg1 (fun b hb => by simp [Sl.blk] at hb; omega))
         clear hr hg1 hbl)
      | (at_builtin
         refine wpList_appV rfl _ _ 22 rfl (S := ⟨ra, rn, rc⟩) (V := ⟨va, vn, vc⟩) (vs := f2 (ou (nx f (hd g k) true) (tl g k) true)) Try.underlying22 hi0 hz0 hz1 hz2 (by rfl) (by omega) rfl rfl R11.out ?b1 ?b2 (V.out.grown G11.out).cr (f2_one _) ?b3 ?b4 ?_
         case b1 => exact G11.out.size
         case b2 => rw [f2_len]; dsimp only; omega
         case b3 => have := L11.out; dsimp only; omega
         case b4 => have := L11.out; dsimp only; omega
         intro r2 pw hrn2 hr2 hg2' hbl2
         clear hrn2
         obtain ⟨pa, pn, pc⟩ := r2
         dsimp only [Sl.v] at *
         have hg3 := grown_row0 G11.out hg2' (fun b hb => (R11.out.blk b hb).1)
         have R21 := Lib.hid (show FR pw ⟨pa, pn, pc⟩ ((ou f (hd g k) true) ++ (ou (nx f (hd g k) true) (tl g k) true)) from OR.fr (base := w12.heap.size) (T := 30) (by rw [f2_app]; exact hr2))
         clear hr2 hg2' hbl2
         replace U := Lib.hid (U.out.grown hg3)
         replace V := Lib.hid (V.out.grown hg3)
         replace Q := Lib.hid (Q.out.grown hg3)
         replace G := Lib.hid (grown_trans G.out hg3)
         clear hg3)
      | fail)
    clear LU LV BU BV
    clear U V
    have MT := Lib.hid (merged_two N1.out.2 N2.out.2 N3.out.2.val.mgd TW.out.2)
    refine (pmerge_any ⟨pa, pn, pc⟩ _ pw R21.out).mono ?_
    rw [MT.out]
    rintro e w15 ⟨⟨ma, mn, mc⟩, rfl, hr, hg⟩
    have M := Lib.hid hr
    replace Q := Lib.hid (Q.out.grown hg)
    replace G := Lib.hid (grown_trans G.out hg)
    clear hr hg
    dsimp only [Sl.v]
    go_wp2_with fail
    refine (rsame_any ⟨ma, mn, mc⟩ ⟨qa, qn, qc⟩ _ _ w15 M.out Q.out).mono ?_
    rw [sameB_refl]
    rintro e w16 ⟨rfl, hg⟩
    replace Q := Lib.hid (Q.out.grown hg)
    replace M := Lib.hid (M.out.grown hg)
    replace G := Lib.hid (grown_trans G.out hg)
    clear hg
    go_wp2_with fail
    refine (awake_any w16).mono ?_
    rintro e w17 ⟨rfl, hg⟩
    replace Q := Lib.hid (Q.out.grown hg)
    replace M := Lib.hid (M.out.grown hg)
    replace G := Lib.hid (grown_trans G.out hg)
    clear hg
    go_wp2
    go_ret
    exact ⟨rfl, grown_below G.out⟩
  | false =>
    go_enter Try.func6, Try.ntmps6
    go_wp2_with fail
    refine (new_any a len cap zs w hi).mono ?_
    rintro e w1 ⟨rfl, hg, hs, _⟩
    have G := Lib.hid hg
    have HS := Lib.hid hs
    clear hi hg hs
    obtain ⟨S, hS⟩ : ∃ S, S = w.heap.size := ⟨_, rfl⟩
    have SW := Lib.hid hS
    rw [← hS] at HS ⊢
    clear hS
    go_wp2_with fail
    refine (n_any S 200 w1 HS.out (by omega) (by omega)).mono ?_
    rintro e w2 ⟨V1, ⟨hv1, hv2⟩, rfl, hg, hs⟩
    replace G := Lib.hid (G.out.under SW.out hg)
    replace HS := Lib.hid hs
    clear hg hs
    go_wp2_with fail
    refine (fill_any S V1 3 w2 HS.out (by omega) (by omega) (by omega) (by omega)).mono ?_
    rintro e w3 ⟨⟨fa, fn, fc⟩, f, rfl, ho, hf, hg, hs⟩
    have F := Lib.hid ho.fr
    have FB := Lib.hid (off_of ho HS.out)
    have FF := Lib.hid hf
    replace G := Lib.hid (G.out.under SW.out hg)
    replace HS := Lib.hid hs
    clear ho hf hg hs
    dsimp only [Sl.v]
    go_wp2_with fail
    refine (n_any S 300 w3 HS.out (by omega) (by omega)).mono ?_
    rintro e w4 ⟨V2, ⟨hv3, hv4⟩, rfl, hg, hs⟩
    replace F := Lib.hid (F.out.row hg FB.out)
    replace G := Lib.hid (G.out.under SW.out hg)
    replace HS := Lib.hid hs
    clear hg hs
    go_wp2_with fail
    refine (fill_any S V2 4 w4 HS.out (by omega) (by omega) (by omega) (by omega)).mono ?_
    rintro e w5 ⟨⟨ga, gn, gc⟩, g, rfl, ho, hf, hg, hs⟩
    replace F := Lib.hid (F.out.row hg FB.out)
    have K := Lib.hid ho.fr
    have FG := Lib.hid hf
    replace G := Lib.hid (G.out.under SW.out hg)
    clear ho hf hg hs HS FB
    dsimp only [Sl.v]
    have SV := FG.out.vol
    have hs4 : Fm.vol g ≤ 4611686018427387904 := by omega
    have HSV := Lib.hid hs4
    clear SV hs4
    go_wp2_with fail
    refine (rsum_any ⟨ga, gn, gc⟩ _ w5 K.out FG.out.val.pos HSV.out).mono ?_
    rw [FG.out.vol]
    rintro e w6 ⟨rfl, hg⟩
    replace F := Lib.hid (F.out.grown hg)
    replace K := Lib.hid (K.out.grown hg)
    replace G := Lib.hid (grown_trans G.out hg)
    clear hg
    have hw1 : IntKind.i64.wrap (V2 + 1) = V2 + 1 := IntWalk.i64_in _ (by omega)
    go_wp2_with fail
    refine (mod_pos cut (V2 + 1) w6 (by omega) (by omega) (by omega) (by omega)).mono ?_
    rintro e w7 ⟨rfl, rfl⟩
    have m1 := Int.emod_nonneg cut (b := V2 + 1) (by omega)
    have m2 := Int.emod_lt_of_pos cut (b := V2 + 1) (by omega)
    generalize cut % (V2 + 1) = k at *
    clear hw1
    go_wp2_with fail
    refine (rsplit_any ⟨ga, gn, gc⟩ g k w6 K.out FG.out.val.pos (by have := FG.out.len; omega) (by have := FG.out.vol; omega) m1 (by omega)).mono ?_
    rintro e w8 ⟨⟨ha, hn, hc⟩, ⟨ta, tn, tc⟩, rfl, hH, hT, hg⟩
    have H := Lib.hid (show FR w8 ⟨ha, hn, hc⟩ (hd g k) from hH.fr)
    have T := Lib.hid (show FR w8 ⟨ta, tn, tc⟩ (tl g k) from hT.fr)
    replace F := Lib.hid (F.out.grown hg)
    replace K := Lib.hid (K.out.grown hg)
    replace G := Lib.hid (grown_trans G.out hg)
    clear hH hT hg
    dsimp only [Sl.v]
    have FWA := Lib.hid (FG.out.few.tl k)
    have FWB := Lib.hid (FG.out.few.hd k)
    have N1 := Lib.hid (FF.out.few.nx FWA.out (by omega) false)
    have N2 := Lib.hid (N1.out.1.nx FWB.out (by omega) false)
    have N3 := Lib.hid (FF.out.few.nx FG.out.few (by omega) false)
    have TW := Lib.hid (two_front f g k)
    have P1 := Lib.hid (FF.out.few.pushed FWA.out (by omega) false)
    have P2' := N1.out.1.pushed FWB.out (by omega) false
    rw [TW.out.1] at P2'
    have P2 := Lib.hid P2'
    have P3 := Lib.hid (FF.out.few.pushed FG.out.few (by omega) false)
    have UL := Lib.hid (show (ou f (tl g k) false).length ≤ 200 from N1.out.2.val.len)
    have VL := Lib.hid (show (ou (nx f (tl g k) false) (hd g k) false).length ≤ 200 from N2.out.2.val.len)
    clear P2'
    go_wp2_with fail
    refine (ppush_any ⟨fa, fn, fc⟩ ⟨ta, tn, tc⟩ _ _ false w8 F.out T.out P1.out).mono ?_
    rintro e w9 ⟨⟨xa, xn, xc⟩, ⟨ua, un, uc⟩, rfl, hX, hU, hg⟩
    replace F := Lib.hid (F.out.grown hg)
    replace K := Lib.hid (K.out.grown hg)
    replace H := Lib.hid (H.out.grown hg)
    replace T := Lib.hid (T.out.grown hg)
    replace G := Lib.hid (grown_trans G.out hg)
    have X := Lib.hid hX
    have U := Lib.hid hU
    clear hX hU hg
    dsimp only [Sl.v]
    go_wp2_with fail
    refine (ppush_any ⟨xa, xn, xc⟩ ⟨ha, hn, hc⟩ _ _ false w9 X.out H.out P2.out).mono ?_
    rintro e w10 ⟨⟨ya, yn, yc⟩, ⟨va, vn, vc⟩, rfl, hY, hV, hg⟩
    replace F := Lib.hid (F.out.grown hg)
    replace K := Lib.hid (K.out.grown hg)
    replace H := Lib.hid (H.out.grown hg)
    replace T := Lib.hid (T.out.grown hg)
    replace X := Lib.hid (X.out.grown hg)
    replace U := Lib.hid (U.out.grown hg)
    replace G := Lib.hid (grown_trans G.out hg)
    have Y := Lib.hid hY
    have V := Lib.hid hV
    clear hY hV hg
    dsimp only [Sl.v]
    go_wp2_with fail
    refine (ppush_any ⟨fa, fn, fc⟩ ⟨ga, gn, gc⟩ _ _ false w10 F.out K.out P3.out).mono ?_
    rintro e w11 ⟨⟨za, zn, zc⟩, ⟨qa, qn, qc⟩, rfl, hZ, hQ, hg⟩
    replace F := Lib.hid (F.out.grown hg)
    replace K := Lib.hid (K.out.grown hg)
    replace H := Lib.hid (H.out.grown hg)
    replace T := Lib.hid (T.out.grown hg)
    replace X := Lib.hid (X.out.grown hg)
    replace U := Lib.hid (U.out.grown hg)
    replace Y := Lib.hid (Y.out.grown hg)
    replace V := Lib.hid (V.out.grown hg)
    replace G := Lib.hid (grown_trans G.out hg)
    have Z := Lib.hid hZ
    have Q := Lib.hid hQ
    clear hZ hQ hg
    dsimp only [Sl.v]
    go_wp2_with fail
    refine (rsame_any ⟨ya, yn, yc⟩ ⟨za, zn, zc⟩ _ _ w11 Y.out Z.out).mono ?_
    rw [sameB_refl]
    rintro e w12 ⟨rfl, hg⟩
    replace F := Lib.hid (F.out.grown hg)
    replace K := Lib.hid (K.out.grown hg)
    replace H := Lib.hid (H.out.grown hg)
    replace T := Lib.hid (T.out.grown hg)
    replace X := Lib.hid (X.out.grown hg)
    replace U := Lib.hid (U.out.grown hg)
    replace Y := Lib.hid (Y.out.grown hg)
    replace V := Lib.hid (V.out.grown hg)
    replace Z := Lib.hid (Z.out.grown hg)
    replace Q := Lib.hid (Q.out.grown hg)
    replace G := Lib.hid (grown_trans G.out hg)
    clear hg
    clear F
    clear K
    clear H
    clear T
    clear X
    clear Y
    clear Z
    have OL1 := Lib.hid (or_lit w12)
    have LU := U.out.len
    have LV := V.out.len
    have BU := UL.out
    have BV := VL.out
    dsimp only at LU LV
    go_wp2_with (first
      | (at_builtin
         refine wpList_appV rfl _ _ 22 rfl (S := ⟨some ⟨w12.heap.size, 0, none⟩, 0, 0⟩) (V := ⟨ua, un, uc⟩) (vs := f2 (ou f (tl g k) false)) Try.underlying22 hi0 hz0 hz1 hz2 (by rfl) (by omega) rfl rfl OL1.out ?a1 ?a2 (U.out.grown (World.grownBy_alloc _ _ _)).cr (f2_one _) ?a3 ?a4 ?_
         case a1 => simp
         case a2 => rw [f2_len]; dsimp only; omega
         case a3 => dsimp only; omega
         case a4 => dsimp only; omega
         intro r x1 hrn hr hg1 hbl
         obtain ⟨ra, rn, rc⟩ := r
         dsimp only [Sl.v] at *
         have L11 := Lib.hid (show rn = un by omega)
         clear hrn
         have R11 := Lib.hid hr
         have G11 := Lib.hid (grown_row0 (World.grownBy_alloc _ _ _) hg1 (fun b hb => by simp [Sl.blk] at hb; omega))
         clear hr hg1 hbl)
      | (at_builtin
         refine wpList_appV rfl _ _ 22 rfl (S := ⟨ra, rn, rc⟩) (V := ⟨va, vn, vc⟩) (vs := f2 (ou (nx f (tl g k) false) (hd g k) false)) Try.underlying22 hi0 hz0 hz1 hz2 (by rfl) (by omega) rfl rfl R11.out ?b1 ?b2 (V.out.grown G11.out).cr (f2_one _) ?b3 ?b4 ?_
         case b1 => exact G11.out.size
         case b2 => rw [f2_len]; dsimp only; omega
         case b3 => have := L11.out; dsimp only; omega
         case b4 => have := L11.out; dsimp only; omega
         intro r2 pw hrn2 hr2 hg2' hbl2
         clear hrn2
         obtain ⟨pa, pn, pc⟩ := r2
         dsimp only [Sl.v] at *
         have hg3 := grown_row0 G11.out hg2' (fun b hb => (R11.out.blk b hb).1)
         have R21 := Lib.hid (show FR pw ⟨pa, pn, pc⟩ ((ou f (tl g k) false) ++ (ou (nx f (tl g k) false) (hd g k) false)) from OR.fr (base := w12.heap.size) (T := 30) (by rw [f2_app]; exact hr2))
         clear hr2 hg2' hbl2
         replace U := Lib.hid (U.out.grown hg3)
         replace V := Lib.hid (V.out.grown hg3)
         replace Q := Lib.hid (Q.out.grown hg3)
         replace G := Lib.hid (grown_trans G.out hg3)
         clear hg3
         have OL2 := Lib.hid (or_lit pw)
         clear R21 R11 OL1)
      | (at_builtin
         refine wpList_appV rfl _ _ 22 rfl (S := ⟨some ⟨pw.heap.size, 0, none⟩, 0, 0⟩) (V := ⟨va, vn, vc⟩) (vs := f2 (ou (nx f (tl g k) false) (hd g k) false)) Try.underlying22 hi0 hz0 hz1 hz2 (by rfl) (by omega) rfl rfl OL2.out ?a1 ?a2 (V.out.grown (World.grownBy_alloc _ _ _)).cr (f2_one _) ?a3 ?a4 ?_
         case a1 => simp
         case a2 => rw [f2_len]; dsimp only; omega
         case a3 => dsimp only; omega
         case a4 => dsimp only; omega
         intro r x1 hrn hr hg1 hbl
         obtain ⟨ra, rn, rc⟩ := r
         dsimp only [Sl.v] at *
         have L12 := Lib.hid (show rn = vn by omega)
         clear hrn
         have R12 := Lib.hid hr
         have G12 := Lib.hid (grown_row0 (World.grownBy_alloc _ _ _) hg1 (fun b hb => by simp [Sl.blk] at hb; omega))
         clear hr hg1 hbl)
      | (at_builtin
         refine wpList_appV rfl _ _ 22 rfl (S := ⟨ra, rn, rc⟩) (V := ⟨ua, un, uc⟩) (vs := f2 (ou f (tl g k) false)) Try.underlying22 hi0 hz0 hz1 hz2 (by rfl) (by omega) rfl rfl R12.out ?b1 ?b2 (U.out.grown G12.out).cr (f2_one _) ?b3 ?b4 ?_
         case b1 => exact G12.out.size
         case b2 => rw [f2_len]; dsimp only; omega
         case b3 => have := L12.out; dsimp only; omega
         case b4 => have := L12.out; dsimp only; omega
         intro r2 dw hrn2 hr2 hg2' hbl2
         clear hrn2
         obtain ⟨da, dn, dc⟩ := r2
         dsimp only [Sl.v] at *
         have hg3 := grown_row0 G12.out hg2' (fun b hb => (R12.out.blk b hb).1)
         have R22 := Lib.hid (show FR dw ⟨da, dn, dc⟩ ((ou (nx f (tl g k) false) (hd g k) false) ++ (ou f (tl g k) false)) from OR.fr (base := pw.heap.size) (T := 30) (by rw [f2_app]; exact hr2))
         clear hr2 hg2' hbl2
         replace U := Lib.hid (U.out.grown hg3)
         replace V := Lib.hid (V.out.grown hg3)
         replace Q := Lib.hid (Q.out.grown hg3)
         replace G := Lib.hid (grown_trans G.out hg3)
         clear hg3)
      | fail)
    clear LU LV BU BV
    clear U V
    have MT := Lib.hid (merged_two N2.out.2 N1.out.2 N3.out.2.val.mgd TW.out.2)
    refine (pmerge_any ⟨da, dn, dc⟩ _ dw R22.out).mono ?_
    rw [MT.out]
    rintro e w15 ⟨⟨ma, mn, mc⟩, rfl, hr, hg⟩
    have M := Lib.hid hr
    replace Q := Lib.hid (Q.out.grown hg)
    replace G := Lib.hid (grown_trans G.out hg)
    clear hr hg
    dsimp only [Sl.v]
    go_wp2_with fail
    refine (rsame_any ⟨ma, mn, mc⟩ ⟨qa, qn, qc⟩ _ _ w15 M.out Q.out).mono ?_
    rw [sameB_refl]
    rintro e w16 ⟨rfl, hg⟩
    replace Q := Lib.hid (Q.out.grown hg)
    replace M := Lib.hid (M.out.grown hg)
    replace G := Lib.hid (grown_trans G.out hg)
    clear hg
    go_wp2_with fail
    refine (awake_any w16).mono ?_
    rintro e w17 ⟨rfl, hg⟩
    replace Q := Lib.hid (Q.out.grown hg)
    replace M := Lib.hid (M.out.grown hg)
    replace G := Lib.hid (grown_trans G.out hg)
    clear hg
    go_wp2
    go_ret
    exact ⟨rfl, grown_below G.out⟩
end Go.Proofs.Ytaghcdelnjjncaa
