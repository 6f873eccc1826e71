/- PiecePlaces: the walk. -/
import Derived.Test.YtaghcdelnjjncaaFx
import Derived.Deep.DeepCutAuto
namespace Go.Proofs.Ytaghcdelnjjncaa
open Go.ChangeShapes Go.WideShapes Go.ChangeAt Go.RowKit

theorem place_front {f g : List Int} {k : Int} (h0 : 0 ≤ k) (h1 : k < f.length) : Fm.at_ (Fm.shift f g false).1 k = if (g.length : Int) ≤ k then Fm.at_ f (k - g.length) else Fm.at_ g k := by
  unfold Fm.shift Fm.at_
  simp only [Bool.false_eq_true, if_false]
  rw [if_neg (by omega), List.getD_eq_getElem?_getD, List.getElem?_take, if_pos (by omega)]
  by_cases h : (g.length : Int) ≤ k
  · rw [if_pos h, if_neg (by omega), List.getElem?_append_right (by omega), List.getD_eq_getElem?_getD, show (k - (g.length : Int)).toNat = k.toNat - g.length by omega]
  · rw [if_neg h, if_neg (by omega), List.getElem?_append_left (by omega), List.getD_eq_getElem?_getD]
theorem place_back {f g : List Int} {k : Int} (h0 : 0 ≤ k) : Fm.at_ (Fm.shift f g true).1 k = if k + g.length < f.length then Fm.at_ f (k + g.length) else Fm.at_ g (k + g.length - f.length) := by
  unfold Fm.shift Fm.at_
  simp only [if_true]
  rw [if_neg (by omega), List.getD_eq_getElem?_getD, List.getElem?_drop]
  by_cases h : k + (g.length : Int) < f.length
  · rw [if_pos h, if_neg (by omega), List.getElem?_append_left (by omega), List.getD_eq_getElem?_getD, show (k + (g.length : Int)).toNat = g.length + k.toNat by omega]
  · rw [if_neg h, if_neg (by omega), List.getElem?_append_right (by omega), List.getD_eq_getElem?_getD, show (k + (g.length : Int) - (f.length : Int)).toNat = g.length + k.toNat - f.length by omega]
/-- The litre with the number k behind a push at the beginning. -/
theorem at_front {f g : List Fm.Pc} {V C U D k : Int} (h : Filled f V C) (h2 : Filled g U D) (h0 : 0 ≤ k) (h1 : k < V) : atOf (nx f g false) k = if U ≤ k then atOf f (k - U) else atOf g k := by
  have hv := (h.few.nx h2.few (by omega) false).1.val
  have l1 := h.lits
  have l2 := h2.lits
  rw [at_val hv, at_val h.val, at_val h2.val, lit_nx, place_front h0 (by omega), l2]
theorem at_back {f g : List Fm.Pc} {V C U D k : Int} (h : Filled f V C) (h2 : Filled g U D) (h0 : 0 ≤ k) : atOf (nx f g true) k = if k + U < V then atOf f (k + U) else atOf g (k + U - V) := by
  have hv := (h.few.nx h2.few (by omega) true).1.val
  have l1 := h.lits
  have l2 := h2.lits
  rw [at_val hv, at_val h.val, at_val h2.val, lit_nx, place_back h0, l1, l2]
set_option maxRecDepth 100000 in
set_option maxHeartbeats 4000000 in
theorem places_walk (a : Option Addr) (len cap : Nat) (zs : List Int) (place : Int) (hc : (Lit.int .u16 place).wf = true) (w : World) (hi : InRow w a len cap zs) :
    Calls Try.prog 7 #[.slice a len cap, .int .u16 place] w fun e w' => e = .returned (.bool true) ∧ Below w.heap.size w w' := by
  have b0 := bounds_u16 hc
  clear hc
  go_enter Try.func7, Try.ntmps7
  go_wp2_with fail
  refine (new_any a len cap zs w hi).mono ?_
  rintro e w1 ⟨rfl, hg, hs, _⟩
  have G := Lib.hid hg
  have HS := Lib.hid hs
  clear hi hg hs
  obtain ⟨S, hS⟩ : ∃ S, S = w.heap.size := ⟨_, rfl⟩
  have SW := Lib.hid hS
  rw [← hS] at HS ⊢
  clear hS
  go_wp2_with fail
  refine (n_any S 200 w1 HS.out (by omega) (by omega)).mono ?_
  rintro e w2 ⟨V1, ⟨hv1, hv2⟩, rfl, hg, hs⟩
  replace G := Lib.hid (G.out.under SW.out hg)
  replace HS := Lib.hid hs
  clear hg hs
  obtain ⟨V, hV⟩ : ∃ V, V = 1 + V1 := ⟨_, rfl⟩
  have hVa : 1 ≤ V := by omega
  have hVb : V ≤ 200 := by omega
  have hw : IntKind.i64.wrap (1 + V1) = V := by rw [IntWalk.i64_in _ (by omega)]; omega
  clear hv1 hv2 hV
  go_wp2_with fail
  refine (fill_any S V 3 w2 HS.out (by omega) (by omega) (by omega) (by omega)).mono ?_
  rintro e w3 ⟨⟨fa, fn, fc⟩, f, rfl, ho, hf, hg, hs⟩
  clear hw
  have F := Lib.hid ho.fr
  have FB := Lib.hid (off_of ho HS.out)
  have FF := Lib.hid hf
  replace G := Lib.hid (G.out.under SW.out hg)
  replace HS := Lib.hid hs
  clear ho hf hg hs
  dsimp only [Sl.v]
  go_wp2_with fail
  refine (n_any S 300 w3 HS.out (by omega) (by omega)).mono ?_
  rintro e w4 ⟨V2, ⟨hv3, hv4⟩, rfl, hg, hs⟩
  replace F := Lib.hid (F.out.row hg FB.out)
  replace G := Lib.hid (G.out.under SW.out hg)
  replace HS := Lib.hid hs
  clear hg hs
  go_wp2_with fail
  refine (fill_any S V2 4 w4 HS.out (by omega) (by omega) (by omega) (by omega)).mono ?_
  rintro e w5 ⟨⟨ga, gn, gc⟩, g, rfl, ho, hf, hg, hs⟩
  replace F := Lib.hid (F.out.row hg FB.out)
  have K := Lib.hid ho.fr
  have FG := Lib.hid hf
  replace G := Lib.hid (G.out.under SW.out hg)
  clear ho hf hg hs HS FB
  dsimp only [Sl.v]
  have P1 := Lib.hid (FF.out.few.pushed FG.out.few (by omega) false)
  have P2 := Lib.hid (FF.out.few.pushed FG.out.few (by omega) true)
  go_wp2_with fail
  refine (ppush_any ⟨fa, fn, fc⟩ ⟨ga, gn, gc⟩ _ _ false w5 F.out K.out P1.out).mono ?_
  rintro e w6 ⟨⟨xa, xn, xc⟩, ⟨ua, un, uc⟩, rfl, hX, hU, hg⟩
  replace F := Lib.hid (F.out.grown hg)
  replace K := Lib.hid (K.out.grown hg)
  replace G := Lib.hid (grown_trans G.out hg)
  have X := Lib.hid hX
  have U := Lib.hid hU
  clear hX hU hg
  dsimp only [Sl.v]
  go_wp2_with fail
  refine (ppush_any ⟨fa, fn, fc⟩ ⟨ga, gn, gc⟩ _ _ true w6 F.out K.out P2.out).mono ?_
  rintro e w7 ⟨⟨ya, yn, yc⟩, ⟨va, vn, vc⟩, rfl, hY, hV_, hg⟩
  replace F := Lib.hid (F.out.grown hg)
  replace K := Lib.hid (K.out.grown hg)
  replace X := Lib.hid (X.out.grown hg)
  replace U := Lib.hid (U.out.grown hg)
  replace G := Lib.hid (grown_trans G.out hg)
  have Y := Lib.hid hY
  have V_ := Lib.hid hV_
  clear hY hV_ hg
  dsimp only [Sl.v]
  clear U
  clear V_
  go_wp2_with fail
  refine (pvolume_any ⟨fa, fn, fc⟩ _ w7 F.out).mono ?_
  rw [FF.out.volume]
  rintro e w8 ⟨rfl, hg⟩
  replace F := Lib.hid (F.out.grown hg)
  replace K := Lib.hid (K.out.grown hg)
  replace X := Lib.hid (X.out.grown hg)
  replace Y := Lib.hid (Y.out.grown hg)
  replace G := Lib.hid (grown_trans G.out hg)
  clear hg
  go_wp2_with fail
  refine (pvolume_any ⟨ga, gn, gc⟩ _ w8 K.out).mono ?_
  rw [FG.out.volume]
  rintro e w9 ⟨rfl, hg⟩
  replace F := Lib.hid (F.out.grown hg)
  replace K := Lib.hid (K.out.grown hg)
  replace X := Lib.hid (X.out.grown hg)
  replace Y := Lib.hid (Y.out.grown hg)
  replace G := Lib.hid (grown_trans G.out hg)
  clear hg
  obtain ⟨k, hk⟩ : ∃ k, k = place % V := ⟨_, rfl⟩
  have hk0 : 0 ≤ k := by rw [hk]; exact Int.emod_nonneg _ (by omega)
  have hk1 : k < V := by rw [hk]; exact Int.emod_lt_of_pos _ (by omega)
  have hw : place.tmod V = k := by rw [hk]; exact Int.tmod_eq_emod_of_nonneg (by omega)
  have hVn : ¬ V = 0 := by omega
  have hV1 : ¬ V < 1 := by omega
  clear hk
  have AF := Lib.hid (at_front FF.out FG.out hk0 hk1)
  have AB := Lib.hid (at_back FF.out FG.out hk0)
  go_wp2_with fail
  refine (pat_any ⟨ga, gn, gc⟩ _ k w9 K.out (by omega)).mono ?_
  rintro e w10 ⟨rfl, hg⟩
  replace F := Lib.hid (F.out.grown hg)
  replace K := Lib.hid (K.out.grown hg)
  replace X := Lib.hid (X.out.grown hg)
  replace Y := Lib.hid (Y.out.grown hg)
  replace G := Lib.hid (grown_trans G.out hg)
  clear hg
  clear hw
  go_upto_if 67 with fail
  go_cut [17] (fun s17 wc => s17 = .int .i64 (atOf (nx f g false) k) ∧ Hid (w10.grownBy wc none))
  case first =>
    by_cases h : V2 ≤ k
    · have AV := AF.out
      rw [if_pos h] at AV
      have AV := Lib.hid AV.symm
      have hw : IntKind.i64.wrap (k - V2) = k - V2 := IntWalk.i64_in _ (by omega)
      go_wp2_with fail
      refine (pat_any ⟨fa, fn, fc⟩ _ (k - V2) w10 F.out (by omega)).mono ?_
      rw [AV.out]
      rintro e wc ⟨rfl, hg⟩
      have HG := Lib.hid hg
      clear hg hw
      go_wp2
      go_meet
      case rel => exact ⟨by first | rfl | rw [AV.out] | rw [← AV.out], HG⟩
    · have AV := AF.out
      rw [if_neg h] at AV
      have AV := Lib.hid AV
      have hd : decide (V2 ≤ k) = false := decide_eq_false h
      rw [← AV.out]
      go_wp2
      go_meet
      case rel => exact ⟨by first | rfl | rw [AV.out] | rw [← AV.out], Lib.hid (grown_refl _ _)⟩
  case rest =>
    obtain ⟨rfl, HG⟩ := hcut
    rename World => wa
    replace F := Lib.hid (F.out.grown HG.out)
    replace K := Lib.hid (K.out.grown HG.out)
    replace X := Lib.hid (X.out.grown HG.out)
    replace Y := Lib.hid (Y.out.grown HG.out)
    replace G := Lib.hid (grown_trans G.out HG.out)
    clear HG
    have hw1 : IntKind.i64.wrap (k + V2) = k + V2 := IntWalk.i64_in _ (by omega)
    have hw2 : IntKind.i64.wrap (k + V2 - V) = k + V2 - V := IntWalk.i64_in _ (by omega)
    go_wp2_with fail
    refine (pat_any ⟨ga, gn, gc⟩ _ (k + V2 - V) wa K.out (by omega)).mono ?_
    rintro e w21 ⟨rfl, hg⟩
    replace F := Lib.hid (F.out.grown hg)
    replace K := Lib.hid (K.out.grown hg)
    replace X := Lib.hid (X.out.grown hg)
    replace Y := Lib.hid (Y.out.grown hg)
    replace G := Lib.hid (grown_trans G.out hg)
    clear hg
    clear hw2
    go_upto_if 84 with fail
    go_cut [18] (fun s18 wd => s18 = .int .i64 (atOf (nx f g true) k) ∧ Hid (w21.grownBy wd none))
    case first =>
      by_cases h : k + V2 < V
      · have AV := AB.out
        rw [if_pos h] at AV
        have AV := Lib.hid AV.symm
        go_wp2_with fail
        refine (pat_any ⟨fa, fn, fc⟩ _ (k + V2) w21 F.out (by omega)).mono ?_
        rw [AV.out]
        rintro e wd ⟨rfl, hg⟩
        have HG := Lib.hid hg
        clear hg
        go_wp2
        go_meet
        case rel => exact ⟨by first | rfl | rw [AV.out] | rw [← AV.out], HG⟩
      · have AV := AB.out
        rw [if_neg h] at AV
        have AV := Lib.hid AV
        have hd : decide (k + V2 < V) = false := decide_eq_false h
        rw [← AV.out]
        go_wp2
        go_meet
        case rel => exact ⟨by first | rfl | rw [AV.out] | rw [← AV.out], Lib.hid (grown_refl _ _)⟩
    case rest =>
      obtain ⟨rfl, HG⟩ := hcut
      rename World => wb
      clear hw1
      replace F := Lib.hid (F.out.grown HG.out)
      replace K := Lib.hid (K.out.grown HG.out)
      replace X := Lib.hid (X.out.grown HG.out)
      replace Y := Lib.hid (Y.out.grown HG.out)
      replace G := Lib.hid (grown_trans G.out HG.out)
      clear HG
      go_wp2_with fail
      refine (pat_any ⟨xa, xn, xc⟩ _ k wb X.out (by omega)).mono ?_
      rintro e w31 ⟨rfl, hg⟩
      replace F := Lib.hid (F.out.grown hg)
      replace K := Lib.hid (K.out.grown hg)
      replace X := Lib.hid (X.out.grown hg)
      replace Y := Lib.hid (Y.out.grown hg)
      replace G := Lib.hid (grown_trans G.out hg)
      clear hg
      go_wp2_with fail
      refine (pat_any ⟨ya, yn, yc⟩ _ k w31 Y.out (by omega)).mono ?_
      rintro e w32 ⟨rfl, hg⟩
      replace F := Lib.hid (F.out.grown hg)
      replace K := Lib.hid (K.out.grown hg)
      replace X := Lib.hid (X.out.grown hg)
      replace Y := Lib.hid (Y.out.grown hg)
      replace G := Lib.hid (grown_trans G.out hg)
      clear hg
      go_wp2_with fail
      refine (awake_any w32).mono ?_
      rintro e w33 ⟨rfl, hg⟩
      replace F := Lib.hid (F.out.grown hg)
      replace K := Lib.hid (K.out.grown hg)
      replace X := Lib.hid (X.out.grown hg)
      replace Y := Lib.hid (Y.out.grown hg)
      replace G := Lib.hid (grown_trans G.out hg)
      clear hg
      go_wp2
      go_ret
      exact ⟨rfl, grown_below G.out⟩
end Go.Proofs.Ytaghcdelnjjncaa
