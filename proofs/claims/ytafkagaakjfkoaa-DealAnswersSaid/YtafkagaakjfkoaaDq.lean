/- The walk of DealParts. -/
import Derived.Test.YtafkagaakjfkoaaDp
namespace Go.Proofs.Ytafkagaakjfkoaa
open Go.ChangeShapes Go.WideShapes Go.ChangeAt Go.RowKit

theorem mok_all {g : List Fm.Pc} (hl : g.length ≤ 200) (hg : ∀ p ∈ g, Fm.okp p) : Mok g := ⟨by omega, fun p hp => by have := hg p hp; unfold Fm.okp at this; unfold okm; omega⟩
theorem deal_same {g f : List Fm.Pc} {r : List Int} (h : Fm.Val f) (hr : Rates r) (hv : Fm.vol f ≤ r.sum) (h0 : 0 < Fm.vol f) (hm : Mok g) (hl : Fm.lit g = Fm.lit f) : dchk g r = 0 ∧ dealF g r = Dm.dealt r (Fm.lit f) := by
  have e : merged g = f := by rw [merged_yes hm, hl, Fm.mer_lit h.mgd]
  have hc : dchk g r = 0 := by
    unfold dchk
    rw [e, if_neg (by
      rintro (⟨h1, h2⟩ | h1)
      · rw [h1] at h0; simp [Fm.vol] at h0
      · have := h.len; omega)]
    exact hr.chk (Fm.vol_pos h.pos) hv
  exact ⟨hc, by unfold dealF; rw [if_pos hc, e]⟩
theorem part_val {f : List Fm.Pc} (h : Fm.Val f) (k : Nat) : Fm.Val (Fm.mer ((Fm.lit f).take k)) ∧ Fm.Val (Fm.mer ((Fm.lit f).drop k)) := by
  have e := Fm.mer_lit h.mgd
  have h1 := Fm.mer_take_len (Fm.lit f) k
  have h2 := Fm.mer_drop_len (Fm.lit f) k
  rw [e] at h1 h2
  have := h.len
  have hl := h.litlen
  exact ⟨Fm.val_mer (by omega) (fun b hb => h.lits b (List.mem_of_mem_take hb)) (by rw [List.length_take]; omega), Fm.val_mer (by omega) (fun b hb => h.lits b (List.mem_of_mem_drop hb)) (by rw [List.length_drop]; omega)⟩
theorem part_len {f : List Fm.Pc} (h : Fm.Val f) (k : Nat) : (Fm.mer ((Fm.lit f).take k)).length ≤ f.length ∧ (Fm.mer ((Fm.lit f).drop k)).length ≤ f.length := by
  have e := Fm.mer_lit h.mgd
  have h1 := Fm.mer_take_len (Fm.lit f) k
  have h2 := Fm.mer_drop_len (Fm.lit f) k
  rw [e] at h1 h2
  exact ⟨h1, h2⟩
/-- The first litres of what i gets. -/
theorem og_first {r : List Int} {f : List Fm.Pc} {k : Nat} (hk : k ≤ (Fm.lit f).length) (i : Nat) :
    Fm.mer ((Fm.lit (og r f i)).take ((Dm.cnt r k).getD i 0).toNat) = Fm.mer (Dm.hand r i (Dm.zeros r.length) ((Fm.lit f).take k)) := by
  unfold og
  rw [Fm.lit_mer, Dm.dealt_first r i (Fm.lit f) k hk]

/-- A literal of no pieces. -/
theorem or_lit0 (W : World) : OP W.heap.size (W.alloc (.cells #[] 38)) ⟨some ⟨W.heap.size, 0, none⟩, 0, 0⟩ [] := by
  have := World.ownsRow_lit (base := W.heap.size) (e := 38) (size := 2) W #[] 0 (Nat.le_refl _) (by unfold maxLen; omega) (by simp)
  exact ⟨by show World.ownsRow _ _ _ _ (.slice (some ⟨W.heap.size, 0, none⟩) 0 0) 0 []; simpa using this⟩
set_option maxRecDepth 100000 in
set_option maxHeartbeats 2000000 in
theorem parts_walk (a : Option Addr) (len cap : Nat) (zs : List Int) (x : Int) (wx : (Lit.int .u16 x).wf = true) (w : World) (hi : InRow w a len cap zs) :
    Calls Try.prog 7 #[.slice a len cap, .int .u16 x] w fun e w' => e = .returned (.bool true) ∧ Below w.heap.size w w' := by
  obtain ⟨ip, hip, hzp0, hzp1, hzp2⟩ := parts_p
  have hx : 0 ≤ x ∧ x ≤ 65535 := by simp [Lit.wf, IntKind.min, IntKind.max, IntKind.signed, IntKind.bits] at wx; omega
  clear wx
  go_enter Try.func7, Try.ntmps7
  go_wp2_with fail
  refine (new_any a len cap zs w hi).mono ?_
  rintro e w1 ⟨rfl, hg, hs, _⟩
  have G := Lib.hid hg
  have HS := Lib.hid hs
  clear hi hg hs
  obtain ⟨S, hS⟩ : ∃ S, S = w.heap.size := ⟨_, rfl⟩
  have SW := Lib.hid hS
  rw [← hS] at HS ⊢
  clear hS
  go_wp2_with fail
  refine (rates_any S w1 HS.out).mono ?_
  rintro e w2 ⟨⟨oa, on, oc⟩, r, rfl, ho, hr, hg, hs⟩
  replace G := Lib.hid (G.out.under SW.out hg)
  have R := Lib.hid ho
  have S1 := Lib.hid (src_lt HS.out)
  replace HS := Lib.hid hs
  have HR := Lib.hid hr
  have rm := hr.max
  have rp := hr.pos
  clear ho hr hg hs
  obtain ⟨V, hV⟩ : ∃ V, V = r.sum := ⟨_, rfl⟩
  rw [← hV] at rm rp ⊢
  have HV := Lib.hid hV
  clear hV
  dsimp only [Sl.v]
  go_wp2_with fail
  refine (fill_any S V 3 w2 HS.out (by omega) (by omega) (by omega) (by omega)).mono ?_
  rintro e w3 ⟨⟨fa, fn, fc⟩, f, rfl, ho, hf, hg, hs⟩
  have F := Lib.hid ho.fr
  have FF := Lib.hid hf
  have R2 := Lib.hid (show NR w3 ⟨oa, on, oc⟩ r from (R.out.chg (Chg.of (L := [S]) hg (fun b hb => by injection hb with hb; simp [hb])) (fun b hb hm => by rw [List.mem_singleton] at hm; have := (R.out.blk b hb).1; have := S1.out; omega)).nr)
  replace G := Lib.hid (G.out.under SW.out hg)
  clear ho hf hg hs HS R S1
  dsimp only [Sl.v]
  have r1 := Rd.tmod_range x (V + 1) (by omega)
  have r2 : 0 ≤ x.tmod (V + 1) := Int.tmod_nonneg _ hx.1
  obtain ⟨K, hK⟩ : ∃ K : Nat, (K : Int) = x.tmod (V + 1) := ⟨(x.tmod (V + 1)).toNat, by omega⟩
  rw [← hK] at r1 r2
  have hK2 := hK.symm
  clear hK
  have vf := FF.out.vol
  have LF := Lib.hid (show ((Fm.lit f).length : Int) = V by rw [Fm.lit_len FF.out.val.pos, vf])
  have VF := Lib.hid FF.out.val
  have f12 := FF.out.len
  go_wp2_with fail
  refine (rsplit_any ⟨fa, fn, fc⟩ f K w3 F.out VF.out.pos (by omega) (by omega) (by omega) (by omega)).mono ?_
  rw [Int.toNat_natCast]
  rintro e w4 ⟨⟨ha, hn, hc⟩, ⟨ta, tn, tc⟩, rfl, hh, ht, hg⟩
  have H := Lib.hid hh.fr
  have T := Lib.hid ht.fr
  replace R2 := Lib.hid (R2.out.grown hg)
  replace F := Lib.hid (F.out.grown hg)
  replace G := Lib.hid (grown_trans G.out hg)
  clear hh ht hg hK2
  dsimp only [Sl.v]
  obtain ⟨HD, hHD⟩ : ∃ l, l = Fm.mer ((Fm.lit f).take K) := ⟨_, rfl⟩
  obtain ⟨TL, hTL⟩ : ∃ l, l = Fm.mer ((Fm.lit f).drop K) := ⟨_, rfl⟩
  rw [← hHD] at H
  rw [← hTL] at T
  have PV := part_val VF.out K
  have PL := part_len VF.out K
  rw [← hHD, ← hTL] at PV PL
  have LS := Lib.hid (show Fm.lit (HD ++ TL) = Fm.lit f by rw [Fm.lit_app, hHD, hTL, Fm.lit_mer, Fm.lit_mer, List.take_append_drop])
  have LH := Lib.hid (show Fm.lit HD = (Fm.lit f).take K by rw [hHD, Fm.lit_mer])
  have DS := Lib.hid (deal_same (g := HD ++ TL) VF.out HR.out (by rw [vf, HV.out]; omega) (by omega) (mok_all (by rw [List.length_append]; omega) (fun p hp => by
    rcases List.mem_append.1 hp with hp | hp
    · exact PV.1.ok p hp
    · exact PV.2.ok p hp)) LS.out)
  have DF := Lib.hid (deal_of VF.out HR.out (by rw [vf, HV.out]; omega))
  have DH := Lib.hid (deal_of PV.1 HR.out (by
    rw [← Fm.lit_len PV.1.pos, LH.out, List.length_take]
    have := LF.out
    rw [← HV.out]
    omega))
  rw [LH.out] at DH
  have hln : HD.length = hn := H.out.len
  have tln : TL.length = tn := T.out.len
  have hn12 : hn ≤ 12 := by omega
  have tn12 : tn ≤ 12 := by omega
  clear PV PL hHD hTL
  have OL := Lib.hid (or_lit0 w4)
  have ga := World.grownBy_alloc w4 (.cells #[] 38) none
  have GA := Lib.hid ga
  clear ga
  go_wp2_with (first
    | (at_builtin
       refine wpList_appV rfl _ _ 23 rfl (S := ⟨ra, rn, rc⟩) (V := ⟨ta, tn, tc⟩) (vs := f2 TL) Try.underlying23 hip hzp0 hzp1 hzp2 (by rfl) (by omega) rfl rfl R5.out (by have := G5.out.size; omega) (by rw [f2_len, tln]) (T.out.cr.grown G5.out) (f2_one _) (by dsimp only; omega) (by dsimp only; omega) ?_
       intro r2 w6 hrn2 hr2 hg6 hbl2
       rw [← f2_app] at hr2
       have R6 := Lib.hid hr2.fr
       have G6 := Lib.hid (grown_row0 G5.out hg6 (fun b hb => (R5.out.blk b hb).1))
       obtain ⟨pa, pn, pc⟩ := r2
       dsimp only [Sl.v]
       clear hrn2 hr2 hg6 hbl2)
    | (at_builtin
       refine wpList_appV rfl _ _ 23 rfl (S := ⟨some ⟨w4.heap.size, 0, none⟩, 0, 0⟩) (V := ⟨ha, hn, hc⟩) (vs := f2 HD) Try.underlying23 hip hzp0 hzp1 hzp2 (by rfl) (by omega) rfl rfl OL.out (by simp) (by rw [f2_len, hln]) (H.out.cr.grown GA.out) (f2_one _) (by dsimp only; omega) (by dsimp only; omega) ?_
       intro r1 w5 hrn hr hg5 hbl
       have R5 := Lib.hid (show OP w4.heap.size w5 r1 HD from hr)
       have G5 := Lib.hid (grown_row0 GA.out hg5 (fun b hb => by injection hb with hb; have hb : w4.heap.size = b := hb; omega))
       obtain ⟨ra, rn, rc⟩ := r1
       dsimp only [Sl.v] at hrn ⊢
       have hrn2 : rn ≤ 12 := by omega
       clear hrn hr hg5 hbl)
    | fail)
  replace R2 := Lib.hid (R2.out.grown G6.out)
  replace F := Lib.hid (F.out.grown G6.out)
  replace H := Lib.hid (H.out.grown G6.out)
  replace G := Lib.hid (grown_trans G.out G6.out)
  clear OL GA G5 R5 T G6 hrn2
  refine (ddeal_any ⟨pa, pn, pc⟩ ⟨oa, on, oc⟩ (HD ++ TL) r w6 R6.out R2.out HR.out.i64).mono ?_
  rw [DS.out.1, DS.out.2]
  rintro e w7 ⟨⟨aa, an, ac⟩, rfl, hq, hg⟩
  have A := Lib.hid hq
  replace R2 := Lib.hid (R2.out.grown hg)
  replace F := Lib.hid (F.out.grown hg)
  replace H := Lib.hid (H.out.grown hg)
  replace G := Lib.hid (grown_trans G.out hg)
  clear hq hg DS R6
  dsimp only [Sl.v]
  go_wp2_with fail
  refine (ddeal_any ⟨fa, fn, fc⟩ ⟨oa, on, oc⟩ f r w7 F.out R2.out HR.out.i64).mono ?_
  rw [DF.out.1, DF.out.2]
  rintro e w8 ⟨⟨ba, bn, bc⟩, rfl, hq, hg⟩
  have B := Lib.hid hq
  replace A := Lib.hid (A.out.grown hg)
  replace R2 := Lib.hid (R2.out.grown hg)
  replace H := Lib.hid (H.out.grown hg)
  replace G := Lib.hid (grown_trans G.out hg)
  clear hq hg DF F
  dsimp only [Sl.v]
  go_wp2_with fail
  refine (ddeal_any ⟨ha, hn, hc⟩ ⟨oa, on, oc⟩ HD r w8 H.out R2.out HR.out.i64).mono ?_
  rw [DH.out.1, DH.out.2]
  rintro e w9 ⟨⟨ca, cn, cc⟩, rfl, hq, hg⟩
  have C := Lib.hid hq
  replace A := Lib.hid (A.out.grown hg)
  replace B := Lib.hid (B.out.grown hg)
  replace R2 := Lib.hid (R2.out.grown hg)
  replace G := Lib.hid (grown_trans G.out hg)
  clear hq hg DH H
  dsimp only [Sl.v]
  go_wp2_with fail
  refine (dcounts_any ⟨oa, on, oc⟩ r K w9 R2.out HR.out.i64 ⟨by omega, by omega⟩).mono ?_
  rw [HR.out.chk (by omega) (by rw [← HV.out]; omega), HR.out.cnt (by omega) (by rw [← HV.out]; omega), Int.toNat_natCast]
  rintro e w10 ⟨⟨na, nn, nc⟩, rfl, hq, hg⟩
  have N := Lib.hid hq
  replace A := Lib.hid (A.out.grown hg)
  replace B := Lib.hid (B.out.grown hg)
  replace C := Lib.hid (C.out.grown hg)
  replace R2 := Lib.hid (R2.out.grown hg)
  replace G := Lib.hid (grown_trans G.out hg)
  clear hq hg
  dsimp only [Sl.v]
  have rl := R2.out.len
  have bl := B.out.len
  have cl := C.out.len
  have nl := N.out.len
  rw [Dm.dealt_len] at bl cl
  rw [Dm.cnt_len] at nl
  dsimp only at rl bl cl nl
  obtain rfl : bn = on := by omega
  obtain rfl : cn = bn := by omega
  obtain rfl : nn = cn := by omega
  clear bl cl nl
  go_wp2_with fail
  refine (rsameR_any ⟨aa, an, ac⟩ ⟨ba, nn, bc⟩ _ _ w10 A.out B.out).mono ?_
  rw [sameRB_refl]
  rintro e w11 ⟨rfl, hg⟩
  replace B := Lib.hid (B.out.grown hg)
  replace C := Lib.hid (C.out.grown hg)
  replace N := Lib.hid (N.out.grown hg)
  replace G := Lib.hid (grown_trans G.out hg)
  clear hg A R2
  have l5 := HR.out.len5
  have bfit := B.out.fit
  have cfit := C.out.fit
  have nfit := N.out.fit
  dsimp only [Sl.fit] at bfit cfit nfit
  go_wp2
  go_loopw [115] (fun i wr => ∃ j : Nat, i = .int .i64 j ∧ j ≤ nn ∧ Hid (w11.grownBy wr none)) (fun i _ => nn - (intOf i).toNat)
  case atStart => exact ⟨0, rfl, by omega, grown_refl _ _⟩
  case round =>
    obtain ⟨j, rfl, hj, GR⟩ := hrel
    by_cases hlt : j < nn
    · obtain ⟨b1, o1, V1, rfl, c0, hf⟩ := (B.out.grown GR.out).at_ j hlt
      obtain ⟨b2, o2, V2, rfl, c1, hf2⟩ := (C.out.grown GR.out).at_ j hlt
      obtain ⟨b3, o3, rfl, c2⟩ := (N.out.grown GR.out).at_ j hlt
      rw [Dm.dealt_get (by omega)] at hf hf2
      have H1 := Lib.hid (show FR wr V1 (og r f j) from hf)
      have H2 := Lib.hid hf2
      have OF := Lib.hid (og_first (r := r) (f := f) (k := K) (by have := LF.out; omega) j)
      have OS := og_sum HR.out VF.out.pos (by rw [vf, HV.out]) j
      have bu := HR.out.ok j (by omega)
      have OLn := Lib.hid (show (og r f j).length ≤ 200 from (show Fm.Val (og r f j) from Dm.dealt_val VF.out j).len)
      have bd := cnt_okg (HR.out.rok (k := (K : Int)) (by omega) (by rw [← HV.out]; omega)) (d := K) (Int.le_refl _) j (by rw [Dm.cnt_len]; omega)
      have OSH := Lib.hid (show Fm.vol (og r f j) ≤ 39 by omega)
      obtain ⟨u, hu⟩ : ∃ u, u = (Dm.cnt r K).getD j 0 := ⟨_, rfl⟩
      rw [← hu] at c2 bd OF
      clear hu hf hf2 OS bu
      obtain ⟨va, vn, vc⟩ := V1
      obtain ⟨ua, un, uc⟩ := V2
      dsimp only [Sl.v] at c0 c1
      have K0 := Lib.hid (fun (W : World) (hW : wr.grownBy W none) => (⟨hW.cell c0 (by simp), hW.cell c2 (by simp)⟩ : W.cell? ⟨b1, o1 + j, none⟩ = some (.slice va vn vc) ∧ W.cell? ⟨b3, o3 + j, none⟩ = some (.int .i64 u)))
      go_wp2
      go_region_held3 (fun w' => w'.cell? ⟨b1, o1 + j, none⟩ = some (.slice va vn vc) ∧ w'.cell? ⟨b3, o3 + j, none⟩ = some (.int .i64 u))
        (first | exact K0.out _ (grown_drewN wr 1 none) | exact K0.out _ GS.out | go_keep | fail)
        (first
          | (go_at_call 24; refine (rsplit_any ⟨va, vn, vc⟩ (og r f j) u _ (H1.out.grown (grown_drewN wr 1 none)) (og_pos r f j) (by have := OLn.out; omega) (by have := OSH.out; omega) (by omega) (by omega)).mono ?_; rintro e ws ⟨⟨ga, gn, gc⟩, ⟨ka, kn, kc⟩, rfl, hg1, hg2, hg⟩; have GS := Lib.hid (grown_trans (show wr.grownBy wr.drew none from grown_drewN wr 1 none) hg); have P1 := Lib.hid hg1.fr; clear hg hg1 hg2)
          | fail)
      rw [OF.out] at P1
      have c5 := GS.out.cell c1 (by simp)
      have P2 := Lib.hid (H2.out.grown GS.out)
      have GN := Lib.hid (grown_trans GR.out GS.out)
      clear c0 c1 c2 K0 GS H1 H2
      dsimp only [Sl.v]
      go_wp2_with fail
      refine (rsame_any ⟨ga, gn, gc⟩ ⟨ua, un, uc⟩ _ _ ws P1.out P2.out).mono ?_
      rw [sameB_eq rfl]
      rintro e wt ⟨rfl, hg⟩
      have GF := Lib.hid (grown_trans GN.out hg)
      clear hg
      go_wp2
      go_roundw
      case rel => exact ⟨j + 1, by go_num, by omega, GF⟩
      case measure => simp [intOf]; omega
    · obtain rfl : j = nn := by omega
      go_wp2_with fail
      refine (awake17_any _).mono ?_
      rintro e w8 ⟨rfl, hg⟩
      replace G := Lib.hid (grown_trans G.out (grown_trans GR.out hg))
      clear hg
      go_wp2
      go_ret
      exact ⟨rfl, grown_below G.out⟩
end Go.Proofs.Ytafkagaakjfkoaa
