/- The walk of DealGrows. -/
import Derived.Test.YtafkagaakjfkoaaDk
namespace Go.Proofs.Ytafkagaakjfkoaa
open Go.ChangeShapes Go.WideShapes Go.ChangeAt Go.RowKit

theorem Rates.scaled {r : List Int} (h : Rates r) {m : Int} (m1 : 1 ≤ m) (m7 : m ≤ 7) {k : Int} (h0 : 0 ≤ k) (h1 : k ≤ r.sum) : Rok (r.map (· * m)) k := by
  have hs := Dm.sum_mul r m
  have hp := h.pos
  have hge : r.sum * 1 ≤ r.sum * m := Int.mul_le_mul_of_nonneg_left m1 (by omega)
  refine ⟨by have := h.len5; simp; omega, fun i hi => ?_, by rw [hs]; omega, h0, by rw [hs]; omega⟩
  have hi : i < r.length := by simpa using hi
  rw [Dm.getD_map _ _ _ hi]
  have := h.ok i hi
  have h2 := Int.mul_nonneg this.1 (show 0 ≤ m by omega)
  have h3 := Int.mul_le_mul this.2 m7 (by omega) (by omega)
  omega
theorem map_next {r : List Int} {m : Int} {j : Nat} (hj : j < r.length) : (r.take j).map (· * m) ++ [r.getD j 0 * m] = (r.take (j + 1)).map (· * m) := by
  rw [List.take_add_one, List.getElem?_eq_getElem hj, List.map_append]
  simp [List.getD_eq_getElem?_getD, List.getElem?_eq_getElem hj]
theorem i64_of {r : List Int} (h : ∀ i, i < r.length → 0 ≤ r.getD i 0 ∧ r.getD i 0 ≤ 1000) (i : Nat) : IsI64 (r.getD i 0) := by
  by_cases hi : i < r.length
  · have := h i hi
    exact ⟨by omega, by omega⟩
  · rw [show r.getD i 0 = 0 by rw [List.getD_eq_getElem?_getD, List.getElem?_eq_none (by omega)]; rfl]
    exact ⟨by omega, by omega⟩

set_option maxRecDepth 100000 in
set_option maxHeartbeats 1000000 in
theorem grows_walk (a : Option Addr) (len cap : Nat) (zs : List Int) (x y : Int) (wx : (Lit.int .u16 x).wf = true) (wy : (Lit.int .u8 y).wf = true) (w : World) (hi : InRow w a len cap zs) :
    Calls Try.prog 8 #[.slice a len cap, .int .u16 x, .int .u8 y] w fun e w' => e = .returned (.bool true) ∧ Below w.heap.size w w' := by
  obtain ⟨i0, hi0, hz0, hz1, hz2⟩ := parts_n
  have hx : 0 ≤ x ∧ x ≤ 65535 := by simp [Lit.wf, IntKind.min, IntKind.max, IntKind.signed, IntKind.bits] at wx; omega
  have hy : 0 ≤ y ∧ y ≤ 255 := by simp [Lit.wf, IntKind.min, IntKind.max, IntKind.signed, IntKind.bits] at wy; omega
  clear wx wy
  go_enter Try.func8, Try.ntmps8
  go_wp2_with fail
  refine (new_any a len cap zs w hi).mono ?_
  rintro e w1 ⟨rfl, hg, hs, _⟩
  have G := Lib.hid hg
  have HS := Lib.hid hs
  clear hi hg hs
  obtain ⟨S, hS⟩ : ∃ S, S = w.heap.size := ⟨_, rfl⟩
  have SW := Lib.hid hS
  rw [← hS] at HS ⊢
  clear hS
  go_wp2_with fail
  refine (rates_any S w1 HS.out).mono ?_
  rintro e w2 ⟨⟨oa, on, oc⟩, r, rfl, ho, hr, hg, hs⟩
  replace G := Lib.hid (G.out.under SW.out hg)
  have R := Lib.hid ho.nr
  have HR := Lib.hid hr
  have rm := hr.max
  have rp := hr.pos
  clear ho hr hg hs HS
  obtain ⟨V, hV⟩ : ∃ V, V = r.sum := ⟨_, rfl⟩
  rw [← hV] at rm rp ⊢
  have HV := Lib.hid hV
  clear hV
  have r1 := Rd.tmod_range x (V + 1) (by omega)
  have r2 : 0 ≤ x.tmod (V + 1) := Int.tmod_nonneg _ hx.1
  obtain ⟨n, hn⟩ : ∃ n, n = x.tmod (V + 1) := ⟨_, rfl⟩
  rw [← hn] at r1 r2
  have hn2 := hn.symm
  have k5 : 0 ≤ y.tmod 5 ∧ y.tmod 5 ≤ 4 := by rw [Int.tmod_eq_emod_of_nonneg hy.1]; omega
  have k7 : 0 ≤ y.tmod 7 ∧ y.tmod 7 ≤ 6 := by rw [Int.tmod_eq_emod_of_nonneg hy.1]; omega
  obtain ⟨p, hp⟩ : ∃ p, p = y.tmod 5 := ⟨_, rfl⟩
  obtain ⟨q, hq⟩ : ∃ q, q = y.tmod 7 := ⟨_, rfl⟩
  rw [← hp] at k5
  rw [← hq] at k7
  have hp2 := hp.symm
  have hq2 := hq.symm
  clear hn hp hq
  dsimp only [Sl.v]
  go_wp2_with fail
  refine (dcounts_any ⟨oa, on, oc⟩ r n w2 R.out HR.out.i64 ⟨by omega, by omega⟩).mono ?_
  rw [HR.out.chk (by omega) (by rw [← HV.out]; omega), HR.out.cnt (by omega) (by rw [← HV.out]; omega)]
  rintro e w3 ⟨⟨aa, an, ac⟩, rfl, hq, hg⟩
  have A := Lib.hid hq
  replace R := Lib.hid (R.out.grown hg)
  replace G := Lib.hid (grown_trans G.out hg)
  clear hq hg
  dsimp only [Sl.v]
  go_upto_region 4 with fail
  go_cut [12, 13] (fun u12 u13 wc => ∃ (B : Sl) (T : Int), u12 = .slice B.a B.n B.c ∧ u13 = .int .i64 0 ∧ Hid (n ≤ T ∧ T ≤ V) ∧ Hid (NR wc B (Dm.cnt r T.toNat)) ∧ Hid (w3.grownBy wc none))
  case first =>
    have DC := Lib.hid (fun (T : Int) (h0 : 0 ≤ T) (h1 : T ≤ V) => show Calls Try.prog 14 #[.slice oa on oc, .int .i64 T] w3 (NumEnd (Dm.cnt r T.toNat) 0 w3) by
      have := dcounts_any ⟨oa, on, oc⟩ r T w3 R.out HR.out.i64 ⟨by omega, by omega⟩
      rw [HR.out.chk h0 (by rw [← HV.out]; exact h1), HR.out.cnt h0 (by rw [← HV.out]; exact h1)] at this
      exact this)
    rcases Int.lt_trichotomy V (n + 1 + p) with hlt | heq | hgt
    · go_wp2_with fail
      refine (DC.out V (by omega) (by omega)).mono ?_
      rintro e w4 ⟨⟨ba, bn, bc⟩, rfl, hq, hg⟩
      have B := Lib.hid hq
      have G4 := Lib.hid hg
      clear hq hg
      dsimp only [Sl.v]
      go_wp2
      go_meet
      exact ⟨⟨ba, bn, bc⟩, V, rfl, rfl, Lib.hid ⟨by omega, by omega⟩, B, G4⟩
    · go_wp2_with fail
      refine (DC.out (n + 1 + p) (by omega) (by omega)).mono ?_
      rintro e w4 ⟨⟨ba, bn, bc⟩, rfl, hq, hg⟩
      have B := Lib.hid hq
      have G4 := Lib.hid hg
      clear hq hg
      dsimp only [Sl.v]
      go_wp2
      go_meet
      exact ⟨⟨ba, bn, bc⟩, n + 1 + p, rfl, rfl, Lib.hid ⟨by omega, by omega⟩, B, G4⟩
    · go_wp2_with fail
      refine (DC.out (n + 1 + p) (by omega) (by omega)).mono ?_
      rintro e w4 ⟨⟨ba, bn, bc⟩, rfl, hq, hg⟩
      have B := Lib.hid hq
      have G4 := Lib.hid hg
      clear hq hg
      dsimp only [Sl.v]
      go_wp2
      go_meet
      exact ⟨⟨ba, bn, bc⟩, n + 1 + p, rfl, rfl, Lib.hid ⟨by omega, by omega⟩, B, G4⟩
  case rest =>
    obtain ⟨⟨ba, bn, bc⟩, T, rfl, rfl, TT, B, GC⟩ := hcut
    replace R := Lib.hid (R.out.grown GC.out)
    replace A := Lib.hid (A.out.grown GC.out)
    replace G := Lib.hid (grown_trans G.out GC.out)
    clear GC hp2 hn2
    dsimp only
    obtain ⟨wd, hwd⟩ : ∃ wd, wd = wc := ⟨_, rfl⟩
    rw [← hwd] at R A B G ⊢
    clear hwd
    have rl := R.out.len
    have rfit := R.out.fit
    dsimp only [Sl.fit] at rl rfit
    have l5 := HR.out.len5
    have la := A.out.len
    have lb := B.out.len
    rw [Dm.cnt_len] at la lb
    dsimp only at la lb
    obtain rfl : an = on := by omega
    obtain rfl : bn = an := by omega
    clear la lb
    go_wp2
    go_loopw [14, 51] (fun so i wr => ∃ (j : Nat) (o : Sl), so = .slice o.a o.n o.c ∧ i = .int .i64 j ∧ j ≤ bn ∧ Hid (ON wd.heap.size wr o ((r.take j).map (· * (1 + q)))) ∧ Hid (wd.grownBy wr none)) (fun _ i _ => bn - (intOf i).toNat)
    case atStart => exact ⟨0, ⟨none, 0, 0⟩, rfl, rfl, by omega, Lib.hid (or_nil _ _ _ _), grown_refl _ _⟩
    case round =>
      obtain ⟨j, ⟨ma, mn, mc⟩, rfl, rfl, hj, O, GR⟩ := hrel
      dsimp only
      have mn5 : mn ≤ 5 := by have := O.out.nr.len; rw [List.length_map, List.length_take] at this; dsimp only at this; omega
      by_cases hlt : j < bn
      · obtain ⟨b, off, rfl, c0⟩ := (R.out.grown GR.out).at_ j hlt
        have bd := HR.out.ok j (by omega)
        have MN := Lib.hid (map_next (r := r) (m := 1 + q) (j := j) (by omega))
        obtain ⟨v, hv⟩ : ∃ v, v = r.getD j 0 := ⟨_, rfl⟩
        rw [← hv] at c0 bd MN
        clear hv
        have b1 := mul_bd (a := v) (b := 1 + q) bd.1 (by omega) (by omega) (by omega)
        have hw : IntKind.i64.wrap (v * (1 + q)) = v * (1 + q) := IntWalk.i64_in _ (by omega)
        clear b1
        have szw := GR.out.size
        have szd := G.out.size
        go_wp2_with (first
          | (at_builtin
             refine wpList_appV rfl _ _ 22 rfl (S := ⟨ma, mn, mc⟩) (V := ⟨some ⟨wr.heap.size, 0, none⟩, 1, 1⟩) (vs := ni [v * (1 + q)]) Try.underlying22 hi0 hz0 hz1 hz2 (by rfl) (by omega) rfl rfl (O.out.grown (World.grownBy_alloc _ _ _)) ?a1 (by rfl) (cr_n _ _ rfl) (ni_one _) ?a2 ?a3 ?_
             case a1 => simp; omega
             case a2 => dsimp only; omega
             case a3 => dsimp only; omega
             intro rr w5 hrn hr hg5 hbl)
          | fail)
        rw [ni_app, MN.out] at hr
        have RR := Lib.hid hr
        have R5 := Lib.hid (grown_row0 (grown_trans GR.out (World.grownBy_alloc _ _ _)) hg5 (fun b hb => (O.out.blk b hb).1))
        clear hr hg5 hbl hrn
        obtain ⟨xa, xn, xc⟩ := rr
        dsimp only [Sl.v]
        go_wp2
        go_roundw
        case rel => exact ⟨j + 1, ⟨xa, xn, xc⟩, rfl, by go_num, by omega, RR, R5⟩
        case measure => simp [intOf]; omega
      · obtain rfl : j = bn := by omega
        have OM := Lib.hid (show NR wr ⟨ma, mn, mc⟩ (r.map (· * (1 + q))) by have := O.out.nr; rw [List.take_of_length_le (by omega)] at this; exact this)
        obtain ⟨we, hwe⟩ : ∃ we, we = wr := ⟨_, rfl⟩
        rw [← hwe] at OM GR ⊢
        replace A := Lib.hid (A.out.grown GR.out)
        replace B := Lib.hid (B.out.grown GR.out)
        replace G := Lib.hid (grown_trans G.out GR.out)
        clear O GR R hwe
        have SC := Lib.hid (HR.out.scaled (m := 1 + q) (by omega) (by omega) (k := n) (by omega) (by rw [← HV.out]; omega))
        go_wp2_with fail
        refine (dcounts_any ⟨ma, mn, mc⟩ (r.map (· * (1 + q))) n we OM.out (i64_of SC.out.ok) ⟨by omega, by omega⟩).mono ?_
        rw [show cntF (r.map (· * (1 + q))) n = Dm.cnt r n.toNat by unfold cntF; rw [if_pos (chk_ok.2 SC.out), Dm.cnt_scale (by omega)], chk_ok.2 SC.out]
        rintro e w6 ⟨⟨ca, cn, cc⟩, rfl, hq, hg⟩
        have C := Lib.hid hq
        replace A := Lib.hid (A.out.grown hg)
        replace B := Lib.hid (B.out.grown hg)
        replace G := Lib.hid (grown_trans G.out hg)
        clear hq hg OM SC hq2
        dsimp only [Sl.v]
        go_wp2_with fail
        refine (ints_any _ _ _ _ _ A.out.sl C.out.sl (by rw [Dm.cnt_len]; omega) (by rw [Dm.cnt_len]; omega)).mono ?_
        rw [eqB_refl]
        rintro e w7 ⟨rfl, q7, rfl⟩
        obtain ⟨w7, hw7⟩ : ∃ w7, w7 = w6.drewN q7 := ⟨_, rfl⟩
        have g7 := grown_drewN w6 q7 none
        rw [← hw7] at g7 ⊢
        replace A := Lib.hid (A.out.grown g7)
        replace B := Lib.hid (B.out.grown g7)
        replace G := Lib.hid (grown_trans G.out g7)
        clear C g7 hw7
        go_wp2
        go_loopw [98] (fun i wr => ∃ (i' : Nat), i = .int .i64 i' ∧ i' ≤ j ∧ Hid (w7.grownBy wr none)) (fun i _ => j - (intOf i).toNat)
        case atStart => exact ⟨0, rfl, by omega, grown_refl _ _⟩
        case round =>
          obtain ⟨i, rfl, hi, GR⟩ := hrel
          by_cases hlt2 : i < j
          · obtain ⟨b1, o1, rfl, c0⟩ := (A.out.grown GR.out).at_ i hlt2
            obtain ⟨b2, o2, rfl, c1⟩ := (B.out.grown GR.out).at_ i hlt2
            have mono := Dm.cnt_mono (r := r) (j := n.toNat) (k := T.toNat) (by have := TT.out; omega) i
            obtain ⟨v1, hv1⟩ : ∃ v, v = (Dm.cnt r n.toNat).getD i 0 := ⟨_, rfl⟩
            obtain ⟨v2, hv2⟩ : ∃ v, v = (Dm.cnt r T.toNat).getD i 0 := ⟨_, rfl⟩
            rw [← hv1] at c0 mono
            rw [← hv2] at c1 mono
            have hlt3 : decide (v2 < v1) = false := decide_eq_false (by omega)
            clear hv1 hv2
            go_wp2
            go_quiet (fail)
            go_wp2
            go_roundw
            case rel => exact ⟨i + 1, by go_num, by omega, Lib.hid (grown_trans GR.out (grown_drewN _ _ _))⟩
            case measure => simp [intOf]; omega
          · obtain rfl : i = j := by omega
            go_wp2_with fail
            refine (awake17_any _).mono ?_
            rintro e w8 ⟨rfl, hg⟩
            replace G := Lib.hid (grown_trans G.out (grown_trans GR.out hg))
            clear hg
            go_wp2
            go_ret
            exact ⟨rfl, grown_below G.out⟩
end Go.Proofs.Ytafkagaakjfkoaa
