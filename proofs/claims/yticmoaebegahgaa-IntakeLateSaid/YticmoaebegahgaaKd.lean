/- The walk of IntakeLate. -/
import Derived.Test.YticmoaebegahgaaKc
import Derived.Deep.DeepCutAuto
import Derived.Deep.CutBlock
import Derived.BigQuiet
namespace Go.Proofs.Yticmoaebegahgaa.Iw
open Go.ChangeShapes Go.WideShapes Go.ChangeAt Go.RowKit
open Wr (IR RB iv ivs bv bvs grown_trans grown_refl grown_alloc ret_int ret_bool tv Ret ret_mk)

def slen : Value → Nat
  | .slice _ n _ => n
  | _ => 0
set_option maxRecDepth 100000 in
set_option maxHeartbeats 8000000 in
theorem late_any (A : Option Addr) (n c : Nat) (zs : List Int) (wd : Int) (w : World) (hl : Wr.InRow w A n c zs) (hw : 0 ≤ wd ∧ wd ≤ 255) :
    Calls Try.prog 3 #[.slice A n c, .int .u8 wd] w (Ret (.bool true) w) := by
  have HL := Lib.hid hl
  have ht0 : 0 ≤ wd % 20 ∧ wd % 20 ≤ 19 := by omega
  have hc1 : IntKind.i64.wrap wd = wd := IntWalk.i64_in _ (by omega)
  have hc2 : IntKind.i64.wrap (wd % 20) = wd % 20 := IntWalk.i64_in _ (by omega)
  clear hl
  go_enter Try.func3, Try.ntmps3
  go_wp2_with fail
  refine (Wr.new_any _ _ _ _ w HL.out).mono ?_
  rintro e w1 ⟨rfl, g1, s1, z1⟩
  obtain ⟨S, hS⟩ : ∃ S, S = w.heap.size := ⟨_, rfl⟩
  simp only [← hS] at s1 z1 ⊢
  have SR1 := Lib.hid s1
  have HS0 := Lib.hid (show w.heap.size ≤ S by omega)
  clear s1 hS
  go_wp2_with fail
  try simp only [hc1, hc2]
  refine (Wr.n_any S 5 w1 SR1.out (by omega) (by omega)).mono ?_
  rintro e w2 ⟨win, hwin, rfl, g2, s2⟩
  have G2 := Lib.hid (show w.grownBy w2 none from Wr.grown_off g1 g2 HS0.out)
  have HW := Lib.hid (show 0 ≤ win ∧ win ≤ 4 by omega)
  have SR2 := Lib.hid s2
  have hz2 : S < w2.heap.size := Nat.lt_of_lt_of_le z1 g2.size
  clear g1 g2 s2 SR1 z1
  obtain ⟨cnt, hcnt⟩ : ∃ k : Nat, wd % 20 = (k : Int) := ⟨(wd % 20).toNat, by omega⟩
  rw [hcnt] at ht0
  have HCNT := Lib.hid hcnt
  clear hcnt
  have NW := Lib.hid (new_nil win w2)
  go_wp2_with fail
  try simp only [hc1, hc2]
  rw [HCNT.out]
  clear hc1 hc2 hw HL
  refine NW.out.mono ?_
  rintro e w3 ⟨rfl, g3⟩
  rw [newF_ok ⟨hwin.1, by omega⟩]
  dsimp only [iv3, nilS, Sl.v]
  clear HCNT
  obtain ⟨sB, hsB⟩ : ∃ b, b = w3.heap.size := ⟨_, rfl⟩
  obtain ⟨w4, hw4⟩ : ∃ w4, w4 = w3.alloc (Obj.cells #[.int .i64 win, .slice none 0 0, .slice none 0 0] 29) := ⟨_, rfl⟩
  have g4 : w3.grownBy w4 none := by subst hw4; exact grown_alloc _ _ _
  have b4 : Tri w4 sB (.int .i64 win) (.slice none 0 0) (.slice none 0 0) := by subst hw4; subst hsB; exact tri_made _ _ _ _ _
  have z4 : w4.heap.size = sB + 1 := by subst hw4; subst hsB; simp
  have G4 := Lib.hid (grown_trans G2.out (grown_trans g3 g4))
  have SR4 := Lib.hid ((SR2.out.grown g3).grown g4)
  have HS := Lib.hid (show w.heap.size ≤ S ∧ S < sB from ⟨HS0.out, by have := g3.size; omega⟩)
  have B4 := Lib.hid b4
  go_upto_region 6 with fail
  rw [← hw4]
  simp only [← hsB]
  clear hw4 hsB g3 g4 b4 hz2 HS0 NW SR2 G2
  have HSL := Lib.hid (show sB < w4.heap.size by omega)
  clear z4
  go_wp2_with fail
  -- the missing ones
  go_loopw [10, 11] (fun vm i wr => ∃ (k : Nat) (M : Sl), vm = M.v ∧ i = .int .i64 k ∧ k ≤ cnt ∧ Hid (w4.grownBy wr none) ∧ Hid (OR w4.heap.size wr 3 1 M (ivs (ups k)))) (fun _ i _ => cnt - (intOf i).toNat)
  case atStart => exact ⟨0, nilS, rfl, rfl, by omega, grown_refl _ _, or_nil _ _ _ _⟩
  case round =>
    obtain ⟨k, ⟨Ma, Mn, Mc⟩, rfl, rfl, hk, GR, MR⟩ := hrel
    dsimp only [Sl.v]
    by_cases hk2 : k < cnt
    · obtain ⟨I, hI, hz, hsz, hby⟩ := Wr.info_parts3
      have hMn : Mn = k := by have h1 := MR.out.len; rw [Wr.ivs_len, ups_len] at h1; dsimp only at h1; omega
      have g5 := grown_alloc wr (Obj.cells #[.int .i64 (k : Int)] 3) none
      have HM := Lib.hid (MR.out.grown g5)
      have HV := Lib.hid (or_int1 wr k)
      have HLO := Lib.hid (show w4.heap.size ≤ (wr.alloc (Obj.cells #[.int .i64 (k : Int)] 3)).heap.size from Nat.le_trans GR.out.size g5.size)
      have HO := Lib.hid (ivs_one [(k : Int)])
      have G5 := Lib.hid (grown_trans GR.out g5)
      have HB := Lib.hid (fun b (hb : Sl.blk ⟨Ma, Mn, Mc⟩ = some b) => (MR.out.blk b hb).1)
      clear g5
      go_wp2_with (first
        | (at_builtin
           refine wpList_appK rfl _ _ 22 rfl (S := ⟨Ma, Mn, Mc⟩) (V := ⟨some ⟨wr.heap.size, 0, none⟩, 1, 1⟩) Try.underlying22 hI hz hsz hby (by rfl) (by omega) rfl rfl HM.out HLO.out HV.out HO.out (by dsimp only; omega) (by dsimp only; omega) ?_
           intro r w5 hrn hr hg5 hrb)
        | fail)
      obtain ⟨ra, rn, rc⟩ := r
      dsimp only [Sl.v] at hrn hr hg5 hrb ⊢
      have HR := Lib.hid (show OR w4.heap.size w5 3 1 ⟨ra, rn, rc⟩ (ivs (ups (k + 1))) by rw [ups_succ, show ivs (ups k ++ [(k : Int)]) = ivs (ups k) ++ ivs [(k : Int)] from List.map_append]; exact hr)
      have G6 := Lib.hid (show w4.grownBy w5 none from (Chg.of (L := (Sl.blk ⟨Ma, Mn, Mc⟩).toList) hg5 (fun b hb => by simpa using hb)).grown G5.out (fun b hb => HB.out b (by simpa using hb)))
      clear hr hg5 hrb G5 HM HV HLO HO HB hI hz hsz hby
      go_wp2
      go_roundw
      case rel => exact ⟨k + 1, ⟨ra, rn, rc⟩, rfl, by go_num, by omega, G6, HR⟩
      case measure => simp [intOf]; omega
    · obtain rfl : k = cnt := by omega
      have hMn : Mn = k := by have h1 := MR.out.len; rw [Wr.ivs_len, ups_len] at h1; dsimp only at h1; omega
      subst hMn
      have hk20 : Mn ≤ 19 := by omega
      have SRR := Lib.hid (SR4.out.grown GR.out)
      have BR := Lib.hid (B4.out.grown GR.out)
      have GW := Lib.hid (grown_trans G4.out GR.out)
      have HLO := Lib.hid GR.out.size
      clear SR4 B4 G4 GR
      generalize w4.heap.size = lo at *
      go_wp2_with (first
        | (at_builtin
           refine wpList_mkb rfl _ _ rfl Mn rfl rfl (by omega) ?_
           intro w6 hc6 g6)
        | (refine wpList_mkb rfl _ _ rfl Mn rfl rfl (by omega) ?_
           intro w6 hc6 g6)
        | fail)
      obtain ⟨Cb, hCb⟩ : ∃ b, b = wr.heap.size := ⟨_, rfl⟩
      simp only [← hCb] at hc6 ⊢
      have LA := Lib.hid (show Late w lo S sB win [] (ups Mn) (List.replicate Mn false) nilS nilS ⟨Ma, Mn, Mc⟩ ⟨some ⟨Cb, 0, none⟩, Mn, Mn⟩ w6 from
        ⟨grown_trans GW.out g6, SRR.out.grown g6, BR.out.grown g6, kl_nil _ _ _, MR.out.grown g6, hc6.base_ (by have := HLO.out; omega), (fun x hx hc => by have h1 := (MR.out.blk x hx).2; injection hc with hc; have hc : Cb = x := hc; omega), Nat.le_trans HLO.out g6.size, ⟨HS.out.1, HS.out.2, HSL.out⟩, rfl⟩)
      have HCb := Lib.hid (show lo ≤ Cb from by have := HLO.out; omega)
      clear hc6 g6 MR SRR BR GW HLO hCb HSL
      have LT := Lib.hid (lt_zero (win := win) HW.out.1 Mn)
      have MS := Lib.hid (ms_zero Mn)
      have ML := Lib.hid (ups_len Mn)
      generalize ups Mn = ms0 at *
      generalize hcs0 : List.replicate Mn false = cs0 at *
      have CL := Lib.hid (show cs0.length = Mn by rw [← hcs0]; simp)
      clear hcs0
      go_wp2_with fail
      generalize hcq : Mn = cq at *
      have hq19 : cq ≤ 19 := by omega
      clear hk ht0
      go_loopw [10, 12, 13] (fun vm vf vg wr => ∃ (M T E : Sl) (ms : List Int) (cs : List Bool) (fi : Int) (es : List Im.Wt) (x : Im.Wt), vm = M.v ∧ vf = .int .i64 fi ∧ vg = .int .i64 fi ∧ cs.length = cq ∧ ms.length = M.n ∧ Hid (Ms cq cs ms) ∧ Hid (Lt win cs fi es x) ∧ Hid (Late w lo S sB win es ms cs T E M ⟨some ⟨Cb, 0, none⟩, cq, cq⟩ wr)) (fun vm _ _ _ => slen vm)
      case atStart => exact ⟨⟨Ma, cq, Mc⟩, nilS, nilS, ms0, cs0, 0, [], _, rfl, rfl, rfl, CL.out, ML.out, MS, LT, LA⟩
      case round =>
        clear LA LT MS ML CL
        obtain ⟨⟨Ma, Mn, Mc⟩, ⟨Ta, Tn, Tc⟩, ⟨Ea, En, Ec⟩, ms, cs, fi, es, x, rfl, rfl, rfl, hcl, hml, MS, LT, LA⟩ := hrel
        have HCL := Lib.hid hcl
        have HML := Lib.hid hml
        dsimp only at hml
        have hfi : 0 ≤ fi ∧ fi ≤ cq := ⟨LT.out.lok.f0, LT.out.le hcl⟩
        have hwn : 0 ≤ win ∧ win ≤ 4 := HW.out
        clear hcl
        dsimp only [Sl.v]
        by_cases hm0 : 0 < Mn
        · have hmq : Mn ≤ 19 := by have h1 := MS.out.len; omega
          rcases LA.out.m.form with ⟨_, h0, _⟩ | ⟨g, hg, hg1, hg2⟩
          · dsimp only at h0; omega
          dsimp only at hg
          subst hg
          have F0 := Lib.hid (show ms.getD 0 0 ≤ fi + win from by
            have h1 := MS.out.first LT.out (by rw [hml]; exact hm0)
            rw [List.getD_eq_getElem?_getD, List.getElem?_eq_getElem (by rw [hml]; exact hm0), Option.getD_some, h1]; omega)
          have HML2 := Lib.hid hml
          clear hml
          go_upto_block 4 with fail
          go_cut [15] (fun v wc => ∃ k : Nat, v = .int .i64 k ∧ k < Mn ∧ Hid (ms.getD k 0 ≤ fi + win) ∧ Hid (Late w lo S sB win es ms cs ⟨Ta, Tn, Tc⟩ ⟨Ea, En, Ec⟩ ⟨some ⟨g, 0, none⟩, Mn, Mc⟩ ⟨some ⟨Cb, 0, none⟩, cq, cq⟩ wc))
          case first =>
            go_wp2_with fail
            go_loopw [15] (fun v wr => ∃ k : Nat, v = .int .i64 k ∧ k < Mn ∧ Hid (ms.getD k 0 ≤ fi + win) ∧ Hid (Late w lo S sB win es ms cs ⟨Ta, Tn, Tc⟩ ⟨Ea, En, Ec⟩ ⟨some ⟨g, 0, none⟩, Mn, Mc⟩ ⟨some ⟨Cb, 0, none⟩, cq, cq⟩ wr)) (fun v _ => Mn - (intOf v).toNat)
            case atStart => exact ⟨0, rfl, hm0, F0, LA⟩
            case round =>
              clear F0 LA
              obtain ⟨k, rfl, hk, FK, LK⟩ := hrel
              by_cases h1 : k + 1 < Mn
              · have ck := LK.out.m.at1 (j := k + 1) (u := .int .i64 (ms.getD (k + 1) 0)) (by rw [ivs, List.getElem?_map, List.getElem?_eq_getElem (by have := HML2.out; omega), List.getD_eq_getElem?_getD, List.getElem?_eq_getElem (by have := HML2.out; omega)]; rfl)
                obtain ⟨y, hy⟩ : ∃ y, y = ms.getD (k + 1) 0 := ⟨_, rfl⟩
                rw [← hy] at ck
                have HY := Lib.hid hy
                have SK := Lib.hid LK.out.src
                clear hy
                have hd : decide ((k : Int) + 1 < (Mn : Int)) = true := by simp; omega
                by_cases h2 : y ≤ fi + win
                · have hd2 : decide (y ≤ fi + win) = true := by simpa using h2
                  go_wp2_with fail
                  refine (Wr.n_any S 2 wr SK.out (by omega) (by omega)).mono ?_
                  rintro e w7 ⟨b, hb, rfl, g7, s7⟩
                  have L7 := Lib.hid (LK.out.src_ g7 s7)
                  have F7 := Lib.hid (show ms.getD (k + 1) 0 ≤ fi + win by rw [← HY.out]; exact h2)
                  clear g7 s7 LK SK ck
                  have hb2 : b = 0 ∨ b = 1 := by omega
                  rcases hb2 with rfl | rfl
                  · go_wp2_with fail
                    go_meet
                    case rel => exact ⟨k, rfl, hk, FK, L7⟩
                  · go_wp2_with fail
                    go_roundw
                    case rel => exact ⟨k + 1, by go_num, h1, F7, L7⟩
                    case measure => simp [intOf]; omega
                · have hd2 : decide (y ≤ fi + win) = false := by simpa using h2
                  go_wp2_with fail
                  go_meet
                  case rel => exact ⟨k, rfl, hk, FK, LK⟩
              · have hd : decide ((k : Int) + 1 < (Mn : Int)) = false := by simp; omega
                go_wp2_with fail
                go_meet
                case rel => exact ⟨k, rfl, hk, FK, LK⟩
          case rest =>
            obtain ⟨k, rfl, hk, FK, LK⟩ := hcut
            clear LA F0
            have hkl : k < ms.length := by have := HML2.out; omega
            have hmk : ms.getD k 0 = ms[k] := by rw [List.getD_eq_getElem?_getD, List.getElem?_eq_getElem hkl]; rfl
            have hmm := (MS.out.mem ms[k]).1 (List.getElem_mem _)
            obtain ⟨q, hq⟩ : ∃ q : Nat, ms[k] = (q : Int) := ⟨ms[k].toNat, by omega⟩
            have hqc : q < cq := by omega
            have ck := LK.out.m.at1 (j := k) (u := .int .i64 (q : Int)) (by rw [ivs, List.getElem?_map, List.getElem?_eq_getElem hkl, hq]; rfl)
            have HQW := Lib.hid (show (q : Int) ≤ fi + win by have := FK.out; rw [hmk, hq] at this; exact this)
            have MS2 := Lib.hid (MS.out.drop hkl hq (by rw [HCL.out]; exact hqc))
            clear hq hmm hmk FK
            clear hkl
            go_upto_region 18 with fail
            have LD := Lib.hid (LK.out.grown (Wr.grown_drew wc none))
            obtain ⟨I, hI, hz, hsz, hby⟩ := Wr.info_parts3
            have hfit := LD.out.m.fit
            unfold Sl.fit at hfit
            dsimp only at hfit
            have hk1 : k ≤ Mc := by omega
            have hk2 : k + 1 ≤ Mn := by omega
            have hk3 : k + 1 ≤ Mc := by omega
            have hwk : IntKind.i64.wrap ((k : Int) + 1) = (k : Int) + 1 := IntWalk.i64_in _ (by omega)
            have htn : ((k : Int) + 1).toNat = k + 1 := by omega
            have hk4 : (k : Int) + 1 ≤ (Mn : Int) := by omega
            have hk5 : (0 : Int) ≤ (k : Int) + 1 := by omega
            obtain ⟨ad, hif, had⟩ : ∃ ad : Addr, (if Mc = k + 1 then some (⟨g, 0, none⟩ : Addr) else some ⟨g, k + 1, none⟩) = some ad ∧ ∀ j u, (ivs (ms.drop (k + 1)))[j]? = some u → wc.drew.cell? (ad.add j) = some u := by
              by_cases hMc : Mc = k + 1
              · refine ⟨⟨g, 0, none⟩, if_pos hMc, fun j u hu => ?_⟩
                rw [List.drop_of_length_le (by have := HML2.out; omega)] at hu
                simp [ivs] at hu
              · refine ⟨⟨g, k + 1, none⟩, if_neg hMc, fun j u hu => ?_⟩
                rw [add_lit]
                rw [ivs, List.getElem?_map, List.getElem?_drop] at hu
                exact LD.out.m.at1 (by rw [ivs, List.getElem?_map]; exact hu)
            have HAD := Lib.hid had
            clear had
            refine wp_region_held_drew (S := fun _ => True) (by kernel_rfl) ?_ (fun hHeld => ?_)
            · trivial
            try simp only [Act.put, List.setIfInBounds_toArray, List.set_cons_zero, List.set_cons_succ]
            generalize wc.drew = wd at *
            refine takeL (i := 1) (v := ?_) rfl (by kernel_rfl) (by kernel_rfl) (by kernel_rfl) (fun _ _ _ h => h) (Or.inl ⟨by rfl, ?_⟩) (by assumption) ?_
            rotate_left 1
            · intro w hSw; skip; first | (go_simp; done) | (go_simp; with_reducible rfl)
            try simp only [Act.put, List.setIfInBounds_toArray, List.set_cons_zero, List.set_cons_succ]
            refine takeL (i := 2) (v := ?_) rfl (by kernel_rfl) (by kernel_rfl) (by kernel_rfl) (fun _ _ _ h => h) (Or.inl ⟨by rfl, ?_⟩) (by assumption) ?_
            rotate_left 1
            · intro w hSw; skip; first | (go_simp; done) | (go_simp; with_reducible rfl)
            try simp only [Act.put, List.setIfInBounds_toArray, List.set_cons_zero, List.set_cons_succ]
            refine takeL (i := 3) (v := ?_) rfl (by kernel_rfl) (by kernel_rfl) (by kernel_rfl) (fun _ _ _ h => h) (Or.inl ⟨by rfl, ?_⟩) (by assumption) ?_
            rotate_left 1
            · intro w hSw; skip; first | (go_simp; done) | (go_simp; with_reducible rfl)
            try simp only [Act.put, List.setIfInBounds_toArray, List.set_cons_zero, List.set_cons_succ]
            refine takeL (i := 5) (v := ?_) rfl (by kernel_rfl) (by kernel_rfl) (by kernel_rfl) (fun _ _ _ h => h) (Or.inl ⟨by rfl, ?_⟩) (by assumption) ?_
            rotate_left 1
            · intro w hSw; skip; first | (go_simp; done) | (go_simp; with_reducible rfl)
            try simp only [Act.put, List.setIfInBounds_toArray, List.set_cons_zero, List.set_cons_succ]
            refine takeL (i := 6) (v := ?_) rfl (by kernel_rfl) (by kernel_rfl) (by kernel_rfl) (fun _ _ _ h => h) (Or.inl ⟨by rfl, ?_⟩) (by assumption) ?_
            rotate_left 1
            · intro w hSw; skip; first | (go_simp; done) | (go_simp; with_reducible rfl)
            try simp only [Act.put, List.setIfInBounds_toArray, List.set_cons_zero, List.set_cons_succ]
            refine takeL (i := 7) (v := ?_) rfl (by kernel_rfl) (by kernel_rfl) (by kernel_rfl) (fun _ _ _ h => h) (Or.inl ⟨by rfl, ?_⟩) (by assumption) ?_
            rotate_left 1
            · intro w hSw; skip; first | (go_simp; done) | (go_simp; with_reducible rfl)
            try simp only [Act.put, List.setIfInBounds_toArray, List.set_cons_zero, List.set_cons_succ]
            refine takeL (i := 8) (v := ?_) rfl (by kernel_rfl) (by kernel_rfl) (by kernel_rfl) (fun _ _ _ h => h) (Or.inl ⟨by rfl, ?_⟩) (by assumption) ?_
            rotate_left 1
            · intro w hSw; skip; first | (go_simp; done) | (go_simp; with_reducible rfl)
            try simp only [Act.put, List.setIfInBounds_toArray, List.set_cons_zero, List.set_cons_succ]
            refine wpAnyH_ready (rs := [0]) (by kernel_rfl) (by simp) (consL rfl (fun K hK => ?_) AllReadyH.nil)
            go_simp
            refine hK.out _ _ ?_ (fun hHeld => ?_)
            · trivial
            clear hK K
            try simp only [Act.put, List.setIfInBounds_toArray, List.set_cons_zero, List.set_cons_succ]
            refine wpAnyH_ready (rs := [4]) (by kernel_rfl) (by simp) (consL rfl (fun K hK => ?_) AllReadyH.nil)
            have OZ := Lib.hid (or_int0 wd)
            have hcell : ∀ j u, (ivs (ms.take k))[j]? = some u → (wd.alloc (Obj.cells #[] 3)).cell? ((⟨g, 0, none⟩ : Addr).add j) = some u := fun j u hu => by
                rw [add_lit, Nat.zero_add]
                rw [ivs, List.getElem?_map, List.getElem?_take] at hu
                split at hu
                · exact (grown_alloc wd _ none).cell (LD.out.m.at1 (by rw [ivs, List.getElem?_map]; exact hu)) (by simp)
                · simp at hu
            have hlen : (ivs (ms.take k)).length = k * 1 := by rw [Wr.ivs_len, List.length_take, HML2.out]; (try dsimp only); omega
            refine step_appC rfl (.tmp 78) (.tmp 81) 22 rfl (S := ⟨some ⟨wd.heap.size, 0, none⟩, 0, 0⟩) (ad := ⟨g, 0, none⟩) (m := k) (c := Mc) Try.underlying22 hI hz hsz hby (by rfl) (by omega) rfl (by first | rfl | (simp [hif]; done) | (simp; done)) OZ.out (by simp) hlen hcell (ivs_one _) (by (try dsimp only); omega) (by (try dsimp only); omega) ?_
            intro r1 w15 hrn1 hr1 hg1 hrb1
            have GA := Lib.hid (show wd.grownBy w15 none from (Chg.of (L := [wd.heap.size]) hg1 (fun b hb => by injection hb with hb; subst hb; simp)).grown (grown_alloc wd _ none) (fun b hb => by rw [List.mem_singleton] at hb; omega))
            have HR1 := Lib.hid hr1
            clear hcell hlen hr1 hg1 hrb1
            obtain ⟨r1a, r1n, r1c⟩ := r1
            try dsimp only [Sl.v] at hrn1 ⊢
            have HN1 := Lib.hid (show r1n = k by omega)
            clear hrn1
            refine hK.out _ _ ?_ (fun hHeld => ?_)
            · trivial
            clear hK K
            try simp only [Act.put, List.setIfInBounds_toArray, List.set_cons_zero, List.set_cons_succ]
            refine wpAnyH_ready (rs := [9]) (by kernel_rfl) (by simp) (consL rfl (fun K hK => ?_) AllReadyH.nil)
            have hcell : ∀ j u, (ivs (ms.drop (k + 1)))[j]? = some u → w15.cell? (ad.add j) = some u := fun j u hu => GA.out.cell (HAD.out j u hu) (by simp)
            have hlen : (ivs (ms.drop (k + 1))).length = (Mn - (k + 1)) * 1 := by rw [Wr.ivs_len, List.length_drop, HML2.out, Nat.mul_one]
            refine step_appC rfl (.tmp 82) (.tmp 86) 22 rfl (S := ⟨r1a, r1n, r1c⟩) (ad := ad) (m := Mn - (k + 1)) (c := Mc - (k + 1)) Try.underlying22 hI hz hsz hby (by rfl) (by omega) rfl (by first | rfl | (simp [hif]; done) | (simp; done)) HR1.out GA.out.size hlen hcell (ivs_one _) (by have := HN1.out; (try dsimp only); omega) (by have := HN1.out; (try dsimp only); omega) ?_
            intro r2 w16 hrn2 hr2 hg2 hrb2
            have GB := Lib.hid (show wd.grownBy w16 none from (Chg.of (L := (Sl.blk ⟨r1a, r1n, r1c⟩).toList) hg2 (fun b hb => by simpa using hb)).grown GA.out (fun b hb => (HR1.out.blk b (by simpa using hb)).1))
            have LB := Lib.hid (LD.out.newM GB.out (ms' := ms.take k ++ ms.drop (k + 1)) (M' := r2) (by rw [show ivs (ms.take k ++ ms.drop (k + 1)) = ivs (ms.take k) ++ ivs (ms.drop (k + 1)) from List.map_append]; simpa using hr2))
            clear hcell hlen hr2 hg2 hrb2 HR1 GA
            obtain ⟨r2a, r2n, r2c⟩ := r2
            try dsimp only [Sl.v] at hrn2 ⊢
            have HN2 := Lib.hid (show r2n = k + (Mn - (k + 1)) by have := HN1.out; omega)
            clear hrn2
            refine hK.out _ _ ?_ (fun hHeld => ?_)
            · trivial
            clear hK K
            try simp only [Act.put, List.setIfInBounds_toArray, List.set_cons_zero, List.set_cons_succ]
            refine takeL (i := 10) (v := ?_) rfl (by kernel_rfl) (by kernel_rfl) (by kernel_rfl) (fun _ _ _ h => h) (Or.inl ⟨by rfl, ?_⟩) (by assumption) ?_
            rotate_left 1
            · intro w hSw; skip; first | (go_simp; done) | (go_simp; with_reducible rfl)
            try simp only [Act.put, List.setIfInBounds_toArray, List.set_cons_zero, List.set_cons_succ]
            refine wpAnyH_done (by kernel_rfl) ?_ _
            clear hHeld hif
            have HR2n := Lib.hid (show r2n < Mn by have := HN2.out; omega)
            have HMN2 := Lib.hid (show (ms.take k ++ ms.drop (k + 1)).length = r2n by have h1 := LB.out.m.len; rw [Wr.ivs_len] at h1; dsimp only at h1; omega)
            clear hk1 hk2 hk3 hk4 hk5 hwk htn hfit LD LK GB ck
            generalize ms.take k ++ ms.drop (k + 1) = ms2 at *
            have oq := LB.out.c.open_ q
            have ccq := LB.out.c.at1 (j := q) (u := .bool (cs.getD q false)) (by rw [ovs, List.getElem?_map, List.getElem?_eq_getElem (by rw [HCL.out]; exact hqc), List.getD_eq_getElem?_getD, List.getElem?_eq_getElem (by rw [HCL.out]; exact hqc)]; rfl)
            generalize cs.getD q false = oldb at ccq
            have LC := Lib.hid (LB.out.came (q := q))
            have hq1 : (q : Int) < (cq : Int) := by omega
            have hq0 : (0 : Int) ≤ (q : Int) := by omega
            go_upto_region 20 with fail
            clear oq ccq LB hI hz hsz hby
            generalize w16.setCell ⟨Cb, q, none⟩ (.bool true) = w17 at *
            have SC := Lib.hid LC.out.src
            go_wp2_with fail
            refine (Wr.n_any S 2 w17 SC.out (by omega) (by omega)).mono ?_
            rintro e w18 ⟨i0, hi0, rfl, g18, s18⟩
            have L18 := Lib.hid (LC.out.src_ g18 s18)
            have HI0 := Lib.hid hi0
            clear g18 s18 LC SC hi0
            have HST := Lib.hid (fun (fj : Int) (es : List Im.Wt) (x : Im.Wt) (hfj : fi ≤ fj) (h : Lt win cs fj es x ∨ Lt win (cs.set q true) fj es x) => show ∃ x', Lt win (cs.set q true) (fj + ((Im.acc win es (lmk q)).2.length : Int)) (Im.acc win es (lmk q)).1 x' ∧ Im.Run fj (Im.acc win es (lmk q)).2 ∧ (Im.acc win es (lmk q)).2.length ≤ 20 from by
              have hQ := HQW.out
              rcases h with h | h
              · obtain ⟨x', k1, k2, k3⟩ := h.step HW.out.1 (q := q) (by rw [HCL.out]; exact hqc) (by omega) (by omega)
                exact ⟨x', k1, k2, by have := h.ok.len; have := HW.out; omega⟩
              · obtain ⟨x', k1, k2, k3⟩ := h.step HW.out.1 (q := q) (by rw [List.length_set, HCL.out]; exact hqc) (by omega) (by omega)
                rw [List.set_set] at k1
                exact ⟨x', k1, k2, by have := h.ok.len; have := HW.out; omega⟩)
            go_wp2_with fail
            go_loopw [13, 17] (fun vg vi wr => ∃ (T E : Sl) (fj : Int) (es : List Im.Wt) (x : Im.Wt) (iv : Int), vg = .int .i64 fj ∧ vi = .int .i64 iv ∧ -1 ≤ iv ∧ iv ≤ 1 ∧ fi ≤ fj ∧ (iv = -1 → Hid (Lt win (cs.set q true) fj es x)) ∧ Hid (Lt win cs fj es x ∨ Lt win (cs.set q true) fj es x) ∧ Hid (Late w lo S sB win es ms2 (cs.set q true) T E ⟨r2a, r2n, r2c⟩ ⟨some ⟨Cb, 0, none⟩, cq, cq⟩ wr)) (fun _ vi _ => (intOf vi + 1).toNat)
            case atStart => exact ⟨⟨Ta, Tn, Tc⟩, ⟨Ea, En, Ec⟩, fi, es, x, i0, rfl, rfl, by have := HI0.out; omega, by have := HI0.out; omega, by omega, fun e => by have := HI0.out; omega, Lib.hid (.inl LT.out), L18⟩
            case round =>
              clear L18
              obtain ⟨⟨Ta, Tn, Tc⟩, ⟨Ea, En, Ec⟩, fj, es, x, iv, rfl, rfl, hv0, hv1, hfj, hend, HLT, LR⟩ := hrel
              by_cases hiv : 0 ≤ iv
              · have HES := Lib.hid (show es.length ≤ 1 ∧ Im.SOk win es from by
                  rcases HLT.out with h | h
                  · exact ⟨h.len, h.sok⟩
                  · exact ⟨h.len, h.sok⟩)
                have HAF := Lib.hid (show accF ⟨win, [], es⟩ (lmk q) = (⟨win, [], (Im.acc win es (lmk q)).1⟩, (Im.acc win es (lmk q)).2, 0) from by
                  rcases HLT.out with h | h
                  · exact h.accF HW.out ⟨by omega, by omega⟩
                  · exact h.accF HW.out ⟨by omega, by omega⟩)
                obtain ⟨x', hx1, hx2, hx3⟩ := HST.out fj es x hfj HLT.out
                have AC := Lib.hid (accept_pub ⟨Ta, Tn, Tc⟩ ⟨Ea, En, Ec⟩ ⟨win, [], es⟩ (lmk q) nilS wr LR.out.ks.now ⟨by simp [nilS, Sl.fit], by simp [nilS], IR.nil _ _, fun _ _ _ h => by cases h⟩ (by have := LR.out.nil; omega) (by have h1 := LR.out.ks.now.es.len; have h2 := HES.out.1; dsimp only at h1 ⊢; omega) (fun e he => by have h1 := (HES.out.2.all e he).len; have := HW.out; omega))
                rw [HAF.out] at AC
                clear HAF HES hend HLT
                generalize (Im.acc win es (lmk q)).2 = outs at *
                generalize (Im.acc win es (lmk q)).1 = es' at *
                have HX1 := Lib.hid hx1
                have HX2 := Lib.hid hx2
                have hol : outs.length ≤ 20 := hx3
                have hfle : fj ≤ cq ∧ 0 ≤ fj ∧ fj + (outs.length : Int) ≤ cq := by
                  have h1 := hx1.le (n := cq) (by rw [List.length_set]; exact HCL.out)
                  omega
                clear hx1 hx2 hx3
                obtain ⟨⟨s0, s1, s2⟩, -⟩ := LR.out.bs
                dsimp only [iv3, tv, lmk, Sl.v, nilS] at AC s0 s1 s2
                go_wp2_with fail
                refine AC.out.mono ?_
                rintro e w20 ⟨⟨Tpa, Tpn, Tpc⟩, ⟨Epa, Epn, Epc⟩, ⟨Ga, Gn, Gc⟩, rfl, hk20, hn20, hG20, g20⟩
                dsimp only at hk20 hn20 hG20
                dsimp only [iv3, Sl.v]
                have K20 := Lib.hid (KS.kl (L := LL lo ⟨r2a, r2n, r2c⟩ ⟨some ⟨Cb, 0, none⟩, cq, cq⟩) hk20 LR.out.lt)
                have TG20 := Lib.hid hG20
                have hlw : lo ≤ wr.heap.size := LR.out.low
                have L20 := Lib.hid (LR.out.grown g20)
                have HN20 := Lib.hid hn20
                have hgl : outs.length = Gn := (TRS.now hG20).len
                clear hk20 hn20 hG20 s0 s1 s2 AC LR
                obtain ⟨N, hN⟩ : ∃ N, N = w20.heap.size := ⟨_, rfl⟩
                obtain ⟨w21, hw21⟩ : ∃ w21, w21 = w20.alloc (Obj.cells #[.int .i64 win, .slice Tpa Tpn Tpc, .slice Epa Epn Epc] 29) := ⟨_, rfl⟩
                have g21 : w20.grownBy w21 none := by subst hw21; exact grown_alloc _ _ _
                have B21 := Lib.hid (show Tri w21 N (.int .i64 win) (.slice Tpa Tpn Tpc) (.slice Epa Epn Epc) by subst hw21; subst hN; exact tri_made _ _ _ _ _)
                have L21 := Lib.hid (L20.out.grown g21)
                have K21 := Lib.hid (K20.out.grown g21)
                have TG21 := Lib.hid (TG20.out.grown g21)
                have hNs : N ≠ sB := by have h1 := L20.out.ord; have h2 := L20.out.low; omega
                have HNS := Lib.hid hNs
                go_upto_region 24 with fail
                rw [← hw21]
                simp only [← hN]
                clear hw21 hN g21 g20 L20 K20 TG20
                obtain ⟨⟨y0, y1, y2⟩, -⟩ := B21.out
                obtain ⟨⟨s0, s1, s2⟩, F⟩ := L21.out.bs
                dsimp only [Sl.v] at s0 s1 s2
                have f0 := F 0
                have f1 := F 1
                have f2 := F 2
                clear F
                go_upto_region 27 with fail
                have gset : Chg [sB] w21 (((w21.setCell ⟨sB, 0, none⟩ (.int .i64 win)).setCell ⟨sB, 1, none⟩ (.slice Tpa Tpn Tpc)).setCell ⟨sB, 2, none⟩ (.slice Epa Epn Epc)) :=
                  (((Chg.refl [sB] w21).set ⟨sB, 0, none⟩ (.int .i64 win) (by simp)).set ⟨sB, 1, none⟩ (.slice Tpa Tpn Tpc) (by simp)).set ⟨sB, 2, none⟩ (.slice Epa Epn Epc) (by simp)
                have hSs : sB < lo := by have := L21.out.ord; omega
                have L22 := Lib.hid (L21.out.setS gset (((L21.out.bs.set0 (.int .i64 win)).set1 (.slice Tpa Tpn Tpc)).set2 (.slice Epa Epn Epc)) (E' := ⟨Epa, Epn, Epc⟩) (T' := ⟨Tpa, Tpn, Tpc⟩) K21.out HN20.out)
                have TG22 := Lib.hid (TRS.now (TRS.old TG21.out gset (by omega)))
                clear gset y0 y1 y2 s0 s1 s2 f0 f1 f2 B21 L21 K21 TG21
                generalize (((w21.setCell ⟨sB, 0, none⟩ (.int .i64 win)).setCell ⟨sB, 1, none⟩ (.slice Tpa Tpn Tpc)).setCell ⟨sB, 2, none⟩ (.slice Epa Epn Epc)) = w22 at *
                go_wp2_with fail
                go_loopw [13, 110] (fun vg vp wr => ∃ p : Nat, vg = .int .i64 (fj + p) ∧ vp = .int .i64 p ∧ p ≤ Gn ∧ Hid (Late w lo S sB win es' ms2 (cs.set q true) ⟨Tpa, Tpn, Tpc⟩ ⟨Epa, Epn, Epc⟩ ⟨r2a, r2n, r2c⟩ ⟨some ⟨Cb, 0, none⟩, cq, cq⟩ wr) ∧ Hid (TR wr ⟨Ga, Gn, Gc⟩ outs)) (fun _ vp _ => Gn - (intOf vp).toNat)
                case atStart => exact ⟨0, by simp, rfl, by omega, L22, TG22⟩
                case round =>
                  clear L22 TG22
                  obtain ⟨p, rfl, rfl, hp, LP, GP⟩ := hrel
                  by_cases hp2 : p < Gn
                  · have hsq := run_sq HX2.out (i := p) (by omega)
                    obtain ⟨b, off, ⟨GVa, GVn, GVc⟩, hGa, -, hc⟩ := GP.out.at_ p hp2
                    generalize outs.getD p Tm.zero = y at hsq hc
                    obtain ⟨yst, yep, ysq, ytm, ykd, yvs⟩ := y
                    dsimp only at hsq hGa
                    subst hsq
                    subst hGa
                    have h0 := hc 0 _ rfl
                    have h1 := hc 1 _ rfl
                    have h2 := hc 2 _ rfl
                    have h3 := hc 3 _ rfl
                    have h4 := hc 4 _ rfl
                    have h5 := hc 5 _ rfl
                    simp only [← Nat.add_assoc, Nat.add_zero] at h0 h1 h2 h3 h4 h5
                    dsimp only [Sl.v] at h0 h1 h2 h3 h4 h5
                    have LQ := Lib.hid (LP.out.grown (grown_alloc wr (Obj.cells #[.int .i64 yst, .int .i64 yep, .int .i64 (fj + p), .int .i64 ytm, .int .i64 ykd, .slice GVa GVn GVc] 38) none))
                    have GQ := Lib.hid (GP.out.grown (grown_alloc wr (Obj.cells #[.int .i64 yst, .int .i64 yep, .int .i64 (fj + p), .int .i64 ytm, .int .i64 ykd, .slice GVa GVn GVc] 38) none))
                    clear hc
                    go_wp2
                    go_roundw
                    case rel => exact ⟨p + 1, by go_num, by go_num, by omega, LQ, GQ⟩
                    case measure => simp [intOf]; omega
                  · obtain rfl : p = Gn := by omega
                    have HX3 := Lib.hid (show Lt win (cs.set q true) (fj + (p : Int)) es' x' by rw [← hgl]; exact HX1.out)
                    have HGL := Lib.hid hgl
                    clear hgl HX1
                    go_wp2
                    go_roundw
                    case rel => exact ⟨⟨Tpa, Tpn, Tpc⟩, ⟨Epa, Epn, Epc⟩, fj + p, es', x', iv - 1, rfl, by go_num, by omega, by omega, by omega, fun _ => HX3, Lib.hid (.inr HX3.out), LP⟩
                    case measure => simp [intOf]; omega
              · have LN := hend (by omega)
                clear hend HLT
                have hfc : fj ≤ cq := LN.out.le (by rw [List.length_set]; exact HCL.out)
                go_wp2_with fail
                go_loopw [12] (fun vf wr => ∃ f1 : Int, vf = .int .i64 f1 ∧ fi ≤ f1 ∧ f1 ≤ fj ∧ Hid (Late w lo S sB win es ms2 (cs.set q true) ⟨Ta, Tn, Tc⟩ ⟨Ea, En, Ec⟩ ⟨r2a, r2n, r2c⟩ ⟨some ⟨Cb, 0, none⟩, cq, cq⟩ wr)) (fun vf _ => (cq - intOf vf).toNat)
                case atStart => exact ⟨fi, rfl, by omega, hfj, LR⟩
                case round =>
                  clear LR
                  obtain ⟨f1, rfl, hf1, hf2, LR⟩ := hrel
                  obtain ⟨fn, rfl⟩ := Int.eq_ofNat_of_zero_le (show 0 ≤ f1 by omega)
                  by_cases h1 : fn < cq
                  · have cf := LR.out.c.at1 (j := fn) (u := .bool ((cs.set q true).getD fn false)) (by rw [ovs, List.getElem?_map, List.getElem?_eq_getElem (by rw [List.length_set, HCL.out]; exact h1), List.getD_eq_getElem?_getD, List.getElem?_eq_getElem (by rw [List.length_set, HCL.out]; exact h1)]; rfl)
                    obtain ⟨y, hy⟩ : ∃ y, y = (cs.set q true).getD fn false := ⟨_, rfl⟩
                    rw [← hy] at cf
                    have hd : decide ((fn : Int) < (cq : Int)) = true := by simp; omega
                    cases y
                    · have hfe : (fn : Int) = fj := by
                        rcases Int.lt_or_le (fn : Int) fj with e | e
                        · have := (LN.out.lok.low fn (by omega) e).2
                          rw [Int.toNat_natCast, ← hy] at this
                          cases this
                        · omega
                      have HFE := Lib.hid hfe
                      clear hfe hy
                      go_wp2_with fail
                      go_roundw
                      case rel => exact ⟨⟨r2a, r2n, r2c⟩, ⟨Ta, Tn, Tc⟩, ⟨Ea, En, Ec⟩, ms2, cs.set q true, fj, es, x, rfl, by rw [HFE.out], rfl, by rw [List.length_set]; exact HCL.out, HMN2.out, MS2, LN, LR⟩
                      case measure => exact HR2n.out
                    · have hne : (fn : Int) ≠ fj := by
                        intro e
                        exact LN.out.lok.not ⟨by omega, by rw [← e, Int.toNat_natCast, ← hy]⟩
                      clear hy
                      go_wp2
                      go_roundw
                      case rel => exact ⟨(fn : Int) + 1, by go_num, by omega, by omega, LR⟩
                      case measure => simp [intOf]; omega
                  · have hd : decide ((fn : Int) < (cq : Int)) = false := by simp; omega
                    have HFE := Lib.hid (show (fn : Int) = fj by omega)
                    go_wp2_with fail
                    go_roundw
                    case rel => exact ⟨⟨r2a, r2n, r2c⟩, ⟨Ta, Tn, Tc⟩, ⟨Ea, En, Ec⟩, ms2, cs.set q true, fj, es, x, rfl, by rw [HFE.out], rfl, by rw [List.length_set]; exact HCL.out, HMN2.out, MS2, LN, LR⟩
                    case measure => exact HR2n.out
        · obtain rfl : Mn = 0 := by omega
          have hnil : ms = [] := List.eq_nil_of_length_eq_zero hml
          have hfe : fi = (cq : Int) := by have := MS.out; rw [hnil] at this; exact this.done LT.out HCL.out
          subst hfe
          have GF := Lib.hid LA.out.g
          clear hnil LA LT MS HCL HML hml
          go_wp2_with fail
          refine (awake_any wr).mono ?_
          rintro e w7 ⟨rfl, g7⟩
          have G7 := Lib.hid (grown_trans GF.out g7)
          go_wp2
          go_ret
          exact ret_mk rfl G7.out
end Go.Proofs.Yticmoaebegahgaa.Iw
