/- Contract of package deal's Deal. -/
import Derived.Test.YtafkagaakjfkoaaDi6
import Derived.Deep.RegionLaw
namespace Go.Proofs.Ytafkagaakjfkoaa
open Go.ChangeShapes Go.WideShapes Go.ChangeAt Go.RowKit

set_option maxHeartbeats 4000000 in
theorem ddeal_any (s t : Sl) (f : List Fm.Pc) (r : List Int) (w : World) (h : FR w s f) (k : NR w t r) (_ : ∀ i, IsI64 (r.getD i 0)) :
    Calls Try.prog 18 #[s.v, t.v] w (DealEnd (dealF f r) (dchk f r) w) := by
  obtain ⟨ip, hip, hzp0, hzp1, hzp2⟩ := parts_p
  have HF := Lib.hid h
  have HR := Lib.hid k
  have hlen := h.len
  have klen := k.len
  clear h k
  obtain ⟨M, hM⟩ : ∃ M, M = merged f := ⟨_, rfl⟩
  have MF := merged_facts f
  rw [← hM] at MF
  obtain ⟨mp, ml, mv⟩ := MF
  have MP := Lib.hid mp
  have HM := Lib.hid hM
  clear mp hM
  obtain ⟨E, hE⟩ : ∃ E, E = dchk f r := ⟨_, rfl⟩
  rw [← hE]
  have HE := Lib.hid hE
  obtain ⟨a, sn, c⟩ := s
  obtain ⟨a', n, c'⟩ := t
  dsimp only at hlen klen
  unfold Sl.v
  dsimp only
  clear hE
  go_enter Try.func18, Try.ntmps18
  go_wp2_with fail
  refine (pmerged_any ⟨a, sn, c⟩ f w HF.out).mono ?_
  rw [← HM.out]
  rintro e w1 ⟨⟨ma, mn, mc⟩, rfl, hm, hg⟩
  have O1 := Lib.hid hm
  have G1 := Lib.hid hg
  have hmn : M.length = mn := hm.fr.len
  clear hm hg
  dsimp only [Sl.v]
  by_cases hbad : (mn = 0 ∧ 0 < sn) ∨ 200 < mn
  · have B := Lib.hid (show dchk f r = 9 from if_pos (by
      rw [← HM.out]
      rcases hbad with ⟨h1, h2⟩ | h1
      · exact .inl ⟨List.eq_nil_of_length_eq_zero (by omega), fun e => by rw [e] at hlen; simp at hlen; omega⟩
      · exact .inr (by omega)))
    have F := Lib.hid (show dealF f r = [] from if_neg (by rw [B.out]; omega))
    by_cases h0 : mn = 0
    · subst h0
      have hn : (0 : Int) < (sn : Int) := by omega
      clear hbad hmn
      go_wp2
      go_ret2
      exact ⟨⟨none, 0, 0⟩, ret_i2 (by rw [HE.out, B.out]), by rw [F.out]; exact RR.nil, G1.out⟩
    · have h2 : (200 : Int) < (mn : Int) := by omega
      have hb : ((mn : Int) == 0) = false := by rw [beq_eq_false_iff_ne]; omega
      clear hbad hmn
      go_wp2
      go_ret2
      exact ⟨⟨none, 0, 0⟩, ret_i2 (by rw [HE.out, B.out]), by rw [F.out]; exact RR.nil, G1.out⟩
  have hno : ¬ (merged f = [] ∧ f ≠ []) := by
    rw [← HM.out]
    rintro ⟨h1, h2⟩
    exact hbad (.inl ⟨by rw [h1] at hmn; simpa using hmn.symm, by rw [← hlen]; exact List.length_pos_iff.2 h2⟩)
  have C := Lib.hid (show dchk f r = chk r (Fm.vol M) by
    rw [HM.out]
    exact if_neg (by
      rintro (h1 | h1)
      · exact hno h1
      · rw [← HM.out] at h1; exact hbad (.inr (by omega))))
  have FM := Lib.hid (mok_of hno)
  have h200 : ¬ (200 : Int) < (mn : Int) := by omega
  have e200 : decide ((200 : Int) < (mn : Int)) = false := decide_eq_false h200
  have mn200 : mn ≤ 200 := by omega
  have SU := Lib.hid (dvolume_any ⟨ma, mn, mc⟩ M w1 O1.out.fr MP.out (by omega))
  have CK := Lib.hid (fun (W : World) (hW : w1.grownBy W none) => dcheck_any ⟨a', n, c'⟩ r (Fm.vol M) W (HR.out.grown (grown_trans G1.out hW)))
  rw [← C.out, ← HE.out] at CK
  unfold Sl.v at SU CK
  dsimp only at SU CK
  obtain ⟨Vo, hV⟩ : ∃ Vo, Vo = Fm.vol M := ⟨_, rfl⟩
  rw [← hV] at SU CK
  have HV := Lib.hid hV
  clear hV mv
  go_upto_region 2 with fail
  go_cut [30] (fun s30 wc => s30 = .bool false ∧ w1 = wc)
  case first =>
    by_cases h0 : mn = 0
    · subst h0
      obtain rfl : sn = 0 := by omega
      clear hbad hmn hlen
      go_wp2
      go_meet
      case rel => exact ⟨rfl, rfl⟩
    · have hb : ((mn : Int) == 0) = false := by rw [beq_eq_false_iff_ne]; omega
      clear hbad hmn hlen
      go_wp2
      go_meet
      case rel => exact ⟨rfl, rfl⟩
  case rest =>
    obtain ⟨rfl, rfl⟩ := hcut
    clear hbad hlen
    go_wp2_with fail
    refine SU.out.mono ?_
    rintro e w2 ⟨rfl, hg⟩
    have G2 := Lib.hid hg
    clear hg
    go_wp2_with fail
    refine (CK.out w2 G2.out).mono ?_
    rintro e w3 ⟨rfl, rfl⟩
    by_cases hE0 : E = 0
    · subst hE0
      have RK := Lib.hid (chk_ok.1 (show chk r (Fm.vol M) = 0 by rw [← C.out]; exact HE.out.symm))
      have F := Lib.hid (show dealF f r = Dm.dealt r (Fm.lit M) by rw [HM.out]; exact if_pos HE.out.symm)
      have n64 := RK.out.len
      have n0 : 0 < r.length := by
        rcases Nat.eq_zero_or_pos r.length with e | e
        · have := RK.out.pos; rw [List.eq_nil_of_length_eq_zero e] at this; simp at this
        · exact e
      have W3 := Lib.hid (grown_trans G1.out G2.out)
      have NW := Lib.hid (dnew_any ⟨a', n, c'⟩ r w3 (HR.out.grown W3.out) n64 n0)
      unfold Sl.v at NW
      dsimp only at NW
      have hz := (zero_of_info zero_dl).1
      have hsz : (List.replicate 129 (Value.int .i64 0)).toArray.size = 129 := by simp
      generalize (List.replicate 129 (Value.int .i64 0)).toArray = zd at *
      have lD : (ni (Dm.dl r (Dm.cnt r 0))).length = 129 := by rw [ni_len, Dm.dl_len n64 (by rw [Dm.cnt_len]; exact n64)]
      rw [show Dm.zeros r.length = Dm.cnt r 0 from rfl] at NW
      go_wp2_with fail
      refine NW.out.mono ?_
      rintro e w4 ⟨rfl, hg⟩
      have G4 := Lib.hid hg
      obtain ⟨f1, f2, f3⟩ := fresh_one w4 62 129 hsz lD
      obtain ⟨X1, hX1⟩ : ∃ X1, X1 = (w4.alloc (.cells zd 62)).setCells w4.heap.size 0 (ni (Dm.dl r (Dm.cnt r 0))) := ⟨_, rfl⟩
      rw [← hX1] at f1 f2
      have HX1 := Lib.hid hX1
      have D1 := Lib.hid (show DB w4.heap.size X1 w4.heap.size r (Dm.cnt r 0) from f1)
      have GX := Lib.hid f2
      have T1 := Lib.hid (show (w4.alloc (.cells zd 62)).there w4.heap.size 0 (ni (Dm.dl r (Dm.cnt r 0))).toArray.size by
        show (w4.alloc (.cells zd 62)).there w4.heap.size 0 (ni (Dm.dl r (Dm.cnt r 0))).length
        rw [lD]; exact f3)
      have S1 := Lib.hid (show (Try.prog.info? 62).map (·.size) = some (ni (Dm.dl r (Dm.cnt r 0))).toArray.size by
        show _ = some (ni (Dm.dl r (Dm.cnt r 0))).length
        rw [lD]; exact info_dl)
      have one1 := Lib.hid (ni_one (Dm.dl r (Dm.cnt r 0)))
      obtain ⟨Y, hY⟩ : ∃ Y, Y = ni (Dm.dl r (Dm.cnt r 0)) := ⟨_, rfl⟩
      rw [← hY] at one1 HX1 T1 S1 ⊢
      clear hY hX1 f1 f2 f3 hg lD CK NW SU
      go_wp2_with (first
        | (refine wpList_store_mid rfl 62 _ _ rfl w4.heap.size 0 Y.toArray rfl rfl T1.out S1.out (all_oneCell_toArray one1.out) ?_
           rw [show Y.toArray.toList = Y from rfl, ← HX1.out])
        | (at_make; refine wpList_mkr rfl _ _ rfl n rfl rfl (by omega) ?_; intro wa hoa hga; have OA := Lib.hid hoa; have GA := Lib.hid hga; clear hoa hga)
        | fail)
      have hXs := GX.out.size
      have hD1 := D1.out.blk w4.heap.size rfl
      have H0 := Lib.hid (show DS w4 wa X1.heap.size w4.heap.size n (fun _ => ⟨none, 0, 0⟩) (hk r M 0) r (lk M 0) from ⟨OA.out.base_ hXs, D1.out.grown GA.out, fun _ _ e => (by cases e), by omega, grown_trans GX.out GA.out⟩)
      have W4 := Lib.hid (grown_trans W3.out G4.out)
      have M4 := Lib.hid (show FR w4 ⟨ma, mn, mc⟩ M from O1.out.fr.grown (grown_trans G2.out G4.out))
      obtain ⟨O, hO⟩ : ∃ O, O = X1.heap.size := ⟨_, rfl⟩
      obtain ⟨D, hD⟩ : ∃ D, D = w4.heap.size := ⟨_, rfl⟩
      rw [← hO, ← hD] at H0
      simp only [← hO, ← hD]
      clear hO OA GA hXs hD1 T1 S1 one1 HX1 D1 GX hD
      have LK := Lib.hid (fun j => lk_vol MP.out j)
      have VT := Lib.hid (fun j => Fm.vol_take_le MP.out j)
      go_loopw [45] (fun i wr => ∃ (k : Nat) (vs : Nat → Sl), i = .int .i64 k ∧ k ≤ mn ∧ Hid (DS w4 wr O D n vs (hk r M k) r (lk M k))) (fun i _ => mn - (intOf i).toNat)
      case atStart => exact ⟨0, _, rfl, by omega, H0⟩
      case round =>
        obtain ⟨k, vs, rfl, hkm, H⟩ := hrel
        by_cases hlt : k < mn
        · obtain ⟨b, off, x0, y0, rfl, hp0, c0, c1⟩ := (M4.out.grown H.out.gr).at_ k hlt
          have hy := MP.out _ (Fm.getD_mem (f := M) (i := k) (by omega))
          rw [hp0] at hy
          dsimp only at hy
          have hlk := lk_next MP.out (k := k) (by omega)
          rw [hp0] at hlk
          dsimp only at hlk
          have LN := Lib.hid hlk
          have PN := Lib.hid hp0
          have tot := Lib.hid (show (lk M (k + 1) : Int) ≤ Fm.vol M by have := LK.out (k + 1); have := (VT.out (k + 1)).2; omega)
          have hsl := H.out.lt
          clear hp0 hlk
          obtain ⟨Yn, rfl⟩ : ∃ Yn : Nat, y0 = Yn := ⟨y0.toNat, by omega⟩
          rw [Int.toNat_natCast] at LN
          have Yb : Yn ≤ 64000 := by have h1 := LN.out; have h2 := tot.out; have h3 := RK.out.max; have h4 := RK.out.k1; omega
          have ga := World.grownBy_alloc wr (.cells #[.int .i64 x0, .int .i64 (Yn : Int)] 38) none
          have HA := Lib.hid (H.out.grown ga)
          have DL := Lib.hid (ddl_any w4.heap.size D r (lk M k) Yn (Fm.vol M) _ HA.out.db RK.out (by have h1 := LN.out; have h2 := tot.out; omega))
          go_wp2_with fail
          refine DL.out.mono ?_
          rintro e w5 ⟨rfl, db, ch⟩
          have H5 := Lib.hid (show DS w4 w5 O D n vs (hk r M k) r (lk M (k + 1)) by rw [LN.out]; exact HA.out.deal db ch)
          have p0 : (wr.alloc (.cells #[.int .i64 x0, .int .i64 (Yn : Int)] 38)).cell? ⟨wr.heap.size, 0, none⟩ = some (.int .i64 x0) := by simp
          have p5 := Lib.hid (ch.cell p0 (by simp; omega))
          have s5 := ch.size
          rw [World.size_alloc] at s5
          have lA : (ni (Dm.pad 64 (Dm.dif r (lk M k) Yn))).length = 64 := by rw [ni_len, Dm.pad_len (by rw [Dm.dif_len]; exact n64)]
          obtain ⟨f1, f2, f3⟩ := fresh_one w5 60 64 (C := z64) rfl lA
          obtain ⟨X2, hX2⟩ : ∃ X2, X2 = (w5.alloc (.cells z64 60)).setCells w5.heap.size 0 (ni (Dm.pad 64 (Dm.dif r (lk M k) Yn))) := ⟨_, rfl⟩
          rw [← hX2] at f1 f2
          have HX2 := Lib.hid hX2
          have G5 := Lib.hid f2
          have s6 := f1.blk w5.heap.size rfl
          have AM := Lib.hid (show ∀ j, j < n → X2.cell? ⟨w5.heap.size, j, none⟩ = some (.int .i64 ((Dm.dif r (lk M k) Yn).getD j 0)) from fun j hj => by
            have := f1.one j (by rw [Dm.pad_len (by rw [Dm.dif_len]; exact n64)]; omega)
            rw [Dm.pad_get] at this
            exact this)
          have T2 := Lib.hid (show (w5.alloc (.cells z64 60)).there w5.heap.size 0 (ni (Dm.pad 64 (Dm.dif r (lk M k) Yn))).toArray.size by
            show (w5.alloc (.cells z64 60)).there w5.heap.size 0 (ni (Dm.pad 64 (Dm.dif r (lk M k) Yn))).length
            rw [lA]; exact f3)
          have S2 := Lib.hid (show (Try.prog.info? 60).map (·.size) = some (ni (Dm.pad 64 (Dm.dif r (lk M k) Yn))).toArray.size by
            show _ = some (ni (Dm.pad 64 (Dm.dif r (lk M k) Yn))).length
            rw [lA]; exact info_am)
          have one2 := Lib.hid (ni_one (Dm.pad 64 (Dm.dif r (lk M k) Yn)))
          have T0 := Lib.hid (show DT w4 X2 O D n wr.heap.size w5.heap.size vs (mix (hk r M k) (hk r M (k + 1)) 0) r (lk M (k + 1)) (Dm.dif r (lk M k) Yn) x0 from
            ⟨by rw [mix_zero]; exact H5.out.grown G5.out, G5.out.cell p5.out (by simp), AM.out,
              fun i hi e => by have h1 := (H.out.ro.each i hi).blk _ e; omega, by have h1 := H.out.ro.lt; omega,
              fun i hi e => by have h1 := (H.out.ro.each i hi).blk _ e; omega, by have h1 := H.out.ro.lt; omega, s6.2⟩)
          obtain ⟨Z, hZ⟩ : ∃ Z, Z = ni (Dm.pad 64 (Dm.dif r (lk M k) Yn)) := ⟨_, rfl⟩
          rw [← hZ] at one2 HX2 T2 S2 ⊢
          clear hZ hX2 f1 f2 f3 lA db ch DL p0 p5 s5 s6 AM H5 G5 HA ga c0 c1 H
          obtain ⟨B, hB⟩ : ∃ B, B = wr.heap.size := ⟨_, rfl⟩
          rw [← hB] at T0
          simp only [← hB]
          clear hB
          go_wp2_with (first
            | (refine wpList_store_mid rfl 60 _ _ rfl w5.heap.size 0 Z.toArray rfl rfl T2.out S2.out (all_oneCell_toArray one2.out) ?_
               change wpList _ _ _ _ _ ((w5.alloc (.cells z64 60)).setCells w5.heap.size 0 Z)
               rw [← HX2.out])
            | fail)
          obtain ⟨G, hG⟩ : ∃ G, G = w5.heap.size := ⟨_, rfl⟩
          rw [← hG] at T0
          simp only [← hG]
          clear hG T2 S2 one2 HX2
          go_loopw [54] (fun i wj => ∃ (j : Nat) (us : Nat → Sl), i = .int .i64 j ∧ j ≤ n ∧ Hid (DT w4 wj O D n B G us (mix (hk r M k) (hk r M (k + 1)) j) r (lk M (k + 1)) (Dm.dif r (lk M k) Yn) x0)) (fun i _ => n - (intOf i).toNat)
          case atStart => exact ⟨0, vs, rfl, by omega, T0⟩
          case round =>
            obtain ⟨j, us, rfl, hj, T⟩ := hrel
            by_cases hlt3 : j < n
            · have hji : (j : Int) < (n : Int) := by omega
              obtain ⟨V, hV⟩ : ∃ V, V = us j := ⟨_, rfl⟩
              have co := T.out.hs.ro.cell hlt3
              have fo := T.out.hs.ro.frozen j
              have own := T.out.hs.ro.each j hlt3
              rw [mix_here] at own
              have nO := T.out.hs.ro.off j hlt3
              have nB := T.out.offB j hlt3
              have nG := T.out.offG j hlt3
              rw [← hV] at co own nO nB nG
              have HV := Lib.hid hV
              clear hV
              obtain ⟨ua, un, uc⟩ := V
              dsimp only [Sl.v] at co
              have cg := T.out.am j hlt3
              have HN := Lib.hid (hk_next (r := r) MP.out (k := k) (by omega) j)
              rw [PN.out, LN.out, ← Dm.dif_get r (lk M k) Yn j (by omega)] at HN
              obtain ⟨g1, hg1⟩ : ∃ g, g = (Dm.dif r (lk M k) Yn).getD j 0 := ⟨_, rfl⟩
              rw [← hg1] at HN cg
              dsimp only at HN
              clear hg1
              have hun : un ≤ 400 := by have h1 := own.fr.len; rw [hk_len] at h1; dsimp only at h1; omega
              have OWN := Lib.hid own
              have szw := T.out.hs.gr.size
              have j64 : (j : Int) < 64 := by omega
              have O5 := Lib.hid (show ∀ (W w5 : World), W.grownBy w5 (⟨ua, un, uc⟩ : Sl).blk → wr.grownBy W none → w5.cell? ⟨O, j, none⟩ = some (.slice ua un uc) ∧ w5.frozen? ⟨O, j, none⟩ = false from fun W w5 h5 hW => by
                have cW := hW.cell co (by simp)
                have fW : W.frozen? ⟨O, j, none⟩ = false := by rw [World.frozen?_of_block (a := ⟨O, j, none⟩) (hW.block O (World.block_lt_of_cell? _ _ co) (by simp))]; exact fo
                exact ⟨h5.cell cW (fun e => nO e.symm), by rw [World.frozen?_of_block (a := ⟨O, j, none⟩) (h5.block O (World.block_lt_of_cell? _ _ cW) (fun e => nO e.symm))]; exact fW⟩)
              have lB := World.block_lt_of_cell? _ _ T.out.p0
              have lO := World.block_lt_of_cell? _ _ co
              have lG := World.block_lt_of_cell? _ _ cg
              have cp := T.out.p0
              dsimp only at lB lO lG
              clear own nO nB nG
              go_wp2
              go_region_law
                (first
                  | (refine step_appV rfl (.tmp 62) (.tmp 69) 23 rfl (S := ⟨ua, un, uc⟩) (V := ⟨some ⟨_, 0, none⟩, 1, 1⟩) (vs := pcs (x0, g1)) Try.underlying23 hip hzp0 hzp1 hzp2 (by rfl) (by omega) (by rfl) (by rfl) (OWN.out.grown (grown_trans (grown_drewN wr 1 none) (World.grownBy_alloc _ _ _))) ?a1 (by rfl) (cr_new _ _ _ rfl) (pcs_one _) ?a2 ?a3 ?_
                     case a1 => simp; omega
                     case a2 => dsimp only; omega
                     case a3 => dsimp only; omega
                     intro rr w5 hrn hr hg5 hbl
                     obtain ⟨ra, rn, rc⟩ := rr
                     dsimp only [Sl.v] at hrn ⊢
                     obtain ⟨k5a, k5b⟩ := O5.out _ _ hg5 (grown_trans (grown_drewN wr 1 none) (World.grownBy_alloc _ _ _)))
                  | fail)
              all_goals
                rw [f2_snoc2, ← HN.out] at hr
                have T2 := T.out.put hlt3 hr (by rw [← HV.out]; exact grown_trans (grown_weak _ (grown_trans (grown_drewN wr 1 none) (World.grownBy_alloc _ _ _))) hg5) (fun b hb => by
                  rw [← HV.out]
                  rcases hbl b hb with e | e
                  · exact .inl e
                  · right; rw [e]; simp)
                rw [mix_next] at T2
                subst hrn
                dsimp only [Sl.v] at T2
                have TN := Lib.hid T2
                clear T2 hr hg5 hbl k5a k5b
                go_wp2
                go_roundw
                case rel => exact ⟨j + 1, _, by go_num, by omega, TN⟩
                case measure => simp [intOf]; omega
            · obtain rfl : j = n := by omega
              have HN := Lib.hid (show DS w4 wr O D j us (hk r M (k + 1)) r (lk M (k + 1)) from T.out.hs.congr (fun i hi => by unfold mix; rw [if_pos hi]))
              go_wp2
              go_roundw
              case rel => exact ⟨k + 1, us, by go_num, by omega, HN⟩
              case measure => simp [intOf]; omega
        · obtain rfl : k = mn := by omega
          have FK := Lib.hid (show M.take k = M by rw [List.take_of_length_le (by omega)])
          have HK := Lib.hid (show ∀ i, Fm.Pos (hk r M k i) ∧ (hk r M k i).length ≤ 400 ∧ Fm.vol (hk r M k i) ≤ 64000 ∧ Fm.mer (Fm.lit (hk r M k i)) = Fm.mer (Dm.hand r i (Dm.zeros r.length) (Fm.lit M)) from fun i => by
            have hz : (Dm.zeros r.length).length = r.length := by simp [Dm.zeros]
            have hpos := Dm.handP_pos (r := r) i (M.take k) (Dm.zeros r.length) hz
            have hlit := Dm.handP_lit (r := r) i (M.take k) (Dm.zeros r.length) hz
            have hl := hk_len r M k i
            have hv := Fm.lit_len hpos
            rw [FK.out] at hlit hpos hv
            have hs := (Dm.hand_sub r i (Fm.lit M) (Dm.zeros r.length)).length_le
            have hlf := Fm.lit_len MP.out
            have hm := RK.out.max
            have hk1 := RK.out.k1
            unfold hk at hl ⊢
            rw [FK.out] at hl ⊢
            rw [hlit] at hv
            exact ⟨hpos, by omega, by omega, by rw [hlit]⟩)
          have MK := Lib.hid (show ∀ i, merged (hk r M k i) = Fm.mer (Fm.lit (hk r M k i)) from fun i => by
            have h1 := HK.out i
            rw [HM.out] at h1
            have := merged_yes (hk_mok FM.out h1.2.1 h1.1 (by omega))
            rw [← HM.out] at this
            exact this)
          have H0 := Lib.hid (show DS w4 wr O D n vs (mix (hk r M k) (fun i => Fm.mer (Fm.lit (hk r M k i))) 0) r (lk M k) by rw [mix_zero]; exact H.out)
          clear H
          obtain ⟨wd, hwd⟩ : ∃ wd, wd = wr := ⟨_, rfl⟩
          rw [← hwd] at H0 ⊢
          clear hwd
          go_wp2
          go_loopw [76] (fun i wj => ∃ (j : Nat) (us : Nat → Sl), i = .int .i64 j ∧ j ≤ n ∧ Hid (DS w4 wj O D n us (mix (hk r M k) (fun i => Fm.mer (Fm.lit (hk r M k i))) j) r (lk M k))) (fun i _ => n - (intOf i).toNat)
          case atStart => exact ⟨0, vs, rfl, by omega, H0⟩
          case round =>
            obtain ⟨j, us, rfl, hj, T⟩ := hrel
            by_cases hlt3 : j < n
            · have hji : (j : Int) < (n : Int) := by omega
              obtain ⟨V, hV⟩ : ∃ V, V = us j := ⟨_, rfl⟩
              have co := T.out.ro.cell hlt3
              have fo := T.out.ro.frozen j
              have own := T.out.ro.each j hlt3
              rw [mix_here] at own
              rw [← hV] at co own
              have HV := Lib.hid hV
              clear hV
              have JN := Lib.hid (pmerged_any V (hk r M k j) wr own.fr)
              rw [MK.out] at JN
              obtain ⟨ua, un, uc⟩ := V
              dsimp only [Sl.v] at co JN
              have lO := World.block_lt_of_cell? _ _ co
              clear own
              go_wp2_with fail
              refine JN.out.mono ?_
              rintro e w6 ⟨rr, rfl, hrr, hg6⟩
              have c6 := hg6.cell co (by simp)
              have f6 : w6.frozen? ⟨O, j, none⟩ = false := by rw [World.frozen?_of_block (a := ⟨O, j, none⟩) (hg6.block O lO (by simp))]; exact fo
              have hro := (T.out.ro.put hlt3 (hrr.base_ T.out.gr.size) hg6 (.inl rfl) (fun b hb => .inr (hrr.blk b hb).1)).1
              rw [mix_next (hk r M k) (fun i => Fm.mer (Fm.lit (hk r M k i))) j] at hro
              have cs : Chg [O] w6 (w6.setCell ⟨O, j, none⟩ rr.v) := (Chg.refl [O] w6).set ⟨O, j, none⟩ rr.v (by simp)
              have TN := Lib.hid (show DS w4 (w6.setCell ⟨O, j, none⟩ rr.v) O D n (upd us j rr) (mix (hk r M k) (fun i => Fm.mer (Fm.lit (hk r M k i))) (j + 1)) r (lk M k) from
                ⟨hro, (T.out.db.grown hg6).chg cs (fun b hb hm => by injection hb with hb; subst hb; rw [List.mem_singleton] at hm; exact T.out.od hm.symm), fun i hi e => by
                  by_cases e2 : i = j
                  · subst e2; rw [upd_same] at e; have h1 := (hrr.blk D e).1; have h2 := T.out.lt.2; omega
                  · rw [upd_other _ _ e2] at e; exact T.out.off i hi e, T.out.od, cs.grown (grown_trans T.out.gr hg6) (fun b hb => by rw [List.mem_singleton] at hb; subst hb; exact T.out.ro.lt.1)⟩)
              clear hro cs hrr hg6 JN
              obtain ⟨ra, rn, rc⟩ := rr
              dsimp only [Sl.v] at TN ⊢
              go_wp2
              go_roundw
              case rel => exact ⟨j + 1, _, by go_num, by omega, TN⟩
              case measure => simp [intOf]; omega
            · obtain rfl : j = n := by omega
              go_wp2
              go_ret2
              refine ⟨⟨some ⟨O, 0, none⟩, j, j⟩, rfl, ?_, grown_trans W4.out T.out.gr⟩
              have hR := T.out.ro.rr
              have e : (List.range j).map (mix (hk r M k) (fun i => Fm.mer (Fm.lit (hk r M k i))) j) = Dm.dealt r (Fm.lit M) := by
                unfold Dm.dealt
                rw [klen]
                apply List.map_congr_left
                intro i hi
                have hi := List.mem_range.1 hi
                unfold mix
                rw [if_pos hi]
                dsimp only
                rw [(HK.out i).2.2.2, klen]
              rw [e] at hR
              rw [F.out]
              exact hR
    · have hEb : (E != 0) = true := by simp [hE0]
      have F := Lib.hid (show dealF f r = [] from if_neg (by rw [← HE.out]; exact hE0))
      go_wp2
      go_ret2
      exact ⟨⟨none, 0, 0⟩, rfl, by rw [F.out]; exact RR.nil, grown_trans G1.out G2.out⟩
end Go.Proofs.Ytafkagaakjfkoaa
