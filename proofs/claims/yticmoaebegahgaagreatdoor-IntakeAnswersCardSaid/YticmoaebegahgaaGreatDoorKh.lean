import Derived.Test.YticmoaebegahgaaGreatDoorKg
set_option linter.all false
namespace Go.Proofs.YticmoaebegahgaaGreatDoor.Iw
open Go.ChangeShapes Go.WideShapes Go.ChangeAt Go.RowKit
open Wr (IR RB iv ivs bv bvs grown_trans grown_refl grown_alloc ret_int ret_bool tv Ret ret_mk)
set_option maxHeartbeats 1000000 in
theorem rnew_ok (n : Int) (w : World) (h : 0 ≤ n ∧ n ≤ 16) : Calls Tryz.prog 11 #[.int .i64 n] w (Ret (.tuple #[iv3 n nilS nilS, .int .i64 0]) w) := by
  obtain ⟨w1, hw1⟩ : ∃ w1, w1 = w.alloc (Obj.cells #[.int .i64 0, .slice none 0 0, .slice none 0 0] 25) := ⟨_, rfl⟩
  have G1 := Hi (show w.grownBy w1 none by subst hw1; exact grown_alloc _ _ _)
  have B1 := Hi (show Tri w1 w.heap.size (.int .i64 0) (.slice none 0 0) (.slice none 0 0) by subst hw1; exact tri_made _ _ _ _ _)
  obtain ⟨⟨k0, k1, k2⟩, F⟩ := B1.out
  have f0 := F 0
  have f1 := F 1
  have f2 := F 2
  clear F
  have h1 : ¬ n < 0 := by omega
  have h2 : ¬ 16 < n := by omega
  go_enter Tryz.func11, Tryz.ntmps11
  go_upto_region 1 with fail
  rw [← hw1]
  clear hw1
  go_wp2
  try simp only [Exit.inBlock, Exit.then]
  refine bodyPost_ret (v := .tuple #[iv3 n nilS nilS, .int .i64 0]) ?hr rfl ?hE
  case hr =>
    rw [results_cell1 rfl]
    go_simp
    first | rfl | exact ⟨rfl, rfl⟩
  case hE =>
    have g := (((Chg.refl [w.heap.size] w1).set ⟨w.heap.size, 0, none⟩ (.int .i64 n) (by simp)).set ⟨w.heap.size, 1, none⟩ (.slice none 0 0) (by simp)).set ⟨w.heap.size, 2, none⟩ (.slice none 0 0) (by simp)
    exact ⟨rfl, g.grown G1.out (fun b hb => by rw [List.mem_singleton] at hb; omega)⟩
theorem rvalid_at {t : Tm.Tg} {V : Sl} {W : World} (h : VI W [] V t.vs) (ho : t.ok = true) : Calls Tryz.prog 37 #[tv t V.v] W (Ret (.bool true) W) := by
  have := Wr.rvalid_any t V.a V.n V.c W h.ir (by have := h.big; omega)
  rwa [ho] at this
theorem tail_byte {tl : List UInt8} (h : tl = [] ∨ Im.IsTail tl) {i : Nat} (hi : i < tl.length) : ((tl.getD i 0).toNat : Int) ≠ 124 ∧ (((tl.getD i 0).toNat : Int) = 126 ↔ i = 0) := by
  rcases h with rfl | ⟨r, rfl, h⟩
  · simp at hi
  · cases i with
    | zero => simp
    | succ i =>
      have hm : (r.getD i 0) ∈ r := by
        have : i < r.length := by simpa using hi
        rw [List.getD_eq_getElem?_getD, List.getElem?_eq_getElem this]; exact List.getElem_mem _
      obtain ⟨h1, h2⟩ := h _ hm
      rw [List.getD_cons_succ]
      generalize r.getD i 0 = v at *
      refine ⟨fun e => h2 (by apply UInt8.toNat_inj.1; simp; omega), ?_⟩
      constructor
      · intro e; exact absurd (UInt8.toNat_inj.1 (by simp; omega)) h1
      · intro e; omega
theorem drop_cons {α : Type} {l : List α} {k : Nat} (h : k < l.length) (d : α) : l.drop k = l.getD k d :: l.drop (k + 1) := by
  rw [List.drop_eq_getElem_cons h, List.getD_eq_getElem?_getD, List.getElem?_eq_getElem h]; rfl
set_option maxRecDepth 100000 in
set_option maxHeartbeats 4000000 in
theorem rvalid_ok (T E : Sl) (k : Ik) (w : World) (h : KR w T E k) (hk : k.ok = true) :
    Calls Tryz.prog 36 #[iv3 k.win T E] w (Ret (.bool true) w) := by
  have HA := Hi h
  have hok := Ik.ok_iff.1 hk
  clear h hk
  obtain ⟨win, tl, es⟩ := k
  obtain ⟨Ta, Tn, Tc⟩ := T
  obtain ⟨Ea, En, Ec⟩ := E
  dsimp only at hok
  obtain ⟨hw, ht1, ht2, hso⟩ := hok
  have HT2 := Hi ht2
  have HSO := Hi hso
  have hTn : Tn ≤ 400 := by have := HA.out.tl.1; dsimp only at this; omega
  have hEn : En ≤ 64 := by have h1 := HA.out.es.len; have h2 := hso.len; dsimp only at h1; omega
  have hEl : es.length = En := by have h1 := HA.out.es.len; dsimp only at h1; omega
  have HEL := Hi hEl
  have HTL := Hi (show tl.length = Tn from HA.out.tl.1)
  clear hso ht2 ht1 hEl
  dsimp only [iv3, Sl.v]
  obtain ⟨X, hX⟩ : ∃ X, X = w.heap.size := ⟨_, rfl⟩
  obtain ⟨w1, hw1⟩ : ∃ w1, w1 = w.alloc (Obj.cells #[.int .i64 win, .slice Ta Tn Tc, .slice Ea En Ec] 25) := ⟨_, rfl⟩
  have g1 : w.grownBy w1 none := by subst hw1; exact grown_alloc _ _ _
  have BA := Hi (show Tri w1 X (.int .i64 win) (.slice Ta Tn Tc) (.slice Ea En Ec) by subst hw1; subst hX; exact tri_made _ _ _ _ _)
  have KA := Hi (HA.out.grown g1)
  have G0 := Hi g1
  have c1 : ¬ win < 0 := by omega
  have c2 : ¬ 16 < win := by omega
  have c3 : ¬ (400 : Int) < (Tn : Int) := by omega
  have c4 : ¬ (64 : Int) < (En : Int) := by omega
  go_enter Tryz.func36, Tryz.ntmps36
  go_upto_region 1 with fail
  rw [← hw1]
  simp only [← hX]
  clear hX hw1 g1 HA
  obtain ⟨⟨a0, a1, a2⟩, -⟩ := BA.out
  go_wp2
  go_loopw [32] (fun i wr => ∃ p : Nat, i = .int .i64 p ∧ p ≤ Tn ∧ Hid (w1 = wr)) (fun i _ => Tn - (intOf i).toNat)
  case atStart => exact ⟨0, rfl, by omega, rfl⟩
  case round =>
    obtain ⟨p, rfl, hp, hww⟩ := hrel
    obtain rfl := hww.out
    clear hww
    by_cases hlt : p < Tn
    · obtain ⟨b, off, e, hc⟩ := KA.out.tl.2 p hlt
      dsimp only at e
      subst e
      obtain ⟨q1, q2⟩ := tail_byte HT2.out (i := p) (by rw [HTL.out]; exact hlt)
      have hv : 0 ≤ ((tl.getD p 0).toNat : Int) ∧ ((tl.getD p 0).toNat : Int) ≤ 255 := by have := (tl.getD p 0).toNat_lt; omega
      generalize ((tl.getD p 0).toNat : Int) = v at *
      have hd1 : (v == 124) = false := by simpa using q1
      by_cases e : p = 0
      · obtain rfl := q2.2 e
        subst e
        simp only [Nat.add_zero] at hc
        clear hd1 q1 q2
        go_wp2
        go_roundw
        case rel => exact ⟨1, rfl, by omega, trivial⟩
        case measure => simp [intOf]; omega
      · have hd2 : (v == 126) = false := by simp; exact fun x => e (q2.1 x)
        have hd3 : ((p : Int) == 0) = false := by simp; omega
        have hd4 : ¬ v = 126 := fun x => e (q2.1 x)
        clear q2
        go_wp2
        go_roundw
        case rel => exact ⟨p + 1, by go_num, by omega, trivial⟩
        case measure => simp [intOf]; omega
    · clear HTL HT2
      go_wp2_with fail
      clear hp hlt
      go_loopw [58] (fun i wr => ∃ (p : Nat) (m : Int), i = .int .i64 p ∧ p ≤ En ∧ Hid (w1.grownBy wr none) ∧ Hid (Im.SAsc m (es.drop p)) ∧ Hid (p = 0 ∨ (es.getD (p - 1) ⟨0, 0, 0, []⟩).st = m)) (fun i _ => En - (intOf i).toNat)
      case atStart => exact ⟨0, -1, rfl, by omega, grown_refl _ _, HSO.out.asc, .inl rfl⟩
      case round =>
        obtain ⟨p, m, rfl, hp, GR, SA, PM⟩ := hrel
        have a0 := GR.out.cell a0 (by simp)
        have a1 := GR.out.cell a1 (by simp)
        have a2 := GR.out.cell a2 (by simp)
        have KR1 := Hi (KA.out.grown GR.out)
        by_cases hlt : p < En
        · obtain ⟨b, off, ⟨Va, Vn, Vc⟩, hE, tV, hc⟩ := KR1.out.es.at_ p hlt
          dsimp only at hE tV hc
          subst hE
          obtain ⟨d0, d1, d2, d3⟩ := four_of (o := off + p * 4) (fun j u hu => by rw [Nat.add_assoc]; exact hc j u hu)
          have SA1 := SA.out
          rw [drop_cons (by rw [HEL.out]; exact hlt) ⟨0, 0, 0, []⟩] at SA1
          obtain ⟨s1, s2⟩ := SA1
          have SA2 := Hi s2
          have hmem : es.getD p ⟨0, 0, 0, []⟩ ∈ es := by rw [List.getD_eq_getElem?_getD, List.getElem?_eq_getElem (by rw [HEL.out]; exact hlt)]; exact List.getElem_mem _
          have WO := Hi (HSO.out.all _ hmem)
          have PM2 := Hi (show p + 1 = 0 ∨ (es.getD (p + 1 - 1) ⟨0, 0, 0, []⟩).st = (es.getD p ⟨0, 0, 0, []⟩).st from .inr rfl)
          clear hc hmem s2 SA
          generalize es.getD p ⟨0, 0, 0, []⟩ = x at *
          obtain ⟨xst, xep, xnx, xh⟩ := x
          dsimp only [Sl.v] at d0 d1 d2 d3 tV s1
          have TV := Hi tV
          have hvn : xh.length = Vn := tV.len
          have w1' := WO.out.s0
          have w2' := WO.out.e0
          have w3' := WO.out.n0
          have w4' := WO.out.len
          dsimp only at w1' w2' w3' w4'
          clear tV
          obtain ⟨wy, hwy⟩ : ∃ wy, wy = wr.alloc (Obj.cells #[.int .i64 xst, .int .i64 xep, .int .i64 xnx, .slice Va Vn Vc] 32) := ⟨_, rfl⟩
          obtain ⟨Y, hY⟩ : ∃ Y, Y = wr.heap.size := ⟨_, rfl⟩
          have gy : wr.grownBy wy none := by subst hwy; exact grown_alloc _ _ _
          have GY := Hi gy
          have SY := Hi (show Four wy Y xst xep xnx (.slice Va Vn Vc) by subst hwy; subst hY; exact four_made _ _ _ _ _ _)
          have hpe := KR1.out.es.at_ (p - 1) (by dsimp only; omega)
          have b1 : decide (xst < 0) = false := by simp; omega
          have b2 : decide (255 < xst) = false := by simp; omega
          have b3 : decide (xep < 0) = false := by simp; omega
          have b4 : decide (255 < xep) = false := by simp; omega
          have b5 : decide (xnx < 0) = false := by simp; omega
          have b6 : decide (2147483649 < xnx) = false := by simp; omega
          have b7 : decide (win < (Vn : Int)) = false := by simp; omega
          go_upto_region 12 with fail
          rw [← hwy]
          simp only [← hY]
          clear hwy hY
          have a0 := gy.cell a0 (by simp)
          have a1 := gy.cell a1 (by simp)
          have a2 := gy.cell a2 (by simp)
          clear gy
          obtain ⟨⟨d0, d1, d2, d3⟩, -⟩ := SY.out
          rcases Nat.eq_zero_or_pos p with h0 | h0
          · subst h0
            clear hpe
            go_quiet (fail)
            go_wp2_with fail
            have GQ := Hi (grown_trans GY.out (Wr.grown_drewN wy nq none))
            have SQ := Hi (SY.out.grown (Wr.grown_drewN wy nq none))
            generalize wy.drewN nq = wz at *
            clear a0 a1 a2 d0 d1 d2 d3
            go_loopw [6, 120] (fun l j wr => ∃ (q : Nat) (last : Int), l = .int .i64 last ∧ j = .int .i64 q ∧ q ≤ Vn ∧ Hid (wz.grownBy wr none) ∧ Hid (Im.Asc last (xh.drop q))) (fun _ j _ => Vn - (intOf j).toNat)
            case atStart => exact ⟨0, xnx, rfl, rfl, by omega, grown_refl _ _, WO.out.asc⟩
            case round =>
              obtain ⟨q, last, rfl, rfl, hq, GL, AL⟩ := hrel
              obtain ⟨⟨s0, s1', s2', s3⟩, -⟩ := (SQ.out.grown GL.out)
              have GA := Hi (grown_trans GQ.out GL.out)
              by_cases hlq : q < Vn
              · obtain ⟨bh, oh, ⟨Wa, Wn, Wc⟩, hV, hv, hc⟩ := (TV.out.grown GA.out).at_ q hlq
                dsimp only at hV
                subst hV
                obtain ⟨e0, e1, e2, e3, e4, e5⟩ := six_of (o := oh + q * 6) (fun j u hu => by rw [Nat.add_assoc]; exact hc j u hu)
                have AL1 := AL.out
                rw [drop_cons (by omega) Tm.zero] at AL1
                obtain ⟨l1, l2⟩ := AL1
                have AL2 := Hi l2
                have hm2 : xh.getD q Tm.zero ∈ xh := by rw [List.getD_eq_getElem?_getD, List.getElem?_eq_getElem (by omega)]; exact List.getElem_mem _
                obtain ⟨o1, o2, o3⟩ := WO.out.all _ hm2
                have HV := Hi hv
                clear hc hm2 l2 AL hv
                generalize xh.getD q Tm.zero = y at *
                obtain ⟨yst, yep, ysq, ytm, ykd, yvs⟩ := y
                dsimp only [Sl.v] at e0 e1 e2 e3 e4 e5 o2 o3 l1
                subst o2
                subst o3
                have OK := Hi o1
                obtain ⟨wt, hwt⟩ : ∃ wt, wt = wr.alloc (Obj.cells #[.int .i64 yst, .int .i64 yep, .int .i64 ysq, .int .i64 ytm, .int .i64 ykd, .slice Wa Wn Wc] 28) := ⟨_, rfl⟩
                obtain ⟨Z, hZ⟩ : ∃ Z, Z = wr.heap.size := ⟨_, rfl⟩
                have gt : wr.grownBy wt none := by subst hwt; exact grown_alloc _ _ _
                have ST := Hi (show Wr.Six wt Z ⟨yst, yep, ysq, ytm, ykd, yvs⟩ (.slice Wa Wn Wc) by subst hwt; subst hZ; exact Wr.Six.made wr ⟨yst, yep, ysq, ytm, ykd, yvs⟩ (.slice Wa Wn Wc))
                have RV := Hi (rvalid_at (W := wt) (HV.out.grown gt) o1)
                have s0 := gt.cell s0 (by simp)
                have s1' := gt.cell s1' (by simp)
                have GT := Hi (grown_trans GL.out gt)
                have h2 : ¬ ysq ≤ last := by omega
                go_upto_region 18 with fail
                rw [← hwt]
                simp only [← hZ]
                clear hwt hZ gt e0 e1 e2 e3 e4 e5 o1
                obtain ⟨⟨t0, t1, t2, t3, t4, t5⟩, -⟩ := ST.out
                dsimp only at t0 t1 t2 t3 t4 t5
                dsimp only [tv, Sl.v] at RV
                go_wp2_with fail
                refine RV.out.mono ?_
                rintro e w9 ⟨rfl, g9⟩
                have s0 := g9.cell s0 (by simp)
                have s1' := g9.cell s1' (by simp)
                have t0 := g9.cell t0 (by simp)
                have t1 := g9.cell t1 (by simp)
                have t2 := g9.cell t2 (by simp)
                have G9 := Hi (grown_trans GT.out g9)
                clear g9
                go_wp2
                go_roundw
                case rel => exact ⟨q + 1, ysq, rfl, by go_num, by omega, G9, AL2⟩
                case measure => simp [intOf]; omega
              · go_wp2
                go_roundw
                case rel => exact ⟨0 + 1, xst, by go_num, by omega, grown_trans GR.out GA.out, SA2, PM2⟩
                case measure => simp [intOf]; omega
          · obtain ⟨b', off', Hx, e, -, hc⟩ := hpe
            injection e with e
            injection e with e1 e2
            subst e1; subst e2
            have hc := GY.out.cell (hc 0 _ rfl) (by simp)
            obtain ⟨p, rfl⟩ : ∃ k, p = k + 1 := ⟨p - 1, by omega⟩
            rw [Nat.add_sub_cancel] at hc
            rcases PM.out with h | h
            · omega
            rw [Nat.add_sub_cancel] at h
            rw [h] at hc
            simp only [← Nat.add_assoc, Nat.add_zero] at hc
            have b8 : decide (xst ≤ m) = false := by simp; omega
            have b9 : ((p + 1 : Nat) : Int) - 1 = (p : Int) := by push_cast; omega
            have HH := Hi h
            clear h b9
            go_quiet (fail)
            go_wp2_with fail
            have GQ := Hi (grown_trans GY.out (Wr.grown_drewN wy nq none))
            have SQ := Hi (SY.out.grown (Wr.grown_drewN wy nq none))
            generalize wy.drewN nq = wz at *
            clear a0 a1 a2 d0 d1 d2 d3
            go_loopw [6, 120] (fun l j wr => ∃ (q : Nat) (last : Int), l = .int .i64 last ∧ j = .int .i64 q ∧ q ≤ Vn ∧ Hid (wz.grownBy wr none) ∧ Hid (Im.Asc last (xh.drop q))) (fun _ j _ => Vn - (intOf j).toNat)
            case atStart => exact ⟨0, xnx, rfl, rfl, by omega, grown_refl _ _, WO.out.asc⟩
            case round =>
              obtain ⟨q, last, rfl, rfl, hq, GL, AL⟩ := hrel
              obtain ⟨⟨s0, s1', s2', s3⟩, -⟩ := (SQ.out.grown GL.out)
              have GA := Hi (grown_trans GQ.out GL.out)
              by_cases hlq : q < Vn
              · obtain ⟨bh, oh, ⟨Wa, Wn, Wc⟩, hV, hv, hc⟩ := (TV.out.grown GA.out).at_ q hlq
                dsimp only at hV
                subst hV
                obtain ⟨e0, e1, e2, e3, e4, e5⟩ := six_of (o := oh + q * 6) (fun j u hu => by rw [Nat.add_assoc]; exact hc j u hu)
                have AL1 := AL.out
                rw [drop_cons (by omega) Tm.zero] at AL1
                obtain ⟨l1, l2⟩ := AL1
                have AL2 := Hi l2
                have hm2 : xh.getD q Tm.zero ∈ xh := by rw [List.getD_eq_getElem?_getD, List.getElem?_eq_getElem (by omega)]; exact List.getElem_mem _
                obtain ⟨o1, o2, o3⟩ := WO.out.all _ hm2
                have HV := Hi hv
                clear hc hm2 l2 AL hv
                generalize xh.getD q Tm.zero = y at *
                obtain ⟨yst, yep, ysq, ytm, ykd, yvs⟩ := y
                dsimp only [Sl.v] at e0 e1 e2 e3 e4 e5 o2 o3 l1
                subst o2
                subst o3
                have OK := Hi o1
                obtain ⟨wt, hwt⟩ : ∃ wt, wt = wr.alloc (Obj.cells #[.int .i64 yst, .int .i64 yep, .int .i64 ysq, .int .i64 ytm, .int .i64 ykd, .slice Wa Wn Wc] 28) := ⟨_, rfl⟩
                obtain ⟨Z, hZ⟩ : ∃ Z, Z = wr.heap.size := ⟨_, rfl⟩
                have gt : wr.grownBy wt none := by subst hwt; exact grown_alloc _ _ _
                have ST := Hi (show Wr.Six wt Z ⟨yst, yep, ysq, ytm, ykd, yvs⟩ (.slice Wa Wn Wc) by subst hwt; subst hZ; exact Wr.Six.made wr ⟨yst, yep, ysq, ytm, ykd, yvs⟩ (.slice Wa Wn Wc))
                have RV := Hi (rvalid_at (W := wt) (HV.out.grown gt) o1)
                have s0 := gt.cell s0 (by simp)
                have s1' := gt.cell s1' (by simp)
                have GT := Hi (grown_trans GL.out gt)
                have h2 : ¬ ysq ≤ last := by omega
                go_upto_region 18 with fail
                rw [← hwt]
                simp only [← hZ]
                clear hwt hZ gt e0 e1 e2 e3 e4 e5 o1
                obtain ⟨⟨t0, t1, t2, t3, t4, t5⟩, -⟩ := ST.out
                dsimp only at t0 t1 t2 t3 t4 t5
                dsimp only [tv, Sl.v] at RV
                go_wp2_with fail
                refine RV.out.mono ?_
                rintro e w9 ⟨rfl, g9⟩
                have s0 := g9.cell s0 (by simp)
                have s1' := g9.cell s1' (by simp)
                have t0 := g9.cell t0 (by simp)
                have t1 := g9.cell t1 (by simp)
                have t2 := g9.cell t2 (by simp)
                have G9 := Hi (grown_trans GT.out g9)
                clear g9
                go_wp2
                go_roundw
                case rel => exact ⟨q + 1, ysq, rfl, by go_num, by omega, G9, AL2⟩
                case measure => simp [intOf]; omega
              · go_wp2
                go_roundw
                case rel => exact ⟨(p + 1) + 1, xst, by go_num, by omega, grown_trans GR.out GA.out, SA2, PM2⟩
                case measure => simp [intOf]; omega
        · obtain rfl : p = En := by omega
          go_wp2
          go_ret
          exact ret_mk rfl (grown_trans G0.out GR.out)
end Go.Proofs.YticmoaebegahgaaGreatDoor.Iw
