import Derived.Test.YticmoaebegahgaaGreatDoorKh
set_option linter.all false
namespace Go.Proofs.YticmoaebegahgaaGreatDoor.Iw
open Go.ChangeShapes Go.WideShapes Go.ChangeAt Go.RowKit
open Wr (IR RB iv ivs bv bvs grown_trans grown_refl grown_alloc ret_int ret_bool tv Ret ret_mk)
theorem rvalid_bool {t : Tm.Tg} {V : Sl} {W : World} (h : VI W [] V t.vs) : Calls Tryz.prog 37 #[tv t V.v] W (Ret (.bool t.ok) W) := Wr.rvalid_any t V.a V.n V.c W h.ir (by have := h.big; omega)
def tailAt (p : Nat) (l : List UInt8) : Bool := if p = 0 then tailOk l else plain l
theorem tailAt_nil (p : Nat) : tailAt p [] = true := by unfold tailAt; split <;> rfl
theorem tailAt_cons (p : Nat) (x : UInt8) (r : List UInt8) : tailAt p (x :: r) = ((if p = 0 then decide (x = 126) else decide (x ≠ 126 ∧ x ≠ 124)) && tailAt (p + 1) r) := by
  unfold tailAt
  by_cases h : p = 0
  · simp [h, tailOk]
  · simp [h, plain]
set_option maxRecDepth 100000 in
set_option maxHeartbeats 4000000 in
theorem rvalid_any (T E : Sl) (k : Ik) (w : World) (h : KR w T E k) :
    Calls Tryz.prog 36 #[iv3 k.win T E] w (Ret (.bool k.ok) w) := by
  have HA := Hi h
  clear h
  obtain ⟨win, tl, es⟩ := k
  obtain ⟨Ta, Tn, Tc⟩ := T
  obtain ⟨Ea, En, Ec⟩ := E
  have hTm : Tn ≤ 9223372036854775807 := by have h1 := HA.out.fit.1; have h2 := HA.out.fit.2; dsimp only at h1 h2; omega
  have hEm : En ≤ 9223372036854775807 := by have h1 := HA.out.es.fit.1; have h2 := HA.out.es.fit.2; dsimp only at h1 h2; omega
  have hEl : es.length = En := by have h1 := HA.out.es.len; dsimp only at h1; omega
  have hTl : tl.length = Tn := HA.out.tl.1
  obtain ⟨kb, hkb⟩ : ∃ kb, kb = (⟨win, tl, es⟩ : Ik).ok := ⟨_, rfl⟩
  rw [← hkb]
  unfold Ik.ok at hkb
  dsimp only at hkb
  have HEL := Hi hEl
  have HTL := Hi hTl
  dsimp only [iv3, Sl.v]
  obtain ⟨X, hX⟩ : ∃ X, X = w.heap.size := ⟨_, rfl⟩
  obtain ⟨w1, hw1⟩ : ∃ w1, w1 = w.alloc (Obj.cells #[.int .i64 win, .slice Ta Tn Tc, .slice Ea En Ec] 25) := ⟨_, rfl⟩
  have g1 : w.grownBy w1 none := by subst hw1; exact grown_alloc _ _ _
  have BA := Hi (show Tri w1 X (.int .i64 win) (.slice Ta Tn Tc) (.slice Ea En Ec) by subst hw1; subst hX; exact tri_made _ _ _ _ _)
  have KA := Hi (HA.out.grown g1)
  have G0 := Hi g1
  have HKB := Hi hkb
  clear hkb hEl hTl
  go_enter Tryz.func36, Tryz.ntmps36
  go_upto_region 1 with fail
  rw [← hw1]
  simp only [← hX]
  clear hX hw1 g1 HA
  obtain ⟨⟨a0, a1, a2⟩, -⟩ := BA.out
  by_cases c1 : win < 0
  · obtain rfl : kb = false := by rw [HKB.out, show Tm.upTo win 16 = false from eq_false_of_ne_true (fun e => by have := Tm.upTo_iff.1 e; omega)]; rfl
    go_wp2
    go_ret
    exact ret_mk rfl G0.out
  by_cases c2 : 16 < win
  · obtain rfl : kb = false := by rw [HKB.out, show Tm.upTo win 16 = false from eq_false_of_ne_true (fun e => by have := Tm.upTo_iff.1 e; omega)]; rfl
    go_wp2
    go_ret
    exact ret_mk rfl G0.out
  by_cases c3 : (400 : Int) < (Tn : Int)
  · obtain rfl : kb = false := by rw [HKB.out, decide_eq_false (show ¬ tl.length ≤ 400 by have := HTL.out; omega)]; simp
    go_wp2
    go_ret
    exact ret_mk rfl G0.out
  by_cases c4 : (64 : Int) < (En : Int)
  · obtain rfl : kb = false := by rw [HKB.out, decide_eq_false (show ¬ es.length ≤ 64 by have := HEL.out; omega)]; simp
    go_wp2
    go_ret
    exact ret_mk rfl G0.out
  have HK1 := Hi (show kb = (tailAt 0 (tl.drop 0) && rowOk win 0 es) by
    rw [HKB.out, show Tm.upTo win 16 = true from Tm.upTo_iff.2 (by omega), decide_eq_true (show tl.length ≤ 400 by have := HTL.out; omega), decide_eq_true (show es.length ≤ 64 by have := HEL.out; omega)]
    simp [tailAt])
  clear HKB
  go_upto_region 3 with fail
  go_wp2_with fail
  go_loopw [32] (fun i wr => ∃ p : Nat, i = .int .i64 p ∧ p ≤ Tn ∧ Hid (w1 = wr) ∧ Hid (kb = (tailAt p (tl.drop p) && rowOk win 0 es))) (fun i _ => Tn - (intOf i).toNat)
  case atStart => exact ⟨0, rfl, by omega, rfl, HK1⟩
  case round =>
    clear HK1
    obtain ⟨p, rfl, hp, hww, HKP⟩ := hrel
    obtain rfl := hww.out
    clear hww
    by_cases hlt : p < Tn
    · obtain ⟨b, off, e, hc⟩ := KA.out.tl.2 p hlt
      dsimp only at e
      subst e
      have hcons := drop_cons (l := tl) (k := p) (by rw [HTL.out]; exact hlt) 0
      have HKP2 := HKP.out
      rw [hcons, tailAt_cons] at HKP2
      clear hcons HKP
      obtain ⟨x, hx⟩ : ∃ x, x = tl.getD p 0 := ⟨_, rfl⟩
      rw [← hx] at HKP2 hc
      clear hx
      have hx8 := x.toNat_lt
      have u1 := ub x 124 (by omega)
      have u2 := ub x 126 (by omega)
      have HKP3 := Hi HKP2
      clear HKP2
      generalize hv : ((x.toNat : Nat) : Int) = v at *
      have hvv : 0 ≤ v ∧ v ≤ 255 := by omega
      clear hv hx8
      by_cases q1 : v = 124
      · obtain rfl : kb = false := by
          have hx : x = 124 := u1.1 q1
          rw [HKP3.out, hx]
          by_cases e : p = 0 <;> simp [e]
        subst q1
        clear u1 u2
        go_wp2
        go_ret
        exact ret_mk rfl G0.out
      · have hd1 : (v == 124) = false := by simpa using q1
        have HQ1 := Hi (fun e : x = 124 => q1 (u1.2 e))
        have HU2 := Hi u2
        clear q1 u1 u2
        by_cases q2 : v = 126
        · have HX := Hi (HU2.out.1 q2)
          subst q2
          by_cases e : p = 0
          · subst e
            have HN := Hi (show kb = (tailAt (0 + 1) (tl.drop (0 + 1)) && rowOk win 0 es) by rw [HKP3.out, HX.out]; simp)
            simp only [Nat.add_zero] at hc
            go_wp2
            go_roundw
            case rel => exact ⟨0 + 1, rfl, by omega, trivial, HN⟩
            case measure => simp [intOf]; omega
          · obtain rfl : kb = false := by rw [HKP3.out, HX.out]; simp [e]
            have hd3 : ((p : Int) == 0) = false := by simp; omega
            go_wp2
            go_ret
            exact ret_mk rfl G0.out
        · have hd2 : (v == 126) = false := by simpa using q2
          have HX := Hi (fun e : x = 126 => q2 (HU2.out.2 e))
          by_cases e : p = 0
          · subst e
            obtain rfl : kb = false := by rw [HKP3.out, if_pos rfl, decide_eq_false (show ¬ x = 126 from HX.out)]; rfl
            simp only [Nat.add_zero] at hc
            go_wp2
            go_ret
            exact ret_mk rfl G0.out
          · have HN := Hi (show kb = (tailAt (p + 1) (tl.drop (p + 1)) && rowOk win 0 es) by rw [HKP3.out, if_neg e, decide_eq_true (show x ≠ 126 ∧ x ≠ 124 from ⟨HX.out, HQ1.out⟩), Bool.true_and])
            have hd3 : ((p : Int) == 0) = false := by simp; omega
            go_wp2
            go_roundw
            case rel => exact ⟨p + 1, by go_num, by omega, trivial, HN⟩
            case measure => simp [intOf]; omega
    · obtain rfl : p = Tn := by omega
      have HKE := Hi (show kb = rowOk win 0 es by
        have h1 := HKP.out
        rw [List.drop_of_length_le (by rw [HTL.out]; exact Nat.le_refl _), tailAt_nil] at h1
        simpa using h1)
      clear HKP HTL hp hlt
      go_wp2_with fail
      skip
      skip
      go_loopw [58] (fun i wr => ∃ (q : Nat) (m : Int), i = .int .i64 q ∧ q ≤ En ∧ Hid (w1.grownBy wr none) ∧ Hid (kb = rowOk win m (es.drop q)) ∧ Hid ((q = 0 ∧ m = 0) ∨ (0 < q ∧ (es.getD (q - 1) ⟨0, 0, 0, []⟩).st + 1 = m))) (fun i _ => En - (intOf i).toNat)
      case atStart => exact ⟨0, 0, rfl, by omega, grown_refl _ _, HKE, .inl ⟨rfl, rfl⟩⟩
      case round =>
        clear HKE
        obtain ⟨q, m, rfl, hq, GR, HKQ, PM⟩ := hrel
        have a0 := GR.out.cell a0 (by simp)
        have a1 := GR.out.cell a1 (by simp)
        have a2 := GR.out.cell a2 (by simp)
        have KR1 := Hi (KA.out.grown GR.out)
        by_cases hlt : q < En
        · obtain ⟨b, off, ⟨Va, Vn, Vc⟩, hE, tV, hc⟩ := KR1.out.es.at_ q hlt
          dsimp only at hE tV hc
          subst hE
          obtain ⟨d0, d1, d2, d3⟩ := four_of (o := off + q * 4) (fun j u hu => by rw [Nat.add_assoc]; exact hc j u hu)
          have HK2 := HKQ.out
          rw [drop_cons (by rw [HEL.out]; exact hlt) ⟨0, 0, 0, []⟩] at HK2
          unfold rowOk waitOk at HK2
          have HK3 := Hi HK2
          have PM2 := Hi (show (q + 1 = 0 ∧ (es.getD q ⟨0, 0, 0, []⟩).st + 1 = 0) ∨ (0 < q + 1 ∧ (es.getD (q + 1 - 1) ⟨0, 0, 0, []⟩).st + 1 = (es.getD q ⟨0, 0, 0, []⟩).st + 1) from .inr ⟨by omega, rfl⟩)
          clear hc HK2 HKQ
          have hpe := KR1.out.es.at_ (q - 1) (by dsimp only; omega)
          have HPE := Hi hpe
          clear hpe
          generalize es.getD q ⟨0, 0, 0, []⟩ = x at *
          obtain ⟨xst, xep, xnx, xh⟩ := x
          dsimp only [Sl.v] at d0 d1 d2 d3 tV HK3
          have TV := Hi tV
          have hvn : xh.length = Vn := tV.len
          have hVm : Vn ≤ 9223372036854775807 := by have h1 := tV.fit.1; have h2 := tV.fit.2; dsimp only at h1 h2; omega
          clear tV
          obtain ⟨wy, hwy⟩ : ∃ wy, wy = wr.alloc (Obj.cells #[.int .i64 xst, .int .i64 xep, .int .i64 xnx, .slice Va Vn Vc] 32) := ⟨_, rfl⟩
          obtain ⟨Y, hY⟩ : ∃ Y, Y = wr.heap.size := ⟨_, rfl⟩
          have gy : wr.grownBy wy none := by subst hwy; exact grown_alloc _ _ _
          have GY := Hi gy
          have SY := Hi (show Four wy Y xst xep xnx (.slice Va Vn Vc) by subst hwy; subst hY; exact four_made _ _ _ _ _ _)
          have GG := Hi (grown_trans G0.out (grown_trans GR.out gy))
          go_upto_region 12 with fail
          rw [← hwy]
          simp only [← hY]
          clear hwy hY
          have a0 := gy.cell a0 (by simp)
          have a1 := gy.cell a1 (by simp)
          have a2 := gy.cell a2 (by simp)
          clear gy
          obtain ⟨⟨d0, d1, d2, d3⟩, -⟩ := SY.out
          have GZ := GY
          go_cut [114] (fun v wd => v = .bool (decide (¬ (m ≤ xst ∧ (0 ≤ xst ∧ xst ≤ 255) ∧ (0 ≤ xep ∧ xep ≤ 255) ∧ (0 ≤ xnx ∧ xnx ≤ 2147483649) ∧ (Vn : Int) ≤ win))) ∧ Hid (wy.grownBy wd none))
          case first =>
            rcases PM.out with ⟨h0, hm⟩ | ⟨h0, hm⟩
            · subst h0
              subst hm
              by_cases k0 : xst < 0
              · have b1 : decide (xst < 0) = true := decide_eq_true k0
                have HV := Hi (show decide (¬ ((0 : Int) ≤ xst ∧ (0 ≤ xst ∧ xst ≤ 255) ∧ (0 ≤ xep ∧ xep ≤ 255) ∧ (0 ≤ xnx ∧ xnx ≤ 2147483649) ∧ (Vn : Int) ≤ win)) = true from decide_eq_true (by omega))
                go_quiet (fail)
                go_wp2
                go_meet
                case rel => exact ⟨by rw [HV.out], Wr.grown_drewN wy nq none⟩
              · have b1 : decide (xst < 0) = false := decide_eq_false k0
                by_cases k1 : 255 < xst
                · have b2 : decide (255 < xst) = true := decide_eq_true k1
                  have HV := Hi (show decide (¬ ((0 : Int) ≤ xst ∧ (0 ≤ xst ∧ xst ≤ 255) ∧ (0 ≤ xep ∧ xep ≤ 255) ∧ (0 ≤ xnx ∧ xnx ≤ 2147483649) ∧ (Vn : Int) ≤ win)) = true from decide_eq_true (by omega))
                  go_quiet (fail)
                  go_wp2
                  go_meet
                  case rel => exact ⟨by rw [HV.out], Wr.grown_drewN wy nq none⟩
                · have b2 : decide (255 < xst) = false := decide_eq_false k1
                  by_cases k2 : xep < 0
                  · have b3 : decide (xep < 0) = true := decide_eq_true k2
                    have HV := Hi (show decide (¬ ((0 : Int) ≤ xst ∧ (0 ≤ xst ∧ xst ≤ 255) ∧ (0 ≤ xep ∧ xep ≤ 255) ∧ (0 ≤ xnx ∧ xnx ≤ 2147483649) ∧ (Vn : Int) ≤ win)) = true from decide_eq_true (by omega))
                    go_quiet (fail)
                    go_wp2
                    go_meet
                    case rel => exact ⟨by rw [HV.out], Wr.grown_drewN wy nq none⟩
                  · have b3 : decide (xep < 0) = false := decide_eq_false k2
                    by_cases k3 : 255 < xep
                    · have b4 : decide (255 < xep) = true := decide_eq_true k3
                      have HV := Hi (show decide (¬ ((0 : Int) ≤ xst ∧ (0 ≤ xst ∧ xst ≤ 255) ∧ (0 ≤ xep ∧ xep ≤ 255) ∧ (0 ≤ xnx ∧ xnx ≤ 2147483649) ∧ (Vn : Int) ≤ win)) = true from decide_eq_true (by omega))
                      go_quiet (fail)
                      go_wp2
                      go_meet
                      case rel => exact ⟨by rw [HV.out], Wr.grown_drewN wy nq none⟩
                    · have b4 : decide (255 < xep) = false := decide_eq_false k3
                      by_cases k4 : xnx < 0
                      · have b5 : decide (xnx < 0) = true := decide_eq_true k4
                        have HV := Hi (show decide (¬ ((0 : Int) ≤ xst ∧ (0 ≤ xst ∧ xst ≤ 255) ∧ (0 ≤ xep ∧ xep ≤ 255) ∧ (0 ≤ xnx ∧ xnx ≤ 2147483649) ∧ (Vn : Int) ≤ win)) = true from decide_eq_true (by omega))
                        go_quiet (fail)
                        go_wp2
                        go_meet
                        case rel => exact ⟨by rw [HV.out], Wr.grown_drewN wy nq none⟩
                      · have b5 : decide (xnx < 0) = false := decide_eq_false k4
                        by_cases k5 : 2147483649 < xnx
                        · have b6 : decide (2147483649 < xnx) = true := decide_eq_true k5
                          have HV := Hi (show decide (¬ ((0 : Int) ≤ xst ∧ (0 ≤ xst ∧ xst ≤ 255) ∧ (0 ≤ xep ∧ xep ≤ 255) ∧ (0 ≤ xnx ∧ xnx ≤ 2147483649) ∧ (Vn : Int) ≤ win)) = true from decide_eq_true (by omega))
                          go_quiet (fail)
                          go_wp2
                          go_meet
                          case rel => exact ⟨by rw [HV.out], Wr.grown_drewN wy nq none⟩
                        · have b6 : decide (2147483649 < xnx) = false := decide_eq_false k5
                          by_cases k6 : win < (Vn : Int)
                          · have b7 : decide (win < (Vn : Int)) = true := decide_eq_true k6
                            have HV := Hi (show decide (¬ ((0 : Int) ≤ xst ∧ (0 ≤ xst ∧ xst ≤ 255) ∧ (0 ≤ xep ∧ xep ≤ 255) ∧ (0 ≤ xnx ∧ xnx ≤ 2147483649) ∧ (Vn : Int) ≤ win)) = true from decide_eq_true (by omega))
                            go_quiet (fail)
                            go_wp2
                            go_meet
                            case rel => exact ⟨by rw [HV.out], Wr.grown_drewN wy nq none⟩
                          · have b7 : decide (win < (Vn : Int)) = false := decide_eq_false k6
                            have HV := Hi (show decide (¬ ((0 : Int) ≤ xst ∧ (0 ≤ xst ∧ xst ≤ 255) ∧ (0 ≤ xep ∧ xep ≤ 255) ∧ (0 ≤ xnx ∧ xnx ≤ 2147483649) ∧ (Vn : Int) ≤ win)) = false from decide_eq_false (by omega))
                            go_quiet (fail)
                            go_wp2
                            go_meet
                            case rel => exact ⟨by rw [HV.out], Wr.grown_drewN wy nq none⟩
            · obtain ⟨b', off', Hx, e, -, hc⟩ := HPE.out
              injection e with e
              injection e with e1 e2
              subst e1; subst e2
              have hc := GY.out.cell (hc 0 _ rfl) (by simp)
              obtain ⟨q, rfl⟩ : ∃ k, q = k + 1 := ⟨q - 1, by omega⟩
              rw [Nat.add_sub_cancel] at hc hm
              simp only [← Nat.add_assoc, Nat.add_zero] at hc
              obtain ⟨ps, hps⟩ : ∃ z, z = (es.getD q ⟨0, 0, 0, []⟩).st := ⟨_, rfl⟩
              rw [← hps] at hm hc
              clear hps
              by_cases k9 : xst ≤ ps
              · have b8 : decide (xst ≤ ps) = true := decide_eq_true k9
                have HV := Hi (show decide (¬ (m ≤ xst ∧ (0 ≤ xst ∧ xst ≤ 255) ∧ (0 ≤ xep ∧ xep ≤ 255) ∧ (0 ≤ xnx ∧ xnx ≤ 2147483649) ∧ (Vn : Int) ≤ win)) = true from decide_eq_true (by omega))
                go_quiet (fail)
                go_wp2
                go_meet
                case rel => exact ⟨by rw [HV.out], Wr.grown_drewN wy nq none⟩
              · have b8 : decide (xst ≤ ps) = false := decide_eq_false k9
                by_cases k0 : xst < 0
                · have b1 : decide (xst < 0) = true := decide_eq_true k0
                  have HV := Hi (show decide (¬ (m ≤ xst ∧ (0 ≤ xst ∧ xst ≤ 255) ∧ (0 ≤ xep ∧ xep ≤ 255) ∧ (0 ≤ xnx ∧ xnx ≤ 2147483649) ∧ (Vn : Int) ≤ win)) = true from decide_eq_true (by omega))
                  go_quiet (fail)
                  go_wp2
                  go_meet
                  case rel => exact ⟨by rw [HV.out], Wr.grown_drewN wy nq none⟩
                · have b1 : decide (xst < 0) = false := decide_eq_false k0
                  by_cases k1 : 255 < xst
                  · have b2 : decide (255 < xst) = true := decide_eq_true k1
                    have HV := Hi (show decide (¬ (m ≤ xst ∧ (0 ≤ xst ∧ xst ≤ 255) ∧ (0 ≤ xep ∧ xep ≤ 255) ∧ (0 ≤ xnx ∧ xnx ≤ 2147483649) ∧ (Vn : Int) ≤ win)) = true from decide_eq_true (by omega))
                    go_quiet (fail)
                    go_wp2
                    go_meet
                    case rel => exact ⟨by rw [HV.out], Wr.grown_drewN wy nq none⟩
                  · have b2 : decide (255 < xst) = false := decide_eq_false k1
                    by_cases k2 : xep < 0
                    · have b3 : decide (xep < 0) = true := decide_eq_true k2
                      have HV := Hi (show decide (¬ (m ≤ xst ∧ (0 ≤ xst ∧ xst ≤ 255) ∧ (0 ≤ xep ∧ xep ≤ 255) ∧ (0 ≤ xnx ∧ xnx ≤ 2147483649) ∧ (Vn : Int) ≤ win)) = true from decide_eq_true (by omega))
                      go_quiet (fail)
                      go_wp2
                      go_meet
                      case rel => exact ⟨by rw [HV.out], Wr.grown_drewN wy nq none⟩
                    · have b3 : decide (xep < 0) = false := decide_eq_false k2
                      by_cases k3 : 255 < xep
                      · have b4 : decide (255 < xep) = true := decide_eq_true k3
                        have HV := Hi (show decide (¬ (m ≤ xst ∧ (0 ≤ xst ∧ xst ≤ 255) ∧ (0 ≤ xep ∧ xep ≤ 255) ∧ (0 ≤ xnx ∧ xnx ≤ 2147483649) ∧ (Vn : Int) ≤ win)) = true from decide_eq_true (by omega))
                        go_quiet (fail)
                        go_wp2
                        go_meet
                        case rel => exact ⟨by rw [HV.out], Wr.grown_drewN wy nq none⟩
                      · have b4 : decide (255 < xep) = false := decide_eq_false k3
                        by_cases k4 : xnx < 0
                        · have b5 : decide (xnx < 0) = true := decide_eq_true k4
                          have HV := Hi (show decide (¬ (m ≤ xst ∧ (0 ≤ xst ∧ xst ≤ 255) ∧ (0 ≤ xep ∧ xep ≤ 255) ∧ (0 ≤ xnx ∧ xnx ≤ 2147483649) ∧ (Vn : Int) ≤ win)) = true from decide_eq_true (by omega))
                          go_quiet (fail)
                          go_wp2
                          go_meet
                          case rel => exact ⟨by rw [HV.out], Wr.grown_drewN wy nq none⟩
                        · have b5 : decide (xnx < 0) = false := decide_eq_false k4
                          by_cases k5 : 2147483649 < xnx
                          · have b6 : decide (2147483649 < xnx) = true := decide_eq_true k5
                            have HV := Hi (show decide (¬ (m ≤ xst ∧ (0 ≤ xst ∧ xst ≤ 255) ∧ (0 ≤ xep ∧ xep ≤ 255) ∧ (0 ≤ xnx ∧ xnx ≤ 2147483649) ∧ (Vn : Int) ≤ win)) = true from decide_eq_true (by omega))
                            go_quiet (fail)
                            go_wp2
                            go_meet
                            case rel => exact ⟨by rw [HV.out], Wr.grown_drewN wy nq none⟩
                          · have b6 : decide (2147483649 < xnx) = false := decide_eq_false k5
                            by_cases k6 : win < (Vn : Int)
                            · have b7 : decide (win < (Vn : Int)) = true := decide_eq_true k6
                              have HV := Hi (show decide (¬ (m ≤ xst ∧ (0 ≤ xst ∧ xst ≤ 255) ∧ (0 ≤ xep ∧ xep ≤ 255) ∧ (0 ≤ xnx ∧ xnx ≤ 2147483649) ∧ (Vn : Int) ≤ win)) = true from decide_eq_true (by omega))
                              go_quiet (fail)
                              go_wp2
                              go_meet
                              case rel => exact ⟨by rw [HV.out], Wr.grown_drewN wy nq none⟩
                            · have b7 : decide (win < (Vn : Int)) = false := decide_eq_false k6
                              have HV := Hi (show decide (¬ (m ≤ xst ∧ (0 ≤ xst ∧ xst ≤ 255) ∧ (0 ≤ xep ∧ xep ≤ 255) ∧ (0 ≤ xnx ∧ xnx ≤ 2147483649) ∧ (Vn : Int) ≤ win)) = false from decide_eq_false (by omega))
                              go_quiet (fail)
                              go_wp2
                              go_meet
                              case rel => exact ⟨by rw [HV.out], Wr.grown_drewN wy nq none⟩
          case rest =>
            obtain ⟨rfl, GC⟩ := hcut
            have GQ := Hi (grown_trans GY.out GC.out)
            have SQ := Hi (SY.out.grown GC.out)
            clear a0 a1 a2 d0 d1 d2 d3
            by_cases hC : (m ≤ xst ∧ (0 ≤ xst ∧ xst ≤ 255) ∧ (0 ≤ xep ∧ xep ≤ 255) ∧ (0 ≤ xnx ∧ xnx ≤ 2147483649) ∧ (Vn : Int) ≤ win)
            · rw [decide_eq_false (not_not_intro hC)]
              obtain ⟨k1, k2, k3, k4, k5⟩ := hC
              have HK4 := Hi (show kb = (heldOk xst xep xnx (xh.drop 0) && rowOk win (xst + 1) (es.drop (q + 1))) by
                rw [HK3.out, decide_eq_true k1, Tm.upTo_iff.2 k2, Tm.upTo_iff.2 k3, Tm.upTo_iff.2 k4, decide_eq_true (show (xh.length : Int) ≤ win by omega)]
                simp)
              clear HK3 k1 k2 k3 k4 k5 PM
              obtain ⟨⟨s0, s1', s2', s3⟩, -⟩ := SQ.out
              go_wp2_with fail
              clear s0 s1' s2' s3
              go_loopw [6, 120] (fun l j wr => ∃ (i : Nat) (last : Int), l = .int .i64 last ∧ j = .int .i64 i ∧ i ≤ Vn ∧ Hid (wc.grownBy wr none) ∧ Hid (kb = (heldOk xst xep last (xh.drop i) && rowOk win (xst + 1) (es.drop (q + 1))))) (fun _ j _ => Vn - (intOf j).toNat)
              case atStart => exact ⟨0, xnx, rfl, rfl, by omega, grown_refl _ _, HK4⟩
              case round =>
                clear HK4
                obtain ⟨i, last, rfl, rfl, hi, GL, AL⟩ := hrel
                obtain ⟨⟨s0, s1', s2', s3⟩, -⟩ := (SQ.out.grown GL.out)
                have GA := Hi (grown_trans GQ.out GL.out)
                by_cases hlq : i < Vn
                · obtain ⟨bh, oh, ⟨Wa, Wn, Wc⟩, hV, hv, hc⟩ := (TV.out.grown GA.out).at_ i hlq
                  dsimp only at hV
                  subst hV
                  obtain ⟨e0, e1, e2, e3, e4, e5⟩ := six_of (o := oh + i * 6) (fun j u hu => by rw [Nat.add_assoc]; exact hc j u hu)
                  have AL1 := AL.out
                  rw [drop_cons (by omega) Tm.zero] at AL1
                  unfold heldOk at AL1
                  have AL2 := Hi AL1
                  have HV := Hi hv
                  clear hc AL hv AL1
                  generalize xh.getD i Tm.zero = y at *
                  obtain ⟨yst, yep, ysq, ytm, ykd, yvs⟩ := y
                  dsimp only [Sl.v] at e0 e1 e2 e3 e4 e5 AL2
                  obtain ⟨wt, hwt⟩ : ∃ wt, wt = wr.alloc (Obj.cells #[.int .i64 yst, .int .i64 yep, .int .i64 ysq, .int .i64 ytm, .int .i64 ykd, .slice Wa Wn Wc] 28) := ⟨_, rfl⟩
                  obtain ⟨Z, hZ⟩ : ∃ Z, Z = wr.heap.size := ⟨_, rfl⟩
                  have gt : wr.grownBy wt none := by subst hwt; exact grown_alloc _ _ _
                  have ST := Hi (show Wr.Six wt Z ⟨yst, yep, ysq, ytm, ykd, yvs⟩ (.slice Wa Wn Wc) by subst hwt; subst hZ; exact Wr.Six.made wr ⟨yst, yep, ysq, ytm, ykd, yvs⟩ (.slice Wa Wn Wc))
                  have RV := Hi (rvalid_bool (t := ⟨yst, yep, ysq, ytm, ykd, yvs⟩) (V := ⟨Wa, Wn, Wc⟩) (W := wt) (HV.out.grown gt))
                  have s0 := gt.cell s0 (by simp)
                  have s1' := gt.cell s1' (by simp)
                  have GT := Hi (grown_trans GL.out gt)
                  go_upto_region 18 with fail
                  rw [← hwt]
                  simp only [← hZ]
                  clear hwt hZ gt e0 e1 e2 e3 e4 e5
                  obtain ⟨⟨t0, t1, t2, t3, t4, t5⟩, -⟩ := ST.out
                  dsimp only at t0 t1 t2 t3 t4 t5
                  generalize Tm.Tg.ok ⟨yst, yep, ysq, ytm, ykd, yvs⟩ = ob at *
                  dsimp only [tv, Sl.v] at RV
                  go_wp2_with fail
                  refine RV.out.mono ?_
                  rintro e w9 ⟨rfl, g9⟩
                  have s0 := g9.cell s0 (by simp)
                  have s1' := g9.cell s1' (by simp)
                  have t0 := g9.cell t0 (by simp)
                  have t1 := g9.cell t1 (by simp)
                  have t2 := g9.cell t2 (by simp)
                  have G9 := Hi (grown_trans GT.out g9)
                  have GE := Hi (grown_trans GG.out (grown_trans GC.out (grown_trans GT.out g9)))
                  clear g9 RV t3 t4 t5 s2' s3
                  rcases Bool.eq_false_or_eq_true ob with h1 | h1
                  · subst h1
                    by_cases h2 : yst = xst
                    · subst h2
                      by_cases h3 : yep = xep
                      · subst h3
                        by_cases h4 : ysq ≤ last
                        · obtain rfl : kb = false := by rw [AL2.out, decide_eq_false (show ¬ last < ysq by omega)]; simp
                          go_wp2
                          go_ret
                          exact ret_mk rfl GE.out
                        · have HN := Hi (show kb = (heldOk yst yep ysq (xh.drop (i + 1)) && rowOk win (yst + 1) (es.drop (q + 1))) by rw [AL2.out, decide_eq_true (show last < ysq by omega)]; simp)
                          go_wp2
                          go_roundw
                          case rel => exact ⟨i + 1, ysq, rfl, by go_num, by omega, G9, HN⟩
                          case measure => simp [intOf]; omega
                      · obtain rfl : kb = false := by rw [AL2.out, decide_eq_false h3]; simp
                        have hb3 : (yep != xep) = true := by simpa using h3
                        go_wp2
                        go_ret
                        exact ret_mk rfl GE.out
                    · obtain rfl : kb = false := by rw [AL2.out, decide_eq_false h2]; simp
                      have hb2 : (yst != xst) = true := by simpa using h2
                      go_wp2
                      go_ret
                      exact ret_mk rfl GE.out
                  · subst h1
                    obtain rfl : kb = false := by rw [AL2.out]; simp
                    go_wp2
                    go_ret
                    exact ret_mk rfl GE.out
                · obtain rfl : i = Vn := by omega
                  have HN := Hi (show kb = rowOk win (xst + 1) (es.drop (q + 1)) by
                    have h1 := AL.out
                    rw [List.drop_of_length_le (by omega)] at h1
                    simpa [heldOk] using h1)
                  go_wp2
                  go_roundw
                  case rel => exact ⟨q + 1, xst + 1, by go_num, by omega, grown_trans GR.out GA.out, HN, PM2⟩
                  case measure => simp [intOf]; omega
            · rw [decide_eq_true hC]
              obtain rfl : kb = false := by
                rw [HK3.out]
                apply eq_false_of_ne_true
                intro e
                simp only [Bool.and_eq_true, decide_eq_true_eq, Tm.upTo_iff] at e
                exact hC ⟨e.1, e.2.1.1, e.2.1.2.1, e.2.1.2.2.1, by have := e.2.1.2.2.2.1; omega⟩
              have GE := Hi (grown_trans GG.out GC.out)
              clear hC
              go_wp2
              go_ret
              exact ret_mk rfl GE.out
        · obtain rfl : q = En := by omega
          obtain rfl : kb = true := by
            have h1 := HKQ.out
            rw [List.drop_of_length_le (by rw [HEL.out]; exact Nat.le_refl _)] at h1
            simpa [rowOk] using h1
          have GE := Hi (grown_trans G0.out GR.out)
          go_wp2
          go_ret
          exact ret_mk rfl GE.out
end Go.Proofs.YticmoaebegahgaaGreatDoor.Iw
