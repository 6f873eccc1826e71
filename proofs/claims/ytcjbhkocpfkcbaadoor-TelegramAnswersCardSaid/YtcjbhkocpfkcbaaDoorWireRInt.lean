/- The contract of the reference's Int. -/
import Derived.Test.YtcjbhkocpfkcbaaDoorWireInt
namespace Go.Proofs.YtcjbhkocpfkcbaaDoor.Wr
open Go.ChangeShapes Go.WideShapes Go.ChangeAt Go.RowKit

theorem rint_bad (A : Option Addr) (n c : Nat) (p : Int) (w : World) (_hn : n ≤ 9223372036854775807) (h1 : -9223372036854775808 ≤ p) (h2 : p ≤ 9223372036854775807) (h : p < 0 ∨ (n : Int) < p) :
    Calls Tryd.prog 42 #[.slice A n c, .int .i64 p] w (IntEnd (0, 0, 1) w) := by
  by_cases h0 : p < 0
  · clear h
    go_enter Tryd.func42, Tryd.ntmps42
    go_wp2
    go_ret3
    exact intEnd_mk rfl
  · have h3 : (n : Int) < p := by omega
    clear h
    go_enter Tryd.func42, Tryd.ntmps42
    go_wp2
    go_ret3
    exact intEnd_mk rfl

theorem wrap_add (U y k V : Nat) (_hk : k < 10) (_hU : U < 18446744073709551616) (hV2 : V < 18446744073709551616) (hV : U + y * 2 ^ (7 * k) = V) (_hy : y < 128) (_h9 : k = 9 → y ≤ 1) :
    IntKind.u64.wrap ((U : Int) + IntKind.u64.wrap (((y : Nat) : Int) * 2 ^ (7 * k))) = (V : Int) := by
  have e : IntKind.u64.wrap ((y : Int) * 2 ^ (7 * k)) = ((y * 2 ^ (7 * k) : Nat) : Int) := by
    rw [IntKind.wrap_u64, Int.emod_eq_of_lt, Int.natCast_mul, Int.natCast_pow]
    · rfl
    · have : ((y : Int) * 2 ^ (7 * k)) = ((y * 2 ^ (7 * k) : Nat) : Int) := by rw [Int.natCast_mul, Int.natCast_pow]; rfl
      omega
    · have : ((y : Int) * 2 ^ (7 * k)) = ((y * 2 ^ (7 * k) : Nat) : Int) := by rw [Int.natCast_mul, Int.natCast_pow]; rfl
      omega
  rw [e, IntKind.wrap_u64]
  omega

set_option maxRecDepth 20000 in
set_option maxHeartbeats 1600000 in
theorem rint_mid (A : Option Addr) (n c p : Nat) (l : List UInt8) (w : World) (h : RB w A n l) (hp : p ≤ n) (hb : n ≤ 4611686018427387904) :
    Calls Tryd.prog 42 #[.slice A n c, .int .i64 (p : Int)] w (IntEnd (Wm.ires p (Wm.dec (l.drop p) 0 0)) w) := by
  obtain ⟨hl, hc0⟩ := h
  have HL := Lib.hid hl
  have HC := Lib.hid hc0
  clear hl hc0
  have d1 : decide ((p : Int) < 0) = false := by simp
  have d2 : decide (n < p) = false := by simp; omega
  go_enter Tryd.func42, Tryd.ntmps42
  go_wp2
  go_loop [7, 8] (fun u i => ∃ k U : Nat, i = .int .i64 k ∧ k ≤ 10 ∧ u = .int .u64 (U : Int) ∧ U < 18446744073709551616 ∧ (k < 10 → U < 2 ^ (7 * k)) ∧ Hid (Wm.dec ((l.drop p).drop k) k U = Wm.dec (l.drop p) 0 0)) (fun _ i => 10 - (intOf i).toNat)
  case atStart => exact ⟨0, 0, rfl, by omega, rfl, by omega, fun _ => by simp, rfl⟩
  case round =>
    obtain ⟨k, U, rfl, hk, rfl, hU, hU2, HD⟩ := hrel
    have HU2 := Lib.hid hU2
    clear hU2
    have HU := Lib.hid hU
    clear hU
    by_cases hlt : k < 10
    · by_cases hn : p + k < n
      · obtain ⟨b', off', rfl, c1⟩ := HC.out (p + k) (by omega)
        have hk10 : k < 10 := by omega
        obtain ⟨V, hV⟩ : ∃ V, U ||| ((l.getD (p + k) 0).toNat % 128 * 2 ^ (7 * k) % 18446744073709551616) = V := ⟨_, rfl⟩
        have DS := dec_step l p k U V _ _ (by rw [HL.out]; omega) rfl hk10 (HU2.out hk10) rfl hV
        have D1 := Lib.hid DS.1
        have D2 := Lib.hid DS.2.1
        have D3 := Lib.hid DS.2.2
        have hx := (l.getD (p + k) 0).toNat_lt
        have HVE := Lib.hid (show (k = 9 → (l.getD (p + k) 0).toNat % 128 ≤ 1) → U + (l.getD (p + k) 0).toNat % 128 * 2 ^ (7 * k) = V from fun h => by rw [← hV, or_add U _ k hk10 (HU2.out hk10) (by omega) h])
        have HV2 := Lib.hid (show V < 18446744073709551616 from by rw [← hV]; exact Nat.or_lt_two_pow (n := 64) HU.out (by omega))
        clear hV DS
        generalize hXz : l.getD (p + k) 0 = x at *
        have HE := Lib.hid (show endB k x = !(decide ((k = 9 ∧ 1 < x.toNat) ∨ (x.toNat = 0 ∧ 0 < k))) from rfl)
        generalize endB k x = eb at *
        have HXz := Lib.hid hXz
        clear hXz
        generalize hz0 : x.toNat = z at *
        have HZ := Lib.hid hz0
        clear hz0
        have HW := Lib.hid (show (k = 9 → z % 128 ≤ 1) → IntKind.u64.wrap ((U : Int) + IntKind.u64.wrap ((z : Int) % 128 * 2 ^ (7 * k))) = (V : Int) from fun h => wrap_add U (z % 128) k V hk10 HU.out HV2.out (HVE.out h) (by omega) h)
        clear HVE
        by_cases h9 : k = 9 ∧ 1 < z
        · obtain ⟨h9, hz1⟩ := h9
          have hkk : ((k : Int) == 9) = true := by rw [h9]; rfl
          have HEF := Lib.hid (show Wm.dec ((l.drop p).drop k) k U = .form from by
            rw [getD_drop l p k (by rw [HL.out]; omega), HXz.out, Wm.dec, if_neg (by omega), if_pos (by rw [HZ.out]; omega)])
          clear HE h9
          go_wp2
          go_ret3
          refine intEnd_mk ?_
          rw [← HD.out, HEF.out]
          rfl
        · have E2 := HW.out (by omega)
          by_cases hx2 : 128 ≤ z
          · have h9' : ¬ k = 9 ∨ k = 9 := by omega
            by_cases hk9 : k = 9
            · exact absurd hk9 (by omega)
            · have h9'' : ((k : Int) == 9) = false := by rw [beq_eq_false_iff_ne]; omega
              clear h9 h9' hk9
              go_wp2
              go_round
              case rel => exact ⟨k + 1, V, by go_num, by omega, rfl, HV2.out, (D1.out hx2).2, (D1.out hx2).1.symm.trans HD.out⟩
              case measure => simp [intOf]; omega
          · have em : ((z : Int) % 128) = (z : Int) := by omega
            have E3 : IntKind.u64.wrap ((U : Int) + IntKind.u64.wrap ((z : Int) * 2 ^ (7 * k))) = (V : Int) := by rw [em] at E2; exact E2
            clear em
            by_cases h0 : z = 0 ∧ 0 < k
            · obtain ⟨h0, hk0⟩ := h0
              have HE' := Lib.hid (show eb = false by rw [HE.out]; simp [hk0, h0])
              have dz : ((z : Int) == 0) = true := by rw [h0]; rfl
              have dk : decide (0 < k) = true := by simpa using hk0
              have hz1 : z ≤ 1 := by omega
              clear h9 h0 HE
              by_cases hk9 : k = 9
              · have h9'' : ((k : Int) == 9) = true := by rw [hk9]; rfl
                clear hk9
                go_wp2
                go_ret3
                refine intEnd_mk ?_
                rw [← HD.out, D3.out (by omega) HE'.out]
                rfl
              · have h9'' : ((k : Int) == 9) = false := by rw [beq_eq_false_iff_ne]; omega
                clear hk9
                go_wp2
                go_ret3
                refine intEnd_mk ?_
                rw [← HD.out, D3.out (by omega) HE'.out]
                rfl
            · have HE' := Lib.hid (show eb = true by rw [HE.out]; simp; omega)
              by_cases hz : z = 0
              · have dz : ((z : Int) == 0) = true := by rw [hz]; rfl
                have dk : decide (0 < k) = false := by simp; omega
                have h9'' : ((k : Int) == 9) = false := by rw [beq_eq_false_iff_ne]; omega
                clear h9 h0 HE hz
                go_wp2_with fail
                refine (runfold_any V _ HV2.out).mono ?_
                rintro e w' ⟨rfl, rfl⟩
                go_wp2
                go_ret3
                refine intEnd_mk ?_
                rw [← HD.out, D2.out (by omega) HE'.out]
                simp [Wm.ires]; try omega
              · have dz : ((z : Int) == 0) = false := by rw [beq_eq_false_iff_ne]; omega
                by_cases hk9 : k = 9
                · have h9'' : ((k : Int) == 9) = true := by rw [hk9]; rfl
                  have hz1 : z ≤ 1 := by omega
                  clear h9 h0 HE hz hk9
                  go_wp2_with fail
                  refine (runfold_any V _ HV2.out).mono ?_
                  rintro e w' ⟨rfl, rfl⟩
                  go_wp2
                  go_ret3
                  refine intEnd_mk ?_
                  rw [← HD.out, D2.out (by omega) HE'.out]
                  simp [Wm.ires]; try omega
                · have h9'' : ((k : Int) == 9) = false := by rw [beq_eq_false_iff_ne]; omega
                  clear h9 h0 HE hz hk9
                  go_wp2_with fail
                  refine (runfold_any V _ HV2.out).mono ?_
                  rintro e w' ⟨rfl, rfl⟩
                  go_wp2
                  go_ret3
                  refine intEnd_mk ?_
                  rw [← HD.out, D2.out (by omega) HE'.out]
                  simp [Wm.ires]; try omega
      · have HX := Lib.hid (show (l.drop p).drop k = [] from List.drop_eq_nil_of_le (by rw [List.length_drop, HL.out]; omega))
        go_wp2
        go_ret3
        refine intEnd_mk ?_
        rw [← HD.out, HX.out, Wm.dec_nil _ _ (by omega)]
        rfl
    · obtain rfl : k = 10 := by omega
      go_wp2
      go_ret3
      refine intEnd_mk ?_
      rw [← HD.out, Wm.dec_ten]
      rfl

theorem rint_any (A : Option Addr) (n c : Nat) (l : List UInt8) (p : Int) (w : World) (h : RB w A n l) (hb : n ≤ 4611686018427387904) (h1 : -9223372036854775808 ≤ p) (h2 : p ≤ 9223372036854775807) :
    Calls Tryd.prog 42 #[.slice A n c, .int .i64 p] w (IntEnd (Wm.intR l p) w) := by
  unfold Wm.intR
  by_cases hbad : p < 0 ∨ (n : Int) < p
  · rw [if_pos (by rw [h.1]; exact hbad)]
    exact rint_bad A n c p w (by omega) h1 h2 hbad
  · rw [if_neg (by rw [h.1]; exact hbad)]
    obtain ⟨k, rfl⟩ := Int.eq_ofNat_of_zero_le (show 0 ≤ p by omega)
    rw [Int.toNat_natCast]
    exact rint_mid A n c k l w h (by omega) hb
end Go.Proofs.YtcjbhkocpfkcbaaDoor.Wr
