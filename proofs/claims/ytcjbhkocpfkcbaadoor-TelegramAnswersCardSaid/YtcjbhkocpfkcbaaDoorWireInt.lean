/- Contracts of Int, of package wire and of its reference. -/
import Derived.Test.YtcjbhkocpfkcbaaDoorWireSum
namespace Go.Proofs.YtcjbhkocpfkcbaaDoor.Wr
open Go.ChangeShapes Go.WideShapes Go.ChangeAt Go.RowKit

def IntEnd (r : Int × Int × Int) (w : World) (e : Ending) (w' : World) : Prop := e = .returned (.tuple #[.int .i64 r.1, .int .i64 r.2.1, .int .i64 r.2.2]) ∧ w = w'
theorem intEnd_mk {r : Int × Int × Int} {w : World} {a b c : Int} (h : r = (a, b, c)) : IntEnd r w (.returned (.tuple #[.int .i64 a, .int .i64 b, .int .i64 c])) w := by subst h; exact ⟨rfl, rfl⟩

theorem andNot8 (x : UInt8) : bits .andNot .u8 (x.toNat : Int) 128 = ((x.toNat % 128 : Nat) : Int) := by
  have h := u8_andNot_nat x.toNat 128 x.toNat_lt (by omega)
  have e : x.toNat &&& (255 - 128) = x.toNat % 128 := Nat.and_two_pow_sub_one_eq_mod _ 7
  rw [e] at h; exact h

theorem ends_yes (k : Nat) (x : UInt8) (w : World) (hk : k ≤ 9) (h : endB k x = true) :
    Calls Tryd.prog 55 #[.int .i64 (k : Int), .int .u8 (x.toNat : Int)] w fun e w' => e = .returned (.bool true) ∧ w = w' := by
  have := ends_any k x w hk
  rw [h] at this; exact this
theorem ends_no (k : Nat) (x : UInt8) (w : World) (hk : k ≤ 9) (h : endB k x = false) :
    Calls Tryd.prog 55 #[.int .i64 (k : Int), .int .u8 (x.toNat : Int)] w fun e w' => e = .returned (.bool false) ∧ w = w' := by
  have := ends_any k x w hk
  rw [h] at this; exact this

theorem shl_or (U y k V : Nat) (hU : U < 18446744073709551616) (h : U ||| (y * 2 ^ (7 * k) % 18446744073709551616) = V) : bits .or .u64 (U : Int) (IntKind.u64.wrap ((y : Int) * 2 ^ (7 * k))) = (V : Int) := by
  have e : IntKind.u64.wrap ((y : Int) * 2 ^ (7 * k)) = ((y * 2 ^ (7 * k) % 18446744073709551616 : Nat) : Int) := by
    rw [IntKind.wrap_u64, Int.natCast_emod, Int.natCast_mul, Int.natCast_pow]; rfl
  rw [e, u64_or_nat U _ hU (by omega), h]

theorem pow7 (k : Nat) (h : k < 9) : 128 * 2 ^ (7 * k) ≤ 9223372036854775808 := by
  have : 2 ^ (7 + 7 * k) ≤ 2 ^ 63 := Nat.pow_le_pow_right (by omega) (by omega)
  rw [Nat.pow_add] at this; omega
theorem or_add (U y k : Nat) (hk : k < 10) (hU : U < 2 ^ (7 * k)) (hy : y < 128) (h9 : k = 9 → y ≤ 1) : U ||| (y * 2 ^ (7 * k) % 18446744073709551616) = U + y * 2 ^ (7 * k) := by
  have hb : y * 2 ^ (7 * k) < 18446744073709551616 := by
    by_cases h : k = 9
    · have := h9 h
      subst h
      have := Nat.mul_le_mul_right (2 ^ (7 * 9)) this
      omega
    · have := pow7 k (by omega)
      have := Nat.mul_le_mul_right (2 ^ (7 * k)) (show y ≤ 127 by omega)
      omega
  rw [Nat.mod_eq_of_lt hb, Nat.or_comm, Nat.mul_comm y, ← Nat.two_pow_add_eq_or_of_lt hU, Nat.add_comm]

theorem getD_drop (l : List UInt8) (p k : Nat) (h : p + k < l.length) : (l.drop p).drop k = l.getD (p + k) 0 :: (l.drop p).drop (k + 1) := by
  rw [List.drop_drop, List.drop_drop, List.drop_eq_getElem_cons h, show p + (k + 1) = p + k + 1 by omega]
  congr 1
  simp [List.getD, h]

theorem dec_step (l : List UInt8) (p k U V : Nat) (x : UInt8) (y : Nat) (hk : p + k < l.length) (hx : l.getD (p + k) 0 = x) (hk10 : k < 10) (hU : U < 2 ^ (7 * k)) (hy : x.toNat % 128 = y)
    (hV : U ||| (y * 2 ^ (7 * k) % 18446744073709551616) = V) :
    (128 ≤ x.toNat → Wm.dec ((l.drop p).drop k) k U = Wm.dec ((l.drop p).drop (k + 1)) (k + 1) V ∧ (k + 1 < 10 → V < 2 ^ (7 * (k + 1)))) ∧
    (x.toNat < 128 → endB k x = true → Wm.dec ((l.drop p).drop k) k U = .ok V (k + 1)) ∧ (x.toNat < 128 → endB k x = false → Wm.dec ((l.drop p).drop k) k U = .form) := by
  have hy2 : y < 128 := by omega
  rw [getD_drop l p k hk, hx]
  refine ⟨fun h => ⟨?_, fun h9 => ?_⟩, fun h he => ?_, fun h he => ?_⟩
  · exact Wm.dec_high9 x _ k U V hk10 h (fun h9 => by rw [← hV, or_add U y k hk10 hU hy2 (by omega), hy])
  · rw [← hV, or_add U y k hk10 hU hy2 (by omega), ← hy]
    exact Wm.acc_lt x k U hU
  · have hn : ¬ ((k = 9 ∧ 1 < x.toNat) ∨ (x.toNat = 0 ∧ 0 < k)) := by unfold endB at he; simpa only [Bool.not_eq_true', decide_eq_false_iff_not] using he
    rw [Wm.dec_last x _ k U hk10 h, if_neg hn, ← hV, or_add U y k hk10 hU hy2 (by omega), ← hy, Nat.mod_eq_of_lt h]
  · have hn : (k = 9 ∧ 1 < x.toNat) ∨ (x.toNat = 0 ∧ 0 < k) := by unfold endB at he; simpa only [Bool.not_eq_false', decide_eq_true_eq] using he
    rw [Wm.dec_last x _ k U hk10 h, if_pos hn]

set_option maxRecDepth 20000 in
set_option maxHeartbeats 800000 in
theorem int_near (b off m c p : Nat) (l : List UInt8) (w : World) (h : RB w (some ⟨b, off, none⟩) (p + m) l) (hm : 0 < m) (h10 : m ≤ 10) (hc : p + m ≤ c) (hc2 : c ≤ 9223372036854775807) (hb : p ≤ 4611686018427387904) :
    Calls Tryd.prog 54 #[.slice (some ⟨b, off, none⟩) (p + m) c, .int .i64 (p : Int)] w (IntEnd (Wm.ires p (Wm.dec (l.drop p) 0 0)) w) := by
  obtain ⟨hl, hc0⟩ := h
  have HL := Lib.hid hl
  have HC := Lib.hid hc0
  clear hl hc0
  have hcp : ¬ c = p := by omega
  have d1 : decide ((p : Int) < 0) = false := by simp
  have d2 : decide (p + m < p) = false := by simp
  have d3 : p + m ≤ p + 10 := by omega
  go_enter Tryd.func54, Tryd.ntmps54
  go_wp2
  go_loop [8, 29] (fun u i => ∃ k U : Nat, i = .int .i64 k ∧ k ≤ m ∧ u = .int .u64 (U : Int) ∧ U < 18446744073709551616 ∧ (k < 10 → U < 2 ^ (7 * k)) ∧ Hid (Wm.dec ((l.drop p).drop k) k U = Wm.dec (l.drop p) 0 0)) (fun _ i => m - (intOf i).toNat)
  case atStart => exact ⟨0, 0, rfl, by omega, rfl, by omega, fun _ => by simp, rfl⟩
  case round =>
    obtain ⟨k, U, rfl, hk, rfl, hU, hU2, HD⟩ := hrel
    have HU2 := Lib.hid hU2
    clear hU2
    have HU := Lib.hid hU
    clear hU
    by_cases hlt : k < m
    · obtain ⟨b', off', e, c1⟩ := HC.out (p + k) (by omega)
      injection e with e
      injection e with e1 e2
      subst e1; subst e2
      rw [← Nat.add_assoc] at c1
      have hk10 : k < 10 := by omega
      obtain ⟨V, hV⟩ : ∃ V, U ||| ((l.getD (p + k) 0).toNat % 128 * 2 ^ (7 * k) % 18446744073709551616) = V := ⟨_, rfl⟩
      have DS := dec_step l p k U V _ _ (by rw [HL.out]; omega) rfl hk10 (HU2.out hk10) rfl hV
      have D1 := Lib.hid DS.1
      have D2 := Lib.hid DS.2.1
      have D3 := Lib.hid DS.2.2
      have E1 := andNot8 (l.getD (p + k) 0)
      have hx := (l.getD (p + k) 0).toNat_lt
      generalize l.getD (p + k) 0 = x at *
      have h7 := Nat.mod_lt x.toNat (show 128 > 0 by omega)
      generalize x.toNat % 128 = y at *
      have E2 := shl_or U y k V HU.out hV
      have HV2 := Lib.hid (show V < 18446744073709551616 from by rw [← hV]; exact Nat.or_lt_two_pow (n := 64) HU.out (by omega))
      clear hV DS
      by_cases hx2 : 128 ≤ x.toNat
      · go_wp2
        go_round
        case rel => exact ⟨k + 1, V, by go_num, by omega, rfl, HV2.out, (D1.out hx2).2, (D1.out hx2).1.symm.trans HD.out⟩
        case measure => simp [intOf]; omega
      · by_cases he : endB k x = true
        · go_wp2_with fail
          refine (ends_yes k x _ (by omega) he).mono ?_
          rintro e w' ⟨rfl, rfl⟩
          go_wp2_with fail
          refine (unfold_any V _ HV2.out).mono ?_
          rintro e w' ⟨rfl, rfl⟩
          go_wp2
          go_ret3
          refine intEnd_mk ?_
          rw [← HD.out, D2.out (by omega) he]
          simp [Wm.ires]; try omega
        · have he := eq_false_of_ne_true he
          go_wp2_with fail
          refine (ends_no k x _ (by omega) he).mono ?_
          rintro e w' ⟨rfl, rfl⟩
          go_wp2
          go_ret3
          refine intEnd_mk ?_
          rw [← HD.out, D3.out (by omega) he]
          rfl
    · obtain rfl : k = m := by omega
      by_cases hm10 : k = 10
      · subst hm10
        go_wp2
        go_ret3
        refine intEnd_mk ?_
        rw [← HD.out, Wm.dec_ten]
        rfl
      · have HX := Lib.hid (show (l.drop p).drop k = [] from List.drop_eq_nil_of_le (by rw [List.length_drop, HL.out]; omega))
        go_wp2
        go_ret3
        refine intEnd_mk ?_
        rw [← HD.out, HX.out, Wm.dec_nil _ _ (by omega)]
        rfl
set_option maxRecDepth 20000 in
set_option maxHeartbeats 800000 in
theorem int_far (b off m c p : Nat) (l : List UInt8) (w : World) (h : RB w (some ⟨b, off, none⟩) (p + m) l) (h10 : 10 < m) (hc : p + m ≤ c) (hc2 : c ≤ 9223372036854775807) (hb : p ≤ 4611686018427387904) :
    Calls Tryd.prog 54 #[.slice (some ⟨b, off, none⟩) (p + m) c, .int .i64 (p : Int)] w (IntEnd (Wm.ires p (Wm.dec (l.drop p) 0 0)) w) := by
  obtain ⟨hl, hc0⟩ := h
  have HL := Lib.hid hl
  have HC := Lib.hid hc0
  clear hl hc0
  have hcp : ¬ c = p := by omega
  have d1 : decide ((p : Int) < 0) = false := by simp
  have d2 : decide (p + m < p) = false := by simp
  have d3 : ¬ p + m ≤ p + 10 := by omega
  go_enter Tryd.func54, Tryd.ntmps54
  go_wp2
  go_loop [8, 29] (fun u i => ∃ k U : Nat, i = .int .i64 k ∧ k ≤ 10 ∧ u = .int .u64 (U : Int) ∧ U < 18446744073709551616 ∧ (k < 10 → U < 2 ^ (7 * k)) ∧ Hid (Wm.dec ((l.drop p).drop k) k U = Wm.dec (l.drop p) 0 0)) (fun _ i => 10 - (intOf i).toNat)
  case atStart => exact ⟨0, 0, rfl, by omega, rfl, by omega, fun _ => by simp, rfl⟩
  case round =>
    obtain ⟨k, U, rfl, hk, rfl, hU, hU2, HD⟩ := hrel
    have HU2 := Lib.hid hU2
    clear hU2
    have HU := Lib.hid hU
    clear hU
    by_cases hlt : k < 10
    · obtain ⟨b', off', e, c1⟩ := HC.out (p + k) (by omega)
      injection e with e
      injection e with e1 e2
      subst e1; subst e2
      rw [← Nat.add_assoc] at c1
      have hk10 : k < 10 := by omega
      obtain ⟨V, hV⟩ : ∃ V, U ||| ((l.getD (p + k) 0).toNat % 128 * 2 ^ (7 * k) % 18446744073709551616) = V := ⟨_, rfl⟩
      have DS := dec_step l p k U V _ _ (by rw [HL.out]; omega) rfl hk10 (HU2.out hk10) rfl hV
      have D1 := Lib.hid DS.1
      have D2 := Lib.hid DS.2.1
      have D3 := Lib.hid DS.2.2
      have E1 := andNot8 (l.getD (p + k) 0)
      have hx := (l.getD (p + k) 0).toNat_lt
      generalize l.getD (p + k) 0 = x at *
      have h7 := Nat.mod_lt x.toNat (show 128 > 0 by omega)
      generalize x.toNat % 128 = y at *
      have E2 := shl_or U y k V HU.out hV
      have HV2 := Lib.hid (show V < 18446744073709551616 from by rw [← hV]; exact Nat.or_lt_two_pow (n := 64) HU.out (by omega))
      clear hV DS
      by_cases hx2 : 128 ≤ x.toNat
      · go_wp2
        go_round
        case rel => exact ⟨k + 1, V, by go_num, by omega, rfl, HV2.out, (D1.out hx2).2, (D1.out hx2).1.symm.trans HD.out⟩
        case measure => simp [intOf]; omega
      · by_cases he : endB k x = true
        · go_wp2_with fail
          refine (ends_yes k x _ (by omega) he).mono ?_
          rintro e w' ⟨rfl, rfl⟩
          go_wp2_with fail
          refine (unfold_any V _ HV2.out).mono ?_
          rintro e w' ⟨rfl, rfl⟩
          go_wp2
          go_ret3
          refine intEnd_mk ?_
          rw [← HD.out, D2.out (by omega) he]
          simp [Wm.ires]; try omega
        · have he := eq_false_of_ne_true he
          go_wp2_with fail
          refine (ends_no k x _ (by omega) he).mono ?_
          rintro e w' ⟨rfl, rfl⟩
          go_wp2
          go_ret3
          refine intEnd_mk ?_
          rw [← HD.out, D3.out (by omega) he]
          rfl
    · obtain rfl : k = 10 := by omega
      go_wp2
      go_ret3
      refine intEnd_mk ?_
      rw [← HD.out, Wm.dec_ten]
      rfl

theorem int_bad (A : Option Addr) (n c : Nat) (p : Int) (w : World) (_hn : n ≤ 9223372036854775807) (h1 : -9223372036854775808 ≤ p) (h2 : p ≤ 9223372036854775807) (h : p < 0 ∨ (n : Int) < p) :
    Calls Tryd.prog 54 #[.slice A n c, .int .i64 p] w (IntEnd (0, 0, 1) w) := by
  by_cases h0 : p < 0
  · clear h
    go_enter Tryd.func54, Tryd.ntmps54
    go_wp2
    go_ret3
    exact intEnd_mk rfl
  · have h3 : (n : Int) < p := by omega
    clear h
    go_enter Tryd.func54, Tryd.ntmps54
    go_wp2
    go_ret3
    exact intEnd_mk rfl

theorem int_end (A : Option Addr) (n c : Nat) (w : World) (hc : n ≤ c) (hc2 : c ≤ 9223372036854775807) (hb : n ≤ 4611686018427387904) :
    Calls Tryd.prog 54 #[.slice A n c, .int .i64 (n : Int)] w (IntEnd (0, 0, 2) w) := by
  have d1 : decide ((n : Int) < 0) = false := by simp
  by_cases h : c = n
  · subst h
    go_enter Tryd.func54, Tryd.ntmps54
    go_wp2
    refine wp_loop_rounds 1 ?_; rw [rounds_succ]
    go_wp2
    go_ret3
    exact intEnd_mk rfl
  · go_enter Tryd.func54, Tryd.ntmps54
    go_wp2
    refine wp_loop_rounds 1 ?_; rw [rounds_succ]
    go_wp2
    go_ret3
    exact intEnd_mk rfl

theorem int_any (A : Option Addr) (n c : Nat) (l : List UInt8) (p : Int) (w : World) (h : RB w A n l) (hc : n ≤ c) (hc2 : c ≤ 9223372036854775807) (hb : n ≤ 4611686018427387904) (h1 : -9223372036854775808 ≤ p) (h2 : p ≤ 9223372036854775807) :
    Calls Tryd.prog 54 #[.slice A n c, .int .i64 p] w (IntEnd (Wm.intR l p) w) := by
  unfold Wm.intR
  by_cases hbad : p < 0 ∨ (n : Int) < p
  · rw [if_pos (by rw [h.1]; exact hbad)]
    exact int_bad A n c p w (by omega) h1 h2 hbad
  · rw [if_neg (by rw [h.1]; exact hbad)]
    obtain ⟨k, rfl⟩ := Int.eq_ofNat_of_zero_le (show 0 ≤ p by omega)
    obtain ⟨m, rfl⟩ : ∃ m, n = k + m := ⟨n - k, by omega⟩
    rw [Int.toNat_natCast]
    rcases Nat.eq_zero_or_pos m with hm | hm
    · subst hm
      rw [List.drop_eq_nil_of_le (by rw [h.1]; omega), Wm.dec_nil _ _ (by omega)]
      exact int_end A k c w hc hc2 hb
    · obtain ⟨b, off, rfl, _⟩ := h.2 0 (by omega)
      by_cases h10 : m ≤ 10
      · exact int_near b off m c k l w h hm h10 hc hc2 (by omega)
      · exact int_far b off m c k l w h (by omega) hc hc2 (by omega)
end Go.Proofs.YtcjbhkocpfkcbaaDoor.Wr
