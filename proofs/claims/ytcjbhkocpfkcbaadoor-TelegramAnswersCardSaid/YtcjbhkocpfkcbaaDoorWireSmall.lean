/- Contracts of the small functions of package wire and of its reference: folding, marks. -/
import Derived.Test.YtcjbhkocpfkcbaaDoorWireBase
namespace Go.Proofs.YtcjbhkocpfkcbaaDoor.Wr
open Go.ChangeShapes Go.WideShapes Go.ChangeAt Go.RowKit

theorem rfold_any (n : Int) (w : World) (h1 : -9223372036854775808 ≤ n) (h2 : n ≤ 9223372036854775807) :
    Calls Tryd.prog 35 #[.int .i64 n] w fun e w' => e = .returned (.int .u64 ((Wm.fold n : Nat) : Int)) ∧ w = w' := by
  have H := Lib.hid (Wm.fold_cast n)
  by_cases h : 0 ≤ n
  · go_enter Tryd.func35, Tryd.ntmps35
    go_wp2
    go_ret
    refine ⟨ret_int ?_, rfl⟩
    rw [H.out, if_pos h]; try omega
  · go_enter Tryd.func35, Tryd.ntmps35
    go_wp2
    go_ret
    refine ⟨ret_int ?_, rfl⟩
    rw [H.out, if_neg (by omega)]; try omega

theorem not64 (a : Nat) (h : a < 18446744073709551616) : a ^^^ 18446744073709551615 = 18446744073709551615 - a := by
  have e := congrArg BitVec.toNat (BitVec.xor_allOnes (x := BitVec.ofNat 64 a))
  rw [BitVec.toNat_xor, BitVec.toNat_not, BitVec.toNat_ofNat, BitVec.toNat_allOnes, Nat.mod_eq_of_lt (by omega)] at e
  simpa using e

theorem fold_bits (n : Int) (h1 : -9223372036854775808 ≤ n) (h2 : n ≤ 9223372036854775807) :
    bits .xor .u64 (IntKind.u64.wrap (IntKind.u64.wrap n * 2)) (IntKind.u64.wrap (n / 9223372036854775808)) = ((Wm.fold n : Nat) : Int) := by
  rw [Wm.fold_cast, IntKind.wrap_u64, IntKind.wrap_u64, IntKind.wrap_u64]
  by_cases h : 0 ≤ n
  · rw [if_pos h, u64_xor _ _ (by omega) (by omega) (by omega) (by omega), show n / 9223372036854775808 % 18446744073709551616 = 0 by omega]
    show (((n % 18446744073709551616 * 2 % 18446744073709551616).toNat ^^^ 0 : Nat) : Int) = _
    rw [Nat.xor_zero]; omega
  · rw [if_neg h, u64_xor _ _ (by omega) (by omega) (by omega) (by omega), show n / 9223372036854775808 % 18446744073709551616 = 18446744073709551615 by omega]
    show (((n % 18446744073709551616 * 2 % 18446744073709551616).toNat ^^^ 18446744073709551615 : Nat) : Int) = _
    rw [not64 _ (by omega)]; omega

theorem fold_any (n : Int) (w : World) (h1 : -9223372036854775808 ≤ n) (h2 : n ≤ 9223372036854775807) :
    Calls Tryd.prog 53 #[.int .i64 n] w fun e w' => e = .returned (.int .u64 ((Wm.fold n : Nat) : Int)) ∧ w = w' := by
  have H := Lib.hid (fold_bits n h1 h2)
  go_enter Tryd.func53, Tryd.ntmps53
  go_wp2
  go_ret
  exact ⟨ret_int H.out, rfl⟩

theorem runfold_any (u : Nat) (w : World) (h2 : u < 18446744073709551616) :
    Calls Tryd.prog 52 #[.int .u64 (u : Int)] w fun e w' => e = .returned (.int .i64 (Wm.unf u)) ∧ w = w' := by
  have H := Lib.hid (show Wm.unf u = if u % 2 = 0 then ((u / 2 : Nat) : Int) else -((u / 2 : Nat) : Int) - 1 from rfl)
  by_cases h : u % 2 = 0
  · have hd : (((u : Nat) : Int) % 2 == 0) = true := by rw [beq_iff_eq]; omega
    have h := Lib.hid h
    go_enter Tryd.func52, Tryd.ntmps52
    go_wp2
    go_ret
    refine ⟨ret_int ?_, rfl⟩
    rw [H.out, if_pos h.out]; omega
  · have hd : (((u : Nat) : Int) % 2 == 0) = false := by rw [beq_eq_false_iff_ne]; omega
    have h := Lib.hid h
    go_enter Tryd.func52, Tryd.ntmps52
    go_wp2
    go_ret
    refine ⟨ret_int ?_, rfl⟩
    rw [H.out, if_neg h.out]; omega

theorem unfold_bits (u : Nat) (h2 : u < 18446744073709551616) : bits .xor .i64 ((u : Int) / 2) (wrap64 (-wrap64 (bits .and .u64 (u : Int) 1))) = Wm.unf u := by
  have e : bits .and .u64 (u : Int) 1 = ((u % 2 : Nat) : Int) := by
    have := u64_and_nat u 1 h2 (by omega)
    rw [Wm.and1_mod] at this
    exact this
  rw [e]
  unfold Wm.unf
  by_cases h : u % 2 = 0
  · rw [if_pos h, h, show wrap64 (-wrap64 ((0 : Nat) : Int)) = 0 by decide +kernel]
    show IntKind.i64.wrap ((BitVec.ofInt 64 ((u : Int) / 2) ^^^ BitVec.ofInt 64 0).toNat : Int) = _
    rw [show BitVec.ofInt 64 0 = 0#64 by rfl, BitVec.xor_zero, show ((u : Int) / 2) = ((u / 2 : Nat) : Int) by omega, ofInt_u64 _ (by omega), IntKind.wrap_i64]
    omega
  · rw [if_neg h, show u % 2 = 1 by omega, show wrap64 (-wrap64 ((1 : Nat) : Int)) = -1 by decide +kernel]
    show IntKind.i64.wrap ((BitVec.ofInt 64 ((u : Int) / 2) ^^^ BitVec.ofInt 64 (-1)).toNat : Int) = _
    rw [show BitVec.ofInt 64 (-1) = BitVec.allOnes 64 by rfl, BitVec.xor_allOnes, BitVec.toNat_not, show ((u : Int) / 2) = ((u / 2 : Nat) : Int) by omega, ofInt_u64 _ (by omega), IntKind.wrap_i64]
    omega
theorem unfold_any (u : Nat) (w : World) (h2 : u < 18446744073709551616) :
    Calls Tryd.prog 56 #[.int .u64 (u : Int)] w fun e w' => e = .returned (.int .i64 (Wm.unf u)) ∧ w = w' := by
  have H := Lib.hid (unfold_bits u h2)
  go_enter Tryd.func56, Tryd.ntmps56
  go_wp2
  go_ret
  exact ⟨ret_int H.out, rfl⟩

theorem mark_dec (x : UInt8) : Wm.mark x = (decide (x.toNat = 126) || decide (x.toNat = 124) || decide (x.toNat = 125)) := by
  have e (k : UInt8) : (x == k) = decide (x.toNat = k.toNat) := by rw [Bool.eq_iff_iff]; simp [UInt8.toNat_inj]
  unfold Wm.mark
  rw [e, e, e]; rfl
theorem mark_any (x : UInt8) (w : World) :
    Calls Tryd.prog 46 #[.int .u8 (x.toNat : Int)] w fun e w' => e = .returned (.bool (Wm.mark x)) ∧ w = w' := by
  have H := Lib.hid (mark_dec x)
  generalize Wm.mark x = b at *
  have hb := x.toNat_lt
  generalize x.toNat = k at *
  by_cases h1 : k = 126
  · subst h1
    go_enter Tryd.func46, Tryd.ntmps46
    go_wp2
    go_ret
    exact ⟨ret_bool (by rw [H.out]; rfl), rfl⟩
  · by_cases h2 : k = 124
    · subst h2
      go_enter Tryd.func46, Tryd.ntmps46
      go_wp2
      go_ret
      exact ⟨ret_bool (by rw [H.out]; rfl), rfl⟩
    · have d1 : ((k : Int) == 126) = false := by rw [beq_eq_false_iff_ne]; omega
      have d2 : ((k : Int) == 124) = false := by rw [beq_eq_false_iff_ne]; omega
      by_cases h3 : k = 125
      · subst h3
        go_enter Tryd.func46, Tryd.ntmps46
        go_wp2
        go_ret
        exact ⟨ret_bool (by rw [H.out]; rfl), rfl⟩
      · have d3 : ((k : Int) == 125) = false := by rw [beq_eq_false_iff_ne]; omega
        have H' := Lib.hid (show b = false by rw [H.out]; simp [h1, h2, h3])
        clear h1 h2 h3 H
        go_enter Tryd.func46, Tryd.ntmps46
        go_wp2
        go_ret
        exact ⟨ret_bool H'.out.symm, rfl⟩
theorem rmark_any (x : UInt8) (w : World) :
    Calls Tryd.prog 36 #[.int .u8 (x.toNat : Int)] w fun e w' => e = .returned (.bool (Wm.mark x)) ∧ w = w' := by
  have H := Lib.hid (mark_dec x)
  generalize Wm.mark x = b at *
  have hb := x.toNat_lt
  generalize x.toNat = k at *
  by_cases h1 : k = 126
  · subst h1
    go_enter Tryd.func36, Tryd.ntmps36
    go_wp2
    go_ret
    exact ⟨ret_bool (by rw [H.out]; rfl), rfl⟩
  · by_cases h2 : k = 124
    · subst h2
      go_enter Tryd.func36, Tryd.ntmps36
      go_wp2
      go_ret
      exact ⟨ret_bool (by rw [H.out]; rfl), rfl⟩
    · have d1 : ((k : Int) == 126) = false := by rw [beq_eq_false_iff_ne]; omega
      have d2 : ((k : Int) == 124) = false := by rw [beq_eq_false_iff_ne]; omega
      by_cases h3 : k = 125
      · subst h3
        go_enter Tryd.func36, Tryd.ntmps36
        go_wp2
        go_ret
        exact ⟨ret_bool (by rw [H.out]; rfl), rfl⟩
      · have d3 : ((k : Int) == 125) = false := by rw [beq_eq_false_iff_ne]; omega
        have H' := Lib.hid (show b = false by rw [H.out]; simp [h1, h2, h3])
        clear h1 h2 h3 H
        go_enter Tryd.func36, Tryd.ntmps36
        go_wp2
        go_ret
        exact ⟨ret_bool H'.out.symm, rfl⟩

/-- ends: which bytes may be the last ones. -/
def endB (k : Nat) (x : UInt8) : Bool := !(decide ((k = 9 ∧ 1 < x.toNat) ∨ (x.toNat = 0 ∧ 0 < k)))
theorem ends_any (k : Nat) (x : UInt8) (w : World) (hk : k ≤ 9) :
    Calls Tryd.prog 55 #[.int .i64 (k : Int), .int .u8 (x.toNat : Int)] w fun e w' => e = .returned (.bool (endB k x)) ∧ w = w' := by
  have H := Lib.hid (show endB k x = !(decide ((k = 9 ∧ 1 < x.toNat) ∨ (x.toNat = 0 ∧ 0 < k))) from rfl)
  generalize endB k x = b at *
  have hb := x.toNat_lt
  generalize x.toNat = c at *
  by_cases h9 : k = 9
  · subst h9
    by_cases h1 : 1 < c
    · have H' := Lib.hid (show b = false by rw [H.out]; simp [h1])
      go_enter Tryd.func55, Tryd.ntmps55
      go_wp2
      go_ret
      exact ⟨ret_bool H'.out.symm, rfl⟩
    · by_cases h0 : c = 0
      · subst h0
        have H' := Lib.hid (show b = false by rw [H.out]; simp)
        go_enter Tryd.func55, Tryd.ntmps55
        go_wp2
        go_ret
        exact ⟨ret_bool H'.out.symm, rfl⟩
      · obtain rfl : c = 1 := by omega
        have H' := Lib.hid (show b = true by rw [H.out]; simp)
        clear h1 h0
        go_enter Tryd.func55, Tryd.ntmps55
        go_wp2
        go_ret
        exact ⟨ret_bool H'.out.symm, rfl⟩
  · have d9 : ((k : Int) == 9) = false := by rw [beq_eq_false_iff_ne]; omega
    by_cases h0 : c = 0
    · subst h0
      by_cases hk0 : k = 0
      · subst hk0
        have H' := Lib.hid (show b = true by rw [H.out]; simp)
        clear d9 h9
        go_enter Tryd.func55, Tryd.ntmps55
        go_wp2
        go_ret
        exact ⟨ret_bool H'.out.symm, rfl⟩
      · have H' := Lib.hid (show b = false by rw [H.out]; simp; omega)
        have d0 : ((k : Int) == 0) = false := by rw [beq_eq_false_iff_ne]; omega
        clear h9
        go_enter Tryd.func55, Tryd.ntmps55
        go_wp2
        go_ret
        exact ⟨ret_bool H'.out.symm, rfl⟩
    · have H' := Lib.hid (show b = true by rw [H.out]; simp [h9, h0])
      have d0 : ((c : Int) == 0) = false := by rw [beq_eq_false_iff_ne]; omega
      have d0' : ((c : Int) != 0) = true := by rw [bne_iff_ne]; omega
      clear h9
      go_enter Tryd.func55, Tryd.ntmps55
      go_wp2
      go_ret
      exact ⟨ret_bool H'.out.symm, rfl⟩
end Go.Proofs.YtcjbhkocpfkcbaaDoor.Wr
