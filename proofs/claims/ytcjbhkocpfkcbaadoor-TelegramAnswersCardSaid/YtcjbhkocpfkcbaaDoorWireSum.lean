/- Contracts of Sum, of package wire and of its reference. -/
import Derived.Test.YtcjbhkocpfkcbaaDoorWireSmall
namespace Go.Proofs.YtcjbhkocpfkcbaaDoor.Wr
open Go.ChangeShapes Go.WideShapes Go.ChangeAt Go.RowKit

/-- The table lies in its variable. -/
def Tabled (w : World) : Prop := ∀ i, i < 16 → w.cell? ⟨0, i, none⟩ = some (.int .u32 ((Wm.tab i : Nat) : Int))
theorem Tabled.grown {w w' : World} (h : Tabled w) (hg : w.grownBy w' none) : Tabled w' := fun i hi => hg.cell (h i hi) (by simp)

theorem xor32_nat (a b c : Nat) (ha : a < 4294967296) (hb : b < 4294967296) (h : a ^^^ b = c) : bits .xor .u32 (a : Int) (b : Int) = (c : Int) := by rw [u32_xor_nat a b ha hb, h]
theorem and32_nat (a c : Nat) (ha : a < 4294967296) (h : a &&& 15 = c) : bits .and .u32 (a : Int) 15 = (c : Int) := by
  have := u32_and_nat a 15 ha (by omega)
  rw [h] at this; exact this

theorem and32_one (a : Nat) (ha : a < 4294967296) : bits .and .u32 (a : Int) 1 = ((a % 2 : Nat) : Int) := by
  have := u32_and_nat a 1 ha (by omega)
  rw [Wm.and1_mod] at this; exact this
theorem not32 (a : Nat) (h : a < 4294967296) : bits .xor .u32 IntKind.u32.max (a : Int) = ((4294967295 - a : Nat) : Int) := by
  have e := congrArg BitVec.toNat (BitVec.xor_allOnes (x := BitVec.ofNat 32 a))
  rw [BitVec.toNat_xor, BitVec.toNat_not, BitVec.toNat_ofNat, BitVec.toNat_allOnes, Nat.mod_eq_of_lt (by omega)] at e
  have e : a ^^^ 4294967295 = 4294967295 - a := by simpa using e
  exact xor32_nat 4294967295 a _ (by omega) h (by rw [Nat.xor_comm, e])

theorem take_snoc (l : List UInt8) (k : Nat) (h : k < l.length) : l.take (k + 1) = l.take k ++ [l.getD k 0] := by
  rw [List.take_succ_eq_append_getElem h]; simp [List.getD, h]

set_option maxHeartbeats 400000 in
theorem sum_any (A : Option Addr) (n c : Nat) (l : List UInt8) (w : World) (h : RB w A n l) (ht : Tabled w) (hn : n ≤ 9223372036854775807) :
    Calls Tryd.prog 47 #[.slice A n c] w fun e w' => e = .returned (.int .u32 ((Wm.crc l : Nat) : Int)) ∧ w = w' := by
  obtain ⟨hl, hc⟩ := h
  have HL := Lib.hid hl
  have HC := Lib.hid hc
  have HT := Lib.hid ht
  clear hl hc ht
  go_enter Tryd.func47, Tryd.ntmps47
  go_wp2
  go_loop [3, 8] (fun r i => ∃ k : Nat, i = .int .i64 k ∧ k ≤ n ∧ r = .int .u32 ((Wm.reg (l.take k) : Nat) : Int)) (fun _ i => n - (intOf i).toNat)
  case atStart => exact ⟨0, rfl, by omega, rfl⟩
  case round =>
    obtain ⟨k, rfl, hk, rfl⟩ := hrel
    have hr := Wm.reg_lt (l.take k)
    by_cases hlt : k < n
    · obtain ⟨b, off, rfl, c1⟩ := HC.out k hlt
      have HS := Lib.hid (show Wm.reg (l.take (k + 1)) = Wm.upd (Wm.reg (l.take k)) (l.getD k 0) by rw [take_snoc l k (by rw [HL.out]; exact hlt), Wm.reg_snoc])
      generalize l.getD k 0 = x at *
      generalize Wm.reg (l.take k) = r at *
      have hx := x.toNat_lt
      obtain ⟨a, ha⟩ : ∃ a, r ^^^ x.toNat = a := ⟨_, rfl⟩
      obtain ⟨b1, hb1⟩ : ∃ b, Wm.nib a = b := ⟨_, rfl⟩
      obtain ⟨b2, hb2⟩ : ∃ b, Wm.nib b1 = b := ⟨_, rfl⟩
      obtain ⟨i1, hi1⟩ : ∃ b, a &&& 15 = b := ⟨_, rfl⟩
      obtain ⟨i2, hi2⟩ : ∃ b, b1 &&& 15 = b := ⟨_, rfl⟩
      have ha2 : a < 4294967296 := by rw [← ha]; exact Wm.xor_lt hr (by omega)
      have hb12 : b1 < 4294967296 := by rw [← hb1]; exact Wm.nib_lt _ ha2
      have hi1' : i1 < 16 := by rw [← hi1]; exact Wm.and15_lt _
      have hi2' : i2 < 16 := by rw [← hi2]; exact Wm.and15_lt _
      have d1 := HT.out i1 hi1'
      have d2 := HT.out i2 hi2'
      have t1 := Wm.tab_lt i1 hi1'
      have t2 := Wm.tab_lt i2 hi2'
      have E1 := xor32_nat r x.toNat a hr (by omega) ha
      have E2 := and32_nat a i1 ha2 hi1
      have E3 : bits .xor .u32 ((a : Int) / 16) ((Wm.tab i1 : Nat) : Int) = (b1 : Int) := xor32_nat (a / 16) (Wm.tab i1) b1 (by omega) t1 (by rw [← hb1, ← hi1]; rfl)
      have E4 := and32_nat b1 i2 hb12 hi2
      have E5 : bits .xor .u32 ((b1 : Int) / 16) ((Wm.tab i2 : Nat) : Int) = (b2 : Int) := xor32_nat (b1 / 16) (Wm.tab i2) b2 (by omega) t2 (by rw [← hb2, ← hi2]; rfl)
      have HS' := Lib.hid (show Wm.reg (l.take (k + 1)) = b2 by rw [HS.out, ← hb2, ← hb1, ← ha]; rfl)
      generalize Wm.tab i1 = u1 at *
      generalize Wm.tab i2 = u2 at *
      clear ha hb1 hb2 hi1 hi2 HS
      go_wp2
      go_round
      case rel => exact ⟨k + 1, by go_num, by omega, by rw [HS'.out]⟩
      case measure => simp [intOf]; omega
    · obtain rfl : k = n := by omega
      go_wp2
      go_ret
      refine ⟨ret_int ?_, rfl⟩
      have e : l.take k = l := List.take_of_length_le (by rw [HL.out]; omega)
      rw [e] at hr ⊢
      exact not32 _ hr

set_option maxHeartbeats 800000 in
theorem rsum_any (A : Option Addr) (n c : Nat) (l : List UInt8) (w : World) (h : RB w A n l) (hn : n ≤ 9223372036854775807) :
    Calls Tryd.prog 37 #[.slice A n c] w fun e w' => e = .returned (.int .u32 ((Wm.crc l : Nat) : Int)) ∧ w = w' := by
  obtain ⟨hl, hc⟩ := h
  have HL := Lib.hid hl
  have HC := Lib.hid hc
  clear hl hc
  go_enter Tryd.func37, Tryd.ntmps37
  go_wp2
  go_loop [3, 4, 5, 6, 9] (fun r _ _ _ i => ∃ k : Nat, i = .int .i64 k ∧ k ≤ n ∧ r = .int .u32 ((Wm.reg (l.take k) : Nat) : Int)) (fun _ _ _ _ i => n - (intOf i).toNat)
  case atStart => exact ⟨0, rfl, by omega, rfl⟩
  case round =>
    obtain ⟨k, rfl, hk, rfl⟩ := hrel
    have hr := Wm.reg_lt (l.take k)
    by_cases hlt : k < n
    · obtain ⟨b, off, rfl, c1⟩ := HC.out k hlt
      have HS := Lib.hid (show Wm.reg (l.take (k + 1)) = Wm.upd (Wm.reg (l.take k)) (l.getD k 0) by rw [take_snoc l k (by rw [HL.out]; exact hlt), Wm.reg_snoc])
      generalize l.getD k 0 = x at *
      generalize Wm.reg (l.take k) = r at *
      have hx := x.toNat_lt
      obtain ⟨a, ha⟩ : ∃ a, r ^^^ x.toNat = a := ⟨_, rfl⟩
      have ha2 : a < 4294967296 := by rw [← ha]; exact Wm.xor_lt hr (by omega)
      have E1 := xor32_nat r x.toNat a hr (by omega) ha
      have HS' := Lib.hid (show Wm.reg (l.take (k + 1)) = Wm.bitsN 8 a by rw [HS.out, Wm.bits8, ← ha]; rfl)
      clear ha HS
      go_wp2
      go_loop [3, 5, 6] (fun r j _ => ∃ i : Nat, j = .int .i64 i ∧ i ≤ 8 ∧ r = .int .u32 ((Wm.bitsN i a : Nat) : Int)) (fun _ j _ => 8 - (intOf j).toNat)
      case atStart => exact ⟨0, rfl, by omega, rfl⟩
      case round =>
        obtain ⟨i, rfl, hi, rfl⟩ := hrel
        have hb := Wm.bitsN_lt i a ha2
        by_cases hlt2 : i < 8
        · have HB := Lib.hid (show Wm.bitsN (i + 1) a = Wm.bit (Wm.bitsN i a) from rfl)
          generalize Wm.bitsN i a = v at *
          have E2 := and32_one v hb
          by_cases h1 : v % 2 = 1
          · have HB' := Lib.hid (show Wm.bitsN (i + 1) a = (v / 2) ^^^ 3988292384 by rw [HB.out]; unfold Wm.bit; rw [Wm.and1_mod, if_pos h1])
            have d1 : (((v % 2 : Nat) : Int) == 1) = true := by rw [h1]; rfl
            have E3 : bits .xor .u32 ((v : Int) / 2) 3988292384 = ((v / 2 ^^^ 3988292384 : Nat) : Int) := xor32_nat (v / 2) 3988292384 _ (by omega) (by omega) rfl
            generalize v / 2 ^^^ 3988292384 = z at *
            rw [h1] at E2
            clear HB h1 d1
            go_wp2
            go_round
            case rel => exact ⟨i + 1, by go_num, by omega, by rw [HB'.out]⟩
            case measure => simp [intOf]; omega
          · have h1 : v % 2 = 0 := by omega
            have HB' := Lib.hid (show Wm.bitsN (i + 1) a = v / 2 by rw [HB.out]; unfold Wm.bit; rw [Wm.and1_mod, if_neg (by omega)])
            rw [h1] at E2
            clear HB h1
            go_wp2
            go_round
            case rel => exact ⟨i + 1, by go_num, by omega, by rw [HB'.out]; go_num⟩
            case measure => simp [intOf]; omega
        · obtain rfl : i = 8 := by omega
          rw [← HS'.out]
          go_wp2
          go_round
          case rel => exact ⟨k + 1, by go_num, by omega, rfl⟩
          case measure => simp [intOf]; omega
    · obtain rfl : k = n := by omega
      go_wp2
      go_ret
      refine ⟨ret_int ?_, rfl⟩
      have e : l.take k = l := List.take_of_length_le (by rw [HL.out]; omega)
      rw [e] at hr ⊢
      exact not32 _ hr
end Go.Proofs.YtcjbhkocpfkcbaaDoor.Wr
