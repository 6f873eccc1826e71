/- Contracts of Stuff, of package wire and of its reference. -/
import Derived.Test.YtcjbhkocpfkcbaaDoorWireSum
namespace Go.Proofs.YtcjbhkocpfkcbaaDoor.Wr
open Go.ChangeShapes Go.WideShapes Go.ChangeAt Go.RowKit

theorem xor8 (x : UInt8) : bits .xor .u8 (x.toNat : Int) 32 = ((x ^^^ 32).toNat : Int) := by
  have h := u8_xor_nat x.toNat 32 x.toNat_lt (by omega)
  rw [UInt8.toNat_xor]; exact h
theorem esc_take (l : List UInt8) (k : Nat) (h : k < l.length) : (126 :: Wm.esc (l.take k)) ++ (if Wm.mark (l.getD k 0) then [125, l.getD k 0 ^^^ 32] else [l.getD k 0]) = 126 :: Wm.esc (l.take (k + 1)) := by
  rw [take_snoc l k h, Wm.esc_snoc]; rfl
theorem frame_eq (l : List UInt8) (n : Nat) (h : l.length = n) : (126 :: Wm.esc (l.take n)) ++ [124] = Wm.frame l := by
  rw [List.take_of_length_le (by omega)]; rfl

theorem mark_yes (x : UInt8) (w : World) (h : Wm.mark x = true) : Calls Tryd.prog 46 #[.int .u8 (x.toNat : Int)] w fun e w' => e = .returned (.bool true) ∧ w = w' := by
  have := mark_any x w
  rw [h] at this; exact this
theorem mark_no (x : UInt8) (w : World) (h : Wm.mark x = false) : Calls Tryd.prog 46 #[.int .u8 (x.toNat : Int)] w fun e w' => e = .returned (.bool false) ∧ w = w' := by
  have := mark_any x w
  rw [h] at this; exact this
theorem rmark_yes (x : UInt8) (w : World) (h : Wm.mark x = true) : Calls Tryd.prog 36 #[.int .u8 (x.toNat : Int)] w fun e w' => e = .returned (.bool true) ∧ w = w' := by
  have := rmark_any x w
  rw [h] at this; exact this
theorem rmark_no (x : UInt8) (w : World) (h : Wm.mark x = false) : Calls Tryd.prog 36 #[.int .u8 (x.toNat : Int)] w fun e w' => e = .returned (.bool false) ∧ w = w' := by
  have := rmark_any x w
  rw [h] at this; exact this

set_option maxHeartbeats 1600000 in
theorem stuff_any (A : Option Addr) (n c : Nat) (l : List UInt8) (w : World) (h : RB w A n l) (hn : n ≤ 1000000) :
    Calls Tryd.prog 29 #[.slice A n c] w (OwnEnd (Wm.frame l) w) := by
  obtain ⟨hl, hc⟩ := h
  have HL := Lib.hid hl
  have HC := Lib.hid hc
  clear hl hc
  go_enter Tryd.func29, Tryd.ntmps29
  go_wp2_with (first
    | (at_make; refine wpList_mk rfl _ _ rfl _ (n + 2) rfl rfl (by omega) (by omega) ?_; intro w1 hm1; have M1 := Lib.hid hm1; clear hm1)
    | (at_builtin; refine wpList_app rfl (.tmp 9) (.tmp 10) rfl rfl rfl (M1.out.alloc _) (rb_lit _ _ 1 [126] rfl rfl (by omega)) (by omega) 1 rfl ?_; intro A2 c2 w2 hm2 _; have M2 := Lib.hid hm2; clear hm2))
  go_loopw [3, 14] (fun v i wr => ∃ (k N c : Nat) (A : Option Addr), i = .int .i64 k ∧ k ≤ n ∧ v = .slice A N c ∧ N ≤ 2 * k + 1 ∧ Hid (Made w wr A N c (126 :: Wm.esc (l.take k)))) (fun _ i _ => n - (intOf i).toNat)
  case atStart => exact ⟨0, 1, c2, A2, rfl, by omega, rfl, by omega, M2⟩
  case round =>
    obtain ⟨k, N, c3, A3, rfl, hk, rfl, hN, M3⟩ := hrel
    by_cases hlt : k < n
    · obtain ⟨b, off, rfl, cc⟩ := HC.out k hlt
      have c1 := M3.out.gr.cell cc (by simp)
      have HE := Lib.hid (esc_take l k (by rw [HL.out]; exact hlt))
      generalize l.getD k 0 = x at *
      have E1 := xor8 x
      clear cc
      by_cases hmk : Wm.mark x = true
      · have HE' := Lib.hid (show 126 :: Wm.esc (l.take k) ++ [125, x ^^^ 32] = 126 :: Wm.esc (l.take (k + 1)) by rw [← HE.out, if_pos hmk])
        have HM := Lib.hid hmk
        clear hmk
        go_wp2_with fail
        refine (mark_yes x _ HM.out).mono ?_
        rintro e w' ⟨rfl, rfl⟩
        go_wp2_with (at_builtin; refine wpList_app rfl (.tmp 20) (.tmp 23) rfl rfl rfl (M3.out.alloc _) (rb_lit _ _ 2 [125, x ^^^ 32] rfl rfl (by omega)) (by omega) (N + 2) rfl ?_; intro A4 c4 w4 hm4 _; have M4 := Lib.hid hm4; clear hm4)
        go_roundw
        case rel => exact ⟨k + 1, N + 2, c4, A4, by go_num, by omega, rfl, by omega, by rw [← HE'.out]; exact M4⟩
        case measure => simp [intOf]; omega
      · have hmk := eq_false_of_ne_true hmk
        have HE' := Lib.hid (show 126 :: Wm.esc (l.take k) ++ [x] = 126 :: Wm.esc (l.take (k + 1)) by rw [← HE.out, if_neg (by simp [hmk])])
        have HM := Lib.hid hmk
        clear hmk
        go_wp2_with fail
        refine (mark_no x _ HM.out).mono ?_
        rintro e w' ⟨rfl, rfl⟩
        go_wp2_with (at_builtin; refine wpList_app rfl (.tmp 25) (.tmp 27) rfl rfl rfl (M3.out.alloc _) (rb_lit _ _ 1 [x] rfl rfl (by omega)) (by omega) (N + 1) rfl ?_; intro A4 c4 w4 hm4 _; have M4 := Lib.hid hm4; clear hm4)
        go_roundw
        case rel => exact ⟨k + 1, N + 1, c4, A4, by go_num, by omega, rfl, by omega, by rw [← HE'.out]; exact M4⟩
        case measure => simp [intOf]; omega
    · obtain rfl : k = n := by omega
      go_wp2_with (at_builtin; refine wpList_app rfl (.tmp 30) (.tmp 31) rfl rfl rfl (M3.out.alloc _) (rb_lit _ _ 1 [124] rfl rfl (by omega)) (by omega) (N + 1) rfl ?_; intro A4 c4 w4 hm4 _; have M4 := Lib.hid hm4; clear hm4)
      go_ret
      exact ⟨A4, N + 1, c4, rfl, by rw [← frame_eq l k HL.out]; exact M4.out⟩

set_option maxHeartbeats 1600000 in
theorem rstuff_any (A : Option Addr) (n c : Nat) (l : List UInt8) (w : World) (h : RB w A n l) (hn : n ≤ 1000000) :
    Calls Tryd.prog 22 #[.slice A n c] w (OwnEnd (Wm.frame l) w) := by
  obtain ⟨hl, hc⟩ := h
  have HL := Lib.hid hl
  have HC := Lib.hid hc
  clear hl hc
  have M2 := Lib.hid (made_lit w w #[.int .u8 126] 1 [126] rfl rfl (grown_refl _ _) (by omega))
  go_enter Tryd.func22, Tryd.ntmps22
  go_wp2
  go_loopw [3, 4, 8] (fun v _ i wr => ∃ (k N c : Nat) (A : Option Addr), i = .int .i64 k ∧ k ≤ n ∧ v = .slice A N c ∧ N ≤ 2 * k + 1 ∧ Hid (Made w wr A N c (126 :: Wm.esc (l.take k)))) (fun _ _ i _ => n - (intOf i).toNat)
  case atStart => exact ⟨0, 1, 1, _, rfl, by omega, rfl, by omega, M2⟩
  case round =>
    obtain ⟨k, N, c3, A3, rfl, hk, rfl, hN, M3⟩ := hrel
    by_cases hlt : k < n
    · obtain ⟨b, off, rfl, cc⟩ := HC.out k hlt
      have c1 := M3.out.gr.cell cc (by simp)
      have HE := Lib.hid (esc_take l k (by rw [HL.out]; exact hlt))
      generalize l.getD k 0 = x at *
      have E1 := xor8 x
      clear cc
      by_cases hmk : Wm.mark x = true
      · have HE' := Lib.hid (show 126 :: Wm.esc (l.take k) ++ [125, x ^^^ 32] = 126 :: Wm.esc (l.take (k + 1)) by rw [← HE.out, if_pos hmk])
        have HM := Lib.hid hmk
        clear hmk
        go_wp2_with fail
        refine (rmark_yes x _ HM.out).mono ?_
        rintro e w' ⟨rfl, rfl⟩
        go_wp2_with (at_builtin; refine wpList_app rfl (.tmp 16) (.tmp 22) rfl rfl rfl (M3.out.alloc _) (rb_lit _ _ 2 [125, x ^^^ 32] rfl rfl (by omega)) (by omega) (N + 2) rfl ?_; intro A4 c4 w4 hm4 _; have M4 := Lib.hid hm4; clear hm4)
        go_roundw
        case rel => exact ⟨k + 1, N + 2, c4, A4, by go_num, by omega, rfl, by omega, by rw [← HE'.out]; exact M4⟩
        case measure => simp [intOf]; omega
      · have hmk := eq_false_of_ne_true hmk
        have HE' := Lib.hid (show 126 :: Wm.esc (l.take k) ++ [x] = 126 :: Wm.esc (l.take (k + 1)) by rw [← HE.out, if_neg (by simp [hmk])])
        have HM := Lib.hid hmk
        clear hmk
        go_wp2_with fail
        refine (rmark_no x _ HM.out).mono ?_
        rintro e w' ⟨rfl, rfl⟩
        go_wp2_with (at_builtin; refine wpList_app rfl (.tmp 24) (.tmp 29) rfl rfl rfl (M3.out.alloc _) (rb_lit _ _ 1 [x] rfl rfl (by omega)) (by omega) (N + 1) rfl ?_; intro A4 c4 w4 hm4 _; have M4 := Lib.hid hm4; clear hm4)
        go_roundw
        case rel => exact ⟨k + 1, N + 1, c4, A4, by go_num, by omega, rfl, by omega, by rw [← HE'.out]; exact M4⟩
        case measure => simp [intOf]; omega
    · obtain rfl : k = n := by omega
      go_wp2_with (at_builtin; refine wpList_app rfl (.tmp 32) (.tmp 33) rfl rfl rfl (M3.out.alloc _) (rb_lit _ _ 1 [124] rfl rfl (by omega)) (by omega) (N + 1) rfl ?_; intro A4 c4 w4 hm4 _; have M4 := Lib.hid hm4; clear hm4)
      go_ret
      exact ⟨A4, N + 1, c4, rfl, by rw [← frame_eq l k HL.out]; exact M4.out⟩
end Go.Proofs.YtcjbhkocpfkcbaaDoor.Wr
