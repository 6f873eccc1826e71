/- Contracts of PutInt, of package wire and of its reference. -/
import Derived.Test.YtcjbhkocpfkcbaaDoorWireSum
namespace Go.Proofs.YtcjbhkocpfkcbaaDoor.Wr
open Go.ChangeShapes Go.WideShapes Go.ChangeAt Go.RowKit

theorem or128 (u : Nat) : bits .or .u8 ((u : Int) % 256) 128 = (((UInt8.ofNat (u % 128 + 128)).toNat : Nat) : Int) := by
  have h := u8_or_nat (u % 256) 128 (by omega) (by omega)
  rw [Wm.ofNat_toNat _ (by omega)]
  rw [Int.natCast_emod] at h
  refine h.trans ?_
  have e : (u % 256) ||| 128 = u % 128 + 128 := by
    have h1 : 128 + u % 128 = 128 ||| u % 128 := Nat.two_pow_add_eq_or_of_lt (i := 7) (b := u % 128) (by omega) 1
    have h2 : u % 256 = u % 128 ∨ u % 256 = u % 128 + 128 := by omega
    rcases h2 with h2 | h2
    · rw [h2, Nat.or_comm]; omega
    · rw [h2, show u % 128 + 128 = 128 ||| u % 128 by omega, Nat.or_comm (128 ||| u % 128), ← Nat.or_assoc, Nat.or_self]
  rw [e]

theorem rem128 (u : Nat) : ((u : Int) % 128 + 128) = (((UInt8.ofNat (u % 128 + 128)).toNat : Nat) : Int) := by
  rw [Wm.ofNat_toNat _ (by omega)]; omega

set_option maxRecDepth 20000 in
set_option maxHeartbeats 1600000 in
theorem put_any (A : Option Addr) (n c : Nat) (l : List UInt8) (x : Int) (w : World) (h : RB w A n l) (hn : n ≤ 1000000) (h1 : -9223372036854775808 ≤ x) (h2 : x ≤ 9223372036854775807) :
    Calls Tryd.prog 45 #[.slice A n c, .int .i64 x] w (OwnEnd (l ++ Wm.enc (Wm.fold x)) w) := by
  have HB := Lib.hid h
  clear h
  go_enter Tryd.func45, Tryd.ntmps45
  go_wp2_with (first
    | (at_make; refine wpList_mk rfl _ _ rfl _ (n + 10) rfl rfl (by omega) (by omega) ?_; intro w1 hm1; have M1 := Lib.hid hm1; clear hm1)
    | (at_builtin; refine wpList_app rfl (.tmp 10) (.tmp 11) rfl rfl rfl M1.out (HB.out.grown M1.out.gr) (by omega) n (by omega) ?_; intro A2 c2 w2 hm2 _; have M2 := Lib.hid (show Made w w2 A2 n c2 (l ++ []) by simpa using hm2); clear hm2))
  refine (fold_any x _ h1 h2).mono ?_
  rintro e w' ⟨rfl, rfl⟩
  have hF := Wm.fold_lt x h1 h2
  have hE := Wm.enc_ten _ hF
  generalize Wm.fold x = F at *
  go_wp2
  go_loopw [5, 6] (fun v u wr => ∃ (U N c : Nat) (A : Option Addr) (pre : List UInt8), u = .int .u64 (U : Int) ∧ U < 18446744073709551616 ∧ v = .slice A N c ∧ N ≤ n + 10 ∧ Hid (Made w wr A N c (l ++ pre)) ∧ Hid (pre ++ Wm.enc U = Wm.enc F)) (fun _ u _ => (intOf u).toNat)
  case atStart => exact ⟨F, n, c2, A2, [], rfl, hF, rfl, by omega, M2, rfl⟩
  case round =>
    obtain ⟨U, N, c3, A3, pre, rfl, hU, rfl, hN, M3, HP⟩ := hrel
    have hN2 : N + (Wm.enc U).length ≤ n + 10 := by
      have h1 := M3.out.len
      have h2 := congrArg List.length HP.out
      have h3 := HB.out.1
      simp only [List.length_append] at h1 h2
      omega
    have hp := Wm.enc_pos U
    by_cases hlt : 128 ≤ U
    · obtain ⟨y, hy⟩ : ∃ y, UInt8.ofNat (U % 128 + 128) = y := ⟨_, rfl⟩
      have HS := Lib.hid (show (l ++ pre) ++ [y] = l ++ (pre ++ [y]) ∧ (pre ++ [y]) ++ Wm.enc (U / 128) = Wm.enc F from ⟨by simp, by rw [← HP.out, Wm.enc_big U hlt, hy]; simp⟩)
      have hl2 : N + 1 ≤ n + 10 := by omega
      have E1 := or128 U
      rw [hy] at E1
      have hyl := y.toNat_lt
      clear hy hN2 hp
      go_wp2_with (at_builtin; refine wpList_app rfl (.tmp 19) (.tmp 23) rfl rfl rfl (M3.out.alloc _) (rb_lit _ _ 1 [y] rfl rfl (by omega)) (by omega) (N + 1) rfl ?_; intro A4 c4 w4 hm4 _; have M4 := Lib.hid hm4; clear hm4)
      go_roundw
      case rel => exact ⟨U / 128, N + 1, c4, A4, pre ++ [y], by go_num, by omega, rfl, hl2, by rw [← HS.out.1]; exact M4, HS.out.2⟩
      case measure => simp [intOf]; omega
    · obtain ⟨y, hy⟩ : ∃ y, UInt8.ofNat U = y := ⟨_, rfl⟩
      have hyU : U = y.toNat := by rw [← hy, Wm.ofNat_toNat U (by omega)]
      have HS := Lib.hid (show (l ++ pre) ++ [y] = l ++ Wm.enc F by rw [← HP.out, Wm.enc_small U (by omega), hy, List.append_assoc])
      have hl2 : N + 1 ≤ n + 10 := by omega
      clear hy hN2 hp HP
      subst hyU
      go_wp2_with (at_builtin; refine wpList_app rfl (.tmp 25) (.tmp 28) rfl rfl rfl (M3.out.alloc _) (rb_lit _ _ 1 [y] rfl rfl (by omega)) (by omega) (N + 1) rfl ?_; intro A4 c4 w4 hm4 _; have M4 := Lib.hid hm4; clear hm4)
      go_ret
      exact ⟨A4, N + 1, c4, rfl, by rw [← HS.out]; exact M4.out⟩

set_option maxRecDepth 20000 in
set_option maxHeartbeats 1600000 in
theorem rput_any (A : Option Addr) (n c : Nat) (l : List UInt8) (x : Int) (w : World) (h : RB w A n l) (hn : n ≤ 1000000) (h1 : -9223372036854775808 ≤ x) (h2 : x ≤ 9223372036854775807) :
    Calls Tryd.prog 20 #[.slice A n c, .int .i64 x] w (OwnEnd (l ++ Wm.enc (Wm.fold x)) w) := by
  have HB := Lib.hid h
  clear h
  go_enter Tryd.func20, Tryd.ntmps20
  have M1 := Lib.hid (made_lit w w #[] 0 [] rfl rfl (grown_refl _ _) (by omega))
  go_wp2_with (at_builtin; refine wpList_app rfl (.tmp 7) (.tmp 8) rfl rfl rfl M1.out (HB.out.grown M1.out.gr) (by omega) n (by omega) ?_; intro A2 c2 w2 hm2 _; have M2 := Lib.hid (show Made w w2 A2 n c2 (l ++ []) by simpa using hm2); clear hm2)
  refine (rfold_any x _ h1 h2).mono ?_
  rintro e w' ⟨rfl, rfl⟩
  have hF := Wm.fold_lt x h1 h2
  have hE := Wm.enc_ten _ hF
  generalize Wm.fold x = F at *
  go_wp2
  go_loopw [5, 6] (fun v u wr => ∃ (U N c : Nat) (A : Option Addr) (pre : List UInt8), u = .int .u64 (U : Int) ∧ U < 18446744073709551616 ∧ v = .slice A N c ∧ N ≤ n + 10 ∧ Hid (Made w wr A N c (l ++ pre)) ∧ Hid (pre ++ Wm.enc U = Wm.enc F)) (fun _ u _ => (intOf u).toNat)
  case atStart => exact ⟨F, n, c2, A2, [], rfl, hF, rfl, by omega, M2, rfl⟩
  case round =>
    obtain ⟨U, N, c3, A3, pre, rfl, hU, rfl, hN, M3, HP⟩ := hrel
    have hN2 : N + (Wm.enc U).length ≤ n + 10 := by
      have h1 := M3.out.len
      have h2 := congrArg List.length HP.out
      have h3 := HB.out.1
      simp only [List.length_append] at h1 h2
      omega
    have hp := Wm.enc_pos U
    by_cases hlt : 128 ≤ U
    · obtain ⟨y, hy⟩ : ∃ y, UInt8.ofNat (U % 128 + 128) = y := ⟨_, rfl⟩
      have HS := Lib.hid (show (l ++ pre) ++ [y] = l ++ (pre ++ [y]) ∧ (pre ++ [y]) ++ Wm.enc (U / 128) = Wm.enc F from ⟨by simp, by rw [← HP.out, Wm.enc_big U hlt, hy]; simp⟩)
      have hl2 : N + 1 ≤ n + 10 := by omega
      have E1 := rem128 U
      rw [hy] at E1
      have hyl := y.toNat_lt
      clear hy hN2 hp
      go_wp2_with (at_builtin; refine wpList_app rfl (.tmp 14) (.tmp 19) rfl rfl rfl (M3.out.alloc _) (rb_lit _ _ 1 [y] rfl rfl (by omega)) (by omega) (N + 1) rfl ?_; intro A4 c4 w4 hm4 _; have M4 := Lib.hid hm4; clear hm4)
      go_roundw
      case rel => exact ⟨U / 128, N + 1, c4, A4, pre ++ [y], by go_num, by omega, rfl, hl2, by rw [← HS.out.1]; exact M4, HS.out.2⟩
      case measure => simp [intOf]; omega
    · obtain ⟨y, hy⟩ : ∃ y, UInt8.ofNat U = y := ⟨_, rfl⟩
      have hyU : U = y.toNat := by rw [← hy, Wm.ofNat_toNat U (by omega)]
      have HS := Lib.hid (show (l ++ pre) ++ [y] = l ++ Wm.enc F by rw [← HP.out, Wm.enc_small U (by omega), hy, List.append_assoc])
      have hl2 : N + 1 ≤ n + 10 := by omega
      clear hy hN2 hp HP
      subst hyU
      go_wp2_with (at_builtin; refine wpList_app rfl (.tmp 23) (.tmp 26) rfl rfl rfl (M3.out.alloc _) (rb_lit _ _ 1 [y] rfl rfl (by omega)) (by omega) (N + 1) rfl ?_; intro A4 c4 w4 hm4 _; have M4 := Lib.hid hm4; clear hm4)
      go_ret
      exact ⟨A4, N + 1, c4, rfl, by rw [← HS.out]; exact M4.out⟩
end Go.Proofs.YtcjbhkocpfkcbaaDoor.Wr
