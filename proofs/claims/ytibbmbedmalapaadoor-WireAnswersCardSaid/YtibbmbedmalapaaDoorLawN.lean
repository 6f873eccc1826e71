/- The walk of WireNumbers. -/
import Derived.Test.YtibbmbedmalapaaDoorLaid
import Derived.Test.YtibbmbedmalapaaDoorPut
namespace Go.Proofs.YtibbmbedmalapaaDoor
open Go.ChangeShapes Go.WideShapes Go.ChangeAt Go.RowKit

theorem RB.take {w : World} {A : Option Addr} {n : Nat} {l : List UInt8} (h : RB w A n l) (k : Nat) (hk : k ≤ n) : RB w A k (l.take k) := by
  refine ⟨by rw [List.length_take, h.1]; omega, fun i hi => ?_⟩
  obtain ⟨b, off, e, hc⟩ := h.2 i (by omega)
  exact ⟨b, off, e, by rw [hc]; simp [List.getD_eq_getElem?_getD, List.getElem?_take, hi]⟩

def OwnN (l : List UInt8) (N : Nat) (w : World) (e : Ending) (w' : World) : Prop := ∃ A c, e = .returned (.slice A N c) ∧ Made w w' A N c l
theorem own_n {f : FuncId} {args : Array Value} {l : List UInt8} {w : World} (N : Nat) (h : Calls Tryd.prog f args w (OwnEnd l w)) (hN : l.length = N) : Calls Tryd.prog f args w (OwnN l N w) :=
  h.mono fun e w' ⟨A, n, c, he, hm⟩ => by
    have := hm.len
    obtain rfl : n = N := by omega
    exact ⟨A, c, he, hm⟩

theorem numbers_short (x y : Int) (A B : Option Addr) (n c m d : Nat) (w : World) (ht : Tabled w) (hn : n ≤ 9223372036854775807) (hm : m ≤ 9223372036854775807) (h : 100 < n ∨ 100 < m) :
    Calls Tryd.prog 4 #[.int .i64 x, .int .i64 y, .slice A n c, .slice B m d] w (TrueEnd w) := by
  have HA := Lib.hid (awake_any w ht)
  clear ht
  by_cases h1 : 100 < n
  · clear h
    go_enter Tryd.func4, Tryd.ntmps4
    go_wp2_with fail
    refine HA.out.mono ?_; rintro e w' ⟨rfl, hg⟩
    have G := Lib.hid (grown_below hg)
    clear hg
    go_wp2
    go_ret
    exact ⟨rfl, G.out⟩
  · have h2 : 100 < m := by omega
    clear h
    go_enter Tryd.func4, Tryd.ntmps4
    go_wp2_with fail
    refine HA.out.mono ?_; rintro e w' ⟨rfl, hg⟩
    have G := Lib.hid (grown_below hg)
    clear hg
    go_wp2
    go_ret
    exact ⟨rfl, G.out⟩

set_option maxRecDepth 20000 in
set_option maxHeartbeats 2000000 in
theorem numbers_long (x y : Int) (A B : Option Addr) (n c m d : Nat) (l r : List UInt8) (w : World) (ht : Tabled w) (hb : InB w A n c l) (hr : InB w B m d r) (h1 : n ≤ 100) (h2 : m ≤ 100)
    (x1 : -9223372036854775808 ≤ x) (x2 : x ≤ 9223372036854775807) (y1 : -9223372036854775808 ≤ y) (y2 : y ≤ 9223372036854775807) :
    Calls Tryd.prog 4 #[.int .i64 x, .int .i64 y, .slice A n c, .slice B m d] w (TrueEnd w) := by
  have HL := Lib.hid hb.1
  have HR := Lib.hid hr.1
  have HT := Lib.hid ht
  clear hb hr ht
  obtain ⟨k, hk⟩ : ∃ k, (Wm.enc (Wm.fold x)).length = k + 1 := ⟨(Wm.enc (Wm.fold x)).length - 1, by have := Wm.enc_pos (Wm.fold x); omega⟩
  obtain ⟨j, hj⟩ : ∃ j, (Wm.enc (Wm.fold y)).length = j + 1 := ⟨(Wm.enc (Wm.fold y)).length - 1, by have := Wm.enc_pos (Wm.fold y); omega⟩
  have hk10 : k ≤ 9 := by have := Wm.enc_ten _ (Wm.fold_lt x x1 x2); omega
  have hj10 : j ≤ 9 := by have := Wm.enc_ten _ (Wm.fold_lt y y1 y2); omega
  obtain ⟨q, hq⟩ : ∃ q, n + k = q := ⟨_, rfl⟩
  obtain ⟨N, hN⟩ : ∃ N, q + 1 + (j + 1) = N := ⟨_, rfl⟩
  have q1 : n ≤ q := by omega
  have q2 : q ≤ n + 9 := by omega
  have q3 : q + 1 < N := by omega
  have q4 : N ≤ n + 20 := by omega
  have q5 : n + 2 ≤ N := by omega
  have HK := Lib.hid (show (Wm.enc (Wm.fold x)).length = k + 1 from hk)
  have HJ := Lib.hid (show (Wm.enc (Wm.fold y)).length = j + 1 from hj)
  have HQ := Lib.hid hq
  have HN := Lib.hid hN
  have I1 := Lib.hid (show Wm.intR (([] ++ ((l ++ Wm.enc (Wm.fold x)) ++ Wm.enc (Wm.fold y))) ++ r) (n : Int) = (x, (q : Int) + 1, 0) from by
    have := Wm.intR_enc l (Wm.enc (Wm.fold y) ++ r) x x1 x2
    rw [HL.out.1, hk] at this
    rw [show (([] ++ ((l ++ Wm.enc (Wm.fold x)) ++ Wm.enc (Wm.fold y))) ++ r) = l ++ (Wm.enc (Wm.fold x) ++ (Wm.enc (Wm.fold y) ++ r)) by simp, this]
    simp; omega)
  have I2 := Lib.hid (show Wm.intR ((l ++ Wm.enc (Wm.fold x)) ++ Wm.enc (Wm.fold y)) ((q : Int) + 1) = (y, (N : Int), 0) from by
    have := Wm.intR_enc (l ++ Wm.enc (Wm.fold x)) [] y y1 y2
    rw [List.length_append, HL.out.1, hk, hj, List.append_nil] at this
    rw [show (q : Int) + 1 = ((n + (k + 1) : Nat) : Int) by omega, this]
    simp; omega)
  have I3 := Lib.hid (show Wm.intR (((l ++ Wm.enc (Wm.fold x)) ++ Wm.enc (Wm.fold y)).take q) (n : Int) = (0, 0, 2) from by
    have := Wm.intR_cut l x k x1 x2 (by omega)
    rw [HL.out.1] at this
    rw [List.append_assoc, List.take_append, List.take_of_length_le (by rw [HL.out.1]; omega), HL.out.1, show q - n = k by omega, List.take_append_of_le_length (by rw [hk]; omega), this])
  clear hk hj hq hN hk10 hj10
  go_enter Tryd.func4, Tryd.ntmps4
  go_wp2_with fail
  refine (own_n (q + 1) (put_any A n c l x _ HL.out (by omega) x1 x2) (by rw [List.length_append, HL.out.1, HK.out, ← HQ.out]; omega)).mono ?_
  rintro e w1 ⟨A1, c1, rfl, hm1⟩
  have M1 := Lib.hid hm1
  clear hm1
  go_wp2_with fail
  refine (own_n N (put_any A1 (q + 1) c1 _ y _ M1.out.rb (by omega) y1 y2) (by rw [List.length_append, M1.out.len, HJ.out, ← HN.out])).mono ?_
  rintro e w2 ⟨A2, c2, rfl, hm2⟩
  obtain ⟨hc2, hc2', _⟩ := hm2.shape
  have G2 := Lib.hid (grown_trans M1.out.gr hm2.gr)
  have R2 := Lib.hid hm2.rb
  clear hm2
  have M3 := Lib.hid (made_lit w2 w2 #[] 0 [] rfl rfl (grown_refl _ _) (by omega))
  go_wp2_with (first
    | (at_builtin; refine wpList_app rfl (.tmp 48) (.tmp 49) rfl rfl rfl M3.out (R2.out.grown (grown_alloc _ _ _)) (by omega) N (by omega) ?_; intro A4 c4 w4 hm4 _; have M4 := Lib.hid hm4; clear hm4)
    | (at_builtin; refine wpList_app rfl (.tmp 50) (.tmp 51) rfl rfl rfl M4.out (HR.out.grown (grown_trans G2.out M4.out.gr)) (by omega) (N + m) (by omega) ?_; intro A5 c5 w5 hm5 _; have M5 := Lib.hid hm5; clear hm5))
  refine (int_at (int_any A5 (N + m) c5 _ (n : Int) _ M5.out.rb M5.out.shape.1 M5.out.shape.2.1 (by omega) (by omega) (by omega)) I1.out).mono ?_
  rintro e w' ⟨rfl, rfl⟩
  have R5 := Lib.hid (R2.out.grown M5.out.gr)
  have G5 := Lib.hid (grown_trans G2.out M5.out.gr)
  clear R2 M5 M4 M3
  go_wp2_with fail
  refine (int_at (int_any A2 N c2 _ ((q : Int) + 1) _ R5.out (by omega) (by omega) (by omega) (by omega) (by omega)) I2.out).mono ?_
  rintro e w' ⟨rfl, rfl⟩
  go_wp2_with fail
  refine (int_at (int_any A2 q c2 _ (n : Int) _ (R5.out.take q (by omega)) (by omega) (by omega) (by omega) (by omega) (by omega)) I3.out).mono ?_
  rintro e w' ⟨rfl, rfl⟩
  have HA := Lib.hid (awake_any w5 (HT.out.grown G5.out))
  go_wp2_with fail
  refine HA.out.mono ?_; rintro e w' ⟨rfl, hg3⟩
  have G := Lib.hid (grown_below (grown_trans G5.out hg3))
  clear hg3
  go_wp2
  go_ret
  exact ⟨rfl, G.out⟩

theorem numbers_walk_row (a0 a1 : Int) (a2 : Option Addr) (len2 cap2 : Nat) (z2 : List Int) (a3 : Option Addr) (len3 cap3 : Nat) (z3 : List Int) (w : World) (ht : Tabled w) (w0 : (Lit.int .i64 a0).wf = true) (w1 : (Lit.int .i64 a1).wf = true)
    (w2 : IsRow .u8 w a2 len2 cap2 z2) (w3 : IsRow .u8 w a3 len3 cap3 z3) :
    Calls Tryd.prog 4 #[.int .i64 a0, .int .i64 a1, .slice a2 len2 cap2, .slice a3 len3 cap3] w fun e w' => e = .returned (.bool true) ∧ Below w.heap.size w w' := by
  have h2 := inB w2
  have h3 := inB w3
  by_cases h : 100 < len2 ∨ 100 < len3
  · exact numbers_short a0 a1 a2 a3 len2 cap2 len3 cap3 w ht (by have := h2.2; omega) (by have := h3.2; omega) h
  · exact numbers_long a0 a1 a2 a3 len2 cap2 len3 cap3 _ _ w ht h2 h3 (by omega) (by omega) (bounds_i64 w0).1 (bounds_i64 w0).2 (bounds_i64 w1).1 (bounds_i64 w1).2
end Go.Proofs.YtibbmbedmalapaaDoor
