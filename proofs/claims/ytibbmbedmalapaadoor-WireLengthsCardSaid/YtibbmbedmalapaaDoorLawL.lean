/- The walk of WireLengths. -/
import Derived.Test.YtibbmbedmalapaaDoorUnst
namespace Go.Proofs.YtibbmbedmalapaaDoor
open Go.ChangeShapes Go.WideShapes Go.ChangeAt Go.RowKit

theorem frame_get (l : List UInt8) (i M : Nat) (hM : (Wm.esc l).length = M) (hi : i < M + 2) :
    (i = 0 → (Wm.frame l).getD i 0 = 126) ∧ (i = M + 1 → (Wm.frame l).getD i 0 = 124) ∧ (i ≠ 0 → i ≠ M + 1 → (Wm.frame l).getD i 0 ≠ 126 ∧ (Wm.frame l).getD i 0 ≠ 124) := by
  refine ⟨fun h => by subst h; rfl, fun h => ?_, fun h0 h1 => ?_⟩
  · subst h
    show (126 :: (Wm.esc l ++ [124])).getD (M + 1) 0 = 124
    simp [← hM]
  · obtain ⟨j, rfl⟩ : ∃ j, i = j + 1 := ⟨i - 1, by omega⟩
    have e : (Wm.frame l).getD (j + 1) 0 = (Wm.esc l)[j]'(by omega) := by
      show (126 :: (Wm.esc l ++ [124])).getD (j + 1) 0 = _
      simp [List.getD, List.getElem?_append_left (show j < (Wm.esc l).length by omega), show j < (Wm.esc l).length by omega]
    rw [e]
    exact Wm.esc_inner l _ (List.getElem_mem _)
theorem both_get (a b : List UInt8) (i M : Nat) (hM : (Wm.esc a).length = M) (hi : i < M + 2) :
    (i = M + 1 → (Wm.frame a ++ Wm.frame b).getD i 0 = 124) ∧ (i ≠ M + 1 → (Wm.frame a ++ Wm.frame b).getD i 0 ≠ 124) := by
  have e : (Wm.frame a ++ Wm.frame b).getD i 0 = (Wm.frame a).getD i 0 := by
    have : i < (Wm.frame a).length := by rw [Wm.frame_len]; omega
    simp [List.getD, List.getElem?_append_left this]
  obtain ⟨h1, h2, h3⟩ := frame_get a i M hM hi
  rw [e]
  refine ⟨h2, fun h => ?_⟩
  by_cases h0 : i = 0
  · rw [h1 h0]; decide
  · exact (h3 h0 h).2
theorem RB.drop {w : World} {b off n : Nat} {l : List UInt8} (h : RB w (some ⟨b, off, none⟩) n l) (k m : Nat) (hk : k + m = n) : RB w (some ⟨b, off + k, none⟩) m (l.drop k) := by
  refine ⟨by rw [List.length_drop, h.1]; omega, fun i hi => ?_⟩
  obtain ⟨b', off', e, hc⟩ := h.2 (k + i) (by omega)
  injection e with e
  injection e with e1 e2
  subst e1; subst e2
  exact ⟨b, off + k, rfl, by rw [Nat.add_assoc, hc]; simp [List.getD_eq_getElem?_getD]⟩

theorem un_at {A : Option Addr} {n c : Nat} {w : World} {l r : List UInt8} {v : Int} (h : Calls Tryd.prog 16 #[.slice A n c] w (UnEnd (Wm.unst l) w)) (hr : Wm.unst l = (r, v)) :
    Calls Tryd.prog 16 #[.slice A n c] w fun e w' => ∃ A' n' c', e = .returned (.tuple #[.slice A' n' c', .int .i64 v]) ∧ Made w w' A' n' c' r := by
  rw [hr] at h; exact h

theorem lengths_short (x : Int) (A B : Option Addr) (n c m d : Nat) (w : World) (ht : Tabled w) (hn : n ≤ 9223372036854775807) (hm : m ≤ 9223372036854775807) (h : 200 < n ∨ 200 < m) :
    Calls Tryd.prog 7 #[.int .i64 x, .slice A n c, .slice B m d] w (TrueEnd w) := by
  have HA := Lib.hid (awake_any w ht)
  clear ht
  by_cases h1 : 200 < n
  · clear h
    go_enter Tryd.func7, Tryd.ntmps7
    go_wp2_with fail
    refine HA.out.mono ?_; rintro e w' ⟨rfl, hg⟩
    have G := Lib.hid (grown_below hg)
    clear hg
    go_wp2
    go_ret
    exact ⟨rfl, G.out⟩
  · have h2 : 200 < m := by omega
    clear h
    go_enter Tryd.func7, Tryd.ntmps7
    go_wp2_with fail
    refine HA.out.mono ?_; rintro e w' ⟨rfl, hg⟩
    have G := Lib.hid (grown_below hg)
    clear hg
    go_wp2
    go_ret
    exact ⟨rfl, G.out⟩

set_option maxRecDepth 20000 in
set_option maxHeartbeats 3000000 in
theorem lengths_long (x : Int) (A B : Option Addr) (n c m d : Nat) (l r : List UInt8) (w : World) (ht : Tabled w) (hb : InB w A n c l) (hr : InB w B m d r) (h1 : n ≤ 200) (h2 : m ≤ 200)
    (x1 : -9223372036854775808 ≤ x) (x2 : x ≤ 9223372036854775807) :
    Calls Tryd.prog 7 #[.int .i64 x, .slice A n c, .slice B m d] w (TrueEnd w) := by
  have HL := Lib.hid hb.1
  have HR := Lib.hid hr.1
  have HT := Lib.hid ht
  obtain ⟨M, hM⟩ : ∃ M, (Wm.esc l).length = M := ⟨_, rfl⟩
  obtain ⟨M2, hM2⟩ : ∃ M, (Wm.esc r).length = M := ⟨_, rfl⟩
  have hMl := Wm.esc_len l
  rw [hM, hb.1.1] at hMl
  have hMr := Wm.esc_len r
  rw [hM2, hr.1.1] at hMr
  obtain ⟨_, m1⟩ := hMl
  obtain ⟨_, m2⟩ := hMr
  have HM := Lib.hid hM
  have HM2 := Lib.hid hM2
  obtain ⟨s, hs⟩ : ∃ s, (Wm.enc (Wm.fold x)).length = s := ⟨_, rfl⟩
  have hs10 : s ≤ 10 := by have := Wm.enc_ten _ (Wm.fold_lt x x1 x2); omega
  have HS := Lib.hid hs
  have HF := Lib.hid (Wm.fold_lt x x1 x2)
  clear hb hr ht hM hM2 hs
  go_enter Tryd.func7, Tryd.ntmps7
  go_wp2_with fail
  refine (rfold_any x _ x1 x2).mono ?_
  rintro e w' ⟨rfl, rfl⟩
  go_wp2
  go_loop [7, 8] (fun z u => ∃ (k U : Nat), z = .int .i64 k ∧ u = .int .u64 (U : Int) ∧ U < 18446744073709551616 ∧ k ≤ s ∧ Hid (k + (Wm.enc U).length = s + 1)) (fun _ u => (intOf u).toNat)
  case atStart => exact ⟨1, Wm.fold x, rfl, rfl, HF.out, by have := Wm.enc_pos (Wm.fold x); rw [HS.out] at this; exact this, by rw [HS.out]; exact Nat.add_comm 1 s⟩
  case round =>
    obtain ⟨k, U, rfl, rfl, hU, hk, HK⟩ := hrel
    by_cases hlt : 128 ≤ U
    · have HK' := Lib.hid (show k + 1 + (Wm.enc (U / 128)).length = s + 1 from by
        have := HK.out
        rw [Wm.enc_big U hlt, List.length_cons] at this
        omega)
      have hk' : k + 1 ≤ s := by have := HK'.out; have := Wm.enc_pos (U / 128); omega
      go_wp2
      go_round
      case rel => exact ⟨k + 1, U / 128, by go_num, by go_num, by omega, hk', HK'⟩
      case measure => simp [intOf]; omega
    · obtain rfl : k = s := by have := HK.out; rw [Wm.enc_small U (by omega)] at this; simpa using this
      clear HK hk
      go_wp2_with fail
      refine (own_n (M + 2) (stuff_any A n c l _ HL.out (by omega)) (by rw [Wm.frame_len, HM.out])).mono ?_
      rintro e w1 ⟨A1, c1, rfl, hm1⟩
      have M1 := Lib.hid hm1
      clear hm1
      go_wp2_with fail
      refine (own_n (M2 + 2) (stuff_any B m d r _ (HR.out.grown M1.out.gr) (by omega)) (by rw [Wm.frame_len, HM2.out])).mono ?_
      rintro e w2 ⟨A2, c2, rfl, hm2⟩
      have M1' := Lib.hid (M1.out.keep hm2.gr)
      have R2 := Lib.hid hm2.rb
      clear hm2 M1
      go_wp2_with (at_builtin; refine wpList_app rfl (.tmp 34) (.tmp 36) rfl rfl rfl M1'.out R2.out (by omega) (M + 2 + (M2 + 2)) rfl ?_; intro A3 c3 w3 hm3 _; have M3 := Lib.hid hm3; clear hm3)
      obtain ⟨hc3, hc3', hg3⟩ := M3.out.shape
      obtain ⟨g, rfl, _, _⟩ := hg3 (by omega)
      clear R2 M1'
      go_loop [10, 11, 40] (fun e _ i => ∃ (j : Nat), i = .int .i64 j ∧ j ≤ M + 2 + (M2 + 2) ∧ ((j ≤ M + 1 ∧ e = .int .i64 (-1)) ∨ (M + 2 ≤ j ∧ e = .int .i64 ((M : Int) + 1)))) (fun _ _ i => M + 2 + (M2 + 2) - (intOf i).toNat)
      case atStart => exact ⟨0, rfl, by omega, .inl ⟨by omega, rfl⟩⟩
      case round =>
        obtain ⟨j, rfl, hj, hcase⟩ := hrel
        by_cases hlt2 : j < M + 2 + (M2 + 2)
        · rcases hcase with ⟨hj1, rfl⟩ | ⟨hj1, rfl⟩
          · obtain ⟨g', e, _, _, cc, _⟩ := M3.out.at0 j hlt2
            injection e with e
            injection e with e
            subst e
            obtain ⟨f1, f2⟩ := both_get l r j M HM.out (by omega)
            have F1 := Lib.hid f1
            have F2 := Lib.hid f2
            clear f1 f2
            generalize (Wm.frame l ++ Wm.frame r).getD j 0 = y at *
            have hyl := y.toNat_lt
            by_cases hjm : j = M + 1
            · have e2 : ((y.toNat : Int) == 124) = true := by rw [F1.out hjm]; rfl
              have HJ := Lib.hid hjm
              clear hjm
              go_wp2
              go_round
              case rel => exact ⟨j + 1, by go_num, by omega, .inr ⟨by have := HJ.out; omega, by rw [HJ.out]; go_num⟩⟩
              case measure => simp [intOf]; omega
            · have e2 : ((y.toNat : Int) == 124) = false := by
                rw [beq_eq_false_iff_ne]; intro e; exact F2.out hjm (UInt8.toNat_inj.1 (by have : (124 : UInt8).toNat = 124 := rfl; omega))
              go_wp2
              go_round
              case rel => exact ⟨j + 1, by go_num, by omega, .inl ⟨by omega, rfl⟩⟩
              case measure => simp [intOf]; omega
          · go_wp2
            go_round
            case rel => exact ⟨j + 1, by go_num, by omega, .inr ⟨by omega, rfl⟩⟩
            case measure => simp [intOf]; omega
        · obtain rfl : j = M + 2 + (M2 + 2) := by omega
          rcases hcase with ⟨hj1, rfl⟩ | ⟨_, rfl⟩
          · omega
          · clear hlt2 hj
            go_wp2_with fail
            refine (own_n k (put_any none 0 0 [] x _ (RB.nil _ _) (by omega) x1 x2) (by rw [List.nil_append, HS.out])).mono ?_
            rintro e w4 ⟨A4, c4, rfl, hm4⟩
            have M4 := Lib.hid hm4.gr
            have M3' := Lib.hid (M3.out.keep hm4.gr)
            clear hm4 M3
            have RA := Lib.hid (show RB w4 (some ⟨g, 0, none⟩) (M + 1 + 1) (Wm.frame l) from by
              have := M3'.out.rb.take (M + 2) (by omega)
              rw [List.take_append_of_le_length (by rw [Wm.frame_len, HM.out]; omega), List.take_of_length_le (by rw [Wm.frame_len, HM.out]; omega)] at this
              exact this)
            have RBB := Lib.hid (show RB w4 (some ⟨g, M + 1 + 1, none⟩) (M2 + 2) (Wm.frame r) from by
              have := M3'.out.rb.drop (M + 2) (M2 + 2) rfl
              rw [List.drop_left' (by rw [Wm.frame_len, HM.out]), Nat.zero_add] at this
              exact this)
            have G4 := Lib.hid M3'.out.gr
            have hcc : ¬ c3 = M + 1 + 1 := by omega
            have hsub : M + 2 + (M2 + 2) - (M + 1 + 1) = M2 + 2 := by omega
            clear M3'
            go_wp2_with fail
            refine (un_at (unstuff_any (some ⟨g, 0, none⟩) (M + 1 + 1) c3 (Wm.frame l) _ RA.out (by omega) (by omega) (by omega)) (Wm.unst_frame l)).mono ?_
            rintro e w5 ⟨A5, n5, c5, rfl, hm5⟩
            have R5 := Lib.hid hm5.rb
            have RB5 := Lib.hid (RBB.out.grown hm5.gr)
            have G5 := Lib.hid (grown_trans G4.out hm5.gr)
            clear hm5 RA RBB G4
            go_wp2_with fail
            refine (un_at (unstuff_any (some ⟨g, M + 1 + 1, none⟩) (M2 + 2) _ (Wm.frame r) _ RB5.out (by omega) (by omega) (by omega)) (Wm.unst_frame r)).mono ?_
            rintro e w6 ⟨A6, n6, c6, rfl, hm6⟩
            have k1 := conv_str w6 A5 n5 c5 _ (R5.out.grown hm6.gr)
            have k3 := conv_str w6 A6 n6 c6 _ hm6.rb
            have G6 := Lib.hid (grown_trans G5.out hm6.gr)
            have k2 := conv_str w6 A n c _ (HL.out.grown G6.out)
            have k4 := conv_str w6 B m d _ (HR.out.grown G6.out)
            have HA := Lib.hid (awake_any w6 (HT.out.grown G6.out))
            clear hm6
            go_wp2_with fail
            refine HA.out.mono ?_; rintro e w' ⟨rfl, hg⟩
            have G := Lib.hid (grown_below (grown_trans G6.out hg))
            clear hg
            go_wp2
            go_ret
            exact ⟨rfl, G.out⟩

theorem lengths_walk_row (a0 : Int) (a1 : Option Addr) (len1 cap1 : Nat) (z1 : List Int) (a2 : Option Addr) (len2 cap2 : Nat) (z2 : List Int) (w : World) (ht : Tabled w) (w0 : (Lit.int .i64 a0).wf = true)
    (w1 : IsRow .u8 w a1 len1 cap1 z1) (w2 : IsRow .u8 w a2 len2 cap2 z2) :
    Calls Tryd.prog 7 #[.int .i64 a0, .slice a1 len1 cap1, .slice a2 len2 cap2] w fun e w' => e = .returned (.bool true) ∧ Below w.heap.size w w' := by
  have h1 := inB w1
  have h2 := inB w2
  by_cases h : 200 < len1 ∨ 200 < len2
  · exact lengths_short a0 a1 a2 len1 cap1 len2 cap2 w ht (by have := h1.2; omega) (by have := h2.2; omega) h
  · exact lengths_long a0 a1 a2 len1 cap1 len2 cap2 _ _ w ht h1 h2 (by omega) (by omega) (bounds_i64 w0).1 (bounds_i64 w0).2
end Go.Proofs.YtibbmbedmalapaaDoor
