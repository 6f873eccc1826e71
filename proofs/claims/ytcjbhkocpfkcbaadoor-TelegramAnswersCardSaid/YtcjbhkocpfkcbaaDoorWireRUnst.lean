/- The contract of the reference's Unstuff. -/
import Derived.Test.YtcjbhkocpfkcbaaDoorWireUnst
import Derived.Deep.RegionWith
namespace Go.Proofs.YtcjbhkocpfkcbaaDoor.Wr
open Go.ChangeShapes Go.WideShapes Go.ChangeAt Go.RowKit

theorem loose_step (l : List UInt8) (k : Nat) (hk : k + 1 < l.length) :
    (l.getD k 0 = 125 → Wm.loose (l.drop k) = (l.getD (k + 1) 0 ^^^ 32) :: Wm.loose (l.drop (k + 2))) ∧ (l.getD k 0 ≠ 125 → Wm.loose (l.drop k) = l.getD k 0 :: Wm.loose (l.drop (k + 1))) := by
  have e1 : l.drop k = l.getD k 0 :: l.drop (k + 1) := by
    rw [List.drop_eq_getElem_cons (by omega)]; congr 1; simp [List.getD, show k < l.length by omega]
  have e2 : l.drop (k + 1) = l.getD (k + 1) 0 :: l.drop (k + 2) := by
    rw [List.drop_eq_getElem_cons hk]; congr 1; simp [List.getD, hk]
  refine ⟨fun h => ?_, fun h => ?_⟩
  · rw [e1, e2, Wm.loose, if_pos h]
  · rw [e1, e2, Wm.loose, if_neg h]
theorem loose_end (l : List UInt8) (k : Nat) (hk : l.length ≤ k + 1) : Wm.loose (l.drop k) = [] := by
  have : (l.drop k).length ≤ 1 := by rw [List.length_drop]; omega
  match h : l.drop k with
  | [] => rfl
  | [_] => rfl
  | _ :: _ :: _ => rw [h] at this; simp at this

set_option maxRecDepth 20000 in
set_option maxHeartbeats 2000000 in
theorem runstuff_any (A : Option Addr) (n c : Nat) (l : List UInt8) (w : World) (h : RB w A n l) (hn : n ≤ 900000) :
    Calls Tryd.prog 41 #[.slice A n c] w (UnEnd (Wm.unst l) w) := by
  by_cases h2 : n < 2
  · have HU := Lib.hid (Wm.unst_short l (by rw [h.1]; exact h2))
    clear h
    go_enter Tryd.func41, Tryd.ntmps41
    go_wp2
    go_ret2
    exact unEnd_bad HU.out (grown_refl _ _)
  · have HB := Lib.hid h
    have HL := Lib.hid h.1
    have HC := Lib.hid h.2
    have HU := Lib.hid (show Wm.unst l = if Wm.frame (Wm.loose (l.drop 1)) = l then (Wm.loose (l.drop 1), 0) else ([], 3) from by unfold Wm.unst; rw [if_neg (by rw [h.1]; exact h2)])
    clear h
    have M0 := Lib.hid (made_nil w w (grown_refl _ _))
    go_enter Tryd.func41, Tryd.ntmps41
    go_wp2
    go_loopw [4, 5, 6] (fun v i _ wr => ∃ (k N c : Nat) (A : Option Addr) (out : List UInt8), i = .int .i64 k ∧ 1 ≤ k ∧ k ≤ n ∧ v = .slice A N c ∧ N ≤ k ∧ Hid (Made w wr A N c out) ∧ Hid (out ++ Wm.loose (l.drop k) = Wm.loose (l.drop 1))) (fun _ i _ _ => n - (intOf i).toNat)
    case atStart => exact ⟨1, 0, 0, none, [], rfl, by omega, by omega, rfl, by omega, M0, rfl⟩
    case round =>
      obtain ⟨k, N, c3, A3, out, rfl, hk1, hk, rfl, hN, M3, HO⟩ := hrel
      by_cases hlt : k + 1 < n
      · obtain ⟨b, off, rfl, cc⟩ := HC.out k (by omega)
        obtain ⟨b', off', e, cc'⟩ := HC.out (k + 1) (by omega)
        injection e with e
        injection e with e1 e2
        subst e1; subst e2
        have c1 := M3.out.gr.cell cc (by simp)
        have c2 := M3.out.gr.cell cc' (by simp)
        obtain ⟨l1, l2⟩ := loose_step l k (by rw [HL.out]; exact hlt)
        have L1 := Lib.hid l1
        have L2 := Lib.hid l2
        clear l1 l2 cc cc'
        generalize l.getD k 0 = x at *
        generalize l.getD (k + 1) 0 = y at *
        have hxl := x.toNat_lt
        have hyl := y.toNat_lt
        have hlt' : (k : Int) < (n : Int) - 1 := by omega
        by_cases hx : x = 125
        · have hx2 : ((x.toNat : Int) == 125) = true := by rw [hx]; rfl
          have HX := Lib.hid (show (out ++ [y ^^^ 32]) ++ Wm.loose (l.drop (k + 2)) = Wm.loose (l.drop 1) from by rw [← HO.out, L1.out hx]; simp)
          clear hx
          have E1 := xor8 y
          generalize y ^^^ 32 = z at *
          have hzl := z.toNat_lt
          go_wp2_with (at_builtin; refine wpList_app rfl (.tmp 31) (.tmp 33) rfl rfl rfl (M3.out.alloc _) (rb_lit _ _ 1 [z] rfl rfl (by omega)) (by omega) (N + 1) rfl ?_; intro A4 c4 w4 hm4 _; have M4 := Lib.hid hm4; clear hm4)
          go_roundw
          case rel => exact ⟨k + 2, N + 1, c4, A4, out ++ [z], by go_num, by omega, by omega, rfl, by omega, M4, HX⟩
          case measure => simp [intOf]; omega
        · have hx2 : ((x.toNat : Int) == 125) = false := by
            rw [beq_eq_false_iff_ne]
            intro e
            exact hx (UInt8.toNat_inj.1 (by have : (125 : UInt8).toNat = 125 := rfl; omega))
          have HX := Lib.hid (show (out ++ [x]) ++ Wm.loose (l.drop (k + 1)) = Wm.loose (l.drop 1) from by rw [← HO.out, L2.out hx]; simp)
          clear hx
          go_wp2_with (at_builtin; refine wpList_app rfl (.tmp 31) (.tmp 33) rfl rfl rfl (M3.out.alloc _) (rb_lit _ _ 1 [x] rfl rfl (by omega)) (by omega) (N + 1) rfl ?_; intro A4 c4 w4 hm4 _; have M4 := Lib.hid hm4; clear hm4)
          go_roundw
          case rel => exact ⟨k + 1, N + 1, c4, A4, out ++ [x], by go_num, by omega, by omega, rfl, by omega, M4, HX⟩
          case measure => simp [intOf]; omega
      · have HD := Lib.hid (show Wm.loose (l.drop 1) = out from by rw [← HO.out, loose_end l k (by rw [HL.out]; omega), List.append_nil])
        have hge : (n : Int) - 1 ≤ (k : Int) := by omega
        have HU' := Lib.hid (show Wm.unst l = if Wm.frame out = l then (out, 0) else ([], 3) from by rw [← HD.out]; exact HU.out)
        clear HO HU HD
        by_cases hf : Wm.frame out = l
        · have HU'' := Lib.hid (show Wm.unst l = (out, 0) from by rw [HU'.out, if_pos hf])
          have HS := Lib.hid (show ∀ W : World, RB W A3 N out → Calls Tryd.prog 22 #[.slice A3 N c3] W (OwnEnd l W) from fun W hR => by
            have := rstuff_any A3 N c3 _ W hR (by omega)
            rw [hf] at this; exact this)
          clear hf HU'
          go_wp2
          have kb := conv_str wr.drew A n c _ ((HB.out.grown M3.out.gr).grown (grown_drew _ none))
          first
            | (go_region_with (first
              | (go_at_call 22; refine (HS.out _ (M3.out.rb.grown (grown_drew _ none))).mono ?_; rintro e wa ⟨A4, n4, c4, rfl, hm4⟩; have k4 := conv_str wa A4 n4 c4 _ hm4.rb; have kba := conv_str wa A n c _ (((HB.out.grown M3.out.gr).grown (grown_drew _ none)).grown hm4.gr))))
            | fail
          all_goals
            have M5 := Lib.hid (M3.out.keep (grown_trans (grown_drew _ none) hm4.gr))
            clear hm4
            go_wp2
            go_ret2
            exact unEnd_good HU''.out M5.out
        · have HU'' := Lib.hid (show Wm.unst l = ([], 3) from by rw [HU'.out, if_neg hf])
          have dF : (Wm.frame out == l) = false := by rw [beq_eq_false_iff_ne]; exact hf
          clear hf HU'
          go_wp2
          have kb := conv_str wr.drew A n c _ ((HB.out.grown M3.out.gr).grown (grown_drew _ none))
          first
            | (go_region_with (first
              | (go_at_call 22; refine (rstuff_any A3 N c3 _ _ (M3.out.rb.grown (grown_drew _ none)) (by omega)).mono ?_; rintro e wa ⟨A4, n4, c4, rfl, hm4⟩; have k4 := conv_str wa A4 n4 c4 _ hm4.rb; have kba := conv_str wa A n c _ (((HB.out.grown M3.out.gr).grown (grown_drew _ none)).grown hm4.gr))))
            | fail
          all_goals
            have M5 := Lib.hid (M3.out.keep (grown_trans (grown_drew _ none) hm4.gr))
            clear hm4
            go_wp2
            go_ret2
            exact unEnd_bad HU''.out M5.out.gr
end Go.Proofs.YtcjbhkocpfkcbaaDoor.Wr
