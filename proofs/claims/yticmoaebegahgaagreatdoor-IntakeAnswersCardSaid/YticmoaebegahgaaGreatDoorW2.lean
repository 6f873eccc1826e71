import Derived.Test.YticmoaebegahgaaGreatDoorW1
import Derived.Deep.RegionWith
import Derived.Deep.RegionHeld3
set_option linter.all false
namespace Go.Proofs.YticmoaebegahgaaGreatDoor.Wr
open Go.ChangeShapes Go.WideShapes Go.ChangeAt Go.RowKit
def UnEnd (o : List UInt8 × Int) (w : World) (e : Ending) (w' : World) : Prop := ∃ A n c, e = .returned (.tuple #[.slice A n c, .int .i64 o.2]) ∧ Made w w' A n c o.1
theorem unEnd_bad {o : List UInt8 × Int} {w w' : World} {v : Int} (h : o = ([], v)) (hg : w.grownBy w' none) : UnEnd o w (.returned (.tuple #[.slice none 0 0, .int .i64 v])) w' := by
  subst h; exact ⟨none, 0, 0, rfl, made_nil _ _ hg⟩
theorem unEnd_good {o : List UInt8 × Int} {w w' : World} {A : Option Addr} {n c : Nat} {l : List UInt8} (h : o = (l, 0)) (hm : Made w w' A n c l) : UnEnd o w (.returned (.tuple #[.slice A n c, .int .i64 0])) w' := by
  subst h; exact ⟨A, n, c, rfl, hm⟩
def unR (l : List UInt8) : List UInt8 × Int := match Wm.un [] false l with | some r => (r, 0) | none => ([], 3)
theorem unR_none {l : List UInt8} (h : Wm.un [] false l = none) : unR l = ([], 3) := by unfold unR; rw [h]
theorem unR_some {l r : List UInt8} (h : Wm.un [] false l = some r) : unR l = (r, 0) := by unfold unR; rw [h]
theorem un_step (out l : List UInt8) (k : Nat) (x : UInt8) (hk : k < l.length) (hx : l.getD k 0 = x) :
    (Wm.mark (x ^^^ 32) = true → Wm.un out true (l.drop k) = Wm.un (out ++ [x ^^^ 32]) false (l.drop (k + 1))) ∧ (Wm.mark (x ^^^ 32) = false → Wm.un out true (l.drop k) = none) ∧
    (x = 125 → Wm.un out false (l.drop k) = Wm.un out true (l.drop (k + 1))) ∧ (x ≠ 125 → Wm.mark x = true → Wm.un out false (l.drop k) = none) ∧
    (x ≠ 125 → Wm.mark x = false → Wm.un out false (l.drop k) = Wm.un (out ++ [x]) false (l.drop (k + 1))) := by
  have e : l.drop k = x :: l.drop (k + 1) := by
    rw [List.drop_eq_getElem_cons hk]
    congr 1
    rw [← hx]; simp [List.getD, hk]
  rw [e]
  refine ⟨fun h => ?_, fun h => ?_, fun h => ?_, fun h h2 => ?_, fun h h2 => ?_⟩
  · rw [Wm.un, if_pos h]
  · rw [Wm.un, if_neg (by simp [h])]
  · rw [Wm.un, if_pos h]
  · rw [Wm.un, if_neg h, if_pos h2]
  · rw [Wm.un, if_neg h, if_neg (by simp [h2])]
set_option maxRecDepth 20000 in
set_option maxHeartbeats 2000000 in
theorem unescape_any (A : Option Addr) (n c : Nat) (l : List UInt8) (w : World) (h : RB w A n l) (hn : n ≤ 1000000) :
    Calls Tryz.prog 89 #[.slice A n c] w (UnEnd (unR l) w) := by
  obtain ⟨hl, hc⟩ := h
  have HL := Hi hl
  have HC := Hi hc
  clear hl hc
  go_enter Tryz.func89, Tryz.ntmps89
  go_wp2_with (at_make; refine wpList_mk rfl _ _ rfl _ n rfl rfl (by omega) (by omega) ?_; intro w1 hm1; have M1 := Hi hm1; clear hm1)
  go_loopw [4, 5, 7, 13, 21, 32, 35] (fun v es _ i _ _ _ wr => ∃ (k N c : Nat) (A : Option Addr) (out : List UInt8) (eb : Bool), i = .int .i64 k ∧ k ≤ n ∧ es = .bool eb ∧ v = .slice A N c ∧ N ≤ k ∧ Hid (Made w wr A N c out) ∧ Hid (Wm.un out eb (l.drop k) = Wm.un [] false l)) (fun _ _ _ i _ _ _ _ => n - (intOf i).toNat)
  case atStart => exact ⟨0, 0, n, _, [], false, rfl, by omega, rfl, rfl, by omega, M1, rfl⟩
  case round =>
    obtain ⟨k, N, c3, A3, out, eb, rfl, hk, rfl, rfl, hN, M3, HU⟩ := hrel
    by_cases hlt : k < n
    · obtain ⟨b, off, rfl, cc⟩ := HC.out k hlt
      have c1 := M3.out.gr.cell cc (by simp)
      have US := un_step out l k _ (by rw [HL.out]; exact hlt) rfl
      obtain ⟨u1, u2, u3, u4, u5⟩ := US
      have U1 := Hi u1
      have U2 := Hi u2
      have U3 := Hi u3
      have U4 := Hi u4
      have U5 := Hi u5
      clear u1 u2 u3 u4 u5 cc
      generalize l.getD k 0 = x at *
      have hxl := x.toNat_lt
      cases eb with
      | true =>
        have E1 := xor8 x
        generalize x ^^^ 32 = y at *
        have hyl := y.toNat_lt
        by_cases hm : Wm.mark y = true
        · have HM := Hi hm
          clear hm
          go_wp2_with fail
          refine (mark_yes y _ HM.out).mono ?_
          rintro e w' ⟨rfl, rfl⟩
          go_wp2_with (at_builtin; refine wpList_app rfl (.tmp 28) (.tmp 30) rfl rfl rfl (M3.out.alloc _) (rb_lit _ _ 1 [y] rfl rfl (by omega)) (by omega) (N + 1) rfl ?_; intro A4 c4 w4 hm4 _; have M4 := Hi hm4; clear hm4)
          go_roundw
          case rel => exact ⟨k + 1, N + 1, c4, A4, out ++ [y], false, by go_num, by omega, rfl, rfl, by omega, M4, (U1.out HM.out).symm.trans HU.out⟩
          case measure => simp [intOf]; omega
        · have HM := Hi (eq_false_of_ne_true hm)
          clear hm
          go_wp2_with fail
          refine (mark_no y _ HM.out).mono ?_
          rintro e w' ⟨rfl, rfl⟩
          go_wp2
          go_ret2
          exact unEnd_bad (unR_none (HU.out.symm.trans (U2.out HM.out))) M3.out.gr
      | false =>
        by_cases hx : x = 125
        · have HX := Hi hx
          have hx2 : ((x.toNat : Int) == 125) = true := by rw [hx]; rfl
          clear hx
          go_wp2
          go_roundw
          case rel => exact ⟨k + 1, N, c3, A3, out, true, by go_num, by omega, rfl, rfl, by omega, M3, (U3.out HX.out).symm.trans HU.out⟩
          case measure => simp [intOf]; omega
        · have HX := Hi hx
          have hx2 : ((x.toNat : Int) == 125) = false := by
            rw [beq_eq_false_iff_ne]
            intro e
            exact hx (UInt8.toNat_inj.1 (by have : (125 : UInt8).toNat = 125 := rfl; omega))
          clear hx
          by_cases hm : Wm.mark x = true
          · have HM := Hi hm
            clear hm
            go_wp2_with fail
            refine (mark_yes x _ HM.out).mono ?_
            rintro e w' ⟨rfl, rfl⟩
            go_wp2
            go_ret2
            exact unEnd_bad (unR_none (HU.out.symm.trans (U4.out HX.out HM.out))) M3.out.gr
          · have HM := Hi (eq_false_of_ne_true hm)
            clear hm
            go_wp2_with fail
            refine (mark_no x _ HM.out).mono ?_
            rintro e w' ⟨rfl, rfl⟩
            go_wp2_with (at_builtin; refine wpList_app rfl (.tmp 17) (.tmp 19) rfl rfl rfl (M3.out.alloc _) (rb_lit _ _ 1 [x] rfl rfl (by omega)) (by omega) (N + 1) rfl ?_; intro A4 c4 w4 hm4 _; have M4 := Hi hm4; clear hm4)
            go_roundw
            case rel => exact ⟨k + 1, N + 1, c4, A4, out ++ [x], false, by go_num, by omega, rfl, rfl, by omega, M4, (U5.out HX.out HM.out).symm.trans HU.out⟩
            case measure => simp [intOf]; omega
    · obtain rfl : k = n := by omega
      have HX := Hi (show l.drop k = [] from List.drop_eq_nil_of_le (by rw [HL.out]; omega))
      cases eb with
      | true =>
        go_wp2
        go_ret2
        exact unEnd_bad (unR_none (by rw [← HU.out, HX.out]; rfl)) M3.out.gr
      | false =>
        go_wp2
        go_ret2
        exact unEnd_good (unR_some (by rw [← HU.out, HX.out]; rfl)) M3.out
end Go.Proofs.YticmoaebegahgaaGreatDoor.Wr
namespace Go.Proofs.YticmoaebegahgaaGreatDoor.Wr
open Go.ChangeShapes Go.WideShapes Go.ChangeAt Go.RowKit
theorem unst_split (l : List UInt8) (k : Nat) (hl : l.length = k + 2) (h0 : l.getD 0 0 = 126) (h1 : l.getD (k + 1) 0 = 124) : l = 126 :: ((l.drop 1).take k ++ [124]) := by
  cases l with
  | nil => simp at hl
  | cons a t =>
    simp at h0; subst h0
    congr 1
    have ht : t.length = k + 1 := by simpa using hl
    show t = t.take k ++ [124]
    conv => lhs; rw [← List.take_append_drop k t]
    congr 1
    rw [List.drop_eq_getElem_cons (by omega), List.drop_eq_nil_of_le (by omega)]
    congr 1
    simpa [List.getD, ht] using h1
theorem unst_unR (l : List UInt8) (k : Nat) (hl : l.length = k + 2) (h0 : l.getD 0 0 = 126) (h1 : l.getD (k + 1) 0 = 124) : unR ((l.drop 1).take k) = Wm.unst l := by
  conv => rhs; rw [unst_split l k hl h0 h1]
  rw [Wm.unst_mid]; rfl
theorem unEnd_mk {o o' : List UInt8 × Int} {w w' : World} {A : Option Addr} {n c : Nat} (h : o' = o) (hm : Made w w' A n c o'.1) : UnEnd o w (.returned (.tuple #[.slice A n c, .int .i64 o'.2])) w' := by
  subst h; exact ⟨A, n, c, rfl, hm⟩
theorem eq_u8 (x : UInt8) (v : UInt8) (h : x = v) : ((x.toNat : Int) != (v.toNat : Int)) = false := by rw [h]; simp
theorem ne_u8 (x : UInt8) (v : UInt8) (h : x ≠ v) : ((x.toNat : Int) != (v.toNat : Int)) = true := by
  rw [bne_iff_ne]; intro e; exact h (UInt8.toNat_inj.1 (by omega))
set_option maxHeartbeats 1000000 in
theorem unstuff_any (A : Option Addr) (n c : Nat) (l : List UInt8) (w : World) (h : RB w A n l) (hn : n ≤ 1000000) (hc : n ≤ c) (_hc2 : c ≤ 9223372036854775807) :
    Calls Tryz.prog 80 #[.slice A n c] w (UnEnd (Wm.unst l) w) := by
  by_cases h2 : n < 2
  · have HU := Hi (Wm.unst_short l (by rw [h.1]; exact h2))
    clear h
    go_enter Tryz.func80, Tryz.ntmps80
    go_wp2
    go_ret2
    exact unEnd_bad HU.out (grown_refl _ _)
  · obtain ⟨k, rfl⟩ : ∃ k, n = k + 2 := ⟨n - 2, by omega⟩
    obtain ⟨hl, hcell⟩ := h
    obtain ⟨b, off, rfl, c0⟩ := hcell 0 (by omega)
    obtain ⟨b', off', e, c1⟩ := hcell (k + 1) (by omega)
    injection e with e
    injection e with e1 e2
    subst e1; subst e2
    rw [Nat.add_zero] at c0
    have HL := Hi hl
    have HC := Hi hcell
    clear hl hcell h2
    have hcl : ¬ c = 1 := by omega
    by_cases h0 : l.getD 0 0 = 126
    · by_cases h1 : l.getD (k + 1) 0 = 124
      · have hu := unst_unR l k HL.out h0 h1
        have hr := (show RB w (some ⟨b, off + 1, none⟩) k ((l.drop 1).take k) from by
          refine ⟨by rw [List.length_take, List.length_drop, HL.out]; omega, fun i hi => ?_⟩
          obtain ⟨b', off', e, cc⟩ := HC.out (i + 1) (by omega)
          injection e with e
          injection e with e1 e2
          subst e1; subst e2
          refine ⟨b, off + 1, rfl, ?_⟩
          rw [show off + 1 + i = off + (i + 1) by omega, cc]
          simp [List.getD_eq_getElem?_getD, hi])
        generalize (l.drop 1).take k = M at hu hr
        have HU := Hi hu
        have hR := Hi hr
        clear hu hr
        have d0 : (((l.getD 0 0).toNat : Int) != 126) = false := eq_u8 _ 126 h0
        have d1 : (((l.getD (k + 1) 0).toNat : Int) != 124) = false := eq_u8 _ 124 h1
        clear h0 h1
        generalize l.getD 0 0 = x at *
        generalize l.getD (k + 1) 0 = y at *
        go_enter Tryz.func80, Tryz.ntmps80
        go_wp2_with fail
        refine (unescape_any _ k _ _ _ hR.out (by omega)).mono ?_
        rintro e w' ⟨A', n', c', rfl, hm⟩
        have HM := Hi hm
        clear hm
        go_wp2
        go_ret2
        exact unEnd_mk HU.out HM.out
      · have HU := Hi (Wm.unst_ends l (by rw [HL.out]; omega) (.inr (by rw [HL.out]; exact h1)))
        have d0 : (((l.getD 0 0).toNat : Int) != 126) = false := eq_u8 _ 126 h0
        have d1 : (((l.getD (k + 1) 0).toNat : Int) != 124) = true := ne_u8 _ 124 h1
        clear h0 h1
        generalize l.getD 0 0 = x at *
        generalize l.getD (k + 1) 0 = y at *
        go_enter Tryz.func80, Tryz.ntmps80
        go_wp2
        go_ret2
        exact unEnd_bad HU.out (grown_refl _ _)
    · have HU := Hi (Wm.unst_ends l (by rw [HL.out]; omega) (.inl h0))
      have d0 : (((l.getD 0 0).toNat : Int) != 126) = true := ne_u8 _ 126 h0
      clear h0
      generalize l.getD 0 0 = x at *
      go_enter Tryz.func80, Tryz.ntmps80
      go_wp2
      go_ret2
      exact unEnd_bad HU.out (grown_refl _ _)
end Go.Proofs.YticmoaebegahgaaGreatDoor.Wr
namespace Go.Proofs.YticmoaebegahgaaGreatDoor.Wr
open Go.ChangeShapes Go.WideShapes Go.ChangeAt Go.RowKit
theorem loose_step (l : List UInt8) (k : Nat) (hk : k + 1 < l.length) :
    (l.getD k 0 = 125 → Wm.loose (l.drop k) = (l.getD (k + 1) 0 ^^^ 32) :: Wm.loose (l.drop (k + 2))) ∧ (l.getD k 0 ≠ 125 → Wm.loose (l.drop k) = l.getD k 0 :: Wm.loose (l.drop (k + 1))) := by
  have e1 : l.drop k = l.getD k 0 :: l.drop (k + 1) := by
    rw [List.drop_eq_getElem_cons (by omega)]; congr 1; simp [List.getD, show k < l.length by omega]
  have e2 : l.drop (k + 1) = l.getD (k + 1) 0 :: l.drop (k + 2) := by
    rw [List.drop_eq_getElem_cons hk]; congr 1; simp [List.getD, hk]
  refine ⟨fun h => ?_, fun h => ?_⟩
  · rw [e1, e2, Wm.loose, if_pos h]
  · rw [e1, e2, Wm.loose, if_neg h]
theorem loose_end (l : List UInt8) (k : Nat) (hk : l.length ≤ k + 1) : Wm.loose (l.drop k) = [] := by
  have : (l.drop k).length ≤ 1 := by rw [List.length_drop]; omega
  match h : l.drop k with
  | [] => rfl
  | [_] => rfl
  | _ :: _ :: _ => rw [h] at this; simp at this
set_option maxRecDepth 20000 in
set_option maxHeartbeats 2000000 in
theorem runstuff_any (A : Option Addr) (n c : Nat) (l : List UInt8) (w : World) (h : RB w A n l) (hn : n ≤ 900000) :
    Calls Tryz.prog 64 #[.slice A n c] w (UnEnd (Wm.unst l) w) := by
  by_cases h2 : n < 2
  · have HU := Hi (Wm.unst_short l (by rw [h.1]; exact h2))
    clear h
    go_enter Tryz.func64, Tryz.ntmps64
    go_wp2
    go_ret2
    exact unEnd_bad HU.out (grown_refl _ _)
  · have HB := Hi h
    have HL := Hi h.1
    have HC := Hi h.2
    have HU := Hi (show Wm.unst l = if Wm.frame (Wm.loose (l.drop 1)) = l then (Wm.loose (l.drop 1), 0) else ([], 3) from by unfold Wm.unst; rw [if_neg (by rw [h.1]; exact h2)])
    clear h
    have M0 := Hi (made_nil w w (grown_refl _ _))
    go_enter Tryz.func64, Tryz.ntmps64
    go_wp2
    go_loopw [4, 5, 6] (fun v i _ wr => ∃ (k N c : Nat) (A : Option Addr) (out : List UInt8), i = .int .i64 k ∧ 1 ≤ k ∧ k ≤ n ∧ v = .slice A N c ∧ N ≤ k ∧ Hid (Made w wr A N c out) ∧ Hid (out ++ Wm.loose (l.drop k) = Wm.loose (l.drop 1))) (fun _ i _ _ => n - (intOf i).toNat)
    case atStart => exact ⟨1, 0, 0, none, [], rfl, by omega, by omega, rfl, by omega, M0, rfl⟩
    case round =>
      obtain ⟨k, N, c3, A3, out, rfl, hk1, hk, rfl, hN, M3, HO⟩ := hrel
      by_cases hlt : k + 1 < n
      · obtain ⟨b, off, rfl, cc⟩ := HC.out k (by omega)
        obtain ⟨b', off', e, cc'⟩ := HC.out (k + 1) (by omega)
        injection e with e
        injection e with e1 e2
        subst e1; subst e2
        have c1 := M3.out.gr.cell cc (by simp)
        have c2 := M3.out.gr.cell cc' (by simp)
        obtain ⟨l1, l2⟩ := loose_step l k (by rw [HL.out]; exact hlt)
        have L1 := Hi l1
        have L2 := Hi l2
        clear l1 l2 cc cc'
        generalize l.getD k 0 = x at *
        generalize l.getD (k + 1) 0 = y at *
        have hxl := x.toNat_lt
        have hyl := y.toNat_lt
        have hlt' : (k : Int) < (n : Int) - 1 := by omega
        by_cases hx : x = 125
        · have hx2 : ((x.toNat : Int) == 125) = true := by rw [hx]; rfl
          have HX := Hi (show (out ++ [y ^^^ 32]) ++ Wm.loose (l.drop (k + 2)) = Wm.loose (l.drop 1) from by rw [← HO.out, L1.out hx]; simp)
          clear hx
          have E1 := xor8 y
          generalize y ^^^ 32 = z at *
          have hzl := z.toNat_lt
          go_wp2_with (at_builtin; refine wpList_app rfl (.tmp 31) (.tmp 33) rfl rfl rfl (M3.out.alloc _) (rb_lit _ _ 1 [z] rfl rfl (by omega)) (by omega) (N + 1) rfl ?_; intro A4 c4 w4 hm4 _; have M4 := Hi hm4; clear hm4)
          go_roundw
          case rel => exact ⟨k + 2, N + 1, c4, A4, out ++ [z], by go_num, by omega, by omega, rfl, by omega, M4, HX⟩
          case measure => simp [intOf]; omega
        · have hx2 : ((x.toNat : Int) == 125) = false := by
            rw [beq_eq_false_iff_ne]
            intro e
            exact hx (UInt8.toNat_inj.1 (by have : (125 : UInt8).toNat = 125 := rfl; omega))
          have HX := Hi (show (out ++ [x]) ++ Wm.loose (l.drop (k + 1)) = Wm.loose (l.drop 1) from by rw [← HO.out, L2.out hx]; simp)
          clear hx
          go_wp2_with (at_builtin; refine wpList_app rfl (.tmp 31) (.tmp 33) rfl rfl rfl (M3.out.alloc _) (rb_lit _ _ 1 [x] rfl rfl (by omega)) (by omega) (N + 1) rfl ?_; intro A4 c4 w4 hm4 _; have M4 := Hi hm4; clear hm4)
          go_roundw
          case rel => exact ⟨k + 1, N + 1, c4, A4, out ++ [x], by go_num, by omega, by omega, rfl, by omega, M4, HX⟩
          case measure => simp [intOf]; omega
      · have HD := Hi (show Wm.loose (l.drop 1) = out from by rw [← HO.out, loose_end l k (by rw [HL.out]; omega), List.append_nil])
        have hge : (n : Int) - 1 ≤ (k : Int) := by omega
        have HU' := Hi (show Wm.unst l = if Wm.frame out = l then (out, 0) else ([], 3) from by rw [← HD.out]; exact HU.out)
        clear HO HU HD
        by_cases hf : Wm.frame out = l
        · have HU'' := Hi (show Wm.unst l = (out, 0) from by rw [HU'.out, if_pos hf])
          have HS := Hi (show ∀ W : World, RB W A3 N out → Calls Tryz.prog 22 #[.slice A3 N c3] W (OwnEnd l W) from fun W hR => by
            have := rstuff_any A3 N c3 _ W hR (by omega)
            rw [hf] at this; exact this)
          clear hf HU'
          go_wp2
          have kb := conv_str wr.drew A n c _ ((HB.out.grown M3.out.gr).grown (grown_drew _ none))
          first
            | (go_region_with (first
              | (go_at_call 22; refine (HS.out _ (M3.out.rb.grown (grown_drew _ none))).mono ?_; rintro e wa ⟨A4, n4, c4, rfl, hm4⟩; have k4 := conv_str wa A4 n4 c4 _ hm4.rb; have kba := conv_str wa A n c _ (((HB.out.grown M3.out.gr).grown (grown_drew _ none)).grown hm4.gr))))
            | fail
          all_goals
            have M5 := Hi (M3.out.keep (grown_trans (grown_drew _ none) hm4.gr))
            clear hm4
            go_wp2
            go_ret2
            exact unEnd_good HU''.out M5.out
        · have HU'' := Hi (show Wm.unst l = ([], 3) from by rw [HU'.out, if_neg hf])
          have dF : (Wm.frame out == l) = false := by rw [beq_eq_false_iff_ne]; exact hf
          clear hf HU'
          go_wp2
          have kb := conv_str wr.drew A n c _ ((HB.out.grown M3.out.gr).grown (grown_drew _ none))
          first
            | (go_region_with (first
              | (go_at_call 22; refine (rstuff_any A3 N c3 _ _ (M3.out.rb.grown (grown_drew _ none)) (by omega)).mono ?_; rintro e wa ⟨A4, n4, c4, rfl, hm4⟩; have k4 := conv_str wa A4 n4 c4 _ hm4.rb; have kba := conv_str wa A n c _ (((HB.out.grown M3.out.gr).grown (grown_drew _ none)).grown hm4.gr))))
            | fail
          all_goals
            have M5 := Hi (M3.out.keep (grown_trans (grown_drew _ none) hm4.gr))
            clear hm4
            go_wp2
            go_ret2
            exact unEnd_bad HU''.out M5.out.gr
end Go.Proofs.YticmoaebegahgaaGreatDoor.Wr
namespace Go.Proofs.YticmoaebegahgaaGreatDoor.Wr
open Go.ChangeShapes Go.WideShapes Go.ChangeAt Go.RowKit
def IntEnd (r : Int × Int × Int) (w : World) (e : Ending) (w' : World) : Prop := e = .returned (.tuple #[.int .i64 r.1, .int .i64 r.2.1, .int .i64 r.2.2]) ∧ w = w'
theorem intEnd_mk {r : Int × Int × Int} {w : World} {a b c : Int} (h : r = (a, b, c)) : IntEnd r w (.returned (.tuple #[.int .i64 a, .int .i64 b, .int .i64 c])) w := by subst h; exact ⟨rfl, rfl⟩
theorem andNot8 (x : UInt8) : bits .andNot .u8 (x.toNat : Int) 128 = ((x.toNat % 128 : Nat) : Int) := by
  have h := u8_andNot_nat x.toNat 128 x.toNat_lt (by omega)
  have e : x.toNat &&& (255 - 128) = x.toNat % 128 := Nat.and_two_pow_sub_one_eq_mod _ 7
  rw [e] at h; exact h
theorem ends_yes (k : Nat) (x : UInt8) (w : World) (hk : k ≤ 9) (h : endB k x = true) :
    Calls Tryz.prog 102 #[.int .i64 (k : Int), .int .u8 (x.toNat : Int)] w fun e w' => e = .returned (.bool true) ∧ w = w' := by
  have := ends_any k x w hk
  rw [h] at this; exact this
theorem ends_no (k : Nat) (x : UInt8) (w : World) (hk : k ≤ 9) (h : endB k x = false) :
    Calls Tryz.prog 102 #[.int .i64 (k : Int), .int .u8 (x.toNat : Int)] w fun e w' => e = .returned (.bool false) ∧ w = w' := by
  have := ends_any k x w hk
  rw [h] at this; exact this
theorem shl_or (U y k V : Nat) (hU : U < 18446744073709551616) (h : U ||| (y * 2 ^ (7 * k) % 18446744073709551616) = V) : bits .or .u64 (U : Int) (IntKind.u64.wrap ((y : Int) * 2 ^ (7 * k))) = (V : Int) := by
  have e : IntKind.u64.wrap ((y : Int) * 2 ^ (7 * k)) = ((y * 2 ^ (7 * k) % 18446744073709551616 : Nat) : Int) := by
    rw [IntKind.wrap_u64, Int.natCast_emod, Int.natCast_mul, Int.natCast_pow]; rfl
  rw [e, u64_or_nat U _ hU (by omega), h]
theorem pow7 (k : Nat) (h : k < 9) : 128 * 2 ^ (7 * k) ≤ 9223372036854775808 := by
  have : 2 ^ (7 + 7 * k) ≤ 2 ^ 63 := Nat.pow_le_pow_right (by omega) (by omega)
  rw [Nat.pow_add] at this; omega
theorem or_add (U y k : Nat) (hk : k < 10) (hU : U < 2 ^ (7 * k)) (hy : y < 128) (h9 : k = 9 → y ≤ 1) : U ||| (y * 2 ^ (7 * k) % 18446744073709551616) = U + y * 2 ^ (7 * k) := by
  have hb : y * 2 ^ (7 * k) < 18446744073709551616 := by
    by_cases h : k = 9
    · have := h9 h
      subst h
      have := Nat.mul_le_mul_right (2 ^ (7 * 9)) this
      omega
    · have := pow7 k (by omega)
      have := Nat.mul_le_mul_right (2 ^ (7 * k)) (show y ≤ 127 by omega)
      omega
  rw [Nat.mod_eq_of_lt hb, Nat.or_comm, Nat.mul_comm y, ← Nat.two_pow_add_eq_or_of_lt hU, Nat.add_comm]
theorem getD_drop (l : List UInt8) (p k : Nat) (h : p + k < l.length) : (l.drop p).drop k = l.getD (p + k) 0 :: (l.drop p).drop (k + 1) := by
  rw [List.drop_drop, List.drop_drop, List.drop_eq_getElem_cons h, show p + (k + 1) = p + k + 1 by omega]
  congr 1
  simp [List.getD, h]
theorem dec_step (l : List UInt8) (p k U V : Nat) (x : UInt8) (y : Nat) (hk : p + k < l.length) (hx : l.getD (p + k) 0 = x) (hk10 : k < 10) (hU : U < 2 ^ (7 * k)) (hy : x.toNat % 128 = y)
    (hV : U ||| (y * 2 ^ (7 * k) % 18446744073709551616) = V) :
    (128 ≤ x.toNat → Wm.dec ((l.drop p).drop k) k U = Wm.dec ((l.drop p).drop (k + 1)) (k + 1) V ∧ (k + 1 < 10 → V < 2 ^ (7 * (k + 1)))) ∧
    (x.toNat < 128 → endB k x = true → Wm.dec ((l.drop p).drop k) k U = .ok V (k + 1)) ∧ (x.toNat < 128 → endB k x = false → Wm.dec ((l.drop p).drop k) k U = .form) := by
  have hy2 : y < 128 := by omega
  rw [getD_drop l p k hk, hx]
  refine ⟨fun h => ⟨?_, fun h9 => ?_⟩, fun h he => ?_, fun h he => ?_⟩
  · exact Wm.dec_high9 x _ k U V hk10 h (fun h9 => by rw [← hV, or_add U y k hk10 hU hy2 (by omega), hy])
  · rw [← hV, or_add U y k hk10 hU hy2 (by omega), ← hy]
    exact Wm.acc_lt x k U hU
  · have hn : ¬ ((k = 9 ∧ 1 < x.toNat) ∨ (x.toNat = 0 ∧ 0 < k)) := by unfold endB at he; simpa only [Bool.not_eq_true', decide_eq_false_iff_not] using he
    rw [Wm.dec_last x _ k U hk10 h, if_neg hn, ← hV, or_add U y k hk10 hU hy2 (by omega), ← hy, Nat.mod_eq_of_lt h]
  · have hn : (k = 9 ∧ 1 < x.toNat) ∨ (x.toNat = 0 ∧ 0 < k) := by unfold endB at he; simpa only [Bool.not_eq_false', decide_eq_true_eq] using he
    rw [Wm.dec_last x _ k U hk10 h, if_pos hn]
set_option maxRecDepth 20000 in
set_option maxHeartbeats 800000 in
theorem int_near (b off m c p : Nat) (l : List UInt8) (w : World) (h : RB w (some ⟨b, off, none⟩) (p + m) l) (hm : 0 < m) (h10 : m ≤ 10) (hc : p + m ≤ c) (hc2 : c ≤ 9223372036854775807) (hb : p ≤ 4611686018427387904) :
    Calls Tryz.prog 99 #[.slice (some ⟨b, off, none⟩) (p + m) c, .int .i64 (p : Int)] w (IntEnd (Wm.ires p (Wm.dec (l.drop p) 0 0)) w) := by
  obtain ⟨hl, hc0⟩ := h
  have HL := Hi hl
  have HC := Hi hc0
  clear hl hc0
  have hcp : ¬ c = p := by omega
  have d1 : decide ((p : Int) < 0) = false := by simp
  have d2 : decide (p + m < p) = false := by simp
  have d3 : p + m ≤ p + 10 := by omega
  go_enter Tryz.func99, Tryz.ntmps99
  go_wp2
  go_loop [8, 29] (fun u i => ∃ k U : Nat, i = .int .i64 k ∧ k ≤ m ∧ u = .int .u64 (U : Int) ∧ U < 18446744073709551616 ∧ (k < 10 → U < 2 ^ (7 * k)) ∧ Hid (Wm.dec ((l.drop p).drop k) k U = Wm.dec (l.drop p) 0 0)) (fun _ i => m - (intOf i).toNat)
  case atStart => exact ⟨0, 0, rfl, by omega, rfl, by omega, fun _ => by simp, rfl⟩
  case round =>
    obtain ⟨k, U, rfl, hk, rfl, hU, hU2, HD⟩ := hrel
    have HU2 := Hi hU2
    clear hU2
    have HU := Hi hU
    clear hU
    by_cases hlt : k < m
    · obtain ⟨b', off', e, c1⟩ := HC.out (p + k) (by omega)
      injection e with e
      injection e with e1 e2
      subst e1; subst e2
      rw [← Nat.add_assoc] at c1
      have hk10 : k < 10 := by omega
      obtain ⟨V, hV⟩ : ∃ V, U ||| ((l.getD (p + k) 0).toNat % 128 * 2 ^ (7 * k) % 18446744073709551616) = V := ⟨_, rfl⟩
      have DS := dec_step l p k U V _ _ (by rw [HL.out]; omega) rfl hk10 (HU2.out hk10) rfl hV
      have D1 := Hi DS.1
      have D2 := Hi DS.2.1
      have D3 := Hi DS.2.2
      have E1 := andNot8 (l.getD (p + k) 0)
      have hx := (l.getD (p + k) 0).toNat_lt
      generalize l.getD (p + k) 0 = x at *
      have h7 := Nat.mod_lt x.toNat (show 128 > 0 by omega)
      generalize x.toNat % 128 = y at *
      have E2 := shl_or U y k V HU.out hV
      have HV2 := Hi (show V < 18446744073709551616 from by rw [← hV]; exact Nat.or_lt_two_pow (n := 64) HU.out (by omega))
      clear hV DS
      by_cases hx2 : 128 ≤ x.toNat
      · go_wp2
        go_round
        case rel => exact ⟨k + 1, V, by go_num, by omega, rfl, HV2.out, (D1.out hx2).2, (D1.out hx2).1.symm.trans HD.out⟩
        case measure => simp [intOf]; omega
      · by_cases he : endB k x = true
        · go_wp2_with fail
          refine (ends_yes k x _ (by omega) he).mono ?_
          rintro e w' ⟨rfl, rfl⟩
          go_wp2_with fail
          refine (unfold_any V _ HV2.out).mono ?_
          rintro e w' ⟨rfl, rfl⟩
          go_wp2
          go_ret3
          refine intEnd_mk ?_
          rw [← HD.out, D2.out (by omega) he]
          simp [Wm.ires]; try omega
        · have he := eq_false_of_ne_true he
          go_wp2_with fail
          refine (ends_no k x _ (by omega) he).mono ?_
          rintro e w' ⟨rfl, rfl⟩
          go_wp2
          go_ret3
          refine intEnd_mk ?_
          rw [← HD.out, D3.out (by omega) he]
          rfl
    · obtain rfl : k = m := by omega
      by_cases hm10 : k = 10
      · subst hm10
        go_wp2
        go_ret3
        refine intEnd_mk ?_
        rw [← HD.out, Wm.dec_ten]
        rfl
      · have HX := Hi (show (l.drop p).drop k = [] from List.drop_eq_nil_of_le (by rw [List.length_drop, HL.out]; omega))
        go_wp2
        go_ret3
        refine intEnd_mk ?_
        rw [← HD.out, HX.out, Wm.dec_nil _ _ (by omega)]
        rfl
set_option maxRecDepth 20000 in
set_option maxHeartbeats 800000 in
theorem int_far (b off m c p : Nat) (l : List UInt8) (w : World) (h : RB w (some ⟨b, off, none⟩) (p + m) l) (h10 : 10 < m) (hc : p + m ≤ c) (hc2 : c ≤ 9223372036854775807) (hb : p ≤ 4611686018427387904) :
    Calls Tryz.prog 99 #[.slice (some ⟨b, off, none⟩) (p + m) c, .int .i64 (p : Int)] w (IntEnd (Wm.ires p (Wm.dec (l.drop p) 0 0)) w) := by
  obtain ⟨hl, hc0⟩ := h
  have HL := Hi hl
  have HC := Hi hc0
  clear hl hc0
  have hcp : ¬ c = p := by omega
  have d1 : decide ((p : Int) < 0) = false := by simp
  have d2 : decide (p + m < p) = false := by simp
  have d3 : ¬ p + m ≤ p + 10 := by omega
  go_enter Tryz.func99, Tryz.ntmps99
  go_wp2
  go_loop [8, 29] (fun u i => ∃ k U : Nat, i = .int .i64 k ∧ k ≤ 10 ∧ u = .int .u64 (U : Int) ∧ U < 18446744073709551616 ∧ (k < 10 → U < 2 ^ (7 * k)) ∧ Hid (Wm.dec ((l.drop p).drop k) k U = Wm.dec (l.drop p) 0 0)) (fun _ i => 10 - (intOf i).toNat)
  case atStart => exact ⟨0, 0, rfl, by omega, rfl, by omega, fun _ => by simp, rfl⟩
  case round =>
    obtain ⟨k, U, rfl, hk, rfl, hU, hU2, HD⟩ := hrel
    have HU2 := Hi hU2
    clear hU2
    have HU := Hi hU
    clear hU
    by_cases hlt : k < 10
    · obtain ⟨b', off', e, c1⟩ := HC.out (p + k) (by omega)
      injection e with e
      injection e with e1 e2
      subst e1; subst e2
      rw [← Nat.add_assoc] at c1
      have hk10 : k < 10 := by omega
      obtain ⟨V, hV⟩ : ∃ V, U ||| ((l.getD (p + k) 0).toNat % 128 * 2 ^ (7 * k) % 18446744073709551616) = V := ⟨_, rfl⟩
      have DS := dec_step l p k U V _ _ (by rw [HL.out]; omega) rfl hk10 (HU2.out hk10) rfl hV
      have D1 := Hi DS.1
      have D2 := Hi DS.2.1
      have D3 := Hi DS.2.2
      have E1 := andNot8 (l.getD (p + k) 0)
      have hx := (l.getD (p + k) 0).toNat_lt
      generalize l.getD (p + k) 0 = x at *
      have h7 := Nat.mod_lt x.toNat (show 128 > 0 by omega)
      generalize x.toNat % 128 = y at *
      have E2 := shl_or U y k V HU.out hV
      have HV2 := Hi (show V < 18446744073709551616 from by rw [← hV]; exact Nat.or_lt_two_pow (n := 64) HU.out (by omega))
      clear hV DS
      by_cases hx2 : 128 ≤ x.toNat
      · go_wp2
        go_round
        case rel => exact ⟨k + 1, V, by go_num, by omega, rfl, HV2.out, (D1.out hx2).2, (D1.out hx2).1.symm.trans HD.out⟩
        case measure => simp [intOf]; omega
      · by_cases he : endB k x = true
        · go_wp2_with fail
          refine (ends_yes k x _ (by omega) he).mono ?_
          rintro e w' ⟨rfl, rfl⟩
          go_wp2_with fail
          refine (unfold_any V _ HV2.out).mono ?_
          rintro e w' ⟨rfl, rfl⟩
          go_wp2
          go_ret3
          refine intEnd_mk ?_
          rw [← HD.out, D2.out (by omega) he]
          simp [Wm.ires]; try omega
        · have he := eq_false_of_ne_true he
          go_wp2_with fail
          refine (ends_no k x _ (by omega) he).mono ?_
          rintro e w' ⟨rfl, rfl⟩
          go_wp2
          go_ret3
          refine intEnd_mk ?_
          rw [← HD.out, D3.out (by omega) he]
          rfl
    · obtain rfl : k = 10 := by omega
      go_wp2
      go_ret3
      refine intEnd_mk ?_
      rw [← HD.out, Wm.dec_ten]
      rfl
theorem int_bad (A : Option Addr) (n c : Nat) (p : Int) (w : World) (_hn : n ≤ 9223372036854775807) (h1 : -9223372036854775808 ≤ p) (h2 : p ≤ 9223372036854775807) (h : p < 0 ∨ (n : Int) < p) :
    Calls Tryz.prog 99 #[.slice A n c, .int .i64 p] w (IntEnd (0, 0, 1) w) := by
  by_cases h0 : p < 0
  · clear h
    go_enter Tryz.func99, Tryz.ntmps99
    go_wp2
    go_ret3
    exact intEnd_mk rfl
  · have h3 : (n : Int) < p := by omega
    clear h
    go_enter Tryz.func99, Tryz.ntmps99
    go_wp2
    go_ret3
    exact intEnd_mk rfl
theorem int_end (A : Option Addr) (n c : Nat) (w : World) (hc : n ≤ c) (hc2 : c ≤ 9223372036854775807) (hb : n ≤ 4611686018427387904) :
    Calls Tryz.prog 99 #[.slice A n c, .int .i64 (n : Int)] w (IntEnd (0, 0, 2) w) := by
  have d1 : decide ((n : Int) < 0) = false := by simp
  by_cases h : c = n
  · subst h
    go_enter Tryz.func99, Tryz.ntmps99
    go_wp2
    refine wp_loop_rounds 1 ?_; rw [rounds_succ]
    go_wp2
    go_ret3
    exact intEnd_mk rfl
  · go_enter Tryz.func99, Tryz.ntmps99
    go_wp2
    refine wp_loop_rounds 1 ?_; rw [rounds_succ]
    go_wp2
    go_ret3
    exact intEnd_mk rfl
theorem int_any (A : Option Addr) (n c : Nat) (l : List UInt8) (p : Int) (w : World) (h : RB w A n l) (hc : n ≤ c) (hc2 : c ≤ 9223372036854775807) (hb : n ≤ 4611686018427387904) (h1 : -9223372036854775808 ≤ p) (h2 : p ≤ 9223372036854775807) :
    Calls Tryz.prog 99 #[.slice A n c, .int .i64 p] w (IntEnd (Wm.intR l p) w) := by
  unfold Wm.intR
  by_cases hbad : p < 0 ∨ (n : Int) < p
  · rw [if_pos (by rw [h.1]; exact hbad)]
    exact int_bad A n c p w (by omega) h1 h2 hbad
  · rw [if_neg (by rw [h.1]; exact hbad)]
    obtain ⟨k, rfl⟩ := Int.eq_ofNat_of_zero_le (show 0 ≤ p by omega)
    obtain ⟨m, rfl⟩ : ∃ m, n = k + m := ⟨n - k, by omega⟩
    rw [Int.toNat_natCast]
    rcases Nat.eq_zero_or_pos m with hm | hm
    · subst hm
      rw [List.drop_eq_nil_of_le (by rw [h.1]; omega), Wm.dec_nil _ _ (by omega)]
      exact int_end A k c w hc hc2 hb
    · obtain ⟨b, off, rfl, _⟩ := h.2 0 (by omega)
      by_cases h10 : m ≤ 10
      · exact int_near b off m c k l w h hm h10 hc hc2 (by omega)
      · exact int_far b off m c k l w h (by omega) hc hc2 (by omega)
end Go.Proofs.YticmoaebegahgaaGreatDoor.Wr
namespace Go.Proofs.YticmoaebegahgaaGreatDoor.Wr
open Go.ChangeShapes Go.WideShapes Go.ChangeAt Go.RowKit
theorem rint_bad (A : Option Addr) (n c : Nat) (p : Int) (w : World) (_hn : n ≤ 9223372036854775807) (h1 : -9223372036854775808 ≤ p) (h2 : p ≤ 9223372036854775807) (h : p < 0 ∨ (n : Int) < p) :
    Calls Tryz.prog 65 #[.slice A n c, .int .i64 p] w (IntEnd (0, 0, 1) w) := by
  by_cases h0 : p < 0
  · clear h
    go_enter Tryz.func65, Tryz.ntmps65
    go_wp2
    go_ret3
    exact intEnd_mk rfl
  · have h3 : (n : Int) < p := by omega
    clear h
    go_enter Tryz.func65, Tryz.ntmps65
    go_wp2
    go_ret3
    exact intEnd_mk rfl
theorem wrap_add (U y k V : Nat) (_hk : k < 10) (_hU : U < 18446744073709551616) (hV2 : V < 18446744073709551616) (hV : U + y * 2 ^ (7 * k) = V) (_hy : y < 128) (_h9 : k = 9 → y ≤ 1) :
    IntKind.u64.wrap ((U : Int) + IntKind.u64.wrap (((y : Nat) : Int) * 2 ^ (7 * k))) = (V : Int) := by
  have e : IntKind.u64.wrap ((y : Int) * 2 ^ (7 * k)) = ((y * 2 ^ (7 * k) : Nat) : Int) := by
    rw [IntKind.wrap_u64, Int.emod_eq_of_lt, Int.natCast_mul, Int.natCast_pow]
    · rfl
    · have : ((y : Int) * 2 ^ (7 * k)) = ((y * 2 ^ (7 * k) : Nat) : Int) := by rw [Int.natCast_mul, Int.natCast_pow]; rfl
      omega
    · have : ((y : Int) * 2 ^ (7 * k)) = ((y * 2 ^ (7 * k) : Nat) : Int) := by rw [Int.natCast_mul, Int.natCast_pow]; rfl
      omega
  rw [e, IntKind.wrap_u64]
  omega
set_option maxRecDepth 20000 in
set_option maxHeartbeats 1600000 in
theorem rint_mid (A : Option Addr) (n c p : Nat) (l : List UInt8) (w : World) (h : RB w A n l) (hp : p ≤ n) (hb : n ≤ 4611686018427387904) :
    Calls Tryz.prog 65 #[.slice A n c, .int .i64 (p : Int)] w (IntEnd (Wm.ires p (Wm.dec (l.drop p) 0 0)) w) := by
  obtain ⟨hl, hc0⟩ := h
  have HL := Hi hl
  have HC := Hi hc0
  clear hl hc0
  have d1 : decide ((p : Int) < 0) = false := by simp
  have d2 : decide (n < p) = false := by simp; omega
  go_enter Tryz.func65, Tryz.ntmps65
  go_wp2
  go_loop [7, 8] (fun u i => ∃ k U : Nat, i = .int .i64 k ∧ k ≤ 10 ∧ u = .int .u64 (U : Int) ∧ U < 18446744073709551616 ∧ (k < 10 → U < 2 ^ (7 * k)) ∧ Hid (Wm.dec ((l.drop p).drop k) k U = Wm.dec (l.drop p) 0 0)) (fun _ i => 10 - (intOf i).toNat)
  case atStart => exact ⟨0, 0, rfl, by omega, rfl, by omega, fun _ => by simp, rfl⟩
  case round =>
    obtain ⟨k, U, rfl, hk, rfl, hU, hU2, HD⟩ := hrel
    have HU2 := Hi hU2
    clear hU2
    have HU := Hi hU
    clear hU
    by_cases hlt : k < 10
    · by_cases hn : p + k < n
      · obtain ⟨b', off', rfl, c1⟩ := HC.out (p + k) (by omega)
        have hk10 : k < 10 := by omega
        obtain ⟨V, hV⟩ : ∃ V, U ||| ((l.getD (p + k) 0).toNat % 128 * 2 ^ (7 * k) % 18446744073709551616) = V := ⟨_, rfl⟩
        have DS := dec_step l p k U V _ _ (by rw [HL.out]; omega) rfl hk10 (HU2.out hk10) rfl hV
        have D1 := Hi DS.1
        have D2 := Hi DS.2.1
        have D3 := Hi DS.2.2
        have hx := (l.getD (p + k) 0).toNat_lt
        have HVE := Hi (show (k = 9 → (l.getD (p + k) 0).toNat % 128 ≤ 1) → U + (l.getD (p + k) 0).toNat % 128 * 2 ^ (7 * k) = V from fun h => by rw [← hV, or_add U _ k hk10 (HU2.out hk10) (by omega) h])
        have HV2 := Hi (show V < 18446744073709551616 from by rw [← hV]; exact Nat.or_lt_two_pow (n := 64) HU.out (by omega))
        clear hV DS
        generalize hXz : l.getD (p + k) 0 = x at *
        have HE := Hi (show endB k x = !(decide ((k = 9 ∧ 1 < x.toNat) ∨ (x.toNat = 0 ∧ 0 < k))) from rfl)
        generalize endB k x = eb at *
        have HXz := Hi hXz
        clear hXz
        generalize hz0 : x.toNat = z at *
        have HZ := Hi hz0
        clear hz0
        have HW := Hi (show (k = 9 → z % 128 ≤ 1) → IntKind.u64.wrap ((U : Int) + IntKind.u64.wrap ((z : Int) % 128 * 2 ^ (7 * k))) = (V : Int) from fun h => wrap_add U (z % 128) k V hk10 HU.out HV2.out (HVE.out h) (by omega) h)
        clear HVE
        by_cases h9 : k = 9 ∧ 1 < z
        · obtain ⟨h9, hz1⟩ := h9
          have hkk : ((k : Int) == 9) = true := by rw [h9]; rfl
          have HEF := Hi (show Wm.dec ((l.drop p).drop k) k U = .form from by
            rw [getD_drop l p k (by rw [HL.out]; omega), HXz.out, Wm.dec, if_neg (by omega), if_pos (by rw [HZ.out]; omega)])
          clear HE h9
          go_wp2
          go_ret3
          refine intEnd_mk ?_
          rw [← HD.out, HEF.out]
          rfl
        · have E2 := HW.out (by omega)
          by_cases hx2 : 128 ≤ z
          · have h9' : ¬ k = 9 ∨ k = 9 := by omega
            by_cases hk9 : k = 9
            · exact absurd hk9 (by omega)
            · have h9'' : ((k : Int) == 9) = false := by rw [beq_eq_false_iff_ne]; omega
              clear h9 h9' hk9
              go_wp2
              go_round
              case rel => exact ⟨k + 1, V, by go_num, by omega, rfl, HV2.out, (D1.out hx2).2, (D1.out hx2).1.symm.trans HD.out⟩
              case measure => simp [intOf]; omega
          · have em : ((z : Int) % 128) = (z : Int) := by omega
            have E3 : IntKind.u64.wrap ((U : Int) + IntKind.u64.wrap ((z : Int) * 2 ^ (7 * k))) = (V : Int) := by rw [em] at E2; exact E2
            clear em
            by_cases h0 : z = 0 ∧ 0 < k
            · obtain ⟨h0, hk0⟩ := h0
              have HE' := Hi (show eb = false by rw [HE.out]; simp [hk0, h0])
              have dz : ((z : Int) == 0) = true := by rw [h0]; rfl
              have dk : decide (0 < k) = true := by simpa using hk0
              have hz1 : z ≤ 1 := by omega
              clear h9 h0 HE
              by_cases hk9 : k = 9
              · have h9'' : ((k : Int) == 9) = true := by rw [hk9]; rfl
                clear hk9
                go_wp2
                go_ret3
                refine intEnd_mk ?_
                rw [← HD.out, D3.out (by omega) HE'.out]
                rfl
              · have h9'' : ((k : Int) == 9) = false := by rw [beq_eq_false_iff_ne]; omega
                clear hk9
                go_wp2
                go_ret3
                refine intEnd_mk ?_
                rw [← HD.out, D3.out (by omega) HE'.out]
                rfl
            · have HE' := Hi (show eb = true by rw [HE.out]; simp; omega)
              by_cases hz : z = 0
              · have dz : ((z : Int) == 0) = true := by rw [hz]; rfl
                have dk : decide (0 < k) = false := by simp; omega
                have h9'' : ((k : Int) == 9) = false := by rw [beq_eq_false_iff_ne]; omega
                clear h9 h0 HE hz
                go_wp2_with fail
                refine (runfold_any V _ HV2.out).mono ?_
                rintro e w' ⟨rfl, rfl⟩
                go_wp2
                go_ret3
                refine intEnd_mk ?_
                rw [← HD.out, D2.out (by omega) HE'.out]
                simp [Wm.ires]; try omega
              · have dz : ((z : Int) == 0) = false := by rw [beq_eq_false_iff_ne]; omega
                by_cases hk9 : k = 9
                · have h9'' : ((k : Int) == 9) = true := by rw [hk9]; rfl
                  have hz1 : z ≤ 1 := by omega
                  clear h9 h0 HE hz hk9
                  go_wp2_with fail
                  refine (runfold_any V _ HV2.out).mono ?_
                  rintro e w' ⟨rfl, rfl⟩
                  go_wp2
                  go_ret3
                  refine intEnd_mk ?_
                  rw [← HD.out, D2.out (by omega) HE'.out]
                  simp [Wm.ires]; try omega
                · have h9'' : ((k : Int) == 9) = false := by rw [beq_eq_false_iff_ne]; omega
                  clear h9 h0 HE hz hk9
                  go_wp2_with fail
                  refine (runfold_any V _ HV2.out).mono ?_
                  rintro e w' ⟨rfl, rfl⟩
                  go_wp2
                  go_ret3
                  refine intEnd_mk ?_
                  rw [← HD.out, D2.out (by omega) HE'.out]
                  simp [Wm.ires]; try omega
      · have HX := Hi (show (l.drop p).drop k = [] from List.drop_eq_nil_of_le (by rw [List.length_drop, HL.out]; omega))
        go_wp2
        go_ret3
        refine intEnd_mk ?_
        rw [← HD.out, HX.out, Wm.dec_nil _ _ (by omega)]
        rfl
    · obtain rfl : k = 10 := by omega
      go_wp2
      go_ret3
      refine intEnd_mk ?_
      rw [← HD.out, Wm.dec_ten]
      rfl
theorem rint_any (A : Option Addr) (n c : Nat) (l : List UInt8) (p : Int) (w : World) (h : RB w A n l) (hb : n ≤ 4611686018427387904) (h1 : -9223372036854775808 ≤ p) (h2 : p ≤ 9223372036854775807) :
    Calls Tryz.prog 65 #[.slice A n c, .int .i64 p] w (IntEnd (Wm.intR l p) w) := by
  unfold Wm.intR
  by_cases hbad : p < 0 ∨ (n : Int) < p
  · rw [if_pos (by rw [h.1]; exact hbad)]
    exact rint_bad A n c p w (by omega) h1 h2 hbad
  · rw [if_neg (by rw [h.1]; exact hbad)]
    obtain ⟨k, rfl⟩ := Int.eq_ofNat_of_zero_le (show 0 ≤ p by omega)
    rw [Int.toNat_natCast]
    exact rint_mid A n c k l w h (by omega) hb
end Go.Proofs.YticmoaebegahgaaGreatDoor.Wr
namespace Go.Proofs.YticmoaebegahgaaGreatDoor.Wr
open Go.ChangeShapes Go.WideShapes Go.ChangeAt Go.RowKit
theorem rem128 (u : Nat) : ((u : Int) % 128 + 128) = (((UInt8.ofNat (u % 128 + 128)).toNat : Nat) : Int) := by
  rw [Wm.ofNat_toNat _ (by omega)]; omega
set_option maxRecDepth 20000 in
set_option maxHeartbeats 1600000 in
theorem rput_any (A : Option Addr) (n c : Nat) (l : List UInt8) (x : Int) (w : World) (h : RB w A n l) (hn : n ≤ 1000000) (h1 : -9223372036854775808 ≤ x) (h2 : x ≤ 9223372036854775807) :
    Calls Tryz.prog 44 #[.slice A n c, .int .i64 x] w (OwnEnd (l ++ Wm.enc (Wm.fold x)) w) := by
  have HB := Hi h
  clear h
  go_enter Tryz.func44, Tryz.ntmps44
  have M1 := Hi (made_lit w w #[] 0 [] rfl rfl (grown_refl _ _) (by omega))
  go_wp2_with (at_builtin; refine wpList_app rfl (.tmp 7) (.tmp 8) rfl rfl rfl M1.out (HB.out.grown M1.out.gr) (by omega) n (by omega) ?_; intro A2 c2 w2 hm2 _; have M2 := Hi (show Made w w2 A2 n c2 (l ++ []) by simpa using hm2); clear hm2)
  refine (rfold_any x _ h1 h2).mono ?_
  rintro e w' ⟨rfl, rfl⟩
  have hF := Wm.fold_lt x h1 h2
  have hE := Wm.enc_ten _ hF
  generalize Wm.fold x = F at *
  go_wp2
  go_loopw [5, 6] (fun v u wr => ∃ (U N c : Nat) (A : Option Addr) (pre : List UInt8), u = .int .u64 (U : Int) ∧ U < 18446744073709551616 ∧ v = .slice A N c ∧ N ≤ n + 10 ∧ Hid (Made w wr A N c (l ++ pre)) ∧ Hid (pre ++ Wm.enc U = Wm.enc F)) (fun _ u _ => (intOf u).toNat)
  case atStart => exact ⟨F, n, c2, A2, [], rfl, hF, rfl, by omega, M2, rfl⟩
  case round =>
    obtain ⟨U, N, c3, A3, pre, rfl, hU, rfl, hN, M3, HP⟩ := hrel
    have hN2 : N + (Wm.enc U).length ≤ n + 10 := by
      have h1 := M3.out.len
      have h2 := congrArg List.length HP.out
      have h3 := HB.out.1
      simp only [List.length_append] at h1 h2
      omega
    have hp := Wm.enc_pos U
    by_cases hlt : 128 ≤ U
    · obtain ⟨y, hy⟩ : ∃ y, UInt8.ofNat (U % 128 + 128) = y := ⟨_, rfl⟩
      have HS := Hi (show (l ++ pre) ++ [y] = l ++ (pre ++ [y]) ∧ (pre ++ [y]) ++ Wm.enc (U / 128) = Wm.enc F from ⟨by simp, by rw [← HP.out, Wm.enc_big U hlt, hy]; simp⟩)
      have hl2 : N + 1 ≤ n + 10 := by omega
      have E1 := rem128 U
      rw [hy] at E1
      have hyl := y.toNat_lt
      clear hy hN2 hp
      go_wp2_with (at_builtin; refine wpList_app rfl (.tmp 14) (.tmp 19) rfl rfl rfl (M3.out.alloc _) (rb_lit _ _ 1 [y] rfl rfl (by omega)) (by omega) (N + 1) rfl ?_; intro A4 c4 w4 hm4 _; have M4 := Hi hm4; clear hm4)
      go_roundw
      case rel => exact ⟨U / 128, N + 1, c4, A4, pre ++ [y], by go_num, by omega, rfl, hl2, by rw [← HS.out.1]; exact M4, HS.out.2⟩
      case measure => simp [intOf]; omega
    · obtain ⟨y, hy⟩ : ∃ y, UInt8.ofNat U = y := ⟨_, rfl⟩
      have hyU : U = y.toNat := by rw [← hy, Wm.ofNat_toNat U (by omega)]
      have HS := Hi (show (l ++ pre) ++ [y] = l ++ Wm.enc F by rw [← HP.out, Wm.enc_small U (by omega), hy, List.append_assoc])
      have hl2 : N + 1 ≤ n + 10 := by omega
      clear hy hN2 hp HP
      subst hyU
      go_wp2_with (at_builtin; refine wpList_app rfl (.tmp 23) (.tmp 26) rfl rfl rfl (M3.out.alloc _) (rb_lit _ _ 1 [y] rfl rfl (by omega)) (by omega) (N + 1) rfl ?_; intro A4 c4 w4 hm4 _; have M4 := Hi hm4; clear hm4)
      go_ret
      exact ⟨A4, N + 1, c4, rfl, by rw [← HS.out]; exact M4.out⟩
end Go.Proofs.YticmoaebegahgaaGreatDoor.Wr
namespace Go.Proofs.YticmoaebegahgaaGreatDoor.Wr
open Go.ChangeShapes Go.WideShapes Go.ChangeAt Go.RowKit
theorem tdiv_down (a b : Int) (hb : 1 ≤ b) (h : a.tmod b < 0) : a.tdiv b - 1 = a / b := by
  have e := Int.mul_tdiv_add_tmod a b
  have hl := Int.lt_tmod_of_pos a (b := b) (by omega)
  rw [Int.mul_comm] at e
  refine Eq.symm ((Int.ediv_eq_iff_of_pos (by omega)).2 ?_)
  rw [Int.sub_mul]
  omega
theorem tdiv_same (a b : Int) (hb : 1 ≤ b) (h : 0 ≤ a.tmod b) : a.tdiv b = a / b := by
  have e := Int.mul_tdiv_add_tmod a b
  have hl : a.tmod b < b := Int.tmod_lt_of_pos a (by omega)
  rw [Int.mul_comm] at e
  refine Eq.symm ((Int.ediv_eq_iff_of_pos (by omega)).2 ?_)
  omega
theorem tmod_range (a b : Int) (hb : 1 ≤ b) : -b < a.tmod b ∧ a.tmod b < b :=
  ⟨by have := Int.lt_tmod_of_pos a (b := b) (by omega); omega, Int.tmod_lt_of_pos a (by omega)⟩
theorem mod_pos (x n : Int) (w : World) (hn : 1 ≤ n) (hn2 : n ≤ 4611686018427387904) (_hx : -9223372036854775808 ≤ x) (_hx2 : x ≤ 9223372036854775807) :
    Calls Tryz.prog 29 #[.int .i64 x, .int .i64 n] w fun e w' => e = .returned (.int .i64 (x % n)) ∧ w = w' := by
  have hr := tmod_range x n hn
  have he := Int.emod_nonneg x (b := n) (by omega)
  have he2 := Int.emod_lt_of_pos x (b := n) (by omega)
  have hh : x % n = if x.tmod n < 0 then x.tmod n + n else x.tmod n := by
    have a1 := Int.mul_tdiv_add_tmod x n
    have a2 := Int.mul_ediv_add_emod x n
    split
    · rename_i h
      have := tdiv_down x n hn h
      rw [← this, Int.mul_sub, Int.mul_one] at a2; omega
    · rename_i h
      have := tdiv_same x n hn (by omega)
      rw [← this] at a2; omega
  have H := Hi hh
  clear hh he he2
  by_cases hm : x.tmod n < 0
  · go_enter Tryz.func29, Tryz.ntmps29
    go_wp2
    go_ret
    exact ⟨ret_int (by rw [H.out, if_pos hm]), rfl⟩
  · go_enter Tryz.func29, Tryz.ntmps29
    go_wp2
    go_ret
    exact ⟨ret_int (by rw [H.out, if_neg (by omega)]), rfl⟩
theorem grown_set (w : World) (p : Addr) (u : Value) : w.grownBy (w.setCell p u) (some p.block) :=
  ⟨rfl, rfl, rfl, by simp [World.setCell], fun k _ hr => Below.heap_setCell _ _ _ _ (by intro e; subst e; exact hr rfl)⟩
def IsI64 (x : Int) : Prop := -9223372036854775808 ≤ x ∧ x ≤ 9223372036854775807
def SrcOK (w : World) (S : Nat) : Prop := ∃ (a : Option Addr) (b off cap k : Nat) (l : List Int),
  w.cell? ⟨S, 0, none⟩ = some (.slice a l.length cap) ∧ w.cell? ⟨S, 1, none⟩ = some (.int .i64 k) ∧ w.frozen? ⟨S, 1, none⟩ = false ∧
  (0 < l.length → b < S) ∧ k ≤ l.length ∧ l.length ≤ 2000 ∧ (0 < l.length → a = some ⟨b, off, none⟩) ∧ (∀ i, i < l.length → w.cell? ⟨b, off + i, none⟩ = some (.int .i64 (l.getD i 0))) ∧ ∀ i, IsI64 (l.getD i 0)
theorem SrcOK.grownRow {w w' : World} {S : Nat} {row : Option Nat} (h : SrcOK w S) (hg : w.grownBy w' row) (hrow : ∀ k, row = some k → S < k) : SrcOK w' S := by
  obtain ⟨a, b, off, cap, k, l, h0, h1, hf, hb, hk, hl, ha, hc, hr⟩ := h
  have hS : some S ≠ row := fun e => Nat.lt_irrefl _ (hrow S e.symm)
  exact ⟨a, b, off, cap, k, l, hg.cell h0 hS, hg.cell h1 hS, by rw [World.frozen?_of_block (hg.block S (World.block_lt_of_cell? w _ h1) hS)]; exact hf, hb, hk, hl, ha,
    fun i hi => hg.cell (hc i hi) (fun e => by have := hrow b e.symm; have := hb (by omega); omega), hr⟩
theorem SrcOK.grown {w w' : World} {S : Nat} (h : SrcOK w S) (hg : w.grownBy w' none) : SrcOK w' S := h.grownRow hg (fun _ h => by cases h)
def RawEnd (S : Nat) (P : Int → Prop) (w : World) (e : Ending) (w' : World) : Prop := ∃ r : Int, P r ∧ e = .returned (.int .i64 r) ∧ w.grownBy w' (some S) ∧ SrcOK w' S
set_option maxHeartbeats 400000 in
theorem raw_any (S : Nat) (w : World) (hs : SrcOK w S) : Calls Tryz.prog 30 #[.pointer (some ⟨S, 0, none⟩)] w (RawEnd S IsI64 w) := by
  have HS := Hi hs
  obtain ⟨a, b, off, cap, k, l, h0, h1, hf, hb, hk, hl, ha, hc, hr⟩ := hs
  generalize hn : l.length = n at *
  have HN := Hi hn
  clear hn
  by_cases hlt : k < n
  · obtain rfl := ha (by omega)
    have HB := Hi hb
    have hbS : b ≠ S := by have := hb (by omega); omega
    clear hb
    have c1 := hc k hlt
    have r1 := hr k
    generalize hx : l.getD k 0 = x at c1 r1
    clear hx
    have HC := Hi hc
    have HR := Hi hr
    clear hc hr ha
    go_enter Tryz.func30, Tryz.ntmps30
    go_wp2
    go_quiet (fail)
    go_wp2
    go_quiet (fail)
    go_wp2
    go_ret
    refine ⟨x, r1, rfl, ?_, ?_⟩
    · exact grown_trans (grown_drewN _ _ _) (grown_trans (grown_set _ ⟨S, 1, none⟩ _) (grown_drewN _ _ _))
    · refine ⟨some ⟨b, off, none⟩, b, off, cap, k + 1, l, ?_, ?_, ?_, by rw [HN.out]; exact HB.out, by rw [HN.out]; omega, by rw [HN.out]; omega, fun _ => rfl, fun i hi => ?_, HR.out⟩
      · rw [HN.out]
        exact (World.cell?_setCell_other _ _ _ _ (by simp)).trans h0
      · exact World.cell?_setCell_same _ _ _ (u := .int .i64 k) h1
      · simp [hf]
      · exact (World.cell?_setCell_other _ _ _ _ (by intro e; injection e with e1; exact hbS e1.symm)).trans (HC.out i (by rw [← HN.out]; exact hi))
  · clear ha hc hr hb
    go_enter Tryz.func30, Tryz.ntmps30
    go_wp2
    go_quiet (fail)
    go_wp2
    go_ret
    exact ⟨0, ⟨by omega, by omega⟩, rfl, grown_drewN _ _ _, HS.out.grown (grown_drewN _ _ _)⟩
theorem n_any (S : Nat) (n : Int) (w : World) (hs : SrcOK w S) (hn : 1 ≤ n) (hn2 : n ≤ 4611686018427387904) :
    Calls Tryz.prog 16 #[.pointer (some ⟨S, 0, none⟩), .int .i64 n] w (RawEnd S (fun r => 0 ≤ r ∧ r < n) w) := by
  have HS := Hi hs
  clear hs
  go_enter Tryz.func16, Tryz.ntmps16
  go_wp2_with fail
  refine (raw_any S _ HS.out).mono ?_
  rintro e w' ⟨r, hr, rfl, hg, hs'⟩
  have HG := Hi hg
  have HS' := Hi hs'
  clear hg hs'
  obtain ⟨r1, r2⟩ := hr
  go_wp2_with fail
  refine (mod_pos r n _ hn hn2 r1 r2).mono ?_
  rintro e w'' ⟨rfl, rfl⟩
  have m1 := Hi (Int.emod_nonneg r (b := n) (by omega))
  have m2 := Hi (Int.emod_lt_of_pos r (b := n) (by omega))
  generalize r % n = m at *
  go_wp2
  go_ret
  exact ⟨m, ⟨m1.out, m2.out⟩, rfl, HG.out, HS'.out⟩
theorem pick_any (S b off n cap : Nat) (xs : List Int) (w : World) (hs : SrcOK w S) (hb : b ≠ S) (hn : xs.length = n) (h0 : 0 < n) (hl : n ≤ 1000000)
    (hc : ∀ i, i < n → w.cell? ⟨b, off + i, none⟩ = some (.int .i64 (xs.getD i 0))) :
    Calls Tryz.prog 24 #[.pointer (some ⟨S, 0, none⟩), .slice (some ⟨b, off, none⟩) n cap] w (RawEnd S (fun r => ∃ j, j < n ∧ r = xs.getD j 0) w) := by
  have HS := Hi hs
  have HC := Hi hc
  have HN := Hi hn
  clear hs hc hn
  go_enter Tryz.func24, Tryz.ntmps24
  go_wp2_with fail
  refine (n_any S _ _ HS.out (by omega) (by omega)).mono ?_
  rintro e w' ⟨r, hr, rfl, hg, hs'⟩
  obtain ⟨j, rfl⟩ := Int.eq_ofNat_of_zero_le hr.1
  have hj : j < n := by omega
  have c1 := hg.cell (HC.out j hj) (by simpa using hb)
  generalize hx : xs.getD j 0 = x at c1
  have HX := Hi hx
  have HG := Hi hg
  have HS' := Hi hs'
  clear hg hs' hx
  go_wp2
  go_ret
  exact ⟨x, ⟨j, hj, HX.out.symm⟩, rfl, HG.out, HS'.out⟩
def NewEnd (w : World) (e : Ending) (w' : World) : Prop := e = .returned (.pointer (some ⟨w.heap.size, 0, none⟩)) ∧ w.grownBy w' none ∧ SrcOK w' w.heap.size ∧ w.heap.size < w'.heap.size
def InRow (w : World) (a : Option Addr) (len cap : Nat) (zs : List Int) : Prop :=
  ∃ b off, (0 < len → b < w.heap.size) ∧ zs.length = len ∧ len ≤ cap ∧ cap ≤ 9223372036854775807 ∧ (0 < len → a = some ⟨b, off, none⟩) ∧ (∀ i, i < len → w.cell? ⟨b, off + i, none⟩ = some (.int .i64 (zs.getD i 0))) ∧ ∀ i, IsI64 (zs.getD i 0)
theorem getD_take (l : List Int) (n i : Nat) (h : i < n) : (l.take n).getD i 0 = l.getD i 0 := by
  simp [List.getD_eq_getElem?_getD, h]
theorem getD_take_ok (l : List Int) (n i : Nat) (h : ∀ i, IsI64 (l.getD i 0)) : IsI64 ((l.take n).getD i 0) := by
  by_cases e : i < n
  · rw [getD_take l n i e]; exact h i
  · simp [List.getD_eq_getElem?_getD, List.getElem?_take, e]; exact ⟨by omega, by omega⟩
theorem new_any (a : Option Addr) (len cap : Nat) (zs : List Int) (w : World) (h : InRow w a len cap zs) :
    Calls Tryz.prog 5 #[.slice a len cap] w (NewEnd w) := by
  obtain ⟨b, off, hb, hzl, hlc, hcap, ha, hc, hr⟩ := h
  have HA := Hi ha
  have HC := Hi hc
  have HR := Hi hr
  have HZ := Hi hzl
  have HB := Hi hb
  clear ha hc hr hzl hb
  by_cases hl : len ≤ 2000
  · go_enter Tryz.func5, Tryz.ntmps5
    go_wp2
    go_ret
    refine ⟨rfl, World.grownBy_alloc _ _ _, ⟨a, b, off, cap, 0, zs, by rw [HZ.out]; simp, by simp, by simp, by rw [HZ.out]; exact HB.out, by omega, by rw [HZ.out]; exact hl, by rw [HZ.out]; exact HA.out, fun i hi => ?_, HR.out⟩, by simp⟩
    exact (World.grownBy_alloc w _ none).cell (HC.out i (by rw [← HZ.out]; exact hi)) (by simp)
  · go_enter Tryz.func5, Tryz.ntmps5
    go_wp2
    go_ret
    have hz : (zs.take 2000).length = 2000 := by rw [List.length_take, HZ.out]; omega
    refine ⟨rfl, World.grownBy_alloc _ _ _, ⟨a, b, off, cap, 0, zs.take 2000, by rw [hz]; simp, by simp, by simp, fun _ => HB.out (by omega), by omega, by omega, fun _ => HA.out (by omega), fun i hi => ?_, fun i => getD_take_ok zs 2000 i HR.out⟩, by simp⟩
    rw [getD_take zs 2000 i (by omega)]
    exact (World.grownBy_alloc w _ none).cell (HC.out i (by omega)) (by simp)
end Go.Proofs.YticmoaebegahgaaGreatDoor.Wr
namespace Go.Proofs.YticmoaebegahgaaGreatDoor.Wr
open Go.ChangeShapes Go.WideShapes Go.ChangeAt Go.RowKit
theorem RB.take {w : World} {A : Option Addr} {n : Nat} {l : List UInt8} (h : RB w A n l) (k : Nat) (hk : k ≤ n) : RB w A k (l.take k) := by
  refine ⟨by rw [List.length_take, h.1]; omega, fun i hi => ?_⟩
  obtain ⟨b, off, e, hc⟩ := h.2 i (by omega)
  exact ⟨b, off, e, by rw [hc]; simp [List.getD_eq_getElem?_getD, hi]⟩
theorem RB.drop {w : World} {b off n : Nat} {l : List UInt8} (h : RB w (some ⟨b, off, none⟩) n l) (k m : Nat) (hk : k + m = n) : RB w (some ⟨b, off + k, none⟩) m (l.drop k) := by
  refine ⟨by rw [List.length_drop, h.1]; omega, fun i hi => ?_⟩
  obtain ⟨b', off', e, hc⟩ := h.2 (k + i) (by omega)
  injection e with e
  injection e with e1 e2
  subst e1; subst e2
  exact ⟨b, off + k, rfl, by rw [Nat.add_assoc, hc]; simp [List.getD_eq_getElem?_getD]⟩
def InB (w : World) (A : Option Addr) (n c : Nat) (l : List UInt8) : Prop := RB w A n l ∧ n ≤ c ∧ c ≤ 9223372036854775807
theorem bvs_set (l : List UInt8) (i : Nat) (y : UInt8) : bvs (l.set i y) = (bvs l).set i (bv y) := by simp [bvs, List.map_set]
theorem held_strong {P : Program} {ops : Array Oper} {Q : Exit → Act → World → Prop} {md : Region.Mode} {S S' : World → Prop} (h : ∀ w, S' w → S w) :
    ∀ (fuel : Nat) (listed : Array Bool) (a : Act) (w : World), wpAnyH P md ops Q S' fuel listed a w → wpAnyH P md ops Q S fuel listed a w
  | 0, _, _, _, hh => hh
  | fuel + 1, _, _, _, hh => ⟨hh.1, fun i hi => wpOp_mono (fun a' w' ⟨s, r⟩ => ⟨h _ s, held_strong h fuel _ a' w' r⟩) (hh.2 i hi)⟩
def CSx (S : World → Prop) (A : Option Addr) (n c : Nat) (l : List UInt8) (w' : World) : Prop :=
  S w' ∧ (convert 22 9 (.slice A n c)).run Tryz.prog w' = .ok (.string ⟨l.toArray⟩) w'
theorem csx_mk {S : World → Prop} {A : Option Addr} {n c : Nat} {l : List UInt8} {w : World} (hS : S w) (h : RB w A n l) : CSx S A n c l w := ⟨hS, conv_str _ _ _ _ _ h⟩
end Go.Proofs.YticmoaebegahgaaGreatDoor.Wr
