/- Contracts of unescape and Unstuff of package wire. -/
import Derived.Test.YtcjbhkocpfkcbaaDoorWireStuff
namespace Go.Proofs.YtcjbhkocpfkcbaaDoor.Wr
open Go.ChangeShapes Go.WideShapes Go.ChangeAt Go.RowKit

def UnEnd (o : List UInt8 × Int) (w : World) (e : Ending) (w' : World) : Prop := ∃ A n c, e = .returned (.tuple #[.slice A n c, .int .i64 o.2]) ∧ Made w w' A n c o.1
theorem unEnd_bad {o : List UInt8 × Int} {w w' : World} {v : Int} (h : o = ([], v)) (hg : w.grownBy w' none) : UnEnd o w (.returned (.tuple #[.slice none 0 0, .int .i64 v])) w' := by
  subst h; exact ⟨none, 0, 0, rfl, made_nil _ _ hg⟩
theorem unEnd_good {o : List UInt8 × Int} {w w' : World} {A : Option Addr} {n c : Nat} {l : List UInt8} (h : o = (l, 0)) (hm : Made w w' A n c l) : UnEnd o w (.returned (.tuple #[.slice A n c, .int .i64 0])) w' := by
  subst h; exact ⟨A, n, c, rfl, hm⟩

def unR (l : List UInt8) : List UInt8 × Int := match Wm.un [] false l with | some r => (r, 0) | none => ([], 3)
theorem unR_none {l : List UInt8} (h : Wm.un [] false l = none) : unR l = ([], 3) := by unfold unR; rw [h]
theorem unR_some {l r : List UInt8} (h : Wm.un [] false l = some r) : unR l = (r, 0) := by unfold unR; rw [h]

theorem un_step (out l : List UInt8) (k : Nat) (x : UInt8) (hk : k < l.length) (hx : l.getD k 0 = x) :
    (Wm.mark (x ^^^ 32) = true → Wm.un out true (l.drop k) = Wm.un (out ++ [x ^^^ 32]) false (l.drop (k + 1))) ∧ (Wm.mark (x ^^^ 32) = false → Wm.un out true (l.drop k) = none) ∧
    (x = 125 → Wm.un out false (l.drop k) = Wm.un out true (l.drop (k + 1))) ∧ (x ≠ 125 → Wm.mark x = true → Wm.un out false (l.drop k) = none) ∧
    (x ≠ 125 → Wm.mark x = false → Wm.un out false (l.drop k) = Wm.un (out ++ [x]) false (l.drop (k + 1))) := by
  have e : l.drop k = x :: l.drop (k + 1) := by
    rw [List.drop_eq_getElem_cons hk]
    congr 1
    rw [← hx]; simp [List.getD, hk]
  rw [e]
  refine ⟨fun h => ?_, fun h => ?_, fun h => ?_, fun h h2 => ?_, fun h h2 => ?_⟩
  · rw [Wm.un, if_pos h]
  · rw [Wm.un, if_neg (by simp [h])]
  · rw [Wm.un, if_pos h]
  · rw [Wm.un, if_neg h, if_pos h2]
  · rw [Wm.un, if_neg h, if_neg (by simp [h2])]

set_option maxRecDepth 20000 in
set_option maxHeartbeats 2000000 in
theorem unescape_any (A : Option Addr) (n c : Nat) (l : List UInt8) (w : World) (h : RB w A n l) (hn : n ≤ 1000000) :
    Calls Tryd.prog 48 #[.slice A n c] w (UnEnd (unR l) w) := by
  obtain ⟨hl, hc⟩ := h
  have HL := Lib.hid hl
  have HC := Lib.hid hc
  clear hl hc
  go_enter Tryd.func48, Tryd.ntmps48
  go_wp2_with (at_make; refine wpList_mk rfl _ _ rfl _ n rfl rfl (by omega) (by omega) ?_; intro w1 hm1; have M1 := Lib.hid hm1; clear hm1)
  go_loopw [4, 5, 7, 13, 21, 32, 35] (fun v es _ i _ _ _ wr => ∃ (k N c : Nat) (A : Option Addr) (out : List UInt8) (eb : Bool), i = .int .i64 k ∧ k ≤ n ∧ es = .bool eb ∧ v = .slice A N c ∧ N ≤ k ∧ Hid (Made w wr A N c out) ∧ Hid (Wm.un out eb (l.drop k) = Wm.un [] false l)) (fun _ _ _ i _ _ _ _ => n - (intOf i).toNat)
  case atStart => exact ⟨0, 0, n, _, [], false, rfl, by omega, rfl, rfl, by omega, M1, rfl⟩
  case round =>
    obtain ⟨k, N, c3, A3, out, eb, rfl, hk, rfl, rfl, hN, M3, HU⟩ := hrel
    by_cases hlt : k < n
    · obtain ⟨b, off, rfl, cc⟩ := HC.out k hlt
      have c1 := M3.out.gr.cell cc (by simp)
      have US := un_step out l k _ (by rw [HL.out]; exact hlt) rfl
      obtain ⟨u1, u2, u3, u4, u5⟩ := US
      have U1 := Lib.hid u1
      have U2 := Lib.hid u2
      have U3 := Lib.hid u3
      have U4 := Lib.hid u4
      have U5 := Lib.hid u5
      clear u1 u2 u3 u4 u5 cc
      generalize l.getD k 0 = x at *
      have hxl := x.toNat_lt
      cases eb with
      | true =>
        have E1 := xor8 x
        generalize x ^^^ 32 = y at *
        have hyl := y.toNat_lt
        by_cases hm : Wm.mark y = true
        · have HM := Lib.hid hm
          clear hm
          go_wp2_with fail
          refine (mark_yes y _ HM.out).mono ?_
          rintro e w' ⟨rfl, rfl⟩
          go_wp2_with (at_builtin; refine wpList_app rfl (.tmp 28) (.tmp 30) rfl rfl rfl (M3.out.alloc _) (rb_lit _ _ 1 [y] rfl rfl (by omega)) (by omega) (N + 1) rfl ?_; intro A4 c4 w4 hm4 _; have M4 := Lib.hid hm4; clear hm4)
          go_roundw
          case rel => exact ⟨k + 1, N + 1, c4, A4, out ++ [y], false, by go_num, by omega, rfl, rfl, by omega, M4, (U1.out HM.out).symm.trans HU.out⟩
          case measure => simp [intOf]; omega
        · have HM := Lib.hid (eq_false_of_ne_true hm)
          clear hm
          go_wp2_with fail
          refine (mark_no y _ HM.out).mono ?_
          rintro e w' ⟨rfl, rfl⟩
          go_wp2
          go_ret2
          exact unEnd_bad (unR_none (HU.out.symm.trans (U2.out HM.out))) M3.out.gr
      | false =>
        by_cases hx : x = 125
        · have HX := Lib.hid hx
          have hx2 : ((x.toNat : Int) == 125) = true := by rw [hx]; rfl
          clear hx
          go_wp2
          go_roundw
          case rel => exact ⟨k + 1, N, c3, A3, out, true, by go_num, by omega, rfl, rfl, by omega, M3, (U3.out HX.out).symm.trans HU.out⟩
          case measure => simp [intOf]; omega
        · have HX := Lib.hid hx
          have hx2 : ((x.toNat : Int) == 125) = false := by
            rw [beq_eq_false_iff_ne]
            intro e
            exact hx (UInt8.toNat_inj.1 (by have : (125 : UInt8).toNat = 125 := rfl; omega))
          clear hx
          by_cases hm : Wm.mark x = true
          · have HM := Lib.hid hm
            clear hm
            go_wp2_with fail
            refine (mark_yes x _ HM.out).mono ?_
            rintro e w' ⟨rfl, rfl⟩
            go_wp2
            go_ret2
            exact unEnd_bad (unR_none (HU.out.symm.trans (U4.out HX.out HM.out))) M3.out.gr
          · have HM := Lib.hid (eq_false_of_ne_true hm)
            clear hm
            go_wp2_with fail
            refine (mark_no x _ HM.out).mono ?_
            rintro e w' ⟨rfl, rfl⟩
            go_wp2_with (at_builtin; refine wpList_app rfl (.tmp 17) (.tmp 19) rfl rfl rfl (M3.out.alloc _) (rb_lit _ _ 1 [x] rfl rfl (by omega)) (by omega) (N + 1) rfl ?_; intro A4 c4 w4 hm4 _; have M4 := Lib.hid hm4; clear hm4)
            go_roundw
            case rel => exact ⟨k + 1, N + 1, c4, A4, out ++ [x], false, by go_num, by omega, rfl, rfl, by omega, M4, (U5.out HX.out HM.out).symm.trans HU.out⟩
            case measure => simp [intOf]; omega
    · obtain rfl : k = n := by omega
      have HX := Lib.hid (show l.drop k = [] from List.drop_eq_nil_of_le (by rw [HL.out]; omega))
      cases eb with
      | true =>
        go_wp2
        go_ret2
        exact unEnd_bad (unR_none (by rw [← HU.out, HX.out]; rfl)) M3.out.gr
      | false =>
        go_wp2
        go_ret2
        exact unEnd_good (unR_some (by rw [← HU.out, HX.out]; rfl)) M3.out
end Go.Proofs.YtcjbhkocpfkcbaaDoor.Wr
