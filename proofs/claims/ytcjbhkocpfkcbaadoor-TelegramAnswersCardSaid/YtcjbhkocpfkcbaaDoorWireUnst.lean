/- The contract of Unstuff of package wire. -/
import Derived.Test.YtcjbhkocpfkcbaaDoorWireUn
namespace Go.Proofs.YtcjbhkocpfkcbaaDoor.Wr
open Go.ChangeShapes Go.WideShapes Go.ChangeAt Go.RowKit

theorem unst_split (l : List UInt8) (k : Nat) (hl : l.length = k + 2) (h0 : l.getD 0 0 = 126) (h1 : l.getD (k + 1) 0 = 124) : l = 126 :: ((l.drop 1).take k ++ [124]) := by
  cases l with
  | nil => simp at hl
  | cons a t =>
    simp at h0; subst h0
    congr 1
    have ht : t.length = k + 1 := by simpa using hl
    show t = t.take k ++ [124]
    conv => lhs; rw [← List.take_append_drop k t]
    congr 1
    rw [List.drop_eq_getElem_cons (by omega), List.drop_eq_nil_of_le (by omega)]
    congr 1
    simpa [List.getD, ht] using h1
theorem unst_unR (l : List UInt8) (k : Nat) (hl : l.length = k + 2) (h0 : l.getD 0 0 = 126) (h1 : l.getD (k + 1) 0 = 124) : unR ((l.drop 1).take k) = Wm.unst l := by
  conv => rhs; rw [unst_split l k hl h0 h1]
  rw [Wm.unst_mid]; rfl

theorem unEnd_mk {o o' : List UInt8 × Int} {w w' : World} {A : Option Addr} {n c : Nat} (h : o' = o) (hm : Made w w' A n c o'.1) : UnEnd o w (.returned (.tuple #[.slice A n c, .int .i64 o'.2])) w' := by
  subst h; exact ⟨A, n, c, rfl, hm⟩

theorem eq_u8 (x : UInt8) (v : UInt8) (h : x = v) : ((x.toNat : Int) != (v.toNat : Int)) = false := by rw [h]; simp
theorem ne_u8 (x : UInt8) (v : UInt8) (h : x ≠ v) : ((x.toNat : Int) != (v.toNat : Int)) = true := by
  rw [bne_iff_ne]; intro e; exact h (UInt8.toNat_inj.1 (by omega))

set_option maxHeartbeats 1000000 in
theorem unstuff_any (A : Option Addr) (n c : Nat) (l : List UInt8) (w : World) (h : RB w A n l) (hn : n ≤ 1000000) (hc : n ≤ c) (_hc2 : c ≤ 9223372036854775807) :
    Calls Tryd.prog 38 #[.slice A n c] w (UnEnd (Wm.unst l) w) := by
  by_cases h2 : n < 2
  · have HU := Lib.hid (Wm.unst_short l (by rw [h.1]; exact h2))
    clear h
    go_enter Tryd.func38, Tryd.ntmps38
    go_wp2
    go_ret2
    exact unEnd_bad HU.out (grown_refl _ _)
  · obtain ⟨k, rfl⟩ : ∃ k, n = k + 2 := ⟨n - 2, by omega⟩
    obtain ⟨hl, hcell⟩ := h
    obtain ⟨b, off, rfl, c0⟩ := hcell 0 (by omega)
    obtain ⟨b', off', e, c1⟩ := hcell (k + 1) (by omega)
    injection e with e
    injection e with e1 e2
    subst e1; subst e2
    rw [Nat.add_zero] at c0
    have HL := Lib.hid hl
    have HC := Lib.hid hcell
    clear hl hcell h2
    have hcl : ¬ c = 1 := by omega
    by_cases h0 : l.getD 0 0 = 126
    · by_cases h1 : l.getD (k + 1) 0 = 124
      · have hu := unst_unR l k HL.out h0 h1
        have hr := (show RB w (some ⟨b, off + 1, none⟩) k ((l.drop 1).take k) from by
          refine ⟨by rw [List.length_take, List.length_drop, HL.out]; omega, fun i hi => ?_⟩
          obtain ⟨b', off', e, cc⟩ := HC.out (i + 1) (by omega)
          injection e with e
          injection e with e1 e2
          subst e1; subst e2
          refine ⟨b, off + 1, rfl, ?_⟩
          rw [show off + 1 + i = off + (i + 1) by omega, cc]
          simp [List.getD_eq_getElem?_getD, hi])
        generalize (l.drop 1).take k = M at hu hr
        have HU := Lib.hid hu
        have hR := Lib.hid hr
        clear hu hr
        have d0 : (((l.getD 0 0).toNat : Int) != 126) = false := eq_u8 _ 126 h0
        have d1 : (((l.getD (k + 1) 0).toNat : Int) != 124) = false := eq_u8 _ 124 h1
        clear h0 h1
        generalize l.getD 0 0 = x at *
        generalize l.getD (k + 1) 0 = y at *
        go_enter Tryd.func38, Tryd.ntmps38
        go_wp2_with fail
        refine (unescape_any _ k _ _ _ hR.out (by omega)).mono ?_
        rintro e w' ⟨A', n', c', rfl, hm⟩
        have HM := Lib.hid hm
        clear hm
        go_wp2
        go_ret2
        exact unEnd_mk HU.out HM.out
      · have HU := Lib.hid (Wm.unst_ends l (by rw [HL.out]; omega) (.inr (by rw [HL.out]; exact h1)))
        have d0 : (((l.getD 0 0).toNat : Int) != 126) = false := eq_u8 _ 126 h0
        have d1 : (((l.getD (k + 1) 0).toNat : Int) != 124) = true := ne_u8 _ 124 h1
        clear h0 h1
        generalize l.getD 0 0 = x at *
        generalize l.getD (k + 1) 0 = y at *
        go_enter Tryd.func38, Tryd.ntmps38
        go_wp2
        go_ret2
        exact unEnd_bad HU.out (grown_refl _ _)
    · have HU := Lib.hid (Wm.unst_ends l (by rw [HL.out]; omega) (.inl h0))
      have d0 : (((l.getD 0 0).toNat : Int) != 126) = true := ne_u8 _ 126 h0
      clear h0
      generalize l.getD 0 0 = x at *
      go_enter Tryd.func38, Tryd.ntmps38
      go_wp2
      go_ret2
      exact unEnd_bad HU.out (grown_refl _ _)
end Go.Proofs.YtcjbhkocpfkcbaaDoor.Wr
