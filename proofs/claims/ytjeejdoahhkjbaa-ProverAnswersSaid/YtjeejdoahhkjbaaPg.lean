/- Contracts of the program's factor and check. -/
import Derived.Test.YtjeejdoahhkjbaaPf
namespace Go.Proofs.Ytjeejdoahhkjbaa
open Go.ChangeShapes Go.WideShapes Go.ChangeAt Go.RowKit

def psm (x : Nat → Int) : Nat → Int
  | 0 => 0
  | k + 1 => psm x k + x k
theorem psm_range {x : Nat → Int} (h : Pm.Runs 5 x) (k : Nat) (hk : k ≤ 5) : 0 ≤ psm x k ∧ psm x k ≤ 1073741824 * k := by
  induction k with
  | zero => exact ⟨Int.le_refl _, by simp [psm]⟩
  | succ k ih =>
    have := ih (by omega)
    have := h k (by omega)
    unfold psm
    omega
theorem psm_five (x : Nat → Int) (k : Nat) : psm (Pm.at' x k) 5 = Pm.sum5 x k := by
  simp [psm, Pm.at', Pm.sum5]
theorem vp_range {v p : Int} (h1 : 1 ≤ v) (h2 : v ≤ 100000) (h3 : 1 ≤ p) (h4 : p ≤ 1048576) : 0 ≤ 5 * v * p ∧ 5 * v * p ≤ 524288000000 := by
  refine ⟨Int.mul_nonneg (by omega) (by omega), ?_⟩
  have := Int.mul_le_mul (show 5 * v ≤ 500000 by omega) h4 (by omega) (by omega)
  omega

set_option maxHeartbeats 1000000 in
theorem factor_any (v t p b f : Int) (B off cap : Nat) (y : Nat → Int) (w : World) (hv : Pm.pvalid v t = true) (hm : Mt.valid p b f = true) (h : Rw w B off 5 y) (hx : Pm.Runs 5 y) :
    Calls Try.prog 27 #[pv v t, mv p b f, .slice (some ⟨B, off, none⟩) 5 cap] w (Ret (.int .i64 (Rd.half (5 * v * p * 100) (psm y 5))) w) := by
  obtain ⟨v1, v2, _, _⟩ := Pm.pvalid_true hv
  obtain ⟨p1, p2, _, _⟩ := Mt.valid_true hm
  have hvp := vp_range v1 v2 p1 p2
  have HX := Lib.hid h
  have HR := Lib.hid hx
  clear h hx hv hm
  unfold pv mv
  go_enter Try.func27, Try.ntmps27
  go_wp2
  have k0 : ((w.alloc (Obj.cells #[.int .i64 v, .int .i64 t] 23)).alloc (Obj.cells #[.int .i64 p, .int .i64 b, .int .i64 f] 25)).cell? ⟨w.heap.size, 0, none⟩ = some (.int .i64 v) := by simp
  have k1 : ((w.alloc (Obj.cells #[.int .i64 v, .int .i64 t] 23)).alloc (Obj.cells #[.int .i64 p, .int .i64 b, .int .i64 f] 25)).cell? ⟨w.heap.size + 1, 0, none⟩ = some (.int .i64 p) := by simp
  have G := Lib.hid (grown_trans (World.grownBy_alloc w (Obj.cells #[.int .i64 v, .int .i64 t] 23) none) (World.grownBy_alloc (w.alloc (Obj.cells #[.int .i64 v, .int .i64 t] 23)) (Obj.cells #[.int .i64 p, .int .i64 b, .int .i64 f] 25) none))
  generalize ((w.alloc (Obj.cells #[.int .i64 v, .int .i64 t] 23)).alloc (Obj.cells #[.int .i64 p, .int .i64 b, .int .i64 f] 25)) = W0 at *
  have HC := Lib.hid (HX.out.grown G.out (by simp))
  go_loopw [7, 9, 12] (fun s7 _ s12 wr => ∃ k : Nat, s12 = .int .i64 k ∧ k ≤ 5 ∧ s7 = .int .i64 (psm y k) ∧ wr = W0) (fun _ _ i _ => 5 - (intOf i).toNat)
  case atStart => exact ⟨0, rfl, by omega, rfl, rfl⟩
  case round =>
    obtain ⟨k, rfl, hk, rfl, rfl⟩ := hrel
    have hp := psm_range HR.out k hk
    have he := Lib.hid (show psm y (k + 1) = psm y k + y k from rfl)
    by_cases hlt : k < 5
    · have c1 := HC.out k hlt
      have ⟨r1, r2⟩ := HR.out k hlt
      generalize hs : psm y k = s at *
      generalize y k = z at *
      clear hs
      go_wp2
      go_roundw
      case rel => exact ⟨k + 1, by go_num, by omega, congrArg (Value.int .i64) he.out.symm, trivial⟩
      case measure => simp [intOf]; omega
    · obtain rfl : k = 5 := by omega
      have HH := Lib.hid (half_any (5 * v * p * 100) (psm y 5))
      generalize hs : psm y 5 = s at *
      clear he
      go_wp2_with (go_at_call 35; refine (HH.out _).mono ?_; rintro e w' ⟨rfl, rfl⟩)
      go_ret
      exact ⟨rfl, G.out⟩

theorem meterValid_any (p b f : Int) (w : World) : Calls Try.prog 28 #[mv p b f] w (Ret (.bool (Mt.valid p b f)) w) := by
  cases h : Mt.valid p b f
  · exact meterValid_no p b f w h
  · exact meterValid_yes p b f w h
theorem refValid_any (p b f : Int) (w : World) : Calls Try.prog 29 #[mv p b f] w (Ret (.bool (Mt.valid p b f)) w) := by
  cases h : Mt.valid p b f
  · exact refValid_no p b f w h
  · exact refValid_yes p b f w h

theorem check_inv1 (v t p b f : Int) (n cap : Nat) (a : Option Addr) (w : World) (h1 : Pm.pvalid v t = false) :
    Calls Try.prog 25 #[pv v t, mv p b f, .slice a n cap] w (Ret (.int .i64 9) w) := by
  have HV := Lib.hid (fun w => pValid_any v t w)
  have HM := Lib.hid (fun w => meterValid_any p b f w)
  rw [h1] at HV
  unfold pv at HV ⊢
  unfold mv at HM ⊢
  go_enter Try.func25, Try.ntmps25
  go_wp2_with fail
  refine (HV.out _).mono ?_
  rintro e w1 ⟨rfl, hg⟩
  have G := Lib.hid (grown_trans (grown_trans (World.grownBy_alloc w (Obj.cells #[.int .i64 v, .int .i64 t] 23) none) (World.grownBy_alloc (w.alloc (Obj.cells #[.int .i64 v, .int .i64 t] 23)) (Obj.cells #[.int .i64 p, .int .i64 b, .int .i64 f] 25) none)) hg)
  have m0 := hg.cell (a := ⟨w.heap.size + 1, 0, none⟩) (v := .int .i64 p) (by simp) (by simp)
  have m1 := hg.cell (a := ⟨w.heap.size + 1, 1, none⟩) (v := .int .i64 b) (by simp) (by simp)
  have m2 := hg.cell (a := ⟨w.heap.size + 1, 2, none⟩) (v := .int .i64 f) (by simp) (by simp)
  clear hg
  go_wp2
  go_ret
  exact ⟨rfl, G.out⟩

theorem check_inv2 (v t p b f : Int) (n cap : Nat) (a : Option Addr) (w : World) (h1 : Pm.pvalid v t = true) (h2 : Mt.valid p b f = false) :
    Calls Try.prog 25 #[pv v t, mv p b f, .slice a n cap] w (Ret (.int .i64 9) w) := by
  have HV := Lib.hid (fun w => pValid_any v t w)
  have HM := Lib.hid (fun w => meterValid_any p b f w)
  rw [h1] at HV
  unfold pv at HV ⊢
  unfold mv at HM ⊢
  go_enter Try.func25, Try.ntmps25
  go_wp2_with fail
  refine (HV.out _).mono ?_
  rintro e w1 ⟨rfl, hg⟩
  have G := Lib.hid (grown_trans (grown_trans (World.grownBy_alloc w (Obj.cells #[.int .i64 v, .int .i64 t] 23) none) (World.grownBy_alloc (w.alloc (Obj.cells #[.int .i64 v, .int .i64 t] 23)) (Obj.cells #[.int .i64 p, .int .i64 b, .int .i64 f] 25) none)) hg)
  have m0 := hg.cell (a := ⟨w.heap.size + 1, 0, none⟩) (v := .int .i64 p) (by simp) (by simp)
  have m1 := hg.cell (a := ⟨w.heap.size + 1, 1, none⟩) (v := .int .i64 b) (by simp) (by simp)
  have m2 := hg.cell (a := ⟨w.heap.size + 1, 2, none⟩) (v := .int .i64 f) (by simp) (by simp)
  clear hg
  rw [h2] at HM
  go_wp2_with fail
  refine (HM.out _).mono ?_
  rintro e w2 ⟨rfl, hg⟩
  have G := Lib.hid (grown_trans G.out hg)
  clear hg m0 m1 m2
  go_wp2
  go_ret
  exact ⟨rfl, G.out⟩

theorem check_limit (v t p b f : Int) (n cap : Nat) (a : Option Addr) (w : World) (h1 : Pm.pvalid v t = true) (h2 : Mt.valid p b f = true) (h3 : 20 < n) :
    Calls Try.prog 25 #[pv v t, mv p b f, .slice a n cap] w (Ret (.int .i64 4) w) := by
  have HV := Lib.hid (fun w => pValid_any v t w)
  have HM := Lib.hid (fun w => meterValid_any p b f w)
  rw [h1] at HV
  unfold pv at HV ⊢
  unfold mv at HM ⊢
  go_enter Try.func25, Try.ntmps25
  go_wp2_with fail
  refine (HV.out _).mono ?_
  rintro e w1 ⟨rfl, hg⟩
  have G := Lib.hid (grown_trans (grown_trans (World.grownBy_alloc w (Obj.cells #[.int .i64 v, .int .i64 t] 23) none) (World.grownBy_alloc (w.alloc (Obj.cells #[.int .i64 v, .int .i64 t] 23)) (Obj.cells #[.int .i64 p, .int .i64 b, .int .i64 f] 25) none)) hg)
  have m0 := hg.cell (a := ⟨w.heap.size + 1, 0, none⟩) (v := .int .i64 p) (by simp) (by simp)
  have m1 := hg.cell (a := ⟨w.heap.size + 1, 1, none⟩) (v := .int .i64 b) (by simp) (by simp)
  have m2 := hg.cell (a := ⟨w.heap.size + 1, 2, none⟩) (v := .int .i64 f) (by simp) (by simp)
  clear hg
  rw [h2] at HM
  go_wp2_with fail
  refine (HM.out _).mono ?_
  rintro e w2 ⟨rfl, hg⟩
  have G := Lib.hid (grown_trans G.out hg)
  clear hg m0 m1 m2
  go_wp2
  go_ret
  exact ⟨rfl, G.out⟩

theorem check_range (v t p b f : Int) (B off n cap : Nat) (a : Option Addr) (x : Nat → Int) (w : World) (h1 : Pm.pvalid v t = true) (h2 : Mt.valid p b f = true) (h3 : n ≤ 20) (ha : 0 < n → a = some ⟨B, off, none⟩) (h : Rw w B off n x) (i : Nat) (h4 : Pm.Bad n x i) :
    Calls Try.prog 25 #[pv v t, mv p b f, .slice a n cap] w (Ret (.int .i64 1) w) := by
  have HX := Lib.hid h
  have HA := Lib.hid ha
  have H4 := Lib.hid h4
  clear h ha h4
  have a3 : ¬ 20 < n := by omega
  have HV := Lib.hid (fun w => pValid_any v t w)
  have HM := Lib.hid (fun w => meterValid_any p b f w)
  rw [h1] at HV
  unfold pv at HV ⊢
  unfold mv at HM ⊢
  go_enter Try.func25, Try.ntmps25
  go_wp2_with fail
  refine (HV.out _).mono ?_
  rintro e w1 ⟨rfl, hg⟩
  have G := Lib.hid (grown_trans (grown_trans (World.grownBy_alloc w (Obj.cells #[.int .i64 v, .int .i64 t] 23) none) (World.grownBy_alloc (w.alloc (Obj.cells #[.int .i64 v, .int .i64 t] 23)) (Obj.cells #[.int .i64 p, .int .i64 b, .int .i64 f] 25) none)) hg)
  have m0 := hg.cell (a := ⟨w.heap.size + 1, 0, none⟩) (v := .int .i64 p) (by simp) (by simp)
  have m1 := hg.cell (a := ⟨w.heap.size + 1, 1, none⟩) (v := .int .i64 b) (by simp) (by simp)
  have m2 := hg.cell (a := ⟨w.heap.size + 1, 2, none⟩) (v := .int .i64 f) (by simp) (by simp)
  clear hg
  rw [h2] at HM
  go_wp2_with fail
  refine (HM.out _).mono ?_
  rintro e w2 ⟨rfl, hg⟩
  have G := Lib.hid (grown_trans G.out hg)
  clear hg m0 m1 m2
  have HR := Lib.hid (areRuns_no B off n cap a x w2 (by omega) HA.out (HX.out.grown G.out (by simp)) i H4.out)
  go_wp2_with (go_at_call 22; refine (HR.out).mono ?_; rintro e w' ⟨rfl, rfl⟩)
  go_ret
  exact ⟨rfl, G.out⟩

theorem check_ok (v t p b f : Int) (B off n cap : Nat) (a : Option Addr) (x : Nat → Int) (w : World) (h1 : Pm.pvalid v t = true) (h2 : Mt.valid p b f = true) (h3 : n ≤ 20) (ha : 0 < n → a = some ⟨B, off, none⟩) (h : Rw w B off n x) (h4 : Pm.Runs n x) :
    Calls Try.prog 25 #[pv v t, mv p b f, .slice a n cap] w (Ret (.int .i64 0) w) := by
  have HX := Lib.hid h
  have HA := Lib.hid ha
  have H4 := Lib.hid h4
  clear h ha h4
  have a3 : ¬ 20 < n := by omega
  have HV := Lib.hid (fun w => pValid_any v t w)
  have HM := Lib.hid (fun w => meterValid_any p b f w)
  rw [h1] at HV
  unfold pv at HV ⊢
  unfold mv at HM ⊢
  go_enter Try.func25, Try.ntmps25
  go_wp2_with fail
  refine (HV.out _).mono ?_
  rintro e w1 ⟨rfl, hg⟩
  have G := Lib.hid (grown_trans (grown_trans (World.grownBy_alloc w (Obj.cells #[.int .i64 v, .int .i64 t] 23) none) (World.grownBy_alloc (w.alloc (Obj.cells #[.int .i64 v, .int .i64 t] 23)) (Obj.cells #[.int .i64 p, .int .i64 b, .int .i64 f] 25) none)) hg)
  have m0 := hg.cell (a := ⟨w.heap.size + 1, 0, none⟩) (v := .int .i64 p) (by simp) (by simp)
  have m1 := hg.cell (a := ⟨w.heap.size + 1, 1, none⟩) (v := .int .i64 b) (by simp) (by simp)
  have m2 := hg.cell (a := ⟨w.heap.size + 1, 2, none⟩) (v := .int .i64 f) (by simp) (by simp)
  clear hg
  rw [h2] at HM
  go_wp2_with fail
  refine (HM.out _).mono ?_
  rintro e w2 ⟨rfl, hg⟩
  have G := Lib.hid (grown_trans G.out hg)
  clear hg m0 m1 m2
  have HR := Lib.hid (areRuns_yes B off n cap a x w2 (by omega) HA.out (HX.out.grown G.out (by simp)) H4.out)
  go_wp2_with (go_at_call 22; refine (HR.out).mono ?_; rintro e w' ⟨rfl, rfl⟩)
  go_ret
  exact ⟨rfl, G.out⟩
end Go.Proofs.Ytjeejdoahhkjbaa
