/- Contract of the reference's Repeats. -/
import Derived.Test.YtjeejdoahhkjbaaPd
namespace Go.Proofs.Ytjeejdoahhkjbaa
open Go.ChangeShapes Go.WideShapes Go.ChangeAt Go.RowKit

theorem wl_range {L U : Int} (h1 : 1 ≤ L) (h2 : L ≤ U) (h3 : U ≤ 1073741824) : 0 ≤ U - L ∧ U - L ≤ 1073741823 := by omega

set_option maxHeartbeats 1000000 in
theorem rrepeats_any (v t : Int) (b off n cap : Nat) (a : Option Addr) (x : Nat → Int) (r : Bool) (w : World) (hn2 : n ≤ 4611686018427387904) (ha : 0 < n → a = some ⟨b, off, none⟩) (h : Rw w b off n x) (hr : Pm.Rp v t n x r) :
    Calls Try.prog 17 #[pv v t, .slice a n cap] w (Ret (.bool r) w) := by
  have HX := Lib.hid h
  have HA := Lib.hid ha
  clear h ha
  cases hr with
  | inv h1 =>
    have HV := Lib.hid (fun w => rValid_any v t w)
    rw [h1] at HV
    unfold pv at HV ⊢
    go_enter Try.func17, Try.ntmps17
    go_wp2_with fail
    refine (HV.out _).mono ?_
    rintro e w1 ⟨rfl, hg⟩
    have G := Lib.hid (grown_trans (World.grownBy_alloc w (Obj.cells #[.int .i64 v, .int .i64 t] 23) none) hg)
    have k0 := hg.cell (a := ⟨w.heap.size, 0, none⟩) (v := .int .i64 v) (by simp) (by simp)
    have k1 := hg.cell (a := ⟨w.heap.size, 1, none⟩) (v := .int .i64 t) (by simp) (by simp)
    clear hg
    go_wp2
    go_ret
    exact ⟨rfl, G.out⟩
  | empty h1 h2 =>
    subst h2
    have HV := Lib.hid (fun w => rValid_any v t w)
    rw [h1] at HV
    unfold pv at HV ⊢
    go_enter Try.func17, Try.ntmps17
    go_wp2_with fail
    refine (HV.out _).mono ?_
    rintro e w1 ⟨rfl, hg⟩
    have G := Lib.hid (grown_trans (World.grownBy_alloc w (Obj.cells #[.int .i64 v, .int .i64 t] 23) none) hg)
    have k0 := hg.cell (a := ⟨w.heap.size, 0, none⟩) (v := .int .i64 v) (by simp) (by simp)
    have k1 := hg.cell (a := ⟨w.heap.size, 1, none⟩) (v := .int .i64 t) (by simp) (by simp)
    clear hg
    go_wp2
    go_ret
    exact ⟨rfl, G.out⟩
  | limit h1 h2 =>
    have HV := Lib.hid (fun w => rValid_any v t w)
    rw [h1] at HV
    unfold pv at HV ⊢
    go_enter Try.func17, Try.ntmps17
    go_wp2_with fail
    refine (HV.out _).mono ?_
    rintro e w1 ⟨rfl, hg⟩
    have G := Lib.hid (grown_trans (World.grownBy_alloc w (Obj.cells #[.int .i64 v, .int .i64 t] 23) none) hg)
    have k0 := hg.cell (a := ⟨w.heap.size, 0, none⟩) (v := .int .i64 v) (by simp) (by simp)
    have k1 := hg.cell (a := ⟨w.heap.size, 1, none⟩) (v := .int .i64 t) (by simp) (by simp)
    clear hg
    have a1 : ¬ n < 1 := by omega
    have a2 : 20 < n := by omega
    go_wp2
    go_ret
    exact ⟨rfl, G.out⟩
  | range h1 h2 h3 i h4 =>
    have HV := Lib.hid (fun w => rValid_any v t w)
    rw [h1] at HV
    unfold pv at HV ⊢
    go_enter Try.func17, Try.ntmps17
    go_wp2_with fail
    refine (HV.out _).mono ?_
    rintro e w1 ⟨rfl, hg⟩
    have G := Lib.hid (grown_trans (World.grownBy_alloc w (Obj.cells #[.int .i64 v, .int .i64 t] 23) none) hg)
    have k0 := hg.cell (a := ⟨w.heap.size, 0, none⟩) (v := .int .i64 v) (by simp) (by simp)
    have k1 := hg.cell (a := ⟨w.heap.size, 1, none⟩) (v := .int .i64 t) (by simp) (by simp)
    clear hg
    have HR := Lib.hid (rproper_no b off n cap a x w1 hn2 HA.out (HX.out.grown G.out (by simp)) i h4)
    clear h4
    go_wp2_with (go_at_call 24; refine (HR.out).mono ?_; rintro e w' ⟨rfl, rfl⟩)
    go_ret
    exact ⟨rfl, G.out⟩
  | said h1 h2 h3 h4 =>
    have hp := Pm.pvalid_true h1
    have HP := Lib.hid hp
    clear hp
    have HV := Lib.hid (fun w => rValid_any v t w)
    rw [h1] at HV
    unfold pv at HV ⊢
    go_enter Try.func17, Try.ntmps17
    go_wp2_with fail
    refine (HV.out _).mono ?_
    rintro e w1 ⟨rfl, hg⟩
    have G := Lib.hid (grown_trans (World.grownBy_alloc w (Obj.cells #[.int .i64 v, .int .i64 t] 23) none) hg)
    have k0 := hg.cell (a := ⟨w.heap.size, 0, none⟩) (v := .int .i64 v) (by simp) (by simp)
    have k1 := hg.cell (a := ⟨w.heap.size, 1, none⟩) (v := .int .i64 t) (by simp) (by simp)
    clear hg
    have HR := Lib.hid (rproper_yes b off n cap a x w1 hn2 HA.out (HX.out.grown G.out (by simp)) h4)
    obtain rfl := HA.out (by omega)
    have HC := Lib.hid (HX.out.grown G.out (by simp))
    have c0 := HC.out 0 (by omega)
    rw [Nat.add_zero] at c0
    have H4 := Lib.hid h4
    clear h4
    go_wp2_with (go_at_call 24; refine (HR.out).mono ?_; rintro e w' ⟨rfl, rfl⟩)
    go_quiet (fail)
    go_wp2
    go_loopw [5, 6, 7, 34] (fun s5 s6 _ s34 wr => ∃ (k q : Nat), s34 = .int .i64 k ∧ k ≤ n ∧ s5 = .int .i64 (Pm.lo x (k - 1)) ∧ s6 = .int .i64 (Pm.hi x (k - 1)) ∧ wr = w1.drewN q) (fun _ _ _ i _ => n - (intOf i).toNat)
    case atStart => exact ⟨0, _, rfl, by omega, rfl, rfl, rfl⟩
    case round =>
      obtain ⟨k, q, rfl, hk, rfl, rfl, rfl⟩ := hrel
      by_cases hlt : k < n
      · have c1 := HC.out k hlt
        have e1 := Lib.hid (show Pm.lo x k = if Pm.lo x (k - 1) ≤ x k then Pm.lo x (k - 1) else x k from by
          cases k with
          | zero => simp [Pm.lo]
          | succ j => rfl)
        have e2 := Lib.hid (show Pm.hi x k = if x k ≤ Pm.hi x (k - 1) then Pm.hi x (k - 1) else x k from by
          cases k with
          | zero => simp [Pm.hi]
          | succ j => rfl)
        generalize Pm.lo x (k - 1) = L at *
        generalize Pm.hi x (k - 1) = U at *
        generalize x k = y at *
        go_wp2
        go_quiet (fail)
        go_wp2
        go_roundw
        case rel => exact ⟨k + 1, _, by go_num, by omega, congrArg (Value.int .i64) (by rw [Nat.add_sub_cancel, e1.out]; split <;> split <;> omega), congrArg (Value.int .i64) (by rw [Nat.add_sub_cancel, e2.out]; split <;> split <;> omega), rfl⟩
        case measure => simp [intOf]; omega
      · obtain rfl : k = n := by omega
        have hL := Pm.lo_range H4.out (k - 1) (by omega)
        have hU := Pm.hi_range H4.out (k - 1) (by omega)
        have hLH := Pm.lo_hi x (k - 1)
        have HQ := Lib.hid (show Pm.rep t k x = decide ((Pm.hi x (k - 1) - Pm.lo x (k - 1)) * 1000000 ≤ t * Pm.lo x (k - 1)) from rfl)
        generalize Pm.lo x (k - 1) = L at *
        generalize Pm.hi x (k - 1) = U at *
        have htl := tl_range HP.out.2.2.1 HP.out.2.2.2 hL.1 hL.2
        have G := Lib.hid (grown_trans G.out (grown_drewN w1 q none))
        go_wp2
        go_ret
        exact ⟨ret_bool HQ.out.symm, G.out⟩
end Go.Proofs.Ytjeejdoahhkjbaa
