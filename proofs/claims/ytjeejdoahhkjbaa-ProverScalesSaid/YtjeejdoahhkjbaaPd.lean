/- Contracts of the program's repeat and Repeats, and of the reference's Repeats. -/
import Derived.Test.YtjeejdoahhkjbaaPc
namespace Go.Proofs.Ytjeejdoahhkjbaa
open Go.ChangeShapes Go.WideShapes Go.ChangeAt Go.RowKit

theorem tl_range {t L : Int} (h1 : 0 ≤ t) (h2 : t ≤ 10000) (h3 : 1 ≤ L) (h4 : L ≤ 1073741824) : 0 ≤ t * L ∧ t * L ≤ 10737418240000 := by
  refine ⟨Int.mul_nonneg h1 (by omega), ?_⟩
  have := Int.mul_le_mul h2 h4 (by omega) (by omega)
  omega

theorem repeat_any (v t : Int) (b off n cap : Nat) (x : Nat → Int) (w : World) (hn : 1 ≤ n) (hn2 : n ≤ 4611686018427387904) (ht : 0 ≤ t) (ht2 : t ≤ 10000) (h : Rw w b off n x) (hx : Pm.Runs n x) :
    Calls Try.prog 23 #[pv v t, .slice (some ⟨b, off, none⟩) n cap] w (Ret (.bool (Pm.rep t n x)) w) := by
  have hg := World.grownBy_alloc w (Obj.cells #[.int .i64 v, .int .i64 t] 23) none
  have H1 := Lib.hid (min_any b off n cap x (w.alloc (Obj.cells #[.int .i64 v, .int .i64 t] 23)) hn hn2 (h.grown hg (by simp)))
  have H2 := Lib.hid (max_any b off n cap x (w.alloc (Obj.cells #[.int .i64 v, .int .i64 t] 23)) hn hn2 (h.grown hg (by simp)))
  have hL := Pm.lo_range hx (n - 1) (by omega)
  have hH := Pm.hi_range hx (n - 1) (by omega)
  have hLH := Pm.lo_hi x (n - 1)
  unfold Pm.rep
  generalize Pm.lo x (n - 1) = L at *
  generalize Pm.hi x (n - 1) = U at *
  have htl := tl_range ht ht2 hL.1 hL.2
  have HG := Lib.hid hg
  clear h hx hg
  unfold pv
  go_enter Try.func23, Try.ntmps23
  go_wp2_with (first | (go_at_call 33; refine (H1.out).mono ?_; rintro e w' ⟨rfl, rfl⟩) | (go_at_call 34; refine (H2.out).mono ?_; rintro e w' ⟨rfl, rfl⟩) | fail)
  go_ret
  exact ⟨rfl, HG.out⟩

set_option maxHeartbeats 1000000 in
theorem repeats_any (v t : Int) (b off n cap : Nat) (a : Option Addr) (x : Nat → Int) (r : Bool) (w : World) (hn2 : n ≤ 4611686018427387904) (ha : 0 < n → a = some ⟨b, off, none⟩) (h : Rw w b off n x) (hr : Pm.Rp v t n x r) :
    Calls Try.prog 16 #[pv v t, .slice a n cap] w (Ret (.bool r) w) := by
  have HX := Lib.hid h
  have HA := Lib.hid ha
  clear h ha
  cases hr with
  | inv h1 =>
    have HV := Lib.hid (fun w => pValid_any v t w)
    rw [h1] at HV
    unfold pv at HV ⊢
    go_enter Try.func16, Try.ntmps16
    go_wp2_with fail
    refine (HV.out _).mono ?_
    rintro e w1 ⟨rfl, hg⟩
    have G := Lib.hid (grown_trans (World.grownBy_alloc w (Obj.cells #[.int .i64 v, .int .i64 t] 23) none) hg)
    have k0 := hg.cell (a := ⟨w.heap.size, 0, none⟩) (v := .int .i64 v) (by simp) (by simp)
    have k1 := hg.cell (a := ⟨w.heap.size, 1, none⟩) (v := .int .i64 t) (by simp) (by simp)
    clear hg
    go_wp2
    go_ret
    exact ⟨rfl, G.out⟩
  | empty h1 h2 =>
    subst h2
    have HV := Lib.hid (fun w => pValid_any v t w)
    rw [h1] at HV
    unfold pv at HV ⊢
    go_enter Try.func16, Try.ntmps16
    go_wp2_with fail
    refine (HV.out _).mono ?_
    rintro e w1 ⟨rfl, hg⟩
    have G := Lib.hid (grown_trans (World.grownBy_alloc w (Obj.cells #[.int .i64 v, .int .i64 t] 23) none) hg)
    have k0 := hg.cell (a := ⟨w.heap.size, 0, none⟩) (v := .int .i64 v) (by simp) (by simp)
    have k1 := hg.cell (a := ⟨w.heap.size, 1, none⟩) (v := .int .i64 t) (by simp) (by simp)
    clear hg
    go_wp2
    go_ret
    exact ⟨rfl, G.out⟩
  | limit h1 h2 =>
    have HV := Lib.hid (fun w => pValid_any v t w)
    rw [h1] at HV
    unfold pv at HV ⊢
    go_enter Try.func16, Try.ntmps16
    go_wp2_with fail
    refine (HV.out _).mono ?_
    rintro e w1 ⟨rfl, hg⟩
    have G := Lib.hid (grown_trans (World.grownBy_alloc w (Obj.cells #[.int .i64 v, .int .i64 t] 23) none) hg)
    have k0 := hg.cell (a := ⟨w.heap.size, 0, none⟩) (v := .int .i64 v) (by simp) (by simp)
    have k1 := hg.cell (a := ⟨w.heap.size, 1, none⟩) (v := .int .i64 t) (by simp) (by simp)
    clear hg
    have a1 : 1 ≤ n := by omega
    have a2 : ¬ n ≤ 20 := by omega
    go_wp2
    go_ret
    exact ⟨rfl, G.out⟩
  | range h1 h2 h3 i h4 =>
    have HV := Lib.hid (fun w => pValid_any v t w)
    rw [h1] at HV
    unfold pv at HV ⊢
    go_enter Try.func16, Try.ntmps16
    go_wp2_with fail
    refine (HV.out _).mono ?_
    rintro e w1 ⟨rfl, hg⟩
    have G := Lib.hid (grown_trans (World.grownBy_alloc w (Obj.cells #[.int .i64 v, .int .i64 t] 23) none) hg)
    have k0 := hg.cell (a := ⟨w.heap.size, 0, none⟩) (v := .int .i64 v) (by simp) (by simp)
    have k1 := hg.cell (a := ⟨w.heap.size, 1, none⟩) (v := .int .i64 t) (by simp) (by simp)
    clear hg
    have HR := Lib.hid (areRuns_no b off n cap a x w1 hn2 HA.out (HX.out.grown G.out (by simp)) i h4)
    clear h4
    go_wp2_with (go_at_call 22; refine (HR.out).mono ?_; rintro e w' ⟨rfl, rfl⟩)
    go_ret
    exact ⟨rfl, G.out⟩
  | said h1 h2 h3 h4 =>
    have hp := Pm.pvalid_true h1
    have HP := Lib.hid hp
    clear hp
    have HV := Lib.hid (fun w => pValid_any v t w)
    rw [h1] at HV
    unfold pv at HV ⊢
    go_enter Try.func16, Try.ntmps16
    go_wp2_with fail
    refine (HV.out _).mono ?_
    rintro e w1 ⟨rfl, hg⟩
    have G := Lib.hid (grown_trans (World.grownBy_alloc w (Obj.cells #[.int .i64 v, .int .i64 t] 23) none) hg)
    have k0 := hg.cell (a := ⟨w.heap.size, 0, none⟩) (v := .int .i64 v) (by simp) (by simp)
    have k1 := hg.cell (a := ⟨w.heap.size, 1, none⟩) (v := .int .i64 t) (by simp) (by simp)
    clear hg
    have HR := Lib.hid (areRuns_yes b off n cap a x w1 hn2 HA.out (HX.out.grown G.out (by simp)) h4)
    obtain rfl := HA.out (by omega)
    have HS := Lib.hid (repeat_any v t b off n cap x w1 h2 hn2 HP.out.2.2.1 HP.out.2.2.2 (HX.out.grown G.out (by simp)) h4)
    unfold pv at HS
    generalize Pm.rep t n x = r at *
    clear h4
    go_wp2_with (first | (go_at_call 22; refine (HR.out).mono ?_; rintro e w' ⟨rfl, rfl⟩) | (go_at_call 23; refine (HS.out).mono ?_; rintro e w2 ⟨rfl, hg⟩) | fail)
    have G := Lib.hid (grown_trans G.out hg)
    go_ret
    exact ⟨rfl, G.out⟩
end Go.Proofs.Ytjeejdoahhkjbaa
