/- Contract of the program's Prove. -/
import Derived.Test.YtjeejdoahhkjbaaPg
import Derived.Deep.RegionWith
namespace Go.Proofs.Ytjeejdoahhkjbaa
open Go.ChangeShapes Go.WideShapes Go.ChangeAt Go.RowKit

theorem two_grown (w : World) (a b : Obj) : w.grownBy ((w.alloc a).alloc b) none := grown_trans (World.grownBy_alloc _ _ _) (World.grownBy_alloc _ _ _)

def errv (F k e : Int) : Value := .tuple #[.int .i64 F, .int .i64 k, .int .i64 e]

theorem prove_stop (v t p b f c : Int) (n cap : Nat) (a : Option Addr) (w : World) (hc : (c == 0) = false)
    (HC : Hid (∀ w', w.grownBy w' none → Calls Try.prog 25 #[pv v t, mv p b f, .slice a n cap] w' (Ret (.int .i64 c) w'))) :
    Calls Try.prog 18 #[pv v t, mv p b f, .slice a n cap] w (Ret (errv 0 0 c) w) := by
  have HW := Lib.hid (HC.out ((w.alloc (Obj.cells #[.int .i64 v, .int .i64 t] 23)).alloc (Obj.cells #[.int .i64 p, .int .i64 b, .int .i64 f] 25)) (two_grown _ _ _))
  unfold pv mv at HW ⊢
  go_enter Try.func18, Try.ntmps18
  go_wp2_with fail
  refine (HW.out).mono ?_
  rintro e w1 ⟨rfl, hg⟩
  have G := Lib.hid (grown_trans (two_grown w (Obj.cells #[.int .i64 v, .int .i64 t] 23) (Obj.cells #[.int .i64 p, .int .i64 b, .int .i64 f] 25)) hg)
  clear hg
  go_wp2
  go_ret3
  exact ⟨rfl, G.out⟩

/-- Behind check: the first window. -/
theorem prove_none (v t p b f : Int) (n cap : Nat) (a : Option Addr) (w : World)
    (HC : Hid (∀ w', w.grownBy w' none → Calls Try.prog 25 #[pv v t, mv p b f, .slice a n cap] w' (Ret (.int .i64 0) w')))
    (HF : Hid (∀ w', w.grownBy w' none → Calls Try.prog 26 #[pv v t, .slice a n cap] w' (Ret (.tuple #[.int .i64 0, .bool false]) w'))) :
    Calls Try.prog 18 #[pv v t, mv p b f, .slice a n cap] w (Ret (errv 0 0 10) w) := by
  have HW := Lib.hid (HC.out ((w.alloc (Obj.cells #[.int .i64 v, .int .i64 t] 23)).alloc (Obj.cells #[.int .i64 p, .int .i64 b, .int .i64 f] 25)) (two_grown _ _ _))
  have HF' := Lib.hid HF.out
  unfold pv mv at HW ⊢
  unfold pv at HF'
  go_enter Try.func18, Try.ntmps18
  go_wp2_with fail
  refine (HW.out).mono ?_
  rintro e w1 ⟨rfl, hg⟩
  have k0 := hg.cell (a := ⟨w.heap.size, 0, none⟩) (v := .int .i64 v) (by simp) (by simp)
  have k1 := hg.cell (a := ⟨w.heap.size, 1, none⟩) (v := .int .i64 t) (by simp) (by simp)
  have G := Lib.hid (grown_trans (two_grown w (Obj.cells #[.int .i64 v, .int .i64 t] 23) (Obj.cells #[.int .i64 p, .int .i64 b, .int .i64 f] 25)) hg)
  clear hg
  go_wp2_with fail
  refine (HF'.out w1 G.out).mono ?_
  rintro e w2 ⟨rfl, hg⟩
  have G := Lib.hid (grown_trans G.out hg)
  clear hg k0 k1
  go_wp2
  go_ret3
  exact ⟨rfl, G.out⟩

set_option maxHeartbeats 1000000 in
theorem prove_found (v t p b f F : Int) (B off n cap k : Nat) (w : World) (hk : k + 5 ≤ n) (_hn : n ≤ 20) (hcap : n ≤ cap) (hcap2 : cap ≤ 9223372036854775807)
    (HC : Hid (∀ w', w.grownBy w' none → Calls Try.prog 25 #[pv v t, mv p b f, .slice (some ⟨B, off, none⟩) n cap] w' (Ret (.int .i64 0) w')))
    (HF : Hid (∀ w', w.grownBy w' none → Calls Try.prog 26 #[pv v t, .slice (some ⟨B, off, none⟩) n cap] w' (Ret (.tuple #[.int .i64 k, .bool true]) w')))
    (HA : Hid (∀ w', w.grownBy w' none → Calls Try.prog 27 #[pv v t, mv p b f, .slice (some ⟨B, off + k, none⟩) 5 (cap - k)] w' (Ret (.int .i64 F) w')))
    (V : Bool) (hV : Mt.valid p b F = V) (R : Value) (HR : Hid (R = if V then errv F k 0 else errv 0 0 1)) :
    Calls Try.prog 18 #[pv v t, mv p b f, .slice (some ⟨B, off, none⟩) n cap] w (Ret R w) := by
  have HW := Lib.hid (HC.out ((w.alloc (Obj.cells #[.int .i64 v, .int .i64 t] 23)).alloc (Obj.cells #[.int .i64 p, .int .i64 b, .int .i64 f] 25)) (two_grown _ _ _))
  have HF' := Lib.hid HF.out
  have HA' := Lib.hid HA.out
  have HM := Lib.hid (fun w => meterValid_any p b F w)
  rw [hV] at HM
  clear hV
  unfold pv mv at HW HA' ⊢
  unfold pv at HF'
  unfold mv at HM
  clear HC HF HA
  have hsl := slice5 B off n cap k (by omega)
  have b4 : IntKind.i64.wrap ((k : Int) + 5) = (k : Int) + 5 := IntWalk.i64_in _ (by omega)
  go_enter Try.func18, Try.ntmps18
  go_wp2_with fail
  refine (HW.out).mono ?_
  rintro e w1 ⟨rfl, hg⟩
  have k0 := hg.cell (a := ⟨w.heap.size, 0, none⟩) (v := .int .i64 v) (by simp) (by simp)
  have k1 := hg.cell (a := ⟨w.heap.size, 1, none⟩) (v := .int .i64 t) (by simp) (by simp)
  have m0 := hg.cell (a := ⟨w.heap.size + 1, 0, none⟩) (v := .int .i64 p) (by simp) (by simp)
  have m1 := hg.cell (a := ⟨w.heap.size + 1, 1, none⟩) (v := .int .i64 b) (by simp) (by simp)
  have m2 := hg.cell (a := ⟨w.heap.size + 1, 2, none⟩) (v := .int .i64 f) (by simp) (by simp)
  have z2 : w1.frozen? ⟨w.heap.size + 1, 2, none⟩ = false := grown_frozen hg (v := .int .i64 f) (by simp) (by simp) (by simp)
  have G := Lib.hid (grown_trans (two_grown w (Obj.cells #[.int .i64 v, .int .i64 t] 23) (Obj.cells #[.int .i64 p, .int .i64 b, .int .i64 f] 25)) hg)
  clear hg
  go_wp2_with fail
  refine (HF'.out w1 G.out).mono ?_
  rintro e w2 ⟨rfl, hg⟩
  have k0 := hg.cell k0 (by simp)
  have k1 := hg.cell k1 (by simp)
  have z2 := grown_frozen hg m2 z2 (by simp)
  have m0 := hg.cell m0 (by simp)
  have m1 := hg.cell m1 (by simp)
  have m2 := hg.cell m2 (by simp)
  have G := Lib.hid (grown_trans G.out hg)
  clear hg
  go_wp2_with fail
  go_region_with (first
      | (go_at_call 27; refine (HA'.out w2.drew (grown_trans G.out (grown_drewN w2 1 none))).mono ?_; rintro e wa ⟨rfl, hg⟩; have hga : Hid (w2.grownBy wa none) := grown_trans (show w2.grownBy w2.drew none from grown_drewN w2 1 none) hg; have m2 := hga.out.cell m2 (by simp); have z2 : wa.frozen? ⟨w.heap.size + 1, 2, none⟩ = false := grown_frozen hga.out (by assumption) z2 (by simp); clear hg)
      | fail)
  all_goals
    have m0 := hga.out.cell m0 (by simp)
    have m1 := hga.out.cell m1 (by simp)
    have m0 := (World.cell?_setCell_other wa ⟨w.heap.size + 1, 2, none⟩ ⟨w.heap.size + 1, 0, none⟩ (.int .i64 F) (by simp)).trans m0
    have m1 := (World.cell?_setCell_other wa ⟨w.heap.size + 1, 2, none⟩ ⟨w.heap.size + 1, 1, none⟩ (.int .i64 F) (by simp)).trans m1
    have m2 := World.cell?_setCell_same wa ⟨w.heap.size + 1, 2, none⟩ (.int .i64 F) (u := .int .i64 f) (by assumption)
    have G := Lib.hid (grown_off (grown_trans G.out hga.out) (grown_set wa ⟨w.heap.size + 1, 2, none⟩ (.int .i64 F)) (by simp))
    generalize wa.setCell ⟨w.heap.size + 1, 2, none⟩ (.int .i64 F) = W4 at *
    go_wp2_with fail
    refine (HM.out _).mono ?_
    rintro e w5 ⟨rfl, hg⟩
    have m2 := hg.cell m2 (by simp)
    have G := Lib.hid (grown_trans G.out hg)
    clear hg
    cases V
    · go_wp2
      go_ret3
      exact ⟨by rw [HR.out]; rfl, G.out⟩
    · go_wp2
      go_ret3
      exact ⟨by rw [HR.out]; rfl, G.out⟩

theorem valid_fac {p b f : Int} (h : Mt.valid p b f = true) (F : Int) : Mt.valid p b F = (decide (50000 ≤ F) && decide (F ≤ 200000)) := by
  obtain ⟨h1, h2, h3, _, _⟩ := Mt.valid_true h
  by_cases e1 : 50000 ≤ F
  · by_cases e2 : F ≤ 200000
    · rw [Mt.valid_mk h1 h2 h3 e1 e2, decide_eq_true e1, decide_eq_true e2]; rfl
    · rw [decide_eq_false e2, Bool.and_false]
      cases k : Mt.valid p b F
      · rfl
      · have := Mt.valid_true k; omega
  · rw [decide_eq_false e1, Bool.false_and]
    cases k : Mt.valid p b F
    · rfl
    · have := Mt.valid_true k; omega

theorem prove_any (v t p b f F e : Int) (B off n cap : Nat) (k : Int) (a : Option Addr) (x : Nat → Int) (w : World) (hcap : n ≤ cap) (hcap2 : cap ≤ 9223372036854775807) (ha : 0 < n → a = some ⟨B, off, none⟩) (h : Rw w B off n x) (hr : Pm.Pr v t p b f n x F k e) :
    Calls Try.prog 18 #[pv v t, mv p b f, .slice a n cap] w (Ret (errv F k e) w) := by
  have row : ∀ w', w.grownBy w' none → Rw w' B off n x := fun w' hg => h.grown hg (by simp)
  cases hr with
  | inv h1 =>
    refine prove_stop v t p b f 9 n cap a w rfl fun w' _ => ?_
    cases hv : Pm.pvalid v t
    · exact check_inv1 v t p b f n cap a w' hv
    · exact check_inv2 v t p b f n cap a w' hv (h1.resolve_left (by rw [hv]; simp))
  | limit h1 h2 h3 => exact prove_stop v t p b f 4 n cap a w rfl fun w' _ => check_limit v t p b f n cap a w' h1 h2 h3
  | range h1 h2 h3 i h4 => exact prove_stop v t p b f 1 n cap a w rfl fun w' hg => check_range v t p b f B off n cap a x w' h1 h2 h3 ha (row w' hg) i h4
  | none h1 h2 h3 h4 h5 =>
    have hp := Pm.pvalid_true h1
    exact prove_none v t p b f n cap a w (fun w' hg => check_ok v t p b f B off n cap a x w' h1 h2 h3 ha (row w' hg) h4) (fun w' hg => firstWindow_none v t B off n cap a x w' h3 hcap hcap2 hp.2.2.1 hp.2.2.2 ha (row w' hg) h4 h5)
  | far h1 h2 h3 h4 j h5 h6 =>
    have hp := Pm.pvalid_true h1
    have hj := h5.1
    obtain rfl := ha (by omega)
    refine prove_found v t p b f (Pm.fac v p x j) B off n cap j w hj h3 hcap hcap2 (fun w' hg => check_ok v t p b f B off n cap _ x w' h1 h2 h3 ha (row w' hg) h4) (fun w' hg => firstWindow_some v t B off n cap _ x w' h3 hcap hcap2 hp.2.2.1 hp.2.2.2 ha (row w' hg) h4 j h5) (fun w' hg => ?_) false ?_ _ rfl
    · have := factor_any v t p b f B (off + j) (cap - j) (Pm.at' x j) w' h1 h2 ((row w' hg).at' j 5 hj) (h4.at' j 5 hj)
      rw [psm_five] at this
      exact this
    · rw [valid_fac h2]
      rcases h6 with h6 | h6
      · rw [decide_eq_false (by omega), Bool.false_and]
      · rw [decide_eq_false (p := _ ≤ 200000) (by omega), Bool.and_false]
  | ok h1 h2 h3 h4 j h5 h6 h7 =>
    have hp := Pm.pvalid_true h1
    have hj := h5.1
    obtain rfl := ha (by omega)
    refine prove_found v t p b f (Pm.fac v p x j) B off n cap j w hj h3 hcap hcap2 (fun w' hg => check_ok v t p b f B off n cap _ x w' h1 h2 h3 ha (row w' hg) h4) (fun w' hg => firstWindow_some v t B off n cap _ x w' h3 hcap hcap2 hp.2.2.1 hp.2.2.2 ha (row w' hg) h4 j h5) (fun w' hg => ?_) true ?_ _ rfl
    · have := factor_any v t p b f B (off + j) (cap - j) (Pm.at' x j) w' h1 h2 ((row w' hg).at' j 5 hj) (h4.at' j 5 hj)
      rw [psm_five] at this
      exact this
    · rw [valid_fac h2, decide_eq_true h6, decide_eq_true h7]; rfl
end Go.Proofs.Ytjeejdoahhkjbaa
