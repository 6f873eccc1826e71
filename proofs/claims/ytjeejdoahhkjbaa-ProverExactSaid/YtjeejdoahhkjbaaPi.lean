/- Contract of the reference's Prove. -/
import Derived.Test.YtjeejdoahhkjbaaPh
namespace Go.Proofs.Ytjeejdoahhkjbaa
open Go.ChangeShapes Go.WideShapes Go.ChangeAt Go.RowKit

theorem rprove_inv1 (v t p b f : Int) (n cap : Nat) (a : Option Addr) (w : World) (h1 : Pm.pvalid v t = false) :
    Calls Try.prog 19 #[pv v t, mv p b f, .slice a n cap] w (Ret (errv 0 0 9) w) := by
  have HV := Lib.hid (fun w => rValid_any v t w)
  have HM := Lib.hid (fun w => refValid_any p b f w)
  rw [h1] at HV
  unfold pv at HV ⊢
  unfold mv at HM ⊢
  go_enter Try.func19, Try.ntmps19
  go_wp2_with fail
  refine (HV.out _).mono ?_
  rintro e w1 ⟨rfl, hg⟩
  have k0 := hg.cell (a := ⟨w.heap.size, 0, none⟩) (v := .int .i64 v) (by simp) (by simp)
  have k1 := hg.cell (a := ⟨w.heap.size, 1, none⟩) (v := .int .i64 t) (by simp) (by simp)
  have m0 := hg.cell (a := ⟨w.heap.size + 1, 0, none⟩) (v := .int .i64 p) (by simp) (by simp)
  have m1 := hg.cell (a := ⟨w.heap.size + 1, 1, none⟩) (v := .int .i64 b) (by simp) (by simp)
  have m2 := hg.cell (a := ⟨w.heap.size + 1, 2, none⟩) (v := .int .i64 f) (by simp) (by simp)
  have G := Lib.hid (grown_trans (two_grown w (Obj.cells #[.int .i64 v, .int .i64 t] 23) (Obj.cells #[.int .i64 p, .int .i64 b, .int .i64 f] 25)) hg)
  clear hg
  go_wp2
  go_ret3
  exact ⟨rfl, G.out⟩

theorem rprove_inv2 (v t p b f : Int) (n cap : Nat) (a : Option Addr) (w : World) (h1 : Pm.pvalid v t = true) (h2 : Mt.valid p b f = false) :
    Calls Try.prog 19 #[pv v t, mv p b f, .slice a n cap] w (Ret (errv 0 0 9) w) := by
  have HV := Lib.hid (fun w => rValid_any v t w)
  have HM := Lib.hid (fun w => refValid_any p b f w)
  rw [h1] at HV
  rw [h2] at HM
  unfold pv at HV ⊢
  unfold mv at HM ⊢
  go_enter Try.func19, Try.ntmps19
  go_wp2_with fail
  refine (HV.out _).mono ?_
  rintro e w1 ⟨rfl, hg⟩
  have k0 := hg.cell (a := ⟨w.heap.size, 0, none⟩) (v := .int .i64 v) (by simp) (by simp)
  have k1 := hg.cell (a := ⟨w.heap.size, 1, none⟩) (v := .int .i64 t) (by simp) (by simp)
  have m0 := hg.cell (a := ⟨w.heap.size + 1, 0, none⟩) (v := .int .i64 p) (by simp) (by simp)
  have m1 := hg.cell (a := ⟨w.heap.size + 1, 1, none⟩) (v := .int .i64 b) (by simp) (by simp)
  have m2 := hg.cell (a := ⟨w.heap.size + 1, 2, none⟩) (v := .int .i64 f) (by simp) (by simp)
  have G := Lib.hid (grown_trans (two_grown w (Obj.cells #[.int .i64 v, .int .i64 t] 23) (Obj.cells #[.int .i64 p, .int .i64 b, .int .i64 f] 25)) hg)
  clear hg
  go_wp2_with fail
  refine (HM.out _).mono ?_
  rintro e w2 ⟨rfl, hg⟩
  have k0 := hg.cell k0 (by simp)
  have k1 := hg.cell k1 (by simp)
  have m0 := hg.cell m0 (by simp)
  have G := Lib.hid (grown_trans G.out hg)
  clear hg m1 m2
  go_wp2
  go_ret3
  exact ⟨rfl, G.out⟩

theorem rprove_limit (v t p b f : Int) (n cap : Nat) (a : Option Addr) (w : World) (h1 : Pm.pvalid v t = true) (h2 : Mt.valid p b f = true) (h3 : 20 < n) :
    Calls Try.prog 19 #[pv v t, mv p b f, .slice a n cap] w (Ret (errv 0 0 4) w) := by
  have HV := Lib.hid (fun w => rValid_any v t w)
  have HM := Lib.hid (fun w => refValid_any p b f w)
  rw [h1] at HV
  rw [h2] at HM
  unfold pv at HV ⊢
  unfold mv at HM ⊢
  go_enter Try.func19, Try.ntmps19
  go_wp2_with fail
  refine (HV.out _).mono ?_
  rintro e w1 ⟨rfl, hg⟩
  have k0 := hg.cell (a := ⟨w.heap.size, 0, none⟩) (v := .int .i64 v) (by simp) (by simp)
  have k1 := hg.cell (a := ⟨w.heap.size, 1, none⟩) (v := .int .i64 t) (by simp) (by simp)
  have m0 := hg.cell (a := ⟨w.heap.size + 1, 0, none⟩) (v := .int .i64 p) (by simp) (by simp)
  have m1 := hg.cell (a := ⟨w.heap.size + 1, 1, none⟩) (v := .int .i64 b) (by simp) (by simp)
  have m2 := hg.cell (a := ⟨w.heap.size + 1, 2, none⟩) (v := .int .i64 f) (by simp) (by simp)
  have G := Lib.hid (grown_trans (two_grown w (Obj.cells #[.int .i64 v, .int .i64 t] 23) (Obj.cells #[.int .i64 p, .int .i64 b, .int .i64 f] 25)) hg)
  clear hg
  go_wp2_with fail
  refine (HM.out _).mono ?_
  rintro e w2 ⟨rfl, hg⟩
  have k0 := hg.cell k0 (by simp)
  have k1 := hg.cell k1 (by simp)
  have m0 := hg.cell m0 (by simp)
  have G := Lib.hid (grown_trans G.out hg)
  clear hg m1 m2
  go_wp2
  go_ret3
  exact ⟨rfl, G.out⟩

theorem rprove_range (v t p b f : Int) (B off n cap : Nat) (a : Option Addr) (x : Nat → Int) (w : World) (h1 : Pm.pvalid v t = true) (h2 : Mt.valid p b f = true) (h3 : n ≤ 20) (ha : 0 < n → a = some ⟨B, off, none⟩) (h : Rw w B off n x) (i : Nat) (h4 : Pm.Bad n x i) :
    Calls Try.prog 19 #[pv v t, mv p b f, .slice a n cap] w (Ret (errv 0 0 1) w) := by
  have HX := Lib.hid h
  have HA := Lib.hid ha
  have H4 := Lib.hid h4
  clear h ha h4
  have a3 : ¬ 20 < n := by omega
  have HV := Lib.hid (fun w => rValid_any v t w)
  have HM := Lib.hid (fun w => refValid_any p b f w)
  rw [h1] at HV
  rw [h2] at HM
  unfold pv at HV ⊢
  unfold mv at HM ⊢
  go_enter Try.func19, Try.ntmps19
  go_wp2_with fail
  refine (HV.out _).mono ?_
  rintro e w1 ⟨rfl, hg⟩
  have k0 := hg.cell (a := ⟨w.heap.size, 0, none⟩) (v := .int .i64 v) (by simp) (by simp)
  have k1 := hg.cell (a := ⟨w.heap.size, 1, none⟩) (v := .int .i64 t) (by simp) (by simp)
  have m0 := hg.cell (a := ⟨w.heap.size + 1, 0, none⟩) (v := .int .i64 p) (by simp) (by simp)
  have m1 := hg.cell (a := ⟨w.heap.size + 1, 1, none⟩) (v := .int .i64 b) (by simp) (by simp)
  have m2 := hg.cell (a := ⟨w.heap.size + 1, 2, none⟩) (v := .int .i64 f) (by simp) (by simp)
  have G := Lib.hid (grown_trans (two_grown w (Obj.cells #[.int .i64 v, .int .i64 t] 23) (Obj.cells #[.int .i64 p, .int .i64 b, .int .i64 f] 25)) hg)
  clear hg
  go_wp2_with fail
  refine (HM.out _).mono ?_
  rintro e w2 ⟨rfl, hg⟩
  have k0 := hg.cell k0 (by simp)
  have k1 := hg.cell k1 (by simp)
  have m0 := hg.cell m0 (by simp)
  have G := Lib.hid (grown_trans G.out hg)
  clear hg m1 m2
  have HR := Lib.hid (rproper_no B off n cap a x w2 (by omega) HA.out (HX.out.grown G.out (by simp)) i H4.out)
  go_wp2_with (go_at_call 24; refine (HR.out).mono ?_; rintro e w' ⟨rfl, rfl⟩)
  go_ret3
  exact ⟨rfl, G.out⟩

set_option maxHeartbeats 1000000 in
theorem rprove_none (v t p b f : Int) (B off n cap : Nat) (a : Option Addr) (x : Nat → Int) (w : World) (h1 : Pm.pvalid v t = true) (h2 : Mt.valid p b f = true) (h3 : n ≤ 20) (hcap : n ≤ cap) (hcap2 : cap ≤ 9223372036854775807) (ha : 0 < n → a = some ⟨B, off, none⟩) (h : Rw w B off n x) (h4 : Pm.Runs n x) (h5 : Pm.None' t n x)  :
    Calls Try.prog 19 #[pv v t, mv p b f, .slice a n cap] w (Ret (errv 0 0 10) w) := by
  have HX := Lib.hid h
  have HA := Lib.hid ha
  have HR := Lib.hid h4
  have HP := Lib.hid h1
  have HMV := Lib.hid h2
  clear h ha h4
  have HQ := Lib.hid h5
  clear h5
  have a3 : ¬ 20 < n := by omega
  have HV := Lib.hid (fun w => rValid_any v t w)
  have HM := Lib.hid (fun w => refValid_any p b f w)
  rw [h1] at HV
  rw [h2] at HM
  unfold pv at HV ⊢
  unfold mv at HM ⊢
  go_enter Try.func19, Try.ntmps19
  go_wp2_with fail
  refine (HV.out _).mono ?_
  rintro e w1 ⟨rfl, hg⟩
  have k0 := hg.cell (a := ⟨w.heap.size, 0, none⟩) (v := .int .i64 v) (by simp) (by simp)
  have k1 := hg.cell (a := ⟨w.heap.size, 1, none⟩) (v := .int .i64 t) (by simp) (by simp)
  have m0 := hg.cell (a := ⟨w.heap.size + 1, 0, none⟩) (v := .int .i64 p) (by simp) (by simp)
  have m1 := hg.cell (a := ⟨w.heap.size + 1, 1, none⟩) (v := .int .i64 b) (by simp) (by simp)
  have m2 := hg.cell (a := ⟨w.heap.size + 1, 2, none⟩) (v := .int .i64 f) (by simp) (by simp)
  have G := Lib.hid (grown_trans (two_grown w (Obj.cells #[.int .i64 v, .int .i64 t] 23) (Obj.cells #[.int .i64 p, .int .i64 b, .int .i64 f] 25)) hg)
  clear hg
  go_wp2_with fail
  refine (HM.out _).mono ?_
  rintro e w2 ⟨rfl, hg⟩
  have k0 := hg.cell k0 (by simp)
  have k1 := hg.cell k1 (by simp)
  have m0 := hg.cell m0 (by simp)
  have G := Lib.hid (grown_trans G.out hg)
  clear hg m1 m2
  have HRR := Lib.hid (rproper_yes B off n cap a x w2 (by omega) HA.out (HX.out.grown G.out (by simp)) HR.out)
  clear h1 h2
  go_wp2_with (go_at_call 24; refine (HRR.out).mono ?_; rintro e w' ⟨rfl, rfl⟩)
  go_loopw [9] (fun s9 wr => ∃ k : Nat, s9 = .int .i64 k ∧ k ≤ n - 4 ∧ Hid (w2.grownBy wr none)) (fun i _ => n - (intOf i).toNat)
  case atStart => exact ⟨0, rfl, by omega, grown_refl _ _⟩
  case round =>
    obtain ⟨wp, rfl⟩ : ∃ wp : World, wp = wr := ⟨_, rfl⟩
    obtain ⟨k, rfl, hk, GW⟩ := hrel
    by_cases hlt : k < n - 4
    · have a1 : k + 5 ≤ n := by omega
      have a2 : (k : Int) + 5 ≤ n := by omega
      have hW := Lib.hid (fun (c : Nat) (w' : World) (hg : wp.grownBy w' none) => rrepeats_any v t B (off + k) 5 c (some ⟨B, off + k, none⟩) (Pm.at' x k) _ w' (by omega) (fun _ => rfl) ((HX.out.grown (grown_trans G.out (grown_trans GW.out hg)) (by simp)).at' k 5 a1) (.said HP.out (by omega) (by omega) (HR.out.at' k 5 a1)))
      rw [HQ.out k a1] at hW
      unfold pv at hW
      obtain rfl := HA.out (by omega)
      have k0 := GW.out.cell k0 (by simp)
      have k1 := GW.out.cell k1 (by simp)
      have HK : Hid (∀ w', wp.grownBy w' none → w'.cell? ⟨w.heap.size, 0, none⟩ = some (.int .i64 v) ∧ w'.cell? ⟨w.heap.size, 1, none⟩ = some (.int .i64 t)) := fun w' hg => ⟨hg.cell k0 (by simp), hg.cell k1 (by simp)⟩
      have hsl := slice5 B off n cap k (by omega)
      have b4 : IntKind.i64.wrap ((k : Int) + 5) = (k : Int) + 5 := IntWalk.i64_in _ (by omega)
      go_wp2_with fail
      go_region_held3 (fun w' => w'.cell? ⟨w.heap.size, 0, none⟩ = some (.int .i64 v) ∧ w'.cell? ⟨w.heap.size, 1, none⟩ = some (.int .i64 t))
        (first | go_keep | exact HK.out _ hga.out | fail)
        (first
          | (go_at_call 17; refine (hW.out _ wp.drew (grown_drewN wp 1 none)).mono ?_; rintro e wa ⟨rfl, hg⟩; have hga : Hid (wp.grownBy wa none) := grown_trans (show wp.grownBy wp.drew none from grown_drewN wp 1 none) hg; clear hg)
          | fail)
      have GA := Lib.hid (grown_trans GW.out hga.out)
      clear hga HK hW k0 k1 hsl b4
      go_wp2
      go_roundw
      case rel => exact ⟨k + 1, by go_num, by omega, GA⟩
      case measure => simp [intOf]; omega
    · have a2 : ¬ ((k : Int) + 5 ≤ n) := by omega
      have G := Lib.hid (grown_trans G.out GW.out)
      go_wp2
      go_ret3
      exact ⟨rfl, G.out⟩

set_option maxHeartbeats 1000000 in
theorem rprove_far (v t p b f : Int) (B off n cap : Nat) (a : Option Addr) (x : Nat → Int) (w : World) (h1 : Pm.pvalid v t = true) (h2 : Mt.valid p b f = true) (h3 : n ≤ 20) (hcap : n ≤ cap) (hcap2 : cap ≤ 9223372036854775807) (ha : 0 < n → a = some ⟨B, off, none⟩) (h : Rw w B off n x) (h4 : Pm.Runs n x) (F : Int) (j : Nat) (h5 : Pm.First t n x j)  (h6 : F < 50000 ∨ 200000 < F) (hF : Pm.fac v p x j = F) :
    Calls Try.prog 19 #[pv v t, mv p b f, .slice a n cap] w (Ret (errv 0 0 1) w) := by
  have HX := Lib.hid h
  have HA := Lib.hid ha
  have HR := Lib.hid h4
  have HP := Lib.hid h1
  have HMV := Lib.hid h2
  clear h ha h4
  obtain ⟨hj, hq1, hq⟩ := h5
  have HQ := Lib.hid hq
  have HJ := Lib.hid hq1
  have HF := Lib.hid hF
  clear hF hq hq1
  have a3 : ¬ 20 < n := by omega
  have HV := Lib.hid (fun w => rValid_any v t w)
  have HM := Lib.hid (fun w => refValid_any p b f w)
  rw [h1] at HV
  rw [h2] at HM
  unfold pv at HV ⊢
  unfold mv at HM ⊢
  go_enter Try.func19, Try.ntmps19
  go_wp2_with fail
  refine (HV.out _).mono ?_
  rintro e w1 ⟨rfl, hg⟩
  have k0 := hg.cell (a := ⟨w.heap.size, 0, none⟩) (v := .int .i64 v) (by simp) (by simp)
  have k1 := hg.cell (a := ⟨w.heap.size, 1, none⟩) (v := .int .i64 t) (by simp) (by simp)
  have m0 := hg.cell (a := ⟨w.heap.size + 1, 0, none⟩) (v := .int .i64 p) (by simp) (by simp)
  have m1 := hg.cell (a := ⟨w.heap.size + 1, 1, none⟩) (v := .int .i64 b) (by simp) (by simp)
  have m2 := hg.cell (a := ⟨w.heap.size + 1, 2, none⟩) (v := .int .i64 f) (by simp) (by simp)
  have G := Lib.hid (grown_trans (two_grown w (Obj.cells #[.int .i64 v, .int .i64 t] 23) (Obj.cells #[.int .i64 p, .int .i64 b, .int .i64 f] 25)) hg)
  clear hg
  go_wp2_with fail
  refine (HM.out _).mono ?_
  rintro e w2 ⟨rfl, hg⟩
  have k0 := hg.cell k0 (by simp)
  have k1 := hg.cell k1 (by simp)
  have m0 := hg.cell m0 (by simp)
  have G := Lib.hid (grown_trans G.out hg)
  clear hg m1 m2
  have HRR := Lib.hid (rproper_yes B off n cap a x w2 (by omega) HA.out (HX.out.grown G.out (by simp)) HR.out)
  clear h1 h2
  go_wp2_with (go_at_call 24; refine (HRR.out).mono ?_; rintro e w' ⟨rfl, rfl⟩)
  go_loopw [9] (fun s9 wr => ∃ k : Nat, s9 = .int .i64 k ∧ k ≤ j ∧ Hid (w2.grownBy wr none)) (fun i _ => n - (intOf i).toNat)
  case atStart => exact ⟨0, rfl, by omega, grown_refl _ _⟩
  case round =>
    obtain ⟨wp, rfl⟩ : ∃ wp : World, wp = wr := ⟨_, rfl⟩
    obtain ⟨k, rfl, hk, GW⟩ := hrel
    by_cases hlt : k < j
    · have a1 : k + 5 ≤ n := by omega
      have a2 : (k : Int) + 5 ≤ n := by omega
      have hW := Lib.hid (fun (c : Nat) (w' : World) (hg : wp.grownBy w' none) => rrepeats_any v t B (off + k) 5 c (some ⟨B, off + k, none⟩) (Pm.at' x k) _ w' (by omega) (fun _ => rfl) ((HX.out.grown (grown_trans G.out (grown_trans GW.out hg)) (by simp)).at' k 5 a1) (.said HP.out (by omega) (by omega) (HR.out.at' k 5 a1)))
      rw [HQ.out k hlt] at hW
      unfold pv at hW
      obtain rfl := HA.out (by omega)
      have k0 := GW.out.cell k0 (by simp)
      have k1 := GW.out.cell k1 (by simp)
      have HK : Hid (∀ w', wp.grownBy w' none → w'.cell? ⟨w.heap.size, 0, none⟩ = some (.int .i64 v) ∧ w'.cell? ⟨w.heap.size, 1, none⟩ = some (.int .i64 t)) := fun w' hg => ⟨hg.cell k0 (by simp), hg.cell k1 (by simp)⟩
      have hsl := slice5 B off n cap k (by omega)
      have b4 : IntKind.i64.wrap ((k : Int) + 5) = (k : Int) + 5 := IntWalk.i64_in _ (by omega)
      go_wp2_with fail
      go_region_held3 (fun w' => w'.cell? ⟨w.heap.size, 0, none⟩ = some (.int .i64 v) ∧ w'.cell? ⟨w.heap.size, 1, none⟩ = some (.int .i64 t))
        (first | go_keep | exact HK.out _ hga.out | fail)
        (first
          | (go_at_call 17; refine (hW.out _ wp.drew (grown_drewN wp 1 none)).mono ?_; rintro e wa ⟨rfl, hg⟩; have hga : Hid (wp.grownBy wa none) := grown_trans (show wp.grownBy wp.drew none from grown_drewN wp 1 none) hg; clear hg)
          | fail)
      have GA := Lib.hid (grown_trans GW.out hga.out)
      clear hga HK hW k0 k1 hsl b4
      go_wp2
      go_roundw
      case rel => exact ⟨k + 1, by go_num, by omega, GA⟩
      case measure => simp [intOf]; omega
    · obtain rfl : k = j := by omega
      have a1 : k + 5 ≤ n := hj
      have a2 : (k : Int) + 5 ≤ n := by omega
      have hW := Lib.hid (fun (c : Nat) (w' : World) (hg : wp.grownBy w' none) => rrepeats_any v t B (off + k) 5 c (some ⟨B, off + k, none⟩) (Pm.at' x k) _ w' (by omega) (fun _ => rfl) ((HX.out.grown (grown_trans G.out (grown_trans GW.out hg)) (by simp)).at' k 5 a1) (.said HP.out (by omega) (by omega) (HR.out.at' k 5 a1)))
      rw [HJ.out] at hW
      unfold pv at hW
      obtain rfl := HA.out (by omega)
      have k0 := GW.out.cell k0 (by simp)
      have k1 := GW.out.cell k1 (by simp)
      have HK : Hid (∀ w', wp.grownBy w' none → w'.cell? ⟨w.heap.size, 0, none⟩ = some (.int .i64 v) ∧ w'.cell? ⟨w.heap.size, 1, none⟩ = some (.int .i64 t)) := fun w' hg => ⟨hg.cell k0 (by simp), hg.cell k1 (by simp)⟩
      have hsl := slice5 B off n cap k (by omega)
      have b4 : IntKind.i64.wrap ((k : Int) + 5) = (k : Int) + 5 := IntWalk.i64_in _ (by omega)
      go_wp2_with fail
      go_region_held3 (fun w' => w'.cell? ⟨w.heap.size, 0, none⟩ = some (.int .i64 v) ∧ w'.cell? ⟨w.heap.size, 1, none⟩ = some (.int .i64 t))
        (first | go_keep | exact HK.out _ hga.out | fail)
        (first
          | (go_at_call 17; refine (hW.out _ wp.drew (grown_drewN wp 1 none)).mono ?_; rintro e wa ⟨rfl, hg⟩; have hga : Hid (wp.grownBy wa none) := grown_trans (show wp.grownBy wp.drew none from grown_drewN wp 1 none) hg; clear hg)
          | fail)
      have GA := Lib.hid (grown_trans GW.out hga.out)
      obtain ⟨k0, k1⟩ := HK.out _ hga.out
      have m0 := GA.out.cell m0 (by simp)
      have G := Lib.hid (grown_trans G.out GA.out)
      have HC := Lib.hid (HX.out.grown G.out (by simp))
      have H5 := Lib.hid (HR.out.at' k 5 a1)
      obtain ⟨v1, v2, _, _⟩ := Pm.pvalid_true HP.out
      obtain ⟨p1, p2, _, _⟩ := Mt.valid_true HMV.out
      have hvp := vp_range v1 v2 p1 p2
      have HH := Lib.hid (rhalf_any (5 * v * p * 100) (psm (Pm.at' x k) 5))
      have EF := Lib.hid (show Rd.half (5 * v * p * 100) (psm (Pm.at' x k) 5) = F from by rw [psm_five]; exact HF.out)
      rw [EF.out] at HH
      have hcn : k + 5 ≤ cap := by omega
      clear hga HK hW hsl GA GW HV HM HRR
      generalize hy : Pm.at' x k = y at *
      have HY := Lib.hid hy
      clear hy
      go_wp2
      go_loopw [10, 11] (fun s10 s11 wr => ∃ i : Nat, s11 = .int .i64 i ∧ i ≤ 5 ∧ s10 = .int .i64 (psm y i) ∧ wr = wa) (fun _ i _ => 5 - (intOf i).toNat)
      case atStart => exact ⟨0, rfl, by omega, rfl, rfl⟩
      case round =>
        obtain ⟨i, rfl, hi, rfl, rfl⟩ := hrel
        have hp := psm_range H5.out i hi
        have he := Lib.hid (show psm y (i + 1) = psm y i + y i from rfl)
        by_cases hlt2 : i < 5
        · have c1 := HC.out (k + i) (by omega)
          rw [show x (k + i) = y i from by rw [← HY.out]; rfl] at c1
          have ⟨r1, r2⟩ := H5.out i hlt2
          have b5 : IntKind.i64.wrap ((k : Int) + i) = (k : Int) + i := IntWalk.i64_in _ (by omega)
          generalize hs : psm y i = s at *
          generalize y i = z at *
          clear hs
          go_wp2
          go_roundw
          case rel => exact ⟨i + 1, by go_num, by omega, congrArg (Value.int .i64) he.out.symm, trivial⟩
          case measure => simp [intOf]; omega
        · obtain rfl : i = 5 := by omega
          generalize hs : psm y 5 = s at *
          clear he
          rcases h6 with h6 | h6
          · go_wp2_with (go_at_call 30; refine (HH.out _).mono ?_; rintro e w' ⟨rfl, rfl⟩)
            go_ret3
            exact ⟨rfl, G.out⟩
          · have h7 : ¬ F < 50000 := by omega
            go_wp2_with (go_at_call 30; refine (HH.out _).mono ?_; rintro e w' ⟨rfl, rfl⟩)
            go_ret3
            exact ⟨rfl, G.out⟩

set_option maxHeartbeats 1000000 in
theorem rprove_ok (v t p b f : Int) (B off n cap : Nat) (a : Option Addr) (x : Nat → Int) (w : World) (h1 : Pm.pvalid v t = true) (h2 : Mt.valid p b f = true) (h3 : n ≤ 20) (hcap : n ≤ cap) (hcap2 : cap ≤ 9223372036854775807) (ha : 0 < n → a = some ⟨B, off, none⟩) (h : Rw w B off n x) (h4 : Pm.Runs n x) (F : Int) (j : Nat) (h5 : Pm.First t n x j)  (h6 : 50000 ≤ F) (h7 : F ≤ 200000) (hF : Pm.fac v p x j = F) :
    Calls Try.prog 19 #[pv v t, mv p b f, .slice a n cap] w (Ret (errv F j 0) w) := by
  have HX := Lib.hid h
  have HA := Lib.hid ha
  have HR := Lib.hid h4
  have HP := Lib.hid h1
  have HMV := Lib.hid h2
  clear h ha h4
  obtain ⟨hj, hq1, hq⟩ := h5
  have HQ := Lib.hid hq
  have HJ := Lib.hid hq1
  have HF := Lib.hid hF
  clear hF hq hq1
  have a3 : ¬ 20 < n := by omega
  have HV := Lib.hid (fun w => rValid_any v t w)
  have HM := Lib.hid (fun w => refValid_any p b f w)
  rw [h1] at HV
  rw [h2] at HM
  unfold pv at HV ⊢
  unfold mv at HM ⊢
  go_enter Try.func19, Try.ntmps19
  go_wp2_with fail
  refine (HV.out _).mono ?_
  rintro e w1 ⟨rfl, hg⟩
  have k0 := hg.cell (a := ⟨w.heap.size, 0, none⟩) (v := .int .i64 v) (by simp) (by simp)
  have k1 := hg.cell (a := ⟨w.heap.size, 1, none⟩) (v := .int .i64 t) (by simp) (by simp)
  have m0 := hg.cell (a := ⟨w.heap.size + 1, 0, none⟩) (v := .int .i64 p) (by simp) (by simp)
  have m1 := hg.cell (a := ⟨w.heap.size + 1, 1, none⟩) (v := .int .i64 b) (by simp) (by simp)
  have m2 := hg.cell (a := ⟨w.heap.size + 1, 2, none⟩) (v := .int .i64 f) (by simp) (by simp)
  have G := Lib.hid (grown_trans (two_grown w (Obj.cells #[.int .i64 v, .int .i64 t] 23) (Obj.cells #[.int .i64 p, .int .i64 b, .int .i64 f] 25)) hg)
  clear hg
  go_wp2_with fail
  refine (HM.out _).mono ?_
  rintro e w2 ⟨rfl, hg⟩
  have k0 := hg.cell k0 (by simp)
  have k1 := hg.cell k1 (by simp)
  have m0 := hg.cell m0 (by simp)
  have G := Lib.hid (grown_trans G.out hg)
  clear hg m1 m2
  have HRR := Lib.hid (rproper_yes B off n cap a x w2 (by omega) HA.out (HX.out.grown G.out (by simp)) HR.out)
  clear h1 h2
  go_wp2_with (go_at_call 24; refine (HRR.out).mono ?_; rintro e w' ⟨rfl, rfl⟩)
  go_loopw [9] (fun s9 wr => ∃ k : Nat, s9 = .int .i64 k ∧ k ≤ j ∧ Hid (w2.grownBy wr none)) (fun i _ => n - (intOf i).toNat)
  case atStart => exact ⟨0, rfl, by omega, grown_refl _ _⟩
  case round =>
    obtain ⟨wp, rfl⟩ : ∃ wp : World, wp = wr := ⟨_, rfl⟩
    obtain ⟨k, rfl, hk, GW⟩ := hrel
    by_cases hlt : k < j
    · have a1 : k + 5 ≤ n := by omega
      have a2 : (k : Int) + 5 ≤ n := by omega
      have hW := Lib.hid (fun (c : Nat) (w' : World) (hg : wp.grownBy w' none) => rrepeats_any v t B (off + k) 5 c (some ⟨B, off + k, none⟩) (Pm.at' x k) _ w' (by omega) (fun _ => rfl) ((HX.out.grown (grown_trans G.out (grown_trans GW.out hg)) (by simp)).at' k 5 a1) (.said HP.out (by omega) (by omega) (HR.out.at' k 5 a1)))
      rw [HQ.out k hlt] at hW
      unfold pv at hW
      obtain rfl := HA.out (by omega)
      have k0 := GW.out.cell k0 (by simp)
      have k1 := GW.out.cell k1 (by simp)
      have HK : Hid (∀ w', wp.grownBy w' none → w'.cell? ⟨w.heap.size, 0, none⟩ = some (.int .i64 v) ∧ w'.cell? ⟨w.heap.size, 1, none⟩ = some (.int .i64 t)) := fun w' hg => ⟨hg.cell k0 (by simp), hg.cell k1 (by simp)⟩
      have hsl := slice5 B off n cap k (by omega)
      have b4 : IntKind.i64.wrap ((k : Int) + 5) = (k : Int) + 5 := IntWalk.i64_in _ (by omega)
      go_wp2_with fail
      go_region_held3 (fun w' => w'.cell? ⟨w.heap.size, 0, none⟩ = some (.int .i64 v) ∧ w'.cell? ⟨w.heap.size, 1, none⟩ = some (.int .i64 t))
        (first | go_keep | exact HK.out _ hga.out | fail)
        (first
          | (go_at_call 17; refine (hW.out _ wp.drew (grown_drewN wp 1 none)).mono ?_; rintro e wa ⟨rfl, hg⟩; have hga : Hid (wp.grownBy wa none) := grown_trans (show wp.grownBy wp.drew none from grown_drewN wp 1 none) hg; clear hg)
          | fail)
      have GA := Lib.hid (grown_trans GW.out hga.out)
      clear hga HK hW k0 k1 hsl b4
      go_wp2
      go_roundw
      case rel => exact ⟨k + 1, by go_num, by omega, GA⟩
      case measure => simp [intOf]; omega
    · obtain rfl : k = j := by omega
      have a1 : k + 5 ≤ n := hj
      have a2 : (k : Int) + 5 ≤ n := by omega
      have hW := Lib.hid (fun (c : Nat) (w' : World) (hg : wp.grownBy w' none) => rrepeats_any v t B (off + k) 5 c (some ⟨B, off + k, none⟩) (Pm.at' x k) _ w' (by omega) (fun _ => rfl) ((HX.out.grown (grown_trans G.out (grown_trans GW.out hg)) (by simp)).at' k 5 a1) (.said HP.out (by omega) (by omega) (HR.out.at' k 5 a1)))
      rw [HJ.out] at hW
      unfold pv at hW
      obtain rfl := HA.out (by omega)
      have k0 := GW.out.cell k0 (by simp)
      have k1 := GW.out.cell k1 (by simp)
      have HK : Hid (∀ w', wp.grownBy w' none → w'.cell? ⟨w.heap.size, 0, none⟩ = some (.int .i64 v) ∧ w'.cell? ⟨w.heap.size, 1, none⟩ = some (.int .i64 t)) := fun w' hg => ⟨hg.cell k0 (by simp), hg.cell k1 (by simp)⟩
      have hsl := slice5 B off n cap k (by omega)
      have b4 : IntKind.i64.wrap ((k : Int) + 5) = (k : Int) + 5 := IntWalk.i64_in _ (by omega)
      go_wp2_with fail
      go_region_held3 (fun w' => w'.cell? ⟨w.heap.size, 0, none⟩ = some (.int .i64 v) ∧ w'.cell? ⟨w.heap.size, 1, none⟩ = some (.int .i64 t))
        (first | go_keep | exact HK.out _ hga.out | fail)
        (first
          | (go_at_call 17; refine (hW.out _ wp.drew (grown_drewN wp 1 none)).mono ?_; rintro e wa ⟨rfl, hg⟩; have hga : Hid (wp.grownBy wa none) := grown_trans (show wp.grownBy wp.drew none from grown_drewN wp 1 none) hg; clear hg)
          | fail)
      have GA := Lib.hid (grown_trans GW.out hga.out)
      obtain ⟨k0, k1⟩ := HK.out _ hga.out
      have m0 := GA.out.cell m0 (by simp)
      have G := Lib.hid (grown_trans G.out GA.out)
      have HC := Lib.hid (HX.out.grown G.out (by simp))
      have H5 := Lib.hid (HR.out.at' k 5 a1)
      obtain ⟨v1, v2, _, _⟩ := Pm.pvalid_true HP.out
      obtain ⟨p1, p2, _, _⟩ := Mt.valid_true HMV.out
      have hvp := vp_range v1 v2 p1 p2
      have HH := Lib.hid (rhalf_any (5 * v * p * 100) (psm (Pm.at' x k) 5))
      have EF := Lib.hid (show Rd.half (5 * v * p * 100) (psm (Pm.at' x k) 5) = F from by rw [psm_five]; exact HF.out)
      rw [EF.out] at HH
      have hcn : k + 5 ≤ cap := by omega
      clear hga HK hW hsl GA GW HV HM HRR
      generalize hy : Pm.at' x k = y at *
      have HY := Lib.hid hy
      clear hy
      go_wp2
      go_loopw [10, 11] (fun s10 s11 wr => ∃ i : Nat, s11 = .int .i64 i ∧ i ≤ 5 ∧ s10 = .int .i64 (psm y i) ∧ wr = wa) (fun _ i _ => 5 - (intOf i).toNat)
      case atStart => exact ⟨0, rfl, by omega, rfl, rfl⟩
      case round =>
        obtain ⟨i, rfl, hi, rfl, rfl⟩ := hrel
        have hp := psm_range H5.out i hi
        have he := Lib.hid (show psm y (i + 1) = psm y i + y i from rfl)
        by_cases hlt2 : i < 5
        · have c1 := HC.out (k + i) (by omega)
          rw [show x (k + i) = y i from by rw [← HY.out]; rfl] at c1
          have ⟨r1, r2⟩ := H5.out i hlt2
          have b5 : IntKind.i64.wrap ((k : Int) + i) = (k : Int) + i := IntWalk.i64_in _ (by omega)
          generalize hs : psm y i = s at *
          generalize y i = z at *
          clear hs
          go_wp2
          go_roundw
          case rel => exact ⟨i + 1, by go_num, by omega, congrArg (Value.int .i64) he.out.symm, trivial⟩
          case measure => simp [intOf]; omega
        · obtain rfl : i = 5 := by omega
          generalize hs : psm y 5 = s at *
          clear he
          have g6 : ¬ F < 50000 := by omega
          have g7 : ¬ 200000 < F := by omega
          go_wp2_with (go_at_call 30; refine (HH.out _).mono ?_; rintro e w' ⟨rfl, rfl⟩)
          go_ret3
          exact ⟨rfl, G.out⟩

theorem rprove_any (v t p b f F e : Int) (B off n cap : Nat) (k : Int) (a : Option Addr) (x : Nat → Int) (w : World) (hcap : n ≤ cap) (hcap2 : cap ≤ 9223372036854775807) (ha : 0 < n → a = some ⟨B, off, none⟩) (h : Rw w B off n x) (hr : Pm.Pr v t p b f n x F k e) :
    Calls Try.prog 19 #[pv v t, mv p b f, .slice a n cap] w (Ret (errv F k e) w) := by
  cases hr with
  | inv h1 =>
    cases hv : Pm.pvalid v t
    · exact rprove_inv1 v t p b f n cap a w hv
    · exact rprove_inv2 v t p b f n cap a w hv (h1.resolve_left (by rw [hv]; simp))
  | limit h1 h2 h3 => exact rprove_limit v t p b f n cap a w h1 h2 h3
  | range h1 h2 h3 i h4 => exact rprove_range v t p b f B off n cap a x w h1 h2 h3 ha h i h4
  | none h1 h2 h3 h4 h5 => exact rprove_none v t p b f B off n cap a x w h1 h2 h3 hcap hcap2 ha h h4 h5
  | far h1 h2 h3 h4 j h5 h6 => exact rprove_far v t p b f B off n cap a x w h1 h2 h3 hcap hcap2 ha h h4 _ j h5 h6 rfl
  | ok h1 h2 h3 h4 j h5 h6 h7 => exact rprove_ok v t p b f B off n cap a x w h1 h2 h3 hcap hcap2 ha h h4 _ j h5 h6 h7 rfl
end Go.Proofs.Ytjeejdoahhkjbaa
