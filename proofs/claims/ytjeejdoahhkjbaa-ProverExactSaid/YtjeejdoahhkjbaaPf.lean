/- Contracts of the program's check, firstWindow and factor. -/
import Derived.Test.YtjeejdoahhkjbaaPe
namespace Go.Proofs.Ytjeejdoahhkjbaa
open Go.ChangeShapes Go.WideShapes Go.ChangeAt Go.RowKit

theorem Rw.at' {w : World} {b off n : Nat} {x : Nat → Int} (h : Rw w b off n x) (k m : Nat) (hk : k + m ≤ n) : Rw w b (off + k) m (Pm.at' x k) := fun i hi => by
  have := h (k + i) (by omega)
  rw [← Nat.add_assoc] at this
  exact this

/-- repeat of a window. -/
theorem window_any (v t : Int) (b off n cap k : Nat) (x : Nat → Int) (w : World) (hk : k + 5 ≤ n) (ht : 0 ≤ t) (ht2 : t ≤ 10000) (h : Rw w b off n x) (hx : Pm.Runs n x) :
    Calls Try.prog 23 #[pv v t, .slice (some ⟨b, off + k, none⟩) 5 cap] w (Ret (.bool (Pm.rep t 5 (Pm.at' x k))) w) :=
  repeat_any v t b (off + k) 5 cap (Pm.at' x k) w (by omega) (by omega) ht ht2 (h.at' k 5 hk) (hx.at' k 5 hk)

theorem slice5 (b off n cap k : Nat) (h : k + 5 ≤ cap) (w : World) :
    (Instr.slice 26 (.slice (some ⟨b, off, none⟩) n cap) (some (.int .i64 k)) (some (.int .i64 ((k : Int) + 5))) none).run Try.prog w = .ok (.slice (some ⟨b, off + k, none⟩) 5 (cap - k)) w := by
  have e1 : (cap = k) = False := by simp; omega
  have e2 : ((k : Int) + 5).toNat - k = 5 := by omega
  rw [run_slice_lh (P := Try.prog) (w := w) 26 (some ⟨b, off, none⟩) n cap Try.underlying26 .i64 .i64 k (k + 5) (by omega) (by omega) (by omega)]
  simp [go_sem, e1, e2, sliced]

set_option maxHeartbeats 1000000 in
theorem firstWindow_none (v t : Int) (b off n cap : Nat) (a : Option Addr) (x : Nat → Int) (w : World) (hn2 : n ≤ 20) (hcap : n ≤ cap) (hcap2 : cap ≤ 9223372036854775807) (ht : 0 ≤ t) (ht2 : t ≤ 10000) (ha : 0 < n → a = some ⟨b, off, none⟩) (h : Rw w b off n x) (hx : Pm.Runs n x) (hq : Pm.None' t n x) :
    Calls Try.prog 26 #[pv v t, .slice a n cap] w (Ret (.tuple #[.int .i64 0, .bool false]) w) := by
  have HT := Lib.hid (show 0 ≤ t ∧ t ≤ 10000 from ⟨ht, ht2⟩)
  have HA := Lib.hid ha
  have HX := Lib.hid h
  have HR := Lib.hid hx
  have HQ := Lib.hid hq
  clear h ha hx hq ht ht2
  unfold pv
  go_enter Try.func26, Try.ntmps26
  go_wp2
  have g0 : w.grownBy (w.alloc (Obj.cells #[.int .i64 v, .int .i64 t] 23)) none := World.grownBy_alloc _ _ _
  have k0 : (w.alloc (Obj.cells #[.int .i64 v, .int .i64 t] 23)).cell? ⟨w.heap.size, 0, none⟩ = some (.int .i64 v) := by simp
  have k1 : (w.alloc (Obj.cells #[.int .i64 v, .int .i64 t] 23)).cell? ⟨w.heap.size, 1, none⟩ = some (.int .i64 t) := by simp
  have K := Lib.hid (show _ ∧ _ from ⟨k0, k1⟩)
  have G0 := Lib.hid g0
  clear k0 k1 g0
  generalize w.alloc (Obj.cells #[.int .i64 v, .int .i64 t] 23) = W0 at *
  obtain ⟨X, hX⟩ : ∃ X, X = w.heap.size := ⟨_, rfl⟩
  rw [← hX] at K ⊢
  clear hX
  go_loopw [6, 11] (fun _ s11 wr => ∃ k : Nat, s11 = .int .i64 k ∧ k ≤ n - 4 ∧ Hid (W0.grownBy wr none)) (fun _ i _ => n - (intOf i).toNat)
  case atStart => exact ⟨0, rfl, by omega, grown_refl _ _⟩
  case round =>
    obtain ⟨wp, rfl⟩ : ∃ wp : World, wp = wr := ⟨_, rfl⟩
    obtain ⟨k, rfl, hk, GW⟩ := hrel
    by_cases hlt : k < n - 4
    · have a1 : k + 5 ≤ n := by omega
      have a2 : (k : Int) < n - 5 + 1 := by omega
      have hW := Lib.hid (fun (c : Nat) (w' : World) (hg : wp.grownBy w' none) => window_any v t b off n c k x w' a1 HT.out.1 HT.out.2 (HX.out.grown (grown_trans G0.out (grown_trans GW.out hg)) (by simp)) HR.out)
      rw [HQ.out k a1] at hW
      unfold pv at hW
      obtain rfl := HA.out (by omega)
      obtain ⟨k0, k1⟩ := K.out
      have k0 := GW.out.cell k0 (by simp)
      have k1 := GW.out.cell k1 (by simp)
      have HK : Hid (∀ w', wp.grownBy w' none → w'.cell? ⟨X, 0, none⟩ = some (.int .i64 v) ∧ w'.cell? ⟨X, 1, none⟩ = some (.int .i64 t)) := fun w' hg => ⟨hg.cell k0 (by simp), hg.cell k1 (by simp)⟩
      have hsl := slice5 b off n cap k (by omega)
      have b4 : IntKind.i64.wrap ((k : Int) + 5) = (k : Int) + 5 := IntWalk.i64_in _ (by omega)
      go_wp2_with fail
      go_region_held3 (fun w' => w'.cell? ⟨X, 0, none⟩ = some (.int .i64 v) ∧ w'.cell? ⟨X, 1, none⟩ = some (.int .i64 t))
        (first | go_keep | exact HK.out _ hga.out | fail)
        (first
          | (go_at_call 23; refine (hW.out _ wp.drew (grown_drewN wp 1 none)).mono ?_; rintro e wa ⟨rfl, hg⟩; have hga : Hid (wp.grownBy wa none) := grown_trans (show wp.grownBy wp.drew none from grown_drewN wp 1 none) hg; clear hg)
          | fail)
      have GA := Lib.hid (grown_trans GW.out hga.out)
      clear hga HK hW k0 k1 hsl b4
      go_wp2
      go_roundw
      case rel => exact ⟨k + 1, by go_num, by omega, GA⟩
      case measure => simp [intOf]; omega
    · have a2 : ¬ ((k : Int) < n - 5 + 1) := by omega
      have G := Lib.hid (grown_trans G0.out GW.out)
      go_wp2
      go_ret2
      exact ⟨rfl, G.out⟩
set_option maxHeartbeats 1000000 in
theorem firstWindow_some (v t : Int) (b off n cap : Nat) (a : Option Addr) (x : Nat → Int) (w : World) (hn2 : n ≤ 20) (hcap : n ≤ cap) (hcap2 : cap ≤ 9223372036854775807) (ht : 0 ≤ t) (ht2 : t ≤ 10000) (ha : 0 < n → a = some ⟨b, off, none⟩) (h : Rw w b off n x) (hx : Pm.Runs n x) (j : Nat) (hq : Pm.First t n x j) :
    Calls Try.prog 26 #[pv v t, .slice a n cap] w (Ret (.tuple #[.int .i64 j, .bool true]) w) := by
  have HT := Lib.hid (show 0 ≤ t ∧ t ≤ 10000 from ⟨ht, ht2⟩)
  have HA := Lib.hid ha
  have HX := Lib.hid h
  have HR := Lib.hid hx
  obtain ⟨hj, hq1, hq⟩ := hq
  have HQ := Lib.hid hq
  have HJ := Lib.hid hq1
  clear h ha hx hq hq1 ht ht2
  unfold pv
  go_enter Try.func26, Try.ntmps26
  go_wp2
  have g0 : w.grownBy (w.alloc (Obj.cells #[.int .i64 v, .int .i64 t] 23)) none := World.grownBy_alloc _ _ _
  have k0 : (w.alloc (Obj.cells #[.int .i64 v, .int .i64 t] 23)).cell? ⟨w.heap.size, 0, none⟩ = some (.int .i64 v) := by simp
  have k1 : (w.alloc (Obj.cells #[.int .i64 v, .int .i64 t] 23)).cell? ⟨w.heap.size, 1, none⟩ = some (.int .i64 t) := by simp
  have K := Lib.hid (show _ ∧ _ from ⟨k0, k1⟩)
  have G0 := Lib.hid g0
  clear k0 k1 g0
  generalize w.alloc (Obj.cells #[.int .i64 v, .int .i64 t] 23) = W0 at *
  obtain ⟨X, hX⟩ : ∃ X, X = w.heap.size := ⟨_, rfl⟩
  rw [← hX] at K ⊢
  clear hX
  go_loopw [6, 11] (fun _ s11 wr => ∃ k : Nat, s11 = .int .i64 k ∧ k ≤ j ∧ Hid (W0.grownBy wr none)) (fun _ i _ => n - (intOf i).toNat)
  case atStart => exact ⟨0, rfl, by omega, grown_refl _ _⟩
  case round =>
    obtain ⟨wp, rfl⟩ : ∃ wp : World, wp = wr := ⟨_, rfl⟩
    obtain ⟨k, rfl, hk, GW⟩ := hrel
    by_cases hlt : k < j
    · have a1 : k + 5 ≤ n := by omega
      have a2 : (k : Int) < n - 5 + 1 := by omega
      have hW := Lib.hid (fun (c : Nat) (w' : World) (hg : wp.grownBy w' none) => window_any v t b off n c k x w' a1 HT.out.1 HT.out.2 (HX.out.grown (grown_trans G0.out (grown_trans GW.out hg)) (by simp)) HR.out)
      rw [HQ.out k hlt] at hW
      unfold pv at hW
      obtain rfl := HA.out (by omega)
      obtain ⟨k0, k1⟩ := K.out
      have k0 := GW.out.cell k0 (by simp)
      have k1 := GW.out.cell k1 (by simp)
      have HK : Hid (∀ w', wp.grownBy w' none → w'.cell? ⟨X, 0, none⟩ = some (.int .i64 v) ∧ w'.cell? ⟨X, 1, none⟩ = some (.int .i64 t)) := fun w' hg => ⟨hg.cell k0 (by simp), hg.cell k1 (by simp)⟩
      have hsl := slice5 b off n cap k (by omega)
      have b4 : IntKind.i64.wrap ((k : Int) + 5) = (k : Int) + 5 := IntWalk.i64_in _ (by omega)
      go_wp2_with fail
      go_region_held3 (fun w' => w'.cell? ⟨X, 0, none⟩ = some (.int .i64 v) ∧ w'.cell? ⟨X, 1, none⟩ = some (.int .i64 t))
        (first | go_keep | exact HK.out _ hga.out | fail)
        (first
          | (go_at_call 23; refine (hW.out _ wp.drew (grown_drewN wp 1 none)).mono ?_; rintro e wa ⟨rfl, hg⟩; have hga : Hid (wp.grownBy wa none) := grown_trans (show wp.grownBy wp.drew none from grown_drewN wp 1 none) hg; clear hg)
          | fail)
      have GA := Lib.hid (grown_trans GW.out hga.out)
      clear hga HK hW k0 k1 hsl b4
      go_wp2
      go_roundw
      case rel => exact ⟨k + 1, by go_num, by omega, GA⟩
      case measure => simp [intOf]; omega
    · obtain rfl : k = j := by omega
      have a1 : k + 5 ≤ n := hj
      have a2 : (k : Int) < n - 5 + 1 := by omega
      have hW := Lib.hid (fun (c : Nat) (w' : World) (hg : wp.grownBy w' none) => window_any v t b off n c k x w' a1 HT.out.1 HT.out.2 (HX.out.grown (grown_trans G0.out (grown_trans GW.out hg)) (by simp)) HR.out)
      rw [HJ.out] at hW
      unfold pv at hW
      obtain rfl := HA.out (by omega)
      obtain ⟨k0, k1⟩ := K.out
      have k0 := GW.out.cell k0 (by simp)
      have k1 := GW.out.cell k1 (by simp)
      have HK : Hid (∀ w', wp.grownBy w' none → w'.cell? ⟨X, 0, none⟩ = some (.int .i64 v) ∧ w'.cell? ⟨X, 1, none⟩ = some (.int .i64 t)) := fun w' hg => ⟨hg.cell k0 (by simp), hg.cell k1 (by simp)⟩
      have hsl := slice5 b off n cap k (by omega)
      have b4 : IntKind.i64.wrap ((k : Int) + 5) = (k : Int) + 5 := IntWalk.i64_in _ (by omega)
      go_wp2_with fail
      go_region_held3 (fun w' => w'.cell? ⟨X, 0, none⟩ = some (.int .i64 v) ∧ w'.cell? ⟨X, 1, none⟩ = some (.int .i64 t))
        (first | go_keep | exact HK.out _ hga.out | fail)
        (first
          | (go_at_call 23; refine (hW.out _ wp.drew (grown_drewN wp 1 none)).mono ?_; rintro e wa ⟨rfl, hg⟩; have hga : Hid (wp.grownBy wa none) := grown_trans (show wp.grownBy wp.drew none from grown_drewN wp 1 none) hg; clear hg)
          | fail)
      have GA := Lib.hid (grown_trans GW.out hga.out)
      have G := Lib.hid (grown_trans G0.out GA.out)
      clear hga HK hW k0 k1 hsl b4
      go_wp2
      go_ret2
      exact ⟨rfl, G.out⟩
end Go.Proofs.Ytjeejdoahhkjbaa
