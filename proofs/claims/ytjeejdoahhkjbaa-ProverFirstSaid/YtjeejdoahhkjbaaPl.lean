/- The walk of ProverFirst. -/
import Derived.Test.YtjeejdoahhkjbaaPk
namespace Go.Proofs.Ytjeejdoahhkjbaa
open Go.ChangeShapes Go.WideShapes Go.ChangeAt Go.RowKit

/-- Behind the windows from i + 1 on: the first of them that repeats, or -1. -/
def Ff (t : Int) (m : Nat) (x : Nat → Int) (i fst : Int) : Prop :=
  (fst = -1 ∧ ∀ j : Nat, i < j → j + 5 ≤ m → Pm.rep t 5 (Pm.at' x j) = false) ∨
  ∃ k : Nat, fst = k ∧ i < k ∧ k + 5 ≤ m ∧ Pm.rep t 5 (Pm.at' x k) = true ∧ ∀ j : Nat, i < j → j < k → Pm.rep t 5 (Pm.at' x j) = false
theorem Ff.start (t : Int) (m : Nat) (x : Nat → Int) : Ff t m x ((m : Int) - 5) (-1) := .inl ⟨rfl, fun j h1 h2 => absurd h1 (by omega)⟩
theorem Ff.yes {t : Int} {m : Nat} {x : Nat → Int} {k : Nat} (h1 : k + 5 ≤ m) (h2 : Pm.rep t 5 (Pm.at' x k) = true) : Ff t m x ((k : Int) - 1) k :=
  .inr ⟨k, rfl, by omega, h1, h2, fun j a b => absurd a (by omega)⟩
theorem Ff.no {t : Int} {m : Nat} {x : Nat → Int} {k : Nat} {fst : Int} (h : Ff t m x k fst) (h2 : Pm.rep t 5 (Pm.at' x k) = false) : Ff t m x ((k : Int) - 1) fst := by
  rcases h with ⟨rfl, h⟩ | ⟨q, rfl, a, b, c, d⟩
  · refine .inl ⟨rfl, fun j h3 h4 => ?_⟩
    by_cases e : j = k
    · rw [e]; exact h2
    · exact h j (by omega) h4
  · refine .inr ⟨q, rfl, by omega, b, c, fun j h3 h4 => ?_⟩
    by_cases e : j = k
    · rw [e]; exact h2
    · exact d j (by omega) h4
theorem Ff.done {v t p b f : Int} {m : Nat} {x : Nat → Int} {i fst F k e : Int} (h : Ff t m x i fst) (hi : i < 0) (hv : Pm.pvalid v t = true) (hm : Mt.valid p b f = true) (h20 : m ≤ 20) (hx : Pm.Runs m x)
    (hr : Pm.Pr v t p b f m x F k e) : (fst = -1 ∧ e = 10) ∨ (0 ≤ fst ∧ e = 0 ∧ k = fst) ∨ (0 ≤ fst ∧ e = 1) := by
  have H1 : ∀ q, Pm.First t m x q → fst = q := fun q ⟨a, b, c⟩ => by
    rcases h with ⟨rfl, h⟩ | ⟨r, rfl, h1, h2, h3, h4⟩
    · have := h q (by omega) a; rw [b] at this; cases this
    · by_cases e1 : q < r
      · have := h4 q (by omega) e1; rw [b] at this; cases this
      · by_cases e2 : r < q
        · have := c r e2; rw [h3] at this; cases this
        · omega
  cases hr with
  | inv h1 => rcases h1 with h1 | h1 <;> simp [hv, hm] at h1
  | limit h1 h2 h3 => omega
  | range h1 h2 h3 i h4 => exact absurd h4 (hx.not_bad i)
  | none h1 h2 h3 h4 h5 =>
    rcases h with ⟨rfl, h⟩ | ⟨r, rfl, h1, h2, h3, h4⟩
    · exact .inl ⟨rfl, rfl⟩
    · have := h5 r h2; rw [h3] at this; cases this
  | far h1 h2 h3 h4 q h5 h6 =>
    have := H1 q h5
    exact .inr (.inr ⟨by omega, rfl⟩)
  | ok h1 h2 h3 h4 q h5 h6 h7 =>
    have := H1 q h5
    exact .inr (.inl ⟨by omega, rfl, this.symm⟩)

set_option maxHeartbeats 1000000 in
theorem first_walk (a : Option Addr) (len cap : Nat) (zs : List Int) (w : World) (hi : InRow w a len cap zs) :
    Calls Try.prog 4 #[.slice a len cap] w fun e w' => e = .returned (.bool true) ∧ Below w.heap.size w w' := by
  have HI := Lib.hid hi
  clear hi
  go_enter Try.func4, Try.ntmps4
  go_wp2_with fail
  refine (new_any a len cap zs w HI.out).mono ?_
  rintro e w1 ⟨rfl, hg, hs, hlt⟩
  have G := Lib.hid hg
  have HS := Lib.hid hs
  clear hg hs
  go_wp2_with fail
  refine (made_any w.heap.size w1 HS.out).mono ?_
  rintro e w2 ⟨v, t, hv, rfl, hg, hs⟩
  have V := Lib.hid hv
  have G := Lib.hid (show w.grownBy w2 none from grown_off G.out hg (Nat.le_refl _))
  have HS := Lib.hid hs
  clear hg hs hv
  unfold pv
  go_wp2_with fail
  refine (meter_any w.heap.size w2 HS.out).mono ?_
  rintro e w3 ⟨p, b, f, hm, rfl, hg, hs⟩
  have M := Lib.hid hm
  have G := Lib.hid (show w.grownBy w3 none from grown_off G.out hg (Nat.le_refl _))
  have HS := Lib.hid hs
  clear hg hs hm
  unfold mv
  go_wp2_with fail
  have hS3 := src_lt HS.out
  have G0 := Lib.hid G.out
  have HR := Lib.hid (runs_any w.heap.size v t p b f _ (HS.out.grown (two_grown w3 (Obj.cells #[.int .i64 v, .int .i64 t] 23) (Obj.cells #[.int .i64 p, .int .i64 b, .int .i64 f] 25))) V.out M.out)
  unfold pv mv at HR
  refine (HR.out).mono ?_
  rintro e w5 ⟨vs, m, x, rfl, hown, hx, hm11, hg, hs⟩
  have k0 := hg.cell (a := ⟨w3.heap.size, 0, none⟩) (v := .int .i64 v) (by go_simp) (by simp; omega)
  have k1 := hg.cell (a := ⟨w3.heap.size, 1, none⟩) (v := .int .i64 t) (by go_simp) (by simp; omega)
  have m0 := hg.cell (a := ⟨w3.heap.size + 1, 0, none⟩) (v := .int .i64 p) (by go_simp) (by simp; omega)
  have m1 := hg.cell (a := ⟨w3.heap.size + 1, 1, none⟩) (v := .int .i64 b) (by go_simp) (by simp; omega)
  have m2 := hg.cell (a := ⟨w3.heap.size + 1, 2, none⟩) (v := .int .i64 f) (by go_simp) (by simp; omega)
  have G := Lib.hid (show w.grownBy w5 none from grown_off (grown_trans G.out (two_grown w3 (Obj.cells #[.int .i64 v, .int .i64 t] 23) (Obj.cells #[.int .i64 p, .int .i64 b, .int .i64 f] 25))) hg (Nat.le_refl _))
  obtain ⟨a', cap', g, rfl, hcap, hcap2, ha', hrow, _⟩ := own_sl hown
  have HX := Lib.hid hx
  have HA := Lib.hid (fun h => (ha' h).1)
  have HB := Lib.hid hrow
  clear hg hs hown HR hrow ha' hx G0 HS HI
  generalize hX : w3.heap.size = X at *
  clear hX
  obtain ⟨F, K, E, hpr⟩ := Pm.pr_any v t p b f m x
  have HPR := Lib.hid hpr
  have HP := Lib.hid (fun w' (hg : w5.grownBy w' none) => prove_any v t p b f F E g 0 m cap' K a' x w' hcap hcap2 HA.out (HB.out.grown hg (by simp)) HPR.out)
  unfold pv mv errv at HP
  clear hpr
  go_wp2_with fail
  refine (HP.out _ (grown_refl _ _)).mono ?_
  rintro e w6 ⟨rfl, hg⟩
  have k0 := hg.cell k0 (by simp)
  have k1 := hg.cell k1 (by simp)
  have HB := Lib.hid (HB.out.grown hg (by simp))
  have G := Lib.hid (grown_trans G.out hg)
  clear hg m0 m1 m2 HP
  go_wp2_with fail
  go_loopw [10, 11] (fun s10 s11 wr => ∃ fst i : Int, s10 = .int .i64 fst ∧ s11 = .int .i64 i ∧ -5 ≤ i ∧ i + 5 ≤ m ∧ -1 ≤ fst ∧ fst ≤ 11 ∧ Hid (Ff t m x i fst) ∧ Hid (w6.grownBy wr none)) (fun _ i _ => ((intOf i) + 5).toNat)
  case atStart => exact ⟨-1, (m : Int) - 5, rfl, rfl, by omega, by omega, by omega, by omega, Ff.start t m x, grown_refl _ _⟩
  case round =>
    obtain ⟨wp, rfl⟩ : ∃ wp : World, wp = wr := ⟨_, rfl⟩
    obtain ⟨fst, i, rfl, rfl, hi5, him, hf1, hf2, FF, GW⟩ := hrel
    by_cases hlt : 0 ≤ i
    · obtain ⟨k, rfl⟩ := Int.eq_ofNat_of_zero_le hlt
      have a1 : k + 5 ≤ m := by omega
      have hW := Lib.hid (fun (c : Nat) (w' : World) (hg : wp.grownBy w' none) => repeats_any v t g (0 + k) 5 c (some ⟨g, 0 + k, none⟩) (Pm.at' x k) _ w' (by omega) (fun _ => rfl) ((HB.out.grown (grown_trans GW.out hg) (by simp)).at' k 5 a1) (.said V.out (by omega) (by omega) (HX.out.at' k 5 a1)))
      rw [Nat.zero_add] at hW
      unfold pv at hW
      obtain rfl := HA.out (by omega)
      have k0 := GW.out.cell k0 (by simp)
      have k1 := GW.out.cell k1 (by simp)
      have HK : Hid (∀ w', wp.grownBy w' none → w'.cell? ⟨X, 0, none⟩ = some (.int .i64 v) ∧ w'.cell? ⟨X, 1, none⟩ = some (.int .i64 t)) := fun w' hg => ⟨hg.cell k0 (by simp), hg.cell k1 (by simp)⟩
      have hsl := slice5 g 0 m cap' k (by omega)
      rw [Nat.zero_add] at hsl
      have b4 : IntKind.i64.wrap ((k : Int) + 5) = (k : Int) + 5 := IntWalk.i64_in _ (by omega)
      cases hrep : Pm.rep t 5 (Pm.at' x k)
      · rw [hrep] at hW
        have FN := Lib.hid (FF.out.no hrep)
        clear hrep FF
        go_wp2_with fail
        go_region_held3 (fun w' => w'.cell? ⟨X, 0, none⟩ = some (.int .i64 v) ∧ w'.cell? ⟨X, 1, none⟩ = some (.int .i64 t))
          (first | go_keep | exact HK.out _ hga.out | fail)
          (first
            | (go_at_call 16; refine (hW.out _ wp.drew (grown_drewN wp 1 none)).mono ?_; rintro e wa ⟨rfl, hg⟩; have hga : Hid (wp.grownBy wa none) := grown_trans (show wp.grownBy wp.drew none from grown_drewN wp 1 none) hg; clear hg)
            | fail)
        have GA := Lib.hid (grown_trans GW.out hga.out)
        clear hga HK hW k0 k1 hsl b4
        go_wp2
        go_roundw
        case rel => exact ⟨fst, (k : Int) - 1, rfl, rfl, by omega, by omega, by omega, by omega, FN, GA⟩
        case measure => simp [intOf]; omega
      · rw [hrep] at hW
        have FN := Lib.hid (Ff.yes (t := t) a1 hrep)
        clear hrep FF
        go_wp2_with fail
        go_region_held3 (fun w' => w'.cell? ⟨X, 0, none⟩ = some (.int .i64 v) ∧ w'.cell? ⟨X, 1, none⟩ = some (.int .i64 t))
          (first | go_keep | exact HK.out _ hga.out | fail)
          (first
            | (go_at_call 16; refine (hW.out _ wp.drew (grown_drewN wp 1 none)).mono ?_; rintro e wa ⟨rfl, hg⟩; have hga : Hid (wp.grownBy wa none) := grown_trans (show wp.grownBy wp.drew none from grown_drewN wp 1 none) hg; clear hg)
            | fail)
        have GA := Lib.hid (grown_trans GW.out hga.out)
        clear hga HK hW k0 k1 hsl b4
        go_wp2
        go_roundw
        case rel => exact ⟨(k : Int), (k : Int) - 1, rfl, rfl, by omega, by omega, by omega, by omega, FN, GA⟩
        case measure => simp [intOf]; omega
    · have HD := FF.out.done (by omega) V.out M.out (by omega) HX.out HPR.out
      have G := Lib.hid (grown_trans G.out GW.out)
      clear FF GW k0 k1
      rcases HD with ⟨rfl, rfl⟩ | ⟨h0, rfl, rfl⟩ | ⟨h0, rfl⟩
      · go_wp2_with (go_at_call 8; refine (awake_any _).mono ?_; rintro e w7 ⟨rfl, hg⟩)
        go_ret
        exact ⟨rfl, grown_below (grown_trans G.out hg)⟩
      · go_wp2_with (go_at_call 8; refine (awake_any _).mono ?_; rintro e w7 ⟨rfl, hg⟩)
        go_ret
        exact ⟨rfl, grown_below (grown_trans G.out hg)⟩
      · go_wp2_with (go_at_call 8; refine (awake_any _).mono ?_; rintro e w7 ⟨rfl, hg⟩)
        go_ret
        exact ⟨rfl, grown_below (grown_trans G.out hg)⟩
end Go.Proofs.Ytjeejdoahhkjbaa
