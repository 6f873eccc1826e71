/- The walk of ProverExact. -/
import Derived.Test.YtjeejdoahhkjbaaPk
namespace Go.Proofs.Ytjeejdoahhkjbaa
open Go.ChangeShapes Go.WideShapes Go.ChangeAt Go.RowKit

/-- Runs that are hardly more than they should be prove a factor of at most one. -/
theorem exact_pr {n p b f E : Int} {x : Nat → Int} (hn1 : 1 ≤ n) (hn2 : n ≤ 100) (hm : Mt.valid p b f = true) (hE : n * p = E) (hE1 : 1 ≤ E) (hE2 : E ≤ 104857600) (h : ∀ i, i < 5 → E ≤ x i ∧ x i ≤ E + E / 200) :
    ∃ G, Pm.Pr (1000 * n) 10000 p b f 5 x G 0 0 ∧ 50000 ≤ G ∧ G ≤ 100000 ∧ (Pm.sum5 x 0 = 5 * E → G = 100000) := by
  have hx : Pm.Runs 5 x := fun i hi => by have := h i hi; omega
  have hrep : Pm.rep 10000 5 (Pm.at' x 0) = true := by
    unfold Pm.rep
    rw [decide_eq_true_eq]
    obtain ⟨i, hi, e1⟩ := Pm.lo_mem (Pm.at' x 0) 4
    obtain ⟨j, hj, e2⟩ := Pm.hi_mem (Pm.at' x 0) 4
    show (Pm.hi (Pm.at' x 0) 4 - Pm.lo (Pm.at' x 0) 4) * 1000000 ≤ 10000 * Pm.lo (Pm.at' x 0) 4
    rw [e1, e2]
    unfold Pm.at'
    rw [Nat.zero_add, Nat.zero_add]
    have := h i (by omega)
    have := h j (by omega)
    omega
  have a0 := h 0 (by omega)
  have a1 := h 1 (by omega)
  have a2 := h 2 (by omega)
  have a3 := h 3 (by omega)
  have a4 := h 4 (by omega)
  have hB : 5 * E ≤ Pm.sum5 x 0 ∧ Pm.sum5 x 0 ≤ 5 * E + 5 * (E / 200) := by
    unfold Pm.sum5
    simp only [Nat.zero_add]
    omega
  have hA : 5 * (1000 * n) * p * 100 = 500000 * E := by
    rw [show 5 * (1000 * n) = 5000 * n by omega, Int.mul_assoc 5000, hE]
    omega
  have hF : Pm.fac (1000 * n) p x 0 = (2 * (500000 * E) + Pm.sum5 x 0) / (2 * Pm.sum5 x 0) := by
    unfold Pm.fac Rd.half
    rw [hA, Rd.ok_mk (by omega) (by omega) (by omega) (by omega)]
    rfl
  generalize Pm.sum5 x 0 = B at *
  have h1 : 50000 ≤ (2 * (500000 * E) + B) / (2 * B) := by rw [Int.le_ediv_iff_mul_le (by omega)]; omega
  have h2 : (2 * (500000 * E) + B) / (2 * B) < 100001 := by rw [Int.ediv_lt_iff_lt_mul (by omega)]; omega
  have hp : Pm.Pr (1000 * n) 10000 p b f 5 x (Pm.fac (1000 * n) p x 0) (0 : Nat) 0 :=
    .ok (Pm.pvalid_mk (by omega) (by omega) (by omega) (by omega)) hm (by omega) hx 0 ⟨by omega, hrep, fun j hj => absurd hj (by omega)⟩ (by rw [hF]; exact h1) (by rw [hF]; omega)
  refine ⟨_, hp, by rw [hF]; exact h1, by rw [hF]; omega, fun hb => ?_⟩
  rw [hF, hb]
  refine (Int.ediv_eq_iff_of_pos (by omega)).2 ?_
  omega

def bump (E : Int) (q : Nat) : Nat → Int := fun i => if i = q then E + E / 200 else E
theorem bump_near {E : Int} (h : 1 ≤ E) (q i : Nat) : E ≤ bump E q i ∧ bump E q i ≤ E + E / 200 := by unfold bump; split <;> omega

set_option maxHeartbeats 1000000 in
theorem exact_walk (a : Option Addr) (len cap : Nat) (zs : List Int) (by' : Int) (wb : (Lit.int .u8 by').wf = true) (w : World) (hi : InRow w a len cap zs) :
    Calls Try.prog 6 #[.slice a len cap, .int .u8 by'] w fun e w' => e = .returned (.bool true) ∧ Below w.heap.size w w' := by
  have b0 := bounds_u8 wb
  have HI := Lib.hid hi
  clear hi wb
  go_enter Try.func6, Try.ntmps6
  go_wp2_with fail
  refine (new_any a len cap zs w HI.out).mono ?_
  rintro e w1 ⟨rfl, hg, hs, hlt⟩
  have G := Lib.hid hg
  have HS := Lib.hid hs
  clear hg hs
  go_wp2_with fail
  refine (range_any w.heap.size 1 100 w1 HS.out (by omega) (by omega) (by omega)).mono ?_
  rintro e w2 ⟨n, ⟨hn1, hn2⟩, rfl, hg, hs⟩
  have G := Lib.hid (show w.grownBy w2 none from grown_off G.out hg (Nat.le_refl _))
  have HS := Lib.hid hs
  clear hg hs
  go_wp2_with fail
  refine (meter_any w.heap.size w2 HS.out).mono ?_
  rintro e w3 ⟨p, b, f, hm, rfl, hg, hs⟩
  have M := Lib.hid hm
  obtain ⟨hp1, hp2, _, _, _⟩ := Mt.valid_true hm
  have G := Lib.hid (show w.grownBy w3 none from grown_off G.out hg (Nat.le_refl _))
  have HS := Lib.hid hs
  clear hg hs hm
  unfold mv
  have np1 : 1 ≤ n * p := by have := Int.mul_le_mul hn1 hp1 (by omega) (by omega); omega
  have np2 : n * p ≤ 104857600 := by have := Int.mul_le_mul hn2 hp2 (by omega) (by omega); omega
  have e1 : (1000 * n).tdiv 1000 = n := by rw [Int.mul_comm]; exact Int.mul_tdiv_cancel _ (by omega)
  have e2 : IntKind.i64.wrap (n * p) = n * p := IntWalk.i64_in _ (by omega)
  go_wp2_with fail
  obtain ⟨E, hE⟩ : ∃ E, n * p = E := ⟨_, rfl⟩
  rw [hE] at np1 np2 ⊢
  have HE := Lib.hid hE
  clear hE e1 e2
  obtain ⟨F1, hp1, hf1, hf2, hf3⟩ := exact_pr (x := fun _ => E) hn1 hn2 M.out HE.out np1 np2 (fun i hi => by omega)
  obtain rfl := hf3 (by unfold Pm.sum5; show E + E + E + E + E = 5 * E; omega)
  obtain ⟨q, hq, hq5⟩ : ∃ q : Nat, (by' % 5).toNat = q ∧ q < 5 := ⟨(by' % 5).toNat, rfl, by omega⟩
  obtain ⟨F2, hp2, hg1, hg2, _⟩ := exact_pr (x := bump E q) hn1 hn2 M.out HE.out np1 np2 (fun i hi => bump_near np1 q i)
  have P1 := Lib.hid hp1
  have P2 := Lib.hid hp2
  have HQ := Lib.hid hq
  clear hp1 hp2 hf1 hf2 hf3 hq
  have HP := Lib.hid (fun w' g (hrow : Rw w' g 0 5 (fun _ => E)) => prove_any (1000 * n) 10000 p b f 100000 0 g 0 5 5 0 (some ⟨g, 0, none⟩) _ w' (by omega) (by omega) (fun _ => rfl) hrow P1.out)
  have HP2 := Lib.hid (fun w' g (hrow : Rw w' g 0 5 (bump E q)) => prove_any (1000 * n) 10000 p b f F2 0 g 0 5 5 0 (some ⟨g, 0, none⟩) _ w' (by omega) (by omega) (fun _ => rfl) hrow P2.out)
  unfold pv mv errv at HP HP2
  have G := Lib.hid (grown_trans G.out (grown_trans (two_grown w3 (Obj.cells #[.int .i64 (1000 * n), .int .i64 10000] 23) (Obj.cells #[.int .i64 p, .int .i64 b, .int .i64 f] 25)) (World.grownBy_alloc _ (Obj.cells #[.int .i64 E, .int .i64 E, .int .i64 E, .int .i64 E, .int .i64 E] 3) none)))
  have hs3 : w.heap.size < w3.heap.size := src_lt HS.out
  clear HS HI
  refine (HP.out _ _ ?_).mono ?_
  · intro i hi
    match i, hi with
    | 0, _ => go_simp
    | 1, _ => go_simp
    | 2, _ => go_simp
    | 3, _ => go_simp
    | 4, _ => go_simp
  rintro e w4 ⟨rfl, hg⟩
  have k0 := hg.cell (a := ⟨w3.heap.size, 0, none⟩) (v := .int .i64 (1000 * n)) (by go_simp) (by simp)
  have k1 := hg.cell (a := ⟨w3.heap.size, 1, none⟩) (v := .int .i64 10000) (by go_simp) (by simp)
  have m0 := hg.cell (a := ⟨w3.heap.size + 1, 0, none⟩) (v := .int .i64 p) (by go_simp) (by simp)
  have m1 := hg.cell (a := ⟨w3.heap.size + 1, 1, none⟩) (v := .int .i64 b) (by go_simp) (by simp)
  have m2 := hg.cell (a := ⟨w3.heap.size + 1, 2, none⟩) (v := .int .i64 f) (by go_simp) (by simp)
  have G := Lib.hid (grown_trans G.out hg)
  have hd : E.tdiv 200 = E / 200 := Rd.tdiv_same _ _ (by omega) (by rw [Int.tmod_eq_emod_of_nonneg (by omega)]; omega)
  have hrow : Rw w4 (w3.heap.size + 1 + 1) 0 5 (fun _ => E) := fun i hi => by
    refine hg.cell (a := ⟨w3.heap.size + 1 + 1, 0 + i, none⟩) (v := .int .i64 E) ?_ (by simp)
    match i, hi with
    | 0, _ => go_simp
    | 1, _ => go_simp
    | 2, _ => go_simp
    | 3, _ => go_simp
    | 4, _ => go_simp
  have c1 := hrow (by' % 5).toNat (by rw [HQ.out]; exact hq5)
  rw [Nat.zero_add] at c1
  have z1 : w4.frozen? ⟨w3.heap.size + 1 + 1, (by' % 5).toNat, none⟩ = false := by
    rw [World.frozen?_of_block (hg.block (w3.heap.size + 1 + 1) (by simp) (by simp))]
    go_simp
  have HROW := Lib.hid hrow
  clear hg hrow
  go_wp2_with fail
  generalize hR : w3.heap.size + 1 + 1 = R at *
  rw [HQ.out] at c1 z1 ⊢
  have HR := Lib.hid hR
  have k0 := (World.cell?_setCell_other w4 ⟨R, q, none⟩ ⟨w3.heap.size, 0, none⟩ (.int .i64 (E + E / 200)) (by first | (simp; done) | (simp; omega))).trans k0
  have k1 := (World.cell?_setCell_other w4 ⟨R, q, none⟩ ⟨w3.heap.size, 1, none⟩ (.int .i64 (E + E / 200)) (by first | (simp; done) | (simp; omega))).trans k1
  have m0 := (World.cell?_setCell_other w4 ⟨R, q, none⟩ ⟨w3.heap.size + 1, 0, none⟩ (.int .i64 (E + E / 200)) (by first | (simp; done) | (simp; omega))).trans m0
  have m1 := (World.cell?_setCell_other w4 ⟨R, q, none⟩ ⟨w3.heap.size + 1, 1, none⟩ (.int .i64 (E + E / 200)) (by first | (simp; done) | (simp; omega))).trans m1
  have m2 := (World.cell?_setCell_other w4 ⟨R, q, none⟩ ⟨w3.heap.size + 1, 2, none⟩ (.int .i64 (E + E / 200)) (by first | (simp; done) | (simp; omega))).trans m2
  have hrow : Rw (w4.setCell ⟨R, q, none⟩ (.int .i64 (E + E / 200))) R 0 5 (bump E q) := fun i hi => by
    unfold bump
    by_cases e : i = q
    · rw [if_pos e, e, Nat.zero_add]
      exact World.cell?_setCell_same _ _ _ c1
    · rw [if_neg e]
      exact (World.cell?_setCell_other _ _ _ _ (by rw [Nat.zero_add]; intro h; injection h with h1 h2; exact e h2.symm)).trans (HROW.out i hi)
  have HR2 := Lib.hid hrow
  have G := Lib.hid (show w.grownBy (w4.setCell ⟨R, q, none⟩ (.int .i64 (E + E / 200))) none from grown_off G.out (grown_set _ ⟨R, q, none⟩ _) (by show w.heap.size ≤ R; omega))
  clear hrow c1 z1 HROW hR
  generalize w4.setCell ⟨R, q, none⟩ (.int .i64 (E + E / 200)) = w5 at *
  refine (HP2.out _ _ HR2.out).mono ?_
  rintro e w6 ⟨rfl, hg⟩
  have G := Lib.hid (grown_trans G.out hg)
  clear hg k0 k1 m0 m1 m2
  go_wp2_with (go_at_call 8; refine (awake_any _).mono ?_; rintro e w7 ⟨rfl, hg⟩)
  go_ret
  exact ⟨rfl, grown_below (grown_trans G.out hg)⟩
end Go.Proofs.Ytjeejdoahhkjbaa
