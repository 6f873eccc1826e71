/- BoundaryMixes: the walk. -/
import Derived.Test.YtagemdgbnajobaaHh
namespace Go.Proofs.Ytagemdgbnajobaa
open Go.ChangeShapes Go.WideShapes Go.ChangeAt Go.RowKit

theorem mix_val {f t r c : Int} (h : MixOf f t r c) (h1 : 0 ≤ f) (h2 : f ≤ 1000000) (h3 : 0 ≤ t) (h4 : t ≤ 1099511627776) : c = 0 ∧ IsRootUp (f * t) r := by
  rcases h with ⟨_, e, k⟩ | ⟨k, _⟩
  · exact ⟨e, k⟩
  · exact absurd ⟨h1, h2, h3, h4⟩ k
/-- The least root is no greater than any other one. -/
theorem root_least {n r s : Int} (h : IsRootUp n r) (h0 : 0 ≤ s) (h1 : n ≤ s * s) : r ≤ s := by
  by_cases e : r ≤ s
  · exact e
  · have h2 := h.2.2.2 (by omega)
    have h3 : s * s ≤ (r - 1) * (r - 1) := Int.mul_le_mul (by omega) (by omega) (by omega) (by omega)
    omega
theorem mix_facts {f x y u v t : Int} (hf : 0 ≤ f) (hx : 0 ≤ x) (hxy : x ≤ y) (U : IsRootUp (f * x) u) (V : IsRootUp (f * y) v) (T : IsRootUp (f * (2 * x)) t) : u ≤ v ∧ t ≤ 2 * u ∧ f * x ≤ u * u := by
  have m1 : f * x ≤ f * y := Int.mul_le_mul_of_nonneg_left hxy hf
  refine ⟨root_least U V.1 (Int.le_trans m1 V.2.2.1), root_least T (by have := U.1; omega) ?_, U.2.2.1⟩
  have e1 : f * (2 * x) = 2 * (f * x) := by rw [Int.mul_left_comm]
  have e2 : 2 * u * (2 * u) = 4 * (u * u) := by rw [Int.mul_assoc, Int.mul_left_comm u 2 u, ← Int.mul_assoc]; rfl
  have h0 : 0 ≤ f * x := Int.mul_nonneg hf hx
  have h1 := U.2.2.1
  rw [e1, e2]; omega
set_option maxRecDepth 100000 in
set_option maxHeartbeats 4000000 in
theorem mixes_walk (f p q r : Int) (wf : (Lit.int .u16 f).wf = true) (wp : (Lit.int .u32 p).wf = true) (wq : (Lit.int .u32 q).wf = true) (wr : (Lit.int .u8 r).wf = true) (w : World) :
    Calls Try.prog 7 #[.int .u16 f, .int .u32 p, .int .u32 q, .int .u8 r] w fun e w' => e = .returned (.bool true) ∧ Below w.heap.size w w' := by
  have hf := bounds_u16 wf
  have hp := bounds_u32 wp
  have hq := bounds_u32 wq
  have hr := bounds_u8 wr
  clear wf wp wq wr
  go_enter Try.func7, Try.ntmps7
  go_upto_region 1 with fail
  go_cut [9, 10] (fun s9 s10 wc => ∃ x y : Int, s9 = .int .i64 x ∧ s10 = .int .i64 y ∧ 0 ≤ x ∧ x ≤ y ∧ y ≤ 4294967295 ∧ w = wc)
  case first =>
    by_cases h : p < q
    · go_wp2
      go_meet
      case rel => exact ⟨p, q, rfl, rfl, by omega, by omega, by omega, rfl⟩
    · by_cases h2 : q < p
      · clear h
        go_wp2
        go_meet
        case rel => exact ⟨q, p, rfl, rfl, by omega, by omega, by omega, rfl⟩
      · obtain rfl : p = q := by omega
        clear h h2
        go_wp2
        go_meet
        case rel => exact ⟨p, p, rfl, rfl, by omega, by omega, by omega, rfl⟩
  case rest =>
    obtain ⟨x, y, rfl, rfl, hx0, hxy, hy, rfl⟩ := hcut
    have hw2 : IntKind.i64.wrap (2 * x) = 2 * x := IntWalk.i64_in _ (by omega)
    go_wp2_with fail
    refine (bmixture_any f x w ⟨by omega, by omega⟩ ⟨by omega, by omega⟩).mono ?_
    rintro e w1 ⟨u, c1, rfl, m1, hg⟩
    obtain ⟨rfl, U⟩ := mix_val m1 hf.1 (by omega) (by omega) (by omega)
    have G := Lib.hid hg
    have HU := Lib.hid U
    clear hg m1 U
    go_wp2_with fail
    refine (bmixture_any f y w1 ⟨by omega, by omega⟩ ⟨by omega, by omega⟩).mono ?_
    rintro e w2 ⟨v, c2, rfl, m2, hg⟩
    obtain ⟨rfl, V⟩ := mix_val m2 hf.1 (by omega) (by omega) (by omega)
    replace G := Lib.hid (grown_trans G.out hg)
    have HV := Lib.hid V
    clear hg m2 V
    go_wp2_with fail
    refine (bmixture_any f (2 * x) w2 ⟨by omega, by omega⟩ ⟨by omega, by omega⟩).mono ?_
    rintro e w3 ⟨t, c3, rfl, m3, hg⟩
    obtain ⟨rfl, T⟩ := mix_val m3 hf.1 (by omega) (by omega) (by omega)
    replace G := Lib.hid (grown_trans G.out hg)
    have MF := mix_facts hf.1 hx0 hxy HU.out HV.out T
    have hu := HU.out.1
    have hu2 := HU.out.2.1
    have hv2 := HV.out.2.1
    have ht2 := T.2.1
    have hfx : 0 ≤ f * x ∧ f * x ≤ 281470681677825 := ⟨Int.mul_nonneg hf.1 hx0, Int.le_trans (Int.mul_le_mul hf.2 (show x ≤ 4294967295 by omega) hx0 (by omega)) (by omega)⟩
    have huu := sq_bd u hu hu2
    clear hg m3 T hw2
    obtain ⟨m, hm⟩ : ∃ m, m = p % 1000001 := ⟨_, rfl⟩
    obtain ⟨rr, hrr⟩ : ∃ rr, rr = 1 + r % 5 := ⟨_, rfl⟩
    have hwr : IntKind.i64.wrap (1 + r % 5) = 1 + r % 5 := IntWalk.i64_in _ (by omega)
    go_wp2_with fail
    rw [← hm, ← hrr]
    have hm2 : 0 ≤ m ∧ m ≤ 1000000 := by omega
    have hr2 : 1 ≤ rr ∧ rr ≤ 5 := by omega
    obtain ⟨c1, c2, c3, hc, hs, c10, c11, c20, c21, c30, c31⟩ := Bm.cut_sum hm2.1 hm2.2 hr2.1 hr2.2
    refine (bcut_any m rr w3 ⟨by omega, by omega⟩ ⟨by omega, by omega⟩).mono ?_
    rw [show cutV m rr = .tuple #[.int .i64 c1, .int .i64 c2, .int .i64 c3, .int .i64 0] by unfold cutV; rw [hc]]
    rintro e w4 ⟨rfl, hg⟩
    replace G := Lib.hid (grown_trans G.out hg)
    clear hg hm hrr hwr hc
    have hwu : IntKind.i64.wrap (2 * u) = 2 * u := IntWalk.i64_in _ (by omega)
    have hwuu : IntKind.i64.wrap (u * u) = u * u := IntWalk.i64_in _ (by omega)
    have hwfx : IntKind.i64.wrap (f * x) = f * x := IntWalk.i64_in _ (by omega)
    have hw12 : IntKind.i64.wrap (c1 + c2) = c1 + c2 := IntWalk.i64_in _ (by omega)
    have hw123 : IntKind.i64.wrap (c1 + c2 + c3) = c1 + c2 + c3 := IntWalk.i64_in _ (by omega)
    have b1 : decide (u ≤ v) = true := decide_eq_true MF.1
    have b2 : decide (t ≤ 2 * u) = true := decide_eq_true MF.2.1
    have b3 : decide (f * x ≤ u * u) = true := decide_eq_true MF.2.2
    go_wp2_with fail
    refine (awake15_any w4).mono ?_
    rintro e w5 ⟨rfl, hg⟩
    replace G := Lib.hid (grown_trans G.out hg)
    clear hg
    go_wp2
    go_ret
    exact ⟨rfl, grown_below G.out⟩
end Go.Proofs.Ytagemdgbnajobaa
