/- The mathematics of MeterVolumes. -/
import Derived.Test.YtilchmlbihffdaaMm
namespace Go.Proofs.Ytilchmlbihffdaa.Mt

theorem vol_parts {p f n : Int} (hp : 1 ≤ p) : vol p f n * (100 * p) ≤ n * f ∧ n * f < vol p f n * (100 * p) + 100 * p := by
  unfold vol
  have e := Int.mul_ediv_add_emod (n * f) (100 * p)
  have a := Int.emod_nonneg (n * f) (b := 100 * p) (by omega)
  have b := Int.emod_lt_of_pos (n * f) (b := 100 * p) (by omega)
  rw [Int.mul_comm] at e
  omega

theorem vol_between {p f q q2 v : Int} (hp : 1 ≤ p) (hp2 : p ≤ 1048576) (hf : 0 ≤ f) (hf2 : f ≤ 200000) (h : q ≤ q2) (h2 : q2 ≤ q + 5000) (hv : v = vol p f q2 - vol p f q) :
    0 ≤ v ∧ v ≤ 1300000000 ∧ (v - 1) * 100 * p < (q2 - q) * f ∧ (q2 - q) * f < (v + 1) * 100 * p ∧ -1000000000 ≤ (v - 1) * 100 * p ∧ (v + 1) * 100 * p ≤ 1300000000 ∧ 0 ≤ (q2 - q) * f ∧ (q2 - q) * f ≤ 1000000000 := by
  obtain ⟨a1, a2⟩ := vol_parts (p := p) (f := f) (n := q) hp
  obtain ⟨b1, b2⟩ := vol_parts (p := p) (f := f) (n := q2) hp
  have hm := vol_mono (p := p) (f := f) hp hf h
  have e1 : (v - 1) * 100 * p = vol p f q2 * (100 * p) - vol p f q * (100 * p) - 100 * p := by
    rw [hv, Int.mul_assoc, Int.sub_mul, Int.sub_mul, Int.one_mul]
  have e2 : (v + 1) * 100 * p = vol p f q2 * (100 * p) - vol p f q * (100 * p) + 100 * p := by
    rw [hv, Int.mul_assoc, Int.add_mul, Int.sub_mul, Int.one_mul]
  have e3 : (q2 - q) * f = q2 * f - q * f := Int.sub_mul _ _ _
  have r1 : 0 ≤ (q2 - q) * f := Int.mul_nonneg (by omega) hf
  have r2 : (q2 - q) * f ≤ 5000 * 200000 := Int.mul_le_mul (by omega) hf2 hf (by omega)
  have r3 : v + 1 ≤ (v + 1) * 100 * p := by
    rw [Int.mul_assoc]
    have := Int.mul_le_mul_of_nonneg_left (show (1 : Int) ≤ 100 * p by omega) (show 0 ≤ v + 1 by omega)
    omega
  have r4 : -(100 * p) ≤ (v - 1) * 100 * p := by
    rw [Int.mul_assoc, Int.sub_mul, Int.one_mul]
    have := Int.mul_nonneg (show 0 ≤ v by omega) (show 0 ≤ 100 * p by omega)
    omega
  refine ⟨by omega, by omega, by omega, by omega, by omega, by omega, r1, by omega⟩
end Go.Proofs.Ytilchmlbihffdaa.Mt
