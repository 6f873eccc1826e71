/- Contracts of meter.volume, Litres, steps, and of the reference's reading, Litres. -/
import Derived.Test.YtilchmlbihffdaaMc
namespace Go.Proofs.Ytilchmlbihffdaa
open Go.ChangeShapes Go.WideShapes Go.ChangeAt Go.RowKit

theorem volume_any (p b f n : Int) (w : World) (hp : 1 ≤ p) (hp2 : p ≤ 1048576) (hf : 50000 ≤ f) (hf2 : f ≤ 200000) (hn : 0 ≤ n) (hn2 : n ≤ 1099511627776) :
    Calls Try.prog 28 #[mv p b f, .int .i64 n] w (Ret (.int .i64 (Mt.vol p f n)) w) := by
  have hm := Mt.mul_range hn hn2 (show 0 ≤ f by omega) hf2
  have hd := fun w => down_any (n * f) (100 * p) w
  rw [show Rd.down (n * f) (100 * p) = Mt.vol p f n by unfold Rd.down; rw [Rd.ok_mk (by omega) (by omega) (by omega) (by omega)]; rfl] at hd
  have HD := Lib.hid hd
  have hw : IntKind.i64.wrap (n * f) = n * f := IntWalk.i64_in _ (by omega)
  have hw2 : IntKind.i64.wrap (100 * p) = 100 * p := IntWalk.i64_in _ (by omega)
  clear hd
  unfold mv
  go_enter Try.func28, Try.ntmps28
  go_wp2_with fail
  refine (HD.out _).mono ?_
  rintro e w' ⟨rfl, rfl⟩
  go_wp2
  go_ret
  exact ⟨rfl, World.grownBy_alloc _ _ _⟩

def litV (p b f n : Int) : Int := if Mt.valid p b f then (if 0 ≤ n ∧ n ≤ 1099511627776 then Mt.vol p f n else 0) else 0
def litE (p b f n : Int) : Int := if Mt.valid p b f then (if 0 ≤ n ∧ n ≤ 1099511627776 then 0 else 1) else 9
theorem ret_two {a b c d : Int} (h : a = c) (k : b = d) : Ending.returned (.tuple #[.int .i64 a, .int .i64 b]) = .returned (.tuple #[.int .i64 c, .int .i64 d]) := by rw [h, k]

set_option maxHeartbeats 400000 in
theorem litres_any (p b f n : Int) (w : World) :
    Calls Try.prog 18 #[mv p b f, .int .i64 n] w (Ret (.tuple #[.int .i64 (litV p b f n), .int .i64 (litE p b f n)]) w) := by
  cases h : Mt.valid p b f
  · have e1 : litV p b f n = 0 := by unfold litV; rw [h]; rfl
    have e2 : litE p b f n = 9 := by unfold litE; rw [h]; rfl
    have E := Lib.hid (ret_two e1.symm e2.symm)
    have HV := Lib.hid (fun w => meterValid_no p b f w h)
    clear h e1 e2
    unfold mv
    go_enter Try.func18, Try.ntmps18
    go_wp2_with fail
    refine (HV.out _).mono ?_
    rintro e w' ⟨rfl, hg⟩
    have G := Lib.hid (grown_trans (World.grownBy_alloc _ _ _) hg)
    clear hg
    go_wp2
    go_ret2
    exact ⟨E.out, G.out⟩
  · have HV := Lib.hid (fun w => meterValid_yes p b f w h)
    by_cases h0 : 0 ≤ n
    · by_cases h1 : n ≤ 1099511627776
      · have e1 : litV p b f n = Mt.vol p f n := by unfold litV; rw [h, if_pos rfl, if_pos ⟨h0, h1⟩]
        have e2 : litE p b f n = 0 := by unfold litE; rw [h, if_pos rfl, if_pos ⟨h0, h1⟩]
        have E := Lib.hid (ret_two e1.symm e2.symm)
        obtain ⟨v1, v2, v3, v4, v5⟩ := Mt.valid_true h
        have HW := Lib.hid (fun w => volume_any p b f n w v1 v2 v4 v5 h0 h1)
        clear h e1 e2 v1 v2 v3 v4 v5
        unfold mv
        go_enter Try.func18, Try.ntmps18
        go_wp2_with fail
        refine (HV.out _).mono ?_
        rintro e w1 ⟨rfl, hg⟩
        have k0 := hg.cell (a := ⟨w.heap.size, 0, none⟩) (v := .int .i64 p) (by simp) (by simp)
        have k1 := hg.cell (a := ⟨w.heap.size, 1, none⟩) (v := .int .i64 b) (by simp) (by simp)
        have k2 := hg.cell (a := ⟨w.heap.size, 2, none⟩) (v := .int .i64 f) (by simp) (by simp)
        have G := Lib.hid (grown_trans (World.grownBy_alloc _ _ _) hg)
        clear hg
        go_wp2_with fail
        refine (HW.out _).mono ?_
        rintro e w2 ⟨rfl, hg⟩
        have G := Lib.hid (grown_trans G.out hg)
        clear hg
        go_wp2
        go_ret2
        exact ⟨E.out, G.out⟩
      · have e1 : litV p b f n = 0 := by unfold litV; rw [h, if_pos rfl, if_neg (by omega)]
        have e2 : litE p b f n = 1 := by unfold litE; rw [h, if_pos rfl, if_neg (by omega)]
        have E := Lib.hid (ret_two e1.symm e2.symm)
        clear h e1 e2
        unfold mv
        go_enter Try.func18, Try.ntmps18
        go_wp2_with fail
        refine (HV.out _).mono ?_
        rintro e w1 ⟨rfl, hg⟩
        have G := Lib.hid (grown_trans (World.grownBy_alloc _ _ _) hg)
        clear hg
        go_wp2
        go_ret2
        exact ⟨E.out, G.out⟩
    · have e1 : litV p b f n = 0 := by unfold litV; rw [h, if_pos rfl, if_neg (by omega)]
      have e2 : litE p b f n = 1 := by unfold litE; rw [h, if_pos rfl, if_neg (by omega)]
      have E := Lib.hid (ret_two e1.symm e2.symm)
      clear h e1 e2
      unfold mv
      go_enter Try.func18, Try.ntmps18
      go_wp2_with fail
      refine (HV.out _).mono ?_
      rintro e w1 ⟨rfl, hg⟩
      have G := Lib.hid (grown_trans (World.grownBy_alloc _ _ _) hg)
      clear hg
      go_wp2
      go_ret2
      exact ⟨E.out, G.out⟩
end Go.Proofs.Ytilchmlbihffdaa
