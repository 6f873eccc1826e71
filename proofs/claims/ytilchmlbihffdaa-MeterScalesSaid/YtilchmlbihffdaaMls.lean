/- The walk of MeterScales. -/
import Derived.Test.YtilchmlbihffdaaMw
import Derived.RegionTactic
import Derived.BigRegion
namespace Go.Proofs.Ytilchmlbihffdaa
open Go.ChangeShapes Go.WideShapes Go.ChangeAt Go.RowKit

theorem litres_ok (p b f n : Int) (w : World) (h : Mt.valid p b f = true) (h0 : 0 ≤ n) (h1 : n ≤ 1099511627776) :
    Calls Try.prog 18 #[mv p b f, .int .i64 n] w (Ret (.tuple #[.int .i64 (Mt.vol p f n), .int .i64 0]) w) := by
  have := litres_any p b f n w
  rw [(lit_ok h h0 h1).1, (lit_ok h h0 h1).2] at this
  exact this

theorem vol_twice {p f n : Int} : Mt.vol (p * 2) f (2 * n) = Mt.vol p f n := by
  unfold Mt.vol
  rw [show 2 * n * f = 2 * (n * f) by rw [Int.mul_assoc], show 100 * (p * 2) = 2 * (100 * p) by omega]
  exact Int.mul_ediv_mul_of_pos _ _ (by omega)
theorem vol_more {p f g n : Int} (hp : 1 ≤ p) (hn : 0 ≤ n) (h : f ≤ g) : Mt.vol p f n ≤ Mt.vol p g n := by
  unfold Mt.vol
  exact Int.ediv_le_ediv (by omega) (Int.mul_le_mul_of_nonneg_left h hn)

set_option maxHeartbeats 1000000 in
theorem scales_lt (n k f g : Int) (b0 : 0 ≤ n ∧ n ≤ 4294967295) (b1 : 0 ≤ k ∧ k ≤ 65535) (b2 : 0 ≤ f ∧ f ≤ 65535) (b3 : 0 ≤ g ∧ g ≤ 65535) (h : f < g) (w : World) :
    Calls Try.prog 6 #[.int .u32 n, .int .u16 k, .int .u16 f, .int .u16 g] w fun e w' => e = .returned (.bool true) ∧ Below w.heap.size w w' := by
  have h1 := fun w => litres_ok (1 + k) 32 (50000 + f) n w (Mt.valid_mk (by omega) (by omega) (Or.inr rfl) (by omega) (by omega)) (by omega) (by omega)
  have h2 := fun w => litres_ok ((1 + k) * 2) 32 (50000 + f) (2 * n) w (Mt.valid_mk (by omega) (by omega) (Or.inr rfl) (by omega) (by omega)) (by omega) (by omega)
  have h3 := fun w => litres_ok (1 + k) 32 (50000 + g) n w (Mt.valid_mk (by omega) (by omega) (Or.inr rfl) (by omega) (by omega)) (by omega) (by omega)
  rw [vol_twice] at h2
  have hle := vol_more (p := 1 + k) (n := n) (f := 50000 + f) (g := 50000 + g) (by omega) (by omega) (by omega)
  unfold mv at h1 h2 h3
  generalize Mt.vol (1 + k) (50000 + f) n = V1 at *
  generalize Mt.vol (1 + k) (50000 + g) n = V2 at *
  have H1 := Lib.hid h1
  have H2 := Lib.hid h2
  have H3 := Lib.hid h3
  clear h1 h2 h3
  go_enter Try.func6, Try.ntmps6
  go_wp2
  go_region
  all_goals go_wp2_with fail
  · have x0 : ((((w.alloc (Obj.cells #[.int .i64 (1 + k), .int .i64 32, .int .i64 (50000 + f)] 23)).alloc (Obj.cells #[.int .i64 ((1 + k) * 2), .int .i64 32, .int .i64 (50000 + f)] 23)).alloc (Obj.cells #[.int .i64 (1 + k), .int .i64 32, .int .i64 (50000 + g)] 23)).drew).cell? ⟨w.heap.size + 1, 0, none⟩ = some (.int .i64 ((1 + k) * 2)) := by go_simp
    have x1 : ((((w.alloc (Obj.cells #[.int .i64 (1 + k), .int .i64 32, .int .i64 (50000 + f)] 23)).alloc (Obj.cells #[.int .i64 ((1 + k) * 2), .int .i64 32, .int .i64 (50000 + f)] 23)).alloc (Obj.cells #[.int .i64 (1 + k), .int .i64 32, .int .i64 (50000 + g)] 23)).drew).cell? ⟨w.heap.size + 1, 1, none⟩ = some (.int .i64 32) := by go_simp
    have x2 : ((((w.alloc (Obj.cells #[.int .i64 (1 + k), .int .i64 32, .int .i64 (50000 + f)] 23)).alloc (Obj.cells #[.int .i64 ((1 + k) * 2), .int .i64 32, .int .i64 (50000 + f)] 23)).alloc (Obj.cells #[.int .i64 (1 + k), .int .i64 32, .int .i64 (50000 + g)] 23)).drew).cell? ⟨w.heap.size + 1, 2, none⟩ = some (.int .i64 (50000 + f)) := by go_simp
    have y0 : ((((w.alloc (Obj.cells #[.int .i64 (1 + k), .int .i64 32, .int .i64 (50000 + f)] 23)).alloc (Obj.cells #[.int .i64 ((1 + k) * 2), .int .i64 32, .int .i64 (50000 + f)] 23)).alloc (Obj.cells #[.int .i64 (1 + k), .int .i64 32, .int .i64 (50000 + g)] 23)).drew).cell? ⟨w.heap.size + 1 + 1, 0, none⟩ = some (.int .i64 (1 + k)) := by go_simp
    have y1 : ((((w.alloc (Obj.cells #[.int .i64 (1 + k), .int .i64 32, .int .i64 (50000 + f)] 23)).alloc (Obj.cells #[.int .i64 ((1 + k) * 2), .int .i64 32, .int .i64 (50000 + f)] 23)).alloc (Obj.cells #[.int .i64 (1 + k), .int .i64 32, .int .i64 (50000 + g)] 23)).drew).cell? ⟨w.heap.size + 1 + 1, 1, none⟩ = some (.int .i64 32) := by go_simp
    have y2 : ((((w.alloc (Obj.cells #[.int .i64 (1 + k), .int .i64 32, .int .i64 (50000 + f)] 23)).alloc (Obj.cells #[.int .i64 ((1 + k) * 2), .int .i64 32, .int .i64 (50000 + f)] 23)).alloc (Obj.cells #[.int .i64 (1 + k), .int .i64 32, .int .i64 (50000 + g)] 23)).drew).cell? ⟨w.heap.size + 1 + 1, 2, none⟩ = some (.int .i64 (50000 + g)) := by go_simp
    have G := Lib.hid (show w.grownBy ((((w.alloc (Obj.cells #[.int .i64 (1 + k), .int .i64 32, .int .i64 (50000 + f)] 23)).alloc (Obj.cells #[.int .i64 ((1 + k) * 2), .int .i64 32, .int .i64 (50000 + f)] 23)).alloc (Obj.cells #[.int .i64 (1 + k), .int .i64 32, .int .i64 (50000 + g)] 23)).drew) none from grown_trans (start_grown w _ _ _) (grown_drewN _ 1 none))
    generalize (((w.alloc (Obj.cells #[.int .i64 (1 + k), .int .i64 32, .int .i64 (50000 + f)] 23)).alloc (Obj.cells #[.int .i64 ((1 + k) * 2), .int .i64 32, .int .i64 (50000 + f)] 23)).alloc (Obj.cells #[.int .i64 (1 + k), .int .i64 32, .int .i64 (50000 + g)] 23)).drew = W0 at *
    refine (H1.out _).mono ?_
    rintro e w1 ⟨rfl, hg⟩
    have x0 := hg.cell x0 (by simp)
    have x1 := hg.cell x1 (by simp)
    have x2 := hg.cell x2 (by simp)
    have y0 := hg.cell y0 (by simp)
    have y1 := hg.cell y1 (by simp)
    have y2 := hg.cell y2 (by simp)
    have G := Lib.hid (grown_trans G.out hg)
    clear hg
    go_wp2_with fail
    refine (H2.out _).mono ?_
    rintro e w2 ⟨rfl, hg⟩
    have x0 := hg.cell x0 (by simp)
    have x1 := hg.cell x1 (by simp)
    have x2 := hg.cell x2 (by simp)
    have y0 := hg.cell y0 (by simp)
    have y1 := hg.cell y1 (by simp)
    have y2 := hg.cell y2 (by simp)
    have G := Lib.hid (grown_trans G.out hg)
    clear hg
    go_wp2_with fail
    refine (H3.out _).mono ?_
    rintro e w3 ⟨rfl, hg⟩
    have x0 := hg.cell x0 (by simp)
    have x1 := hg.cell x1 (by simp)
    have x2 := hg.cell x2 (by simp)
    have y0 := hg.cell y0 (by simp)
    have y1 := hg.cell y1 (by simp)
    have y2 := hg.cell y2 (by simp)
    have G := Lib.hid (grown_trans G.out hg)
    clear hg
    go_wp2_with fail
    refine (awake_any _).mono ?_
    rintro e w4 ⟨rfl, hg⟩
    have G := Lib.hid (grown_trans G.out hg)
    clear hg
    go_wp2
    go_ret
    exact ⟨rfl, grown_below G.out⟩
  · have x0 : ((((w.alloc (Obj.cells #[.int .i64 (1 + k), .int .i64 32, .int .i64 (50000 + f)] 23)).alloc (Obj.cells #[.int .i64 (1 + k), .int .i64 32, .int .i64 (50000 + g)] 23)).alloc (Obj.cells #[.int .i64 ((1 + k) * 2), .int .i64 32, .int .i64 (50000 + f)] 23)).drew).cell? ⟨w.heap.size + 1, 0, none⟩ = some (.int .i64 (1 + k)) := by go_simp
    have x1 : ((((w.alloc (Obj.cells #[.int .i64 (1 + k), .int .i64 32, .int .i64 (50000 + f)] 23)).alloc (Obj.cells #[.int .i64 (1 + k), .int .i64 32, .int .i64 (50000 + g)] 23)).alloc (Obj.cells #[.int .i64 ((1 + k) * 2), .int .i64 32, .int .i64 (50000 + f)] 23)).drew).cell? ⟨w.heap.size + 1, 1, none⟩ = some (.int .i64 32) := by go_simp
    have x2 : ((((w.alloc (Obj.cells #[.int .i64 (1 + k), .int .i64 32, .int .i64 (50000 + f)] 23)).alloc (Obj.cells #[.int .i64 (1 + k), .int .i64 32, .int .i64 (50000 + g)] 23)).alloc (Obj.cells #[.int .i64 ((1 + k) * 2), .int .i64 32, .int .i64 (50000 + f)] 23)).drew).cell? ⟨w.heap.size + 1, 2, none⟩ = some (.int .i64 (50000 + g)) := by go_simp
    have y0 : ((((w.alloc (Obj.cells #[.int .i64 (1 + k), .int .i64 32, .int .i64 (50000 + f)] 23)).alloc (Obj.cells #[.int .i64 (1 + k), .int .i64 32, .int .i64 (50000 + g)] 23)).alloc (Obj.cells #[.int .i64 ((1 + k) * 2), .int .i64 32, .int .i64 (50000 + f)] 23)).drew).cell? ⟨w.heap.size + 1 + 1, 0, none⟩ = some (.int .i64 ((1 + k) * 2)) := by go_simp
    have y1 : ((((w.alloc (Obj.cells #[.int .i64 (1 + k), .int .i64 32, .int .i64 (50000 + f)] 23)).alloc (Obj.cells #[.int .i64 (1 + k), .int .i64 32, .int .i64 (50000 + g)] 23)).alloc (Obj.cells #[.int .i64 ((1 + k) * 2), .int .i64 32, .int .i64 (50000 + f)] 23)).drew).cell? ⟨w.heap.size + 1 + 1, 1, none⟩ = some (.int .i64 32) := by go_simp
    have y2 : ((((w.alloc (Obj.cells #[.int .i64 (1 + k), .int .i64 32, .int .i64 (50000 + f)] 23)).alloc (Obj.cells #[.int .i64 (1 + k), .int .i64 32, .int .i64 (50000 + g)] 23)).alloc (Obj.cells #[.int .i64 ((1 + k) * 2), .int .i64 32, .int .i64 (50000 + f)] 23)).drew).cell? ⟨w.heap.size + 1 + 1, 2, none⟩ = some (.int .i64 (50000 + f)) := by go_simp
    have G := Lib.hid (show w.grownBy ((((w.alloc (Obj.cells #[.int .i64 (1 + k), .int .i64 32, .int .i64 (50000 + f)] 23)).alloc (Obj.cells #[.int .i64 (1 + k), .int .i64 32, .int .i64 (50000 + g)] 23)).alloc (Obj.cells #[.int .i64 ((1 + k) * 2), .int .i64 32, .int .i64 (50000 + f)] 23)).drew) none from grown_trans (start_grown w _ _ _) (grown_drewN _ 1 none))
    generalize (((w.alloc (Obj.cells #[.int .i64 (1 + k), .int .i64 32, .int .i64 (50000 + f)] 23)).alloc (Obj.cells #[.int .i64 (1 + k), .int .i64 32, .int .i64 (50000 + g)] 23)).alloc (Obj.cells #[.int .i64 ((1 + k) * 2), .int .i64 32, .int .i64 (50000 + f)] 23)).drew = W0 at *
    refine (H1.out _).mono ?_
    rintro e w1 ⟨rfl, hg⟩
    have x0 := hg.cell x0 (by simp)
    have x1 := hg.cell x1 (by simp)
    have x2 := hg.cell x2 (by simp)
    have y0 := hg.cell y0 (by simp)
    have y1 := hg.cell y1 (by simp)
    have y2 := hg.cell y2 (by simp)
    have G := Lib.hid (grown_trans G.out hg)
    clear hg
    go_wp2_with fail
    refine (H2.out _).mono ?_
    rintro e w2 ⟨rfl, hg⟩
    have x0 := hg.cell x0 (by simp)
    have x1 := hg.cell x1 (by simp)
    have x2 := hg.cell x2 (by simp)
    have y0 := hg.cell y0 (by simp)
    have y1 := hg.cell y1 (by simp)
    have y2 := hg.cell y2 (by simp)
    have G := Lib.hid (grown_trans G.out hg)
    clear hg
    go_wp2_with fail
    refine (H3.out _).mono ?_
    rintro e w3 ⟨rfl, hg⟩
    have x0 := hg.cell x0 (by simp)
    have x1 := hg.cell x1 (by simp)
    have x2 := hg.cell x2 (by simp)
    have y0 := hg.cell y0 (by simp)
    have y1 := hg.cell y1 (by simp)
    have y2 := hg.cell y2 (by simp)
    have G := Lib.hid (grown_trans G.out hg)
    clear hg
    go_wp2_with fail
    refine (awake_any _).mono ?_
    rintro e w4 ⟨rfl, hg⟩
    have G := Lib.hid (grown_trans G.out hg)
    clear hg
    go_wp2
    go_ret
    exact ⟨rfl, grown_below G.out⟩

set_option maxHeartbeats 1000000 in
theorem scales_gt (n k f g : Int) (b0 : 0 ≤ n ∧ n ≤ 4294967295) (b1 : 0 ≤ k ∧ k ≤ 65535) (b2 : 0 ≤ f ∧ f ≤ 65535) (b3 : 0 ≤ g ∧ g ≤ 65535) (h : g < f) (w : World) :
    Calls Try.prog 6 #[.int .u32 n, .int .u16 k, .int .u16 f, .int .u16 g] w fun e w' => e = .returned (.bool true) ∧ Below w.heap.size w w' := by
  have h1 := fun w => litres_ok (1 + k) 32 (50000 + g) n w (Mt.valid_mk (by omega) (by omega) (Or.inr rfl) (by omega) (by omega)) (by omega) (by omega)
  have h2 := fun w => litres_ok ((1 + k) * 2) 32 (50000 + g) (2 * n) w (Mt.valid_mk (by omega) (by omega) (Or.inr rfl) (by omega) (by omega)) (by omega) (by omega)
  have h3 := fun w => litres_ok (1 + k) 32 (50000 + f) n w (Mt.valid_mk (by omega) (by omega) (Or.inr rfl) (by omega) (by omega)) (by omega) (by omega)
  rw [vol_twice] at h2
  have hle := vol_more (p := 1 + k) (n := n) (f := 50000 + g) (g := 50000 + f) (by omega) (by omega) (by omega)
  unfold mv at h1 h2 h3
  generalize Mt.vol (1 + k) (50000 + g) n = V1 at *
  generalize Mt.vol (1 + k) (50000 + f) n = V2 at *
  have H1 := Lib.hid h1
  have H2 := Lib.hid h2
  have H3 := Lib.hid h3
  clear h1 h2 h3
  go_enter Try.func6, Try.ntmps6
  go_wp2
  go_region
  all_goals go_wp2_with fail
  · have x0 : ((((w.alloc (Obj.cells #[.int .i64 (1 + k), .int .i64 32, .int .i64 (50000 + g)] 23)).alloc (Obj.cells #[.int .i64 ((1 + k) * 2), .int .i64 32, .int .i64 (50000 + g)] 23)).alloc (Obj.cells #[.int .i64 (1 + k), .int .i64 32, .int .i64 (50000 + f)] 23)).drew).cell? ⟨w.heap.size + 1, 0, none⟩ = some (.int .i64 ((1 + k) * 2)) := by go_simp
    have x1 : ((((w.alloc (Obj.cells #[.int .i64 (1 + k), .int .i64 32, .int .i64 (50000 + g)] 23)).alloc (Obj.cells #[.int .i64 ((1 + k) * 2), .int .i64 32, .int .i64 (50000 + g)] 23)).alloc (Obj.cells #[.int .i64 (1 + k), .int .i64 32, .int .i64 (50000 + f)] 23)).drew).cell? ⟨w.heap.size + 1, 1, none⟩ = some (.int .i64 32) := by go_simp
    have x2 : ((((w.alloc (Obj.cells #[.int .i64 (1 + k), .int .i64 32, .int .i64 (50000 + g)] 23)).alloc (Obj.cells #[.int .i64 ((1 + k) * 2), .int .i64 32, .int .i64 (50000 + g)] 23)).alloc (Obj.cells #[.int .i64 (1 + k), .int .i64 32, .int .i64 (50000 + f)] 23)).drew).cell? ⟨w.heap.size + 1, 2, none⟩ = some (.int .i64 (50000 + g)) := by go_simp
    have y0 : ((((w.alloc (Obj.cells #[.int .i64 (1 + k), .int .i64 32, .int .i64 (50000 + g)] 23)).alloc (Obj.cells #[.int .i64 ((1 + k) * 2), .int .i64 32, .int .i64 (50000 + g)] 23)).alloc (Obj.cells #[.int .i64 (1 + k), .int .i64 32, .int .i64 (50000 + f)] 23)).drew).cell? ⟨w.heap.size + 1 + 1, 0, none⟩ = some (.int .i64 (1 + k)) := by go_simp
    have y1 : ((((w.alloc (Obj.cells #[.int .i64 (1 + k), .int .i64 32, .int .i64 (50000 + g)] 23)).alloc (Obj.cells #[.int .i64 ((1 + k) * 2), .int .i64 32, .int .i64 (50000 + g)] 23)).alloc (Obj.cells #[.int .i64 (1 + k), .int .i64 32, .int .i64 (50000 + f)] 23)).drew).cell? ⟨w.heap.size + 1 + 1, 1, none⟩ = some (.int .i64 32) := by go_simp
    have y2 : ((((w.alloc (Obj.cells #[.int .i64 (1 + k), .int .i64 32, .int .i64 (50000 + g)] 23)).alloc (Obj.cells #[.int .i64 ((1 + k) * 2), .int .i64 32, .int .i64 (50000 + g)] 23)).alloc (Obj.cells #[.int .i64 (1 + k), .int .i64 32, .int .i64 (50000 + f)] 23)).drew).cell? ⟨w.heap.size + 1 + 1, 2, none⟩ = some (.int .i64 (50000 + f)) := by go_simp
    have G := Lib.hid (show w.grownBy ((((w.alloc (Obj.cells #[.int .i64 (1 + k), .int .i64 32, .int .i64 (50000 + g)] 23)).alloc (Obj.cells #[.int .i64 ((1 + k) * 2), .int .i64 32, .int .i64 (50000 + g)] 23)).alloc (Obj.cells #[.int .i64 (1 + k), .int .i64 32, .int .i64 (50000 + f)] 23)).drew) none from grown_trans (start_grown w _ _ _) (grown_drewN _ 1 none))
    generalize (((w.alloc (Obj.cells #[.int .i64 (1 + k), .int .i64 32, .int .i64 (50000 + g)] 23)).alloc (Obj.cells #[.int .i64 ((1 + k) * 2), .int .i64 32, .int .i64 (50000 + g)] 23)).alloc (Obj.cells #[.int .i64 (1 + k), .int .i64 32, .int .i64 (50000 + f)] 23)).drew = W0 at *
    refine (H1.out _).mono ?_
    rintro e w1 ⟨rfl, hg⟩
    have x0 := hg.cell x0 (by simp)
    have x1 := hg.cell x1 (by simp)
    have x2 := hg.cell x2 (by simp)
    have y0 := hg.cell y0 (by simp)
    have y1 := hg.cell y1 (by simp)
    have y2 := hg.cell y2 (by simp)
    have G := Lib.hid (grown_trans G.out hg)
    clear hg
    go_wp2_with fail
    refine (H2.out _).mono ?_
    rintro e w2 ⟨rfl, hg⟩
    have x0 := hg.cell x0 (by simp)
    have x1 := hg.cell x1 (by simp)
    have x2 := hg.cell x2 (by simp)
    have y0 := hg.cell y0 (by simp)
    have y1 := hg.cell y1 (by simp)
    have y2 := hg.cell y2 (by simp)
    have G := Lib.hid (grown_trans G.out hg)
    clear hg
    go_wp2_with fail
    refine (H3.out _).mono ?_
    rintro e w3 ⟨rfl, hg⟩
    have x0 := hg.cell x0 (by simp)
    have x1 := hg.cell x1 (by simp)
    have x2 := hg.cell x2 (by simp)
    have y0 := hg.cell y0 (by simp)
    have y1 := hg.cell y1 (by simp)
    have y2 := hg.cell y2 (by simp)
    have G := Lib.hid (grown_trans G.out hg)
    clear hg
    go_wp2_with fail
    refine (awake_any _).mono ?_
    rintro e w4 ⟨rfl, hg⟩
    have G := Lib.hid (grown_trans G.out hg)
    clear hg
    go_wp2
    go_ret
    exact ⟨rfl, grown_below G.out⟩
  · have x0 : ((((w.alloc (Obj.cells #[.int .i64 (1 + k), .int .i64 32, .int .i64 (50000 + g)] 23)).alloc (Obj.cells #[.int .i64 (1 + k), .int .i64 32, .int .i64 (50000 + f)] 23)).alloc (Obj.cells #[.int .i64 ((1 + k) * 2), .int .i64 32, .int .i64 (50000 + g)] 23)).drew).cell? ⟨w.heap.size + 1, 0, none⟩ = some (.int .i64 (1 + k)) := by go_simp
    have x1 : ((((w.alloc (Obj.cells #[.int .i64 (1 + k), .int .i64 32, .int .i64 (50000 + g)] 23)).alloc (Obj.cells #[.int .i64 (1 + k), .int .i64 32, .int .i64 (50000 + f)] 23)).alloc (Obj.cells #[.int .i64 ((1 + k) * 2), .int .i64 32, .int .i64 (50000 + g)] 23)).drew).cell? ⟨w.heap.size + 1, 1, none⟩ = some (.int .i64 32) := by go_simp
    have x2 : ((((w.alloc (Obj.cells #[.int .i64 (1 + k), .int .i64 32, .int .i64 (50000 + g)] 23)).alloc (Obj.cells #[.int .i64 (1 + k), .int .i64 32, .int .i64 (50000 + f)] 23)).alloc (Obj.cells #[.int .i64 ((1 + k) * 2), .int .i64 32, .int .i64 (50000 + g)] 23)).drew).cell? ⟨w.heap.size + 1, 2, none⟩ = some (.int .i64 (50000 + f)) := by go_simp
    have y0 : ((((w.alloc (Obj.cells #[.int .i64 (1 + k), .int .i64 32, .int .i64 (50000 + g)] 23)).alloc (Obj.cells #[.int .i64 (1 + k), .int .i64 32, .int .i64 (50000 + f)] 23)).alloc (Obj.cells #[.int .i64 ((1 + k) * 2), .int .i64 32, .int .i64 (50000 + g)] 23)).drew).cell? ⟨w.heap.size + 1 + 1, 0, none⟩ = some (.int .i64 ((1 + k) * 2)) := by go_simp
    have y1 : ((((w.alloc (Obj.cells #[.int .i64 (1 + k), .int .i64 32, .int .i64 (50000 + g)] 23)).alloc (Obj.cells #[.int .i64 (1 + k), .int .i64 32, .int .i64 (50000 + f)] 23)).alloc (Obj.cells #[.int .i64 ((1 + k) * 2), .int .i64 32, .int .i64 (50000 + g)] 23)).drew).cell? ⟨w.heap.size + 1 + 1, 1, none⟩ = some (.int .i64 32) := by go_simp
    have y2 : ((((w.alloc (Obj.cells #[.int .i64 (1 + k), .int .i64 32, .int .i64 (50000 + g)] 23)).alloc (Obj.cells #[.int .i64 (1 + k), .int .i64 32, .int .i64 (50000 + f)] 23)).alloc (Obj.cells #[.int .i64 ((1 + k) * 2), .int .i64 32, .int .i64 (50000 + g)] 23)).drew).cell? ⟨w.heap.size + 1 + 1, 2, none⟩ = some (.int .i64 (50000 + g)) := by go_simp
    have G := Lib.hid (show w.grownBy ((((w.alloc (Obj.cells #[.int .i64 (1 + k), .int .i64 32, .int .i64 (50000 + g)] 23)).alloc (Obj.cells #[.int .i64 (1 + k), .int .i64 32, .int .i64 (50000 + f)] 23)).alloc (Obj.cells #[.int .i64 ((1 + k) * 2), .int .i64 32, .int .i64 (50000 + g)] 23)).drew) none from grown_trans (start_grown w _ _ _) (grown_drewN _ 1 none))
    generalize (((w.alloc (Obj.cells #[.int .i64 (1 + k), .int .i64 32, .int .i64 (50000 + g)] 23)).alloc (Obj.cells #[.int .i64 (1 + k), .int .i64 32, .int .i64 (50000 + f)] 23)).alloc (Obj.cells #[.int .i64 ((1 + k) * 2), .int .i64 32, .int .i64 (50000 + g)] 23)).drew = W0 at *
    refine (H1.out _).mono ?_
    rintro e w1 ⟨rfl, hg⟩
    have x0 := hg.cell x0 (by simp)
    have x1 := hg.cell x1 (by simp)
    have x2 := hg.cell x2 (by simp)
    have y0 := hg.cell y0 (by simp)
    have y1 := hg.cell y1 (by simp)
    have y2 := hg.cell y2 (by simp)
    have G := Lib.hid (grown_trans G.out hg)
    clear hg
    go_wp2_with fail
    refine (H2.out _).mono ?_
    rintro e w2 ⟨rfl, hg⟩
    have x0 := hg.cell x0 (by simp)
    have x1 := hg.cell x1 (by simp)
    have x2 := hg.cell x2 (by simp)
    have y0 := hg.cell y0 (by simp)
    have y1 := hg.cell y1 (by simp)
    have y2 := hg.cell y2 (by simp)
    have G := Lib.hid (grown_trans G.out hg)
    clear hg
    go_wp2_with fail
    refine (H3.out _).mono ?_
    rintro e w3 ⟨rfl, hg⟩
    have x0 := hg.cell x0 (by simp)
    have x1 := hg.cell x1 (by simp)
    have x2 := hg.cell x2 (by simp)
    have y0 := hg.cell y0 (by simp)
    have y1 := hg.cell y1 (by simp)
    have y2 := hg.cell y2 (by simp)
    have G := Lib.hid (grown_trans G.out hg)
    clear hg
    go_wp2_with fail
    refine (awake_any _).mono ?_
    rintro e w4 ⟨rfl, hg⟩
    have G := Lib.hid (grown_trans G.out hg)
    clear hg
    go_wp2
    go_ret
    exact ⟨rfl, grown_below G.out⟩

set_option maxHeartbeats 1000000 in
theorem scales_eq (n k f : Int) (b0 : 0 ≤ n ∧ n ≤ 4294967295) (b1 : 0 ≤ k ∧ k ≤ 65535) (b2 : 0 ≤ f ∧ f ≤ 65535) (w : World) :
    Calls Try.prog 6 #[.int .u32 n, .int .u16 k, .int .u16 f, .int .u16 f] w fun e w' => e = .returned (.bool true) ∧ Below w.heap.size w w' := by
  have h1 := fun w => litres_ok (1 + k) 32 (50000 + f) n w (Mt.valid_mk (by omega) (by omega) (Or.inr rfl) (by omega) (by omega)) (by omega) (by omega)
  have h2 := fun w => litres_ok ((1 + k) * 2) 32 (50000 + f) (2 * n) w (Mt.valid_mk (by omega) (by omega) (Or.inr rfl) (by omega) (by omega)) (by omega) (by omega)
  have h3 := fun w => litres_ok (1 + k) 32 (50000 + f) n w (Mt.valid_mk (by omega) (by omega) (Or.inr rfl) (by omega) (by omega)) (by omega) (by omega)
  rw [vol_twice] at h2
  have hle := vol_more (p := 1 + k) (n := n) (f := 50000 + f) (g := 50000 + f) (by omega) (by omega) (by omega)
  unfold mv at h1 h2 h3
  generalize Mt.vol (1 + k) (50000 + f) n = V1 at *
  have H1 := Lib.hid h1
  have H2 := Lib.hid h2
  have H3 := Lib.hid h3
  clear h1 h2 h3
  go_enter Try.func6, Try.ntmps6
  go_wp2
  go_region
  all_goals go_wp2_with fail
  · have x0 : ((((w.alloc (Obj.cells #[.int .i64 (1 + k), .int .i64 32, .int .i64 (50000 + f)] 23)).alloc (Obj.cells #[.int .i64 ((1 + k) * 2), .int .i64 32, .int .i64 (50000 + f)] 23)).alloc (Obj.cells #[.int .i64 (1 + k), .int .i64 32, .int .i64 (50000 + f)] 23)).drew).cell? ⟨w.heap.size + 1, 0, none⟩ = some (.int .i64 ((1 + k) * 2)) := by go_simp
    have x1 : ((((w.alloc (Obj.cells #[.int .i64 (1 + k), .int .i64 32, .int .i64 (50000 + f)] 23)).alloc (Obj.cells #[.int .i64 ((1 + k) * 2), .int .i64 32, .int .i64 (50000 + f)] 23)).alloc (Obj.cells #[.int .i64 (1 + k), .int .i64 32, .int .i64 (50000 + f)] 23)).drew).cell? ⟨w.heap.size + 1, 1, none⟩ = some (.int .i64 32) := by go_simp
    have x2 : ((((w.alloc (Obj.cells #[.int .i64 (1 + k), .int .i64 32, .int .i64 (50000 + f)] 23)).alloc (Obj.cells #[.int .i64 ((1 + k) * 2), .int .i64 32, .int .i64 (50000 + f)] 23)).alloc (Obj.cells #[.int .i64 (1 + k), .int .i64 32, .int .i64 (50000 + f)] 23)).drew).cell? ⟨w.heap.size + 1, 2, none⟩ = some (.int .i64 (50000 + f)) := by go_simp
    have y0 : ((((w.alloc (Obj.cells #[.int .i64 (1 + k), .int .i64 32, .int .i64 (50000 + f)] 23)).alloc (Obj.cells #[.int .i64 ((1 + k) * 2), .int .i64 32, .int .i64 (50000 + f)] 23)).alloc (Obj.cells #[.int .i64 (1 + k), .int .i64 32, .int .i64 (50000 + f)] 23)).drew).cell? ⟨w.heap.size + 1 + 1, 0, none⟩ = some (.int .i64 (1 + k)) := by go_simp
    have y1 : ((((w.alloc (Obj.cells #[.int .i64 (1 + k), .int .i64 32, .int .i64 (50000 + f)] 23)).alloc (Obj.cells #[.int .i64 ((1 + k) * 2), .int .i64 32, .int .i64 (50000 + f)] 23)).alloc (Obj.cells #[.int .i64 (1 + k), .int .i64 32, .int .i64 (50000 + f)] 23)).drew).cell? ⟨w.heap.size + 1 + 1, 1, none⟩ = some (.int .i64 32) := by go_simp
    have y2 : ((((w.alloc (Obj.cells #[.int .i64 (1 + k), .int .i64 32, .int .i64 (50000 + f)] 23)).alloc (Obj.cells #[.int .i64 ((1 + k) * 2), .int .i64 32, .int .i64 (50000 + f)] 23)).alloc (Obj.cells #[.int .i64 (1 + k), .int .i64 32, .int .i64 (50000 + f)] 23)).drew).cell? ⟨w.heap.size + 1 + 1, 2, none⟩ = some (.int .i64 (50000 + f)) := by go_simp
    have G := Lib.hid (show w.grownBy ((((w.alloc (Obj.cells #[.int .i64 (1 + k), .int .i64 32, .int .i64 (50000 + f)] 23)).alloc (Obj.cells #[.int .i64 ((1 + k) * 2), .int .i64 32, .int .i64 (50000 + f)] 23)).alloc (Obj.cells #[.int .i64 (1 + k), .int .i64 32, .int .i64 (50000 + f)] 23)).drew) none from grown_trans (start_grown w _ _ _) (grown_drewN _ 1 none))
    generalize (((w.alloc (Obj.cells #[.int .i64 (1 + k), .int .i64 32, .int .i64 (50000 + f)] 23)).alloc (Obj.cells #[.int .i64 ((1 + k) * 2), .int .i64 32, .int .i64 (50000 + f)] 23)).alloc (Obj.cells #[.int .i64 (1 + k), .int .i64 32, .int .i64 (50000 + f)] 23)).drew = W0 at *
    refine (H1.out _).mono ?_
    rintro e w1 ⟨rfl, hg⟩
    have x0 := hg.cell x0 (by simp)
    have x1 := hg.cell x1 (by simp)
    have x2 := hg.cell x2 (by simp)
    have y0 := hg.cell y0 (by simp)
    have y1 := hg.cell y1 (by simp)
    have y2 := hg.cell y2 (by simp)
    have G := Lib.hid (grown_trans G.out hg)
    clear hg
    go_wp2_with fail
    refine (H2.out _).mono ?_
    rintro e w2 ⟨rfl, hg⟩
    have x0 := hg.cell x0 (by simp)
    have x1 := hg.cell x1 (by simp)
    have x2 := hg.cell x2 (by simp)
    have y0 := hg.cell y0 (by simp)
    have y1 := hg.cell y1 (by simp)
    have y2 := hg.cell y2 (by simp)
    have G := Lib.hid (grown_trans G.out hg)
    clear hg
    go_wp2_with fail
    refine (H3.out _).mono ?_
    rintro e w3 ⟨rfl, hg⟩
    have x0 := hg.cell x0 (by simp)
    have x1 := hg.cell x1 (by simp)
    have x2 := hg.cell x2 (by simp)
    have y0 := hg.cell y0 (by simp)
    have y1 := hg.cell y1 (by simp)
    have y2 := hg.cell y2 (by simp)
    have G := Lib.hid (grown_trans G.out hg)
    clear hg
    go_wp2_with fail
    refine (awake_any _).mono ?_
    rintro e w4 ⟨rfl, hg⟩
    have G := Lib.hid (grown_trans G.out hg)
    clear hg
    go_wp2
    go_ret
    exact ⟨rfl, grown_below G.out⟩
  · have x0 : ((((w.alloc (Obj.cells #[.int .i64 (1 + k), .int .i64 32, .int .i64 (50000 + f)] 23)).alloc (Obj.cells #[.int .i64 (1 + k), .int .i64 32, .int .i64 (50000 + f)] 23)).alloc (Obj.cells #[.int .i64 ((1 + k) * 2), .int .i64 32, .int .i64 (50000 + f)] 23)).drew).cell? ⟨w.heap.size + 1, 0, none⟩ = some (.int .i64 (1 + k)) := by go_simp
    have x1 : ((((w.alloc (Obj.cells #[.int .i64 (1 + k), .int .i64 32, .int .i64 (50000 + f)] 23)).alloc (Obj.cells #[.int .i64 (1 + k), .int .i64 32, .int .i64 (50000 + f)] 23)).alloc (Obj.cells #[.int .i64 ((1 + k) * 2), .int .i64 32, .int .i64 (50000 + f)] 23)).drew).cell? ⟨w.heap.size + 1, 1, none⟩ = some (.int .i64 32) := by go_simp
    have x2 : ((((w.alloc (Obj.cells #[.int .i64 (1 + k), .int .i64 32, .int .i64 (50000 + f)] 23)).alloc (Obj.cells #[.int .i64 (1 + k), .int .i64 32, .int .i64 (50000 + f)] 23)).alloc (Obj.cells #[.int .i64 ((1 + k) * 2), .int .i64 32, .int .i64 (50000 + f)] 23)).drew).cell? ⟨w.heap.size + 1, 2, none⟩ = some (.int .i64 (50000 + f)) := by go_simp
    have y0 : ((((w.alloc (Obj.cells #[.int .i64 (1 + k), .int .i64 32, .int .i64 (50000 + f)] 23)).alloc (Obj.cells #[.int .i64 (1 + k), .int .i64 32, .int .i64 (50000 + f)] 23)).alloc (Obj.cells #[.int .i64 ((1 + k) * 2), .int .i64 32, .int .i64 (50000 + f)] 23)).drew).cell? ⟨w.heap.size + 1 + 1, 0, none⟩ = some (.int .i64 ((1 + k) * 2)) := by go_simp
    have y1 : ((((w.alloc (Obj.cells #[.int .i64 (1 + k), .int .i64 32, .int .i64 (50000 + f)] 23)).alloc (Obj.cells #[.int .i64 (1 + k), .int .i64 32, .int .i64 (50000 + f)] 23)).alloc (Obj.cells #[.int .i64 ((1 + k) * 2), .int .i64 32, .int .i64 (50000 + f)] 23)).drew).cell? ⟨w.heap.size + 1 + 1, 1, none⟩ = some (.int .i64 32) := by go_simp
    have y2 : ((((w.alloc (Obj.cells #[.int .i64 (1 + k), .int .i64 32, .int .i64 (50000 + f)] 23)).alloc (Obj.cells #[.int .i64 (1 + k), .int .i64 32, .int .i64 (50000 + f)] 23)).alloc (Obj.cells #[.int .i64 ((1 + k) * 2), .int .i64 32, .int .i64 (50000 + f)] 23)).drew).cell? ⟨w.heap.size + 1 + 1, 2, none⟩ = some (.int .i64 (50000 + f)) := by go_simp
    have G := Lib.hid (show w.grownBy ((((w.alloc (Obj.cells #[.int .i64 (1 + k), .int .i64 32, .int .i64 (50000 + f)] 23)).alloc (Obj.cells #[.int .i64 (1 + k), .int .i64 32, .int .i64 (50000 + f)] 23)).alloc (Obj.cells #[.int .i64 ((1 + k) * 2), .int .i64 32, .int .i64 (50000 + f)] 23)).drew) none from grown_trans (start_grown w _ _ _) (grown_drewN _ 1 none))
    generalize (((w.alloc (Obj.cells #[.int .i64 (1 + k), .int .i64 32, .int .i64 (50000 + f)] 23)).alloc (Obj.cells #[.int .i64 (1 + k), .int .i64 32, .int .i64 (50000 + f)] 23)).alloc (Obj.cells #[.int .i64 ((1 + k) * 2), .int .i64 32, .int .i64 (50000 + f)] 23)).drew = W0 at *
    refine (H1.out _).mono ?_
    rintro e w1 ⟨rfl, hg⟩
    have x0 := hg.cell x0 (by simp)
    have x1 := hg.cell x1 (by simp)
    have x2 := hg.cell x2 (by simp)
    have y0 := hg.cell y0 (by simp)
    have y1 := hg.cell y1 (by simp)
    have y2 := hg.cell y2 (by simp)
    have G := Lib.hid (grown_trans G.out hg)
    clear hg
    go_wp2_with fail
    refine (H2.out _).mono ?_
    rintro e w2 ⟨rfl, hg⟩
    have x0 := hg.cell x0 (by simp)
    have x1 := hg.cell x1 (by simp)
    have x2 := hg.cell x2 (by simp)
    have y0 := hg.cell y0 (by simp)
    have y1 := hg.cell y1 (by simp)
    have y2 := hg.cell y2 (by simp)
    have G := Lib.hid (grown_trans G.out hg)
    clear hg
    go_wp2_with fail
    refine (H3.out _).mono ?_
    rintro e w3 ⟨rfl, hg⟩
    have x0 := hg.cell x0 (by simp)
    have x1 := hg.cell x1 (by simp)
    have x2 := hg.cell x2 (by simp)
    have y0 := hg.cell y0 (by simp)
    have y1 := hg.cell y1 (by simp)
    have y2 := hg.cell y2 (by simp)
    have G := Lib.hid (grown_trans G.out hg)
    clear hg
    go_wp2_with fail
    refine (awake_any _).mono ?_
    rintro e w4 ⟨rfl, hg⟩
    have G := Lib.hid (grown_trans G.out hg)
    clear hg
    go_wp2
    go_ret
    exact ⟨rfl, grown_below G.out⟩

theorem scales_walk (n k f g : Int) (w0 : (Lit.int .u32 n).wf = true) (w1 : (Lit.int .u16 k).wf = true) (w2 : (Lit.int .u16 f).wf = true) (w3 : (Lit.int .u16 g).wf = true) (w : World) :
    Calls Try.prog 6 #[.int .u32 n, .int .u16 k, .int .u16 f, .int .u16 g] w fun e w' => e = .returned (.bool true) ∧ Below w.heap.size w w' := by
  have b0 := bounds_u32 w0
  have b1 := bounds_u16 w1
  have b2 := bounds_u16 w2
  have b3 := bounds_u16 w3
  by_cases h : f < g
  · exact scales_lt n k f g b0 b1 b2 b3 h w
  · by_cases h2 : g < f
    · exact scales_gt n k f g b0 b1 b2 b3 h2 w
    · obtain rfl : f = g := by omega
      exact scales_eq n k f b0 b1 b2 w
end Go.Proofs.Ytilchmlbihffdaa
