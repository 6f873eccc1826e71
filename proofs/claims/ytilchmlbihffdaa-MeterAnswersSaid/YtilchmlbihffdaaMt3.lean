/- Contract of meter.Read: the count that follows, and where it is too great. -/
import Derived.Test.YtilchmlbihffdaaMt2
namespace Go.Proofs.Ytilchmlbihffdaa
open Go.ChangeShapes Go.WideShapes Go.ChangeAt Go.RowKit

set_option maxHeartbeats 1000000 in
theorem read_ok (p b f l q n st : Int) (w : World) (h : Mt.valid p b f = true) (hc : Mt.isC b l q = true) (hn : 0 ≤ n) (hn2 : n < Mt.span b) (hst : Mt.step b l n = st) (hle : q + st ≤ 1099511627776) :
    Calls Try.prog 14 #[mv p b f, cv l q, .int .i64 n] w (Ret (rdv (n, q + st, 0)) w) := by
  have HV := Lib.hid (fun w => meterValid_yes p b f w h)
  obtain ⟨_, _, hb, _, _⟩ := Mt.valid_true h
  obtain ⟨c1, c2, c3, c4⟩ := Mt.isC_true hc
  have HC := Lib.hid (fun w => isCount_yes p b f l q w hb hc)
  have HR := Lib.hid (fun w => readings_any p b f w hb)
  have HS := Lib.hid (fun w => steps_any p b f l n w hb c1 c2 hn hn2)
  have hr := step_range hb c1 c2 hn hn2
  rw [hst] at HS hr
  have hc2 : Mt.isC b n (q + st) = true := Mt.isC_mk hn hn2 (by omega) hle
  have HD := Lib.hid (fun w => isCount_yes p b f n (q + st) w hb hc2)
  have hw : IntKind.i64.wrap (q + st) = q + st := IntWalk.i64_in _ (by omega)
  generalize Mt.span b = sp at *
  clear h hb hc hc2 hst c1 c2 c3 c4
  unfold mv cv
  go_enter Try.func14, Try.ntmps14
  go_wp2_with fail
  refine (HV.out _).mono ?_
  rintro e w1 ⟨rfl, hg⟩
  have R := Lib.hid ((RW.start w p b f l q).grown hg)
  have G := Lib.hid (grown_trans (start_grown _ _ _ _) hg)
  clear hg
  obtain ⟨k0, k1, k2, k3, k4, z0, z1, z2, z3⟩ := R.out
  go_wp2_with fail
  refine (HC.out _).mono ?_
  rintro e w2 ⟨rfl, hg⟩
  have R := Lib.hid (R.out.grown hg)
  have G := Lib.hid (grown_trans G.out hg)
  clear hg
  clear k0 k1 k2 k3 k4 z0 z1 z2 z3
  obtain ⟨k0, k1, k2, k3, k4, z0, z1, z2, z3⟩ := R.out
  go_wp2_with fail
  refine (HR.out _).mono ?_
  rintro e w3 ⟨rfl, hg⟩
  have R := Lib.hid (R.out.grown hg)
  have G := Lib.hid (grown_trans G.out hg)
  clear hg
  clear k0 k1 k2 k3 k4 z0 z1 z2 z3
  obtain ⟨k0, k1, k2, k3, k4, z0, z1, z2, z3⟩ := R.out
  go_wp2_with fail
  have HX := Lib.hid (World.block_lt_of_cell? _ _ z0)
  have HK : Hid (∀ w', w3.grownBy w' none → w'.cell? ⟨w.heap.size, 0, none⟩ = some (.int .i64 p) ∧ w'.cell? ⟨w.heap.size, 1, none⟩ = some (.int .i64 b) ∧ w'.cell? ⟨w.heap.size, 2, none⟩ = some (.int .i64 f) ∧ w'.cell? ⟨w.heap.size + 1, 0, none⟩ = some (.int .i64 l) ∧ w'.cell? ⟨w.heap.size + 1, 1, none⟩ = some (.int .i64 q)) := fun w' hg => ⟨hg.cell k0 (by simp), hg.cell k1 (by simp), hg.cell k2 (by simp), hg.cell k3 (by simp), hg.cell k4 (by simp)⟩
  have n0 := World.new_ne w3 _ k0
  have n1 := World.new_ne w3 _ k3
  have n2 := World.new_ne w3 _ z0
  dsimp only at n0 n1 n2
  go_region_held3 (fun w' => w'.cell? ⟨w.heap.size, 0, none⟩ = some (.int .i64 p) ∧ w'.cell? ⟨w.heap.size, 1, none⟩ = some (.int .i64 b) ∧ w'.cell? ⟨w.heap.size, 2, none⟩ = some (.int .i64 f) ∧ w'.cell? ⟨w.heap.size + 1, 0, none⟩ = some (.int .i64 l) ∧ w'.cell? ⟨w.heap.size + 1, 1, none⟩ = some (.int .i64 q))
    (first | go_keep | exact HK.out _ hgs.out | exact HK.out _ (grown_trans hgs.out (World.grownBy_alloc _ _ _)) | fail)
    (first
      | (go_at_call 25; refine (HS.out _).mono ?_; rintro e w4 ⟨rfl, hg⟩; have hgs : Hid (w3.grownBy w4 none) := grown_trans (show w3.grownBy w3.drew none from grown_drewN w3 1 none) hg; have hgo := Lib.hid hg; clear hg)
      | (go_at_call 25; refine (HS.out _).mono ?_; rintro e w4 ⟨rfl, hg⟩; have hgs : Hid (w3.grownBy w4 none) := grown_trans (grown_trans (show w3.grownBy w3.drew none from grown_drewN w3 1 none) (World.grownBy_alloc _ _ _)) hg; have m0 := hg.cell (a := ⟨w3.heap.size, 0, none⟩) (v := .int .i64 0) (by simp) (by simp); have m1 := hg.cell (a := ⟨w3.heap.size, 1, none⟩) (v := .int .i64 0) (by simp) (by simp); have f0 := grown_frozen hg (a := ⟨w3.heap.size, 0, none⟩) (v := .int .i64 0) (by simp) (by simp) (by simp); have f1 := grown_frozen hg (a := ⟨w3.heap.size, 1, none⟩) (v := .int .i64 0) (by simp) (by simp) (by simp); clear hg))
  · have GA := Lib.hid (grown_trans G.out (grown_trans hgs.out (World.grownBy_alloc w4 (Obj.cells #[.int .i64 n, .int .i64 (q + st)] 25) none)))
    have RA := Lib.hid ((R.out.grown hgs.out).grown (World.grownBy_alloc w4 (Obj.cells #[.int .i64 n, .int .i64 (q + st)] 25) none))
    have m0 : (w4.alloc (Obj.cells #[.int .i64 n, .int .i64 (q + st)] 25)).cell? ⟨w4.heap.size, 0, none⟩ = some (.int .i64 n) := by simp
    have m1 : (w4.alloc (Obj.cells #[.int .i64 n, .int .i64 (q + st)] 25)).cell? ⟨w4.heap.size, 1, none⟩ = some (.int .i64 (q + st)) := by simp
    clear k0 k1 k2 k3 k4 z0 z1 z2 z3 n0 n1 n2 HK
    generalize w4.alloc (Obj.cells #[.int .i64 n, .int .i64 (q + st)] 25) = W4 at *
    obtain ⟨k0, k1, k2, k3, k4, z0, z1, z2, z3⟩ := RA.out
    go_wp2_with fail
    refine (HD.out _).mono ?_
    rintro e w5 ⟨rfl, hg⟩
    have R := Lib.hid (RA.out.grown hg)
    have G := Lib.hid (grown_trans GA.out hg)
    have m0 := hg.cell m0 (by simp)
    have m1 := hg.cell m1 (by simp)
    clear hg
    clear k0 k1 k2 k3 k4 z0 z1 z2 z3
    obtain ⟨k0, k1, k2, k3, k4, z0, z1, z2, z3⟩ := R.out
    obtain ⟨q0, q1⟩ := stored2 w5 (w.heap.size + 1 + 1) (.int .i64 (n)) (.int .i64 (q + st)) z0 z1
    go_wp2
    refine bodyPost_ret (v := rdv (n, q + st, 0)) (by simp [results, Try.results14, go_sem, q0, q1, rdv, cv]) rfl ⟨rfl, stored2_grown _ _ G.out (by omega)⟩
  · have GA := Lib.hid (stored2_grown (.int .i64 n) (.int .i64 (q + st)) (grown_trans G.out hgs.out) (show w.heap.size ≤ w3.heap.size from G.out.size))
    have RA := Lib.hid ((R.out.grown hgs.out).stored2 (.int .i64 n) (.int .i64 (q + st)) HX.out)
    obtain ⟨m0, m1⟩ := stored2 w4 w3.heap.size (.int .i64 n) (.int .i64 (q + st)) m0 m1
    clear k0 k1 k2 k3 k4 z0 z1 z2 z3 n0 n1 n2 f0 f1 HK
    generalize ((w4.setCell ⟨w3.heap.size, 0, none⟩ (.int .i64 n)).setCell ⟨w3.heap.size, 1, none⟩ (.int .i64 (q + st))) = W4 at *
    obtain ⟨k0, k1, k2, k3, k4, z0, z1, z2, z3⟩ := RA.out
    go_wp2_with fail
    refine (HD.out _).mono ?_
    rintro e w5 ⟨rfl, hg⟩
    have R := Lib.hid (RA.out.grown hg)
    have G := Lib.hid (grown_trans GA.out hg)
    have m0 := hg.cell m0 (by simp)
    have m1 := hg.cell m1 (by simp)
    clear hg
    clear k0 k1 k2 k3 k4 z0 z1 z2 z3
    obtain ⟨k0, k1, k2, k3, k4, z0, z1, z2, z3⟩ := R.out
    obtain ⟨q0, q1⟩ := stored2 w5 (w.heap.size + 1 + 1) (.int .i64 (n)) (.int .i64 (q + st)) z0 z1
    go_wp2
    refine bodyPost_ret (v := rdv (n, q + st, 0)) (by simp [results, Try.results14, go_sem, q0, q1, rdv, cv]) rfl ⟨rfl, stored2_grown _ _ G.out (by omega)⟩
set_option maxHeartbeats 1000000 in
theorem read_limit (p b f l q n st : Int) (w : World) (h : Mt.valid p b f = true) (hc : Mt.isC b l q = true) (hn : 0 ≤ n) (hn2 : n < Mt.span b) (hst : Mt.step b l n = st) (hle : 1099511627776 < q + st) :
    Calls Try.prog 14 #[mv p b f, cv l q, .int .i64 n] w (Ret (rdv (0, 0, 4)) w) := by
  have HV := Lib.hid (fun w => meterValid_yes p b f w h)
  obtain ⟨_, _, hb, _, _⟩ := Mt.valid_true h
  obtain ⟨c1, c2, c3, c4⟩ := Mt.isC_true hc
  have HC := Lib.hid (fun w => isCount_yes p b f l q w hb hc)
  have HR := Lib.hid (fun w => readings_any p b f w hb)
  have HS := Lib.hid (fun w => steps_any p b f l n w hb c1 c2 hn hn2)
  have hr := step_range hb c1 c2 hn hn2
  rw [hst] at HS hr
  have hc2 : Mt.isC b n (q + st) = false := by
    cases k : Mt.isC b n (q + st)
    · rfl
    · have := Mt.isC_true k; omega
  have HD := Lib.hid (fun w => isCount_no p b f n (q + st) w hb hc2)
  have hw : IntKind.i64.wrap (q + st) = q + st := IntWalk.i64_in _ (by omega)
  generalize Mt.span b = sp at *
  clear h hb hc hc2 hst c1 c2 c3 c4
  unfold mv cv
  go_enter Try.func14, Try.ntmps14
  go_wp2_with fail
  refine (HV.out _).mono ?_
  rintro e w1 ⟨rfl, hg⟩
  have R := Lib.hid ((RW.start w p b f l q).grown hg)
  have G := Lib.hid (grown_trans (start_grown _ _ _ _) hg)
  clear hg
  obtain ⟨k0, k1, k2, k3, k4, z0, z1, z2, z3⟩ := R.out
  go_wp2_with fail
  refine (HC.out _).mono ?_
  rintro e w2 ⟨rfl, hg⟩
  have R := Lib.hid (R.out.grown hg)
  have G := Lib.hid (grown_trans G.out hg)
  clear hg
  clear k0 k1 k2 k3 k4 z0 z1 z2 z3
  obtain ⟨k0, k1, k2, k3, k4, z0, z1, z2, z3⟩ := R.out
  go_wp2_with fail
  refine (HR.out _).mono ?_
  rintro e w3 ⟨rfl, hg⟩
  have R := Lib.hid (R.out.grown hg)
  have G := Lib.hid (grown_trans G.out hg)
  clear hg
  clear k0 k1 k2 k3 k4 z0 z1 z2 z3
  obtain ⟨k0, k1, k2, k3, k4, z0, z1, z2, z3⟩ := R.out
  go_wp2_with fail
  have HX := Lib.hid (World.block_lt_of_cell? _ _ z0)
  have HK : Hid (∀ w', w3.grownBy w' none → w'.cell? ⟨w.heap.size, 0, none⟩ = some (.int .i64 p) ∧ w'.cell? ⟨w.heap.size, 1, none⟩ = some (.int .i64 b) ∧ w'.cell? ⟨w.heap.size, 2, none⟩ = some (.int .i64 f) ∧ w'.cell? ⟨w.heap.size + 1, 0, none⟩ = some (.int .i64 l) ∧ w'.cell? ⟨w.heap.size + 1, 1, none⟩ = some (.int .i64 q)) := fun w' hg => ⟨hg.cell k0 (by simp), hg.cell k1 (by simp), hg.cell k2 (by simp), hg.cell k3 (by simp), hg.cell k4 (by simp)⟩
  have n0 := World.new_ne w3 _ k0
  have n1 := World.new_ne w3 _ k3
  have n2 := World.new_ne w3 _ z0
  dsimp only at n0 n1 n2
  go_region_held3 (fun w' => w'.cell? ⟨w.heap.size, 0, none⟩ = some (.int .i64 p) ∧ w'.cell? ⟨w.heap.size, 1, none⟩ = some (.int .i64 b) ∧ w'.cell? ⟨w.heap.size, 2, none⟩ = some (.int .i64 f) ∧ w'.cell? ⟨w.heap.size + 1, 0, none⟩ = some (.int .i64 l) ∧ w'.cell? ⟨w.heap.size + 1, 1, none⟩ = some (.int .i64 q))
    (first | go_keep | exact HK.out _ hgs.out | exact HK.out _ (grown_trans hgs.out (World.grownBy_alloc _ _ _)) | fail)
    (first
      | (go_at_call 25; refine (HS.out _).mono ?_; rintro e w4 ⟨rfl, hg⟩; have hgs : Hid (w3.grownBy w4 none) := grown_trans (show w3.grownBy w3.drew none from grown_drewN w3 1 none) hg; have hgo := Lib.hid hg; clear hg)
      | (go_at_call 25; refine (HS.out _).mono ?_; rintro e w4 ⟨rfl, hg⟩; have hgs : Hid (w3.grownBy w4 none) := grown_trans (grown_trans (show w3.grownBy w3.drew none from grown_drewN w3 1 none) (World.grownBy_alloc _ _ _)) hg; have m0 := hg.cell (a := ⟨w3.heap.size, 0, none⟩) (v := .int .i64 0) (by simp) (by simp); have m1 := hg.cell (a := ⟨w3.heap.size, 1, none⟩) (v := .int .i64 0) (by simp) (by simp); have f0 := grown_frozen hg (a := ⟨w3.heap.size, 0, none⟩) (v := .int .i64 0) (by simp) (by simp) (by simp); have f1 := grown_frozen hg (a := ⟨w3.heap.size, 1, none⟩) (v := .int .i64 0) (by simp) (by simp) (by simp); clear hg))
  · have GA := Lib.hid (grown_trans G.out (grown_trans hgs.out (World.grownBy_alloc w4 (Obj.cells #[.int .i64 n, .int .i64 (q + st)] 25) none)))
    have RA := Lib.hid ((R.out.grown hgs.out).grown (World.grownBy_alloc w4 (Obj.cells #[.int .i64 n, .int .i64 (q + st)] 25) none))
    have m0 : (w4.alloc (Obj.cells #[.int .i64 n, .int .i64 (q + st)] 25)).cell? ⟨w4.heap.size, 0, none⟩ = some (.int .i64 n) := by simp
    have m1 : (w4.alloc (Obj.cells #[.int .i64 n, .int .i64 (q + st)] 25)).cell? ⟨w4.heap.size, 1, none⟩ = some (.int .i64 (q + st)) := by simp
    clear k0 k1 k2 k3 k4 z0 z1 z2 z3 n0 n1 n2 HK
    generalize w4.alloc (Obj.cells #[.int .i64 n, .int .i64 (q + st)] 25) = W4 at *
    obtain ⟨k0, k1, k2, k3, k4, z0, z1, z2, z3⟩ := RA.out
    go_wp2_with fail
    refine (HD.out _).mono ?_
    rintro e w5 ⟨rfl, hg⟩
    have R := Lib.hid (RA.out.grown hg)
    have G := Lib.hid (grown_trans GA.out hg)
    have m0 := hg.cell m0 (by simp)
    have m1 := hg.cell m1 (by simp)
    clear hg
    clear k0 k1 k2 k3 k4 z0 z1 z2 z3
    obtain ⟨k0, k1, k2, k3, k4, z0, z1, z2, z3⟩ := R.out
    obtain ⟨q0, q1⟩ := stored2 w5 (w.heap.size + 1 + 1) (.int .i64 (0)) (.int .i64 (0)) z0 z1
    go_wp2
    refine bodyPost_ret (v := rdv (0, 0, 4)) (by simp [results, Try.results14, go_sem, q0, q1, rdv, cv]) rfl ⟨rfl, stored2_grown _ _ G.out (by omega)⟩
  · have GA := Lib.hid (stored2_grown (.int .i64 n) (.int .i64 (q + st)) (grown_trans G.out hgs.out) (show w.heap.size ≤ w3.heap.size from G.out.size))
    have RA := Lib.hid ((R.out.grown hgs.out).stored2 (.int .i64 n) (.int .i64 (q + st)) HX.out)
    obtain ⟨m0, m1⟩ := stored2 w4 w3.heap.size (.int .i64 n) (.int .i64 (q + st)) m0 m1
    clear k0 k1 k2 k3 k4 z0 z1 z2 z3 n0 n1 n2 f0 f1 HK
    generalize ((w4.setCell ⟨w3.heap.size, 0, none⟩ (.int .i64 n)).setCell ⟨w3.heap.size, 1, none⟩ (.int .i64 (q + st))) = W4 at *
    obtain ⟨k0, k1, k2, k3, k4, z0, z1, z2, z3⟩ := RA.out
    go_wp2_with fail
    refine (HD.out _).mono ?_
    rintro e w5 ⟨rfl, hg⟩
    have R := Lib.hid (RA.out.grown hg)
    have G := Lib.hid (grown_trans GA.out hg)
    have m0 := hg.cell m0 (by simp)
    have m1 := hg.cell m1 (by simp)
    clear hg
    clear k0 k1 k2 k3 k4 z0 z1 z2 z3
    obtain ⟨k0, k1, k2, k3, k4, z0, z1, z2, z3⟩ := R.out
    obtain ⟨q0, q1⟩ := stored2 w5 (w.heap.size + 1 + 1) (.int .i64 (0)) (.int .i64 (0)) z0 z1
    go_wp2
    refine bodyPost_ret (v := rdv (0, 0, 4)) (by simp [results, Try.results14, go_sem, q0, q1, rdv, cv]) rfl ⟨rfl, stored2_grown _ _ G.out (by omega)⟩

theorem read_any (p b f l q n : Int) (w : World) :
    Calls Try.prog 14 #[mv p b f, cv l q, .int .i64 n] w (Ret (rdv (rd p b f l q n)) w) := by
  unfold rd
  cases h : Mt.valid p b f
  · exact read_inv p b f l q n w h
  · cases hc : Mt.isC b l q
    · exact read_count p b f l q n w h hc
    · cases hr : isR b n
      · rcases isR_false hr with h1 | h1
        · exact read_neg p b f l q n w h hc h1
        · by_cases h0 : n < 0
          · exact read_neg p b f l q n w h hc h0
          · exact read_high p b f l q n w h hc (by omega) h1
      · obtain ⟨h1, h2⟩ := isR_true hr
        by_cases hs : q + Mt.step b l n ≤ 1099511627776
        · rw [if_pos rfl, if_pos rfl, if_pos rfl, if_pos hs]
          exact read_ok p b f l q n _ w h hc h1 h2 rfl hs
        · rw [if_pos rfl, if_pos rfl, if_pos rfl, if_neg hs]
          exact read_limit p b f l q n _ w h hc h1 h2 rfl (by omega)
end Go.Proofs.Ytilchmlbihffdaa
