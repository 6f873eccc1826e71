/- Contract of meter.Read: what is refused ahead of the reckoning. -/
import Derived.Test.YtilchmlbihffdaaMs
namespace Go.Proofs.Ytilchmlbihffdaa
open Go.ChangeShapes Go.WideShapes Go.ChangeAt Go.RowKit

theorem read_count (p b f l q n : Int) (w : World) (h : Mt.valid p b f = true) (hc : Mt.isC b l q = false) :
    Calls Try.prog 14 #[mv p b f, cv l q, .int .i64 n] w (Ret (rdv (0, 0, 9)) w) := by
  have HV := Lib.hid (fun w => meterValid_yes p b f w h)
  obtain ⟨_, _, hb, _, _⟩ := Mt.valid_true h
  have HC := Lib.hid (fun w => isCount_no p b f l q w hb hc)
  clear h hb hc
  unfold mv cv
  go_enter Try.func14, Try.ntmps14
  go_wp2_with fail
  refine (HV.out _).mono ?_
  rintro e w1 ⟨rfl, hg⟩
  have R := Lib.hid ((RW.start w p b f l q).grown hg)
  have G := Lib.hid (grown_trans (start_grown _ _ _ _) hg)
  clear hg
  obtain ⟨k0, k1, k2, k3, k4, z0, z1, z2, z3⟩ := R.out
  go_wp2_with fail
  refine (HC.out _).mono ?_
  rintro e w2 ⟨rfl, hg⟩
  have R := Lib.hid (R.out.grown hg)
  have G := Lib.hid (grown_trans G.out hg)
  clear hg
  clear k0 k1 k2 k3 k4 z0 z1 z2 z3
  obtain ⟨k0, k1, k2, k3, k4, z0, z1, z2, z3⟩ := R.out
  obtain ⟨q0, q1⟩ := stored2 w2 (w.heap.size + 1 + 1) (.int .i64 (0)) (.int .i64 (0)) z0 z1
  go_wp2
  refine bodyPost_ret (v := rdv (0, 0, 9)) (by simp [results, Try.results14, go_sem, q0, q1, rdv, cv]) rfl ⟨rfl, stored2_grown _ _ G.out (by omega)⟩

theorem read_neg (p b f l q n : Int) (w : World) (h : Mt.valid p b f = true) (hc : Mt.isC b l q = true) (hn : n < 0) :
    Calls Try.prog 14 #[mv p b f, cv l q, .int .i64 n] w (Ret (rdv (0, 0, 1)) w) := by
  have HV := Lib.hid (fun w => meterValid_yes p b f w h)
  obtain ⟨_, _, hb, _, _⟩ := Mt.valid_true h
  have HC := Lib.hid (fun w => isCount_yes p b f l q w hb hc)
  clear h hb hc
  unfold mv cv
  go_enter Try.func14, Try.ntmps14
  go_wp2_with fail
  refine (HV.out _).mono ?_
  rintro e w1 ⟨rfl, hg⟩
  have R := Lib.hid ((RW.start w p b f l q).grown hg)
  have G := Lib.hid (grown_trans (start_grown _ _ _ _) hg)
  clear hg
  obtain ⟨k0, k1, k2, k3, k4, z0, z1, z2, z3⟩ := R.out
  go_wp2_with fail
  refine (HC.out _).mono ?_
  rintro e w2 ⟨rfl, hg⟩
  have R := Lib.hid (R.out.grown hg)
  have G := Lib.hid (grown_trans G.out hg)
  clear hg
  clear k0 k1 k2 k3 k4 z0 z1 z2 z3
  obtain ⟨k0, k1, k2, k3, k4, z0, z1, z2, z3⟩ := R.out
  obtain ⟨q0, q1⟩ := stored2 w2 (w.heap.size + 1 + 1) (.int .i64 (0)) (.int .i64 (0)) z0 z1
  go_wp2
  refine bodyPost_ret (v := rdv (0, 0, 1)) (by simp [results, Try.results14, go_sem, q0, q1, rdv, cv]) rfl ⟨rfl, stored2_grown _ _ G.out (by omega)⟩

theorem read_high (p b f l q n : Int) (w : World) (h : Mt.valid p b f = true) (hc : Mt.isC b l q = true) (hn : 0 ≤ n) (hn2 : Mt.span b ≤ n) :
    Calls Try.prog 14 #[mv p b f, cv l q, .int .i64 n] w (Ret (rdv (0, 0, 1)) w) := by
  have HV := Lib.hid (fun w => meterValid_yes p b f w h)
  obtain ⟨_, _, hb, _, _⟩ := Mt.valid_true h
  have HC := Lib.hid (fun w => isCount_yes p b f l q w hb hc)
  have HR := Lib.hid (fun w => readings_any p b f w hb)
  generalize Mt.span b = sp at *
  clear h hb hc
  unfold mv cv
  go_enter Try.func14, Try.ntmps14
  go_wp2_with fail
  refine (HV.out _).mono ?_
  rintro e w1 ⟨rfl, hg⟩
  have R := Lib.hid ((RW.start w p b f l q).grown hg)
  have G := Lib.hid (grown_trans (start_grown _ _ _ _) hg)
  clear hg
  obtain ⟨k0, k1, k2, k3, k4, z0, z1, z2, z3⟩ := R.out
  go_wp2_with fail
  refine (HC.out _).mono ?_
  rintro e w2 ⟨rfl, hg⟩
  have R := Lib.hid (R.out.grown hg)
  have G := Lib.hid (grown_trans G.out hg)
  clear hg
  clear k0 k1 k2 k3 k4 z0 z1 z2 z3
  obtain ⟨k0, k1, k2, k3, k4, z0, z1, z2, z3⟩ := R.out
  go_wp2_with fail
  refine (HR.out _).mono ?_
  rintro e w3 ⟨rfl, hg⟩
  have R := Lib.hid (R.out.grown hg)
  have G := Lib.hid (grown_trans G.out hg)
  clear hg
  clear k0 k1 k2 k3 k4 z0 z1 z2 z3
  obtain ⟨k0, k1, k2, k3, k4, z0, z1, z2, z3⟩ := R.out
  obtain ⟨q0, q1⟩ := stored2 w3 (w.heap.size + 1 + 1) (.int .i64 (0)) (.int .i64 (0)) z0 z1
  go_wp2
  refine bodyPost_ret (v := rdv (0, 0, 1)) (by simp [results, Try.results14, go_sem, q0, q1, rdv, cv]) rfl ⟨rfl, stored2_grown _ _ G.out (by omega)⟩
end Go.Proofs.Ytilchmlbihffdaa
