/- Contract of the reference's Read: what is refused. -/
import Derived.Test.YtilchmlbihffdaaMb
namespace Go.Proofs.Ytilchmlbihffdaa
open Go.ChangeShapes Go.WideShapes Go.ChangeAt Go.RowKit

theorem rread_inv (p b f l q n : Int) (w : World) (h : Mt.valid p b f = false) :
    Calls Try.prog 15 #[mv p b f, cv l q, .int .i64 n] w (Ret (rdv (0, 0, 9)) w) := by
  have HV := Lib.hid (fun w => refValid_no p b f w h)
  clear h
  unfold mv cv
  go_enter Try.func15, Try.ntmps15
  go_wp2_with fail
  refine (HV.out _).mono ?_
  rintro e w1 ⟨rfl, hg⟩
  have R := Lib.hid ((RW.start w p b f l q).grown hg)
  have G := Lib.hid (grown_trans (start_grown _ _ _ _) hg)
  clear hg
  obtain ⟨k0, k1, k2, k3, k4, z0, z1, z2, z3⟩ := R.out
  obtain ⟨q0, q1⟩ := stored2 w1 (w.heap.size + 1 + 1) (.int .i64 (0)) (.int .i64 (0)) z0 z1
  go_wp2
  refine bodyPost_ret (v := rdv (0, 0, 9)) (by simp [results, Try.results15, go_sem, q0, q1, rdv, cv]) rfl ⟨rfl, stored2_grown _ _ G.out (by omega)⟩

theorem rread_count (p b f l q n : Int) (w : World) (h : Mt.valid p b f = true) (hc : Mt.isC b l q = false) :
    Calls Try.prog 15 #[mv p b f, cv l q, .int .i64 n] w (Ret (rdv (0, 0, 9)) w) := by
  have HV := Lib.hid (fun w => refValid_yes p b f w h)
  obtain ⟨_, _, hb, _, _⟩ := Mt.valid_true h
  have HC := Lib.hid (fun w => rcount_any p b f l q w hb)
  rw [hc] at HC
  clear h hb hc
  unfold mv cv
  go_enter Try.func15, Try.ntmps15
  go_wp2_with fail
  refine (HV.out _).mono ?_
  rintro e w1 ⟨rfl, hg⟩
  have R := Lib.hid ((RW.start w p b f l q).grown hg)
  have G := Lib.hid (grown_trans (start_grown _ _ _ _) hg)
  clear hg
  obtain ⟨k0, k1, k2, k3, k4, z0, z1, z2, z3⟩ := R.out
  go_wp2_with fail
  refine (HC.out _).mono ?_
  rintro e w2 ⟨rfl, hg⟩
  have R := Lib.hid (R.out.grown hg)
  have G := Lib.hid (grown_trans G.out hg)
  clear hg
  clear k0 k1 k2 k3 k4 z0 z1 z2 z3
  obtain ⟨k0, k1, k2, k3, k4, z0, z1, z2, z3⟩ := R.out
  obtain ⟨q0, q1⟩ := stored2 w2 (w.heap.size + 1 + 1) (.int .i64 (0)) (.int .i64 (0)) z0 z1
  go_wp2
  refine bodyPost_ret (v := rdv (0, 0, 9)) (by simp [results, Try.results15, go_sem, q0, q1, rdv, cv]) rfl ⟨rfl, stored2_grown _ _ G.out (by omega)⟩

theorem rread_range (p b f l q n : Int) (w : World) (h : Mt.valid p b f = true) (hc : Mt.isC b l q = true) (hn : isR b n = false) :
    Calls Try.prog 15 #[mv p b f, cv l q, .int .i64 n] w (Ret (rdv (0, 0, 1)) w) := by
  have HV := Lib.hid (fun w => refValid_yes p b f w h)
  obtain ⟨_, _, hb, _, _⟩ := Mt.valid_true h
  have HC := Lib.hid (fun w => rcount_any p b f l q w hb)
  have HR := Lib.hid (fun w => rreading_any p b f n w hb)
  rw [hc] at HC
  rw [hn] at HR
  clear h hb hc hn
  unfold mv cv
  go_enter Try.func15, Try.ntmps15
  go_wp2_with fail
  refine (HV.out _).mono ?_
  rintro e w1 ⟨rfl, hg⟩
  have R := Lib.hid ((RW.start w p b f l q).grown hg)
  have G := Lib.hid (grown_trans (start_grown _ _ _ _) hg)
  clear hg
  obtain ⟨k0, k1, k2, k3, k4, z0, z1, z2, z3⟩ := R.out
  go_wp2_with fail
  refine (HC.out _).mono ?_
  rintro e w2 ⟨rfl, hg⟩
  have R := Lib.hid (R.out.grown hg)
  have G := Lib.hid (grown_trans G.out hg)
  clear hg
  clear k0 k1 k2 k3 k4 z0 z1 z2 z3
  obtain ⟨k0, k1, k2, k3, k4, z0, z1, z2, z3⟩ := R.out
  go_wp2_with fail
  refine (HR.out _).mono ?_
  rintro e w3 ⟨rfl, hg⟩
  have R := Lib.hid (R.out.grown hg)
  have G := Lib.hid (grown_trans G.out hg)
  clear hg
  clear k0 k1 k2 k3 k4 z0 z1 z2 z3
  obtain ⟨k0, k1, k2, k3, k4, z0, z1, z2, z3⟩ := R.out
  obtain ⟨q0, q1⟩ := stored2 w3 (w.heap.size + 1 + 1) (.int .i64 (0)) (.int .i64 (0)) z0 z1
  go_wp2
  refine bodyPost_ret (v := rdv (0, 0, 1)) (by simp [results, Try.results15, go_sem, q0, q1, rdv, cv]) rfl ⟨rfl, stored2_grown _ _ G.out (by omega)⟩
end Go.Proofs.Ytilchmlbihffdaa
