/- Contract of the reference's Read: where the counter has not begun anew. -/
import Derived.Test.YtilchmlbihffdaaMq
namespace Go.Proofs.Ytilchmlbihffdaa
open Go.ChangeShapes Go.WideShapes Go.ChangeAt Go.RowKit

set_option maxHeartbeats 600000 in
theorem rread_up (p b f l q n : Int) (w : World) (h : Mt.valid p b f = true) (hc : Mt.isC b l q = true) (hn : isR b n = true) (hl : ¬ n < l) (hm : ¬ 1099511627776 < q + n - l) :
    Calls Try.prog 15 #[mv p b f, cv l q, .int .i64 n] w (Ret (rdv (n, q + n - l, 0)) w) := by
  have HV := Lib.hid (fun w => refValid_yes p b f w h)
  obtain ⟨_, _, hb, _, _⟩ := Mt.valid_true h
  obtain ⟨c1, c2, c3, c4⟩ := Mt.isC_true hc
  obtain ⟨r1, r2⟩ := isR_true hn
  have HC := Lib.hid (fun w => rcount_any p b f l q w hb)
  have HR := Lib.hid (fun w => rreading_any p b f n w hb)
  rw [hc] at HC
  rw [hn] at HR
  have hs : Mt.span b ≤ 4294967296 := by
    rcases Mt.span_cases hb with ⟨_, e⟩ | ⟨_, e⟩ <;> omega
  clear h hc hn
  clear hb
  unfold mv cv
  go_enter Try.func15, Try.ntmps15
  go_wp2_with fail
  refine (HV.out _).mono ?_
  rintro e w1 ⟨rfl, hg⟩
  have R := Lib.hid ((RW.start w p b f l q).grown hg)
  have G := Lib.hid (grown_trans (start_grown _ _ _ _) hg)
  clear hg
  obtain ⟨k0, k1, k2, k3, k4, z0, z1, z2, z3⟩ := R.out
  go_wp2_with fail
  refine (HC.out _).mono ?_
  rintro e w2 ⟨rfl, hg⟩
  have R := Lib.hid (R.out.grown hg)
  have G := Lib.hid (grown_trans G.out hg)
  clear hg
  clear k0 k1 k2 k3 k4 z0 z1 z2 z3
  obtain ⟨k0, k1, k2, k3, k4, z0, z1, z2, z3⟩ := R.out
  go_wp2_with fail
  refine (HR.out _).mono ?_
  rintro e w3 ⟨rfl, hg⟩
  have R := Lib.hid (R.out.grown hg)
  have G := Lib.hid (grown_trans G.out hg)
  clear hg
  clear k0 k1 k2 k3 k4 z0 z1 z2 z3
  obtain ⟨k0, k1, k2, k3, k4, z0, z1, z2, z3⟩ := R.out
  have G := Lib.hid (grown_trans G.out (World.grownBy_alloc w3 (Obj.cells #[.int .i64 n, .int .i64 (q + n - l)] 25) none))
  have HX := Lib.hid (World.block_lt_of_cell? _ _ R.out.2.2.2.2.2.1)
  obtain ⟨k0, k1, k2, k3, k4, z0, z1, z2, z3⟩ := R.out.grown (World.grownBy_alloc w3 (Obj.cells #[.int .i64 n, .int .i64 (q + n - l)] 25) none)
  have m0 : (w3.alloc (Obj.cells #[.int .i64 n, .int .i64 (q + n - l)] 25)).cell? ⟨w3.heap.size, 0, none⟩ = some (.int .i64 n) := by simp
  have m1 : (w3.alloc (Obj.cells #[.int .i64 n, .int .i64 (q + n - l)] 25)).cell? ⟨w3.heap.size, 1, none⟩ = some (.int .i64 (q + n - l)) := by simp
  obtain ⟨q0, q1⟩ := stored2 (w3.alloc (Obj.cells #[.int .i64 n, .int .i64 (q + n - l)] 25)) (w.heap.size + 1 + 1) (.int .i64 (n)) (.int .i64 (q + n - l)) z0 z1
  go_wp2
  refine bodyPost_ret (v := rdv (n, q + n - l, 0)) (by simp [results, Try.results15, go_sem, q0, q1, rdv, cv]) rfl ⟨rfl, stored2_grown _ _ G.out (by omega)⟩

set_option maxHeartbeats 600000 in
theorem rread_up_limit (p b f l q n : Int) (w : World) (h : Mt.valid p b f = true) (hc : Mt.isC b l q = true) (hn : isR b n = true) (hl : ¬ n < l) (hm : 1099511627776 < q + n - l) :
    Calls Try.prog 15 #[mv p b f, cv l q, .int .i64 n] w (Ret (rdv (0, 0, 4)) w) := by
  have HV := Lib.hid (fun w => refValid_yes p b f w h)
  obtain ⟨_, _, hb, _, _⟩ := Mt.valid_true h
  obtain ⟨c1, c2, c3, c4⟩ := Mt.isC_true hc
  obtain ⟨r1, r2⟩ := isR_true hn
  have HC := Lib.hid (fun w => rcount_any p b f l q w hb)
  have HR := Lib.hid (fun w => rreading_any p b f n w hb)
  rw [hc] at HC
  rw [hn] at HR
  have hs : Mt.span b ≤ 4294967296 := by
    rcases Mt.span_cases hb with ⟨_, e⟩ | ⟨_, e⟩ <;> omega
  clear h hc hn
  clear hb
  unfold mv cv
  go_enter Try.func15, Try.ntmps15
  go_wp2_with fail
  refine (HV.out _).mono ?_
  rintro e w1 ⟨rfl, hg⟩
  have R := Lib.hid ((RW.start w p b f l q).grown hg)
  have G := Lib.hid (grown_trans (start_grown _ _ _ _) hg)
  clear hg
  obtain ⟨k0, k1, k2, k3, k4, z0, z1, z2, z3⟩ := R.out
  go_wp2_with fail
  refine (HC.out _).mono ?_
  rintro e w2 ⟨rfl, hg⟩
  have R := Lib.hid (R.out.grown hg)
  have G := Lib.hid (grown_trans G.out hg)
  clear hg
  clear k0 k1 k2 k3 k4 z0 z1 z2 z3
  obtain ⟨k0, k1, k2, k3, k4, z0, z1, z2, z3⟩ := R.out
  go_wp2_with fail
  refine (HR.out _).mono ?_
  rintro e w3 ⟨rfl, hg⟩
  have R := Lib.hid (R.out.grown hg)
  have G := Lib.hid (grown_trans G.out hg)
  clear hg
  clear k0 k1 k2 k3 k4 z0 z1 z2 z3
  obtain ⟨k0, k1, k2, k3, k4, z0, z1, z2, z3⟩ := R.out
  have G := Lib.hid (grown_trans G.out (World.grownBy_alloc w3 (Obj.cells #[.int .i64 n, .int .i64 (q + n - l)] 25) none))
  have HX := Lib.hid (World.block_lt_of_cell? _ _ R.out.2.2.2.2.2.1)
  obtain ⟨k0, k1, k2, k3, k4, z0, z1, z2, z3⟩ := R.out.grown (World.grownBy_alloc w3 (Obj.cells #[.int .i64 n, .int .i64 (q + n - l)] 25) none)
  have m0 : (w3.alloc (Obj.cells #[.int .i64 n, .int .i64 (q + n - l)] 25)).cell? ⟨w3.heap.size, 0, none⟩ = some (.int .i64 n) := by simp
  have m1 : (w3.alloc (Obj.cells #[.int .i64 n, .int .i64 (q + n - l)] 25)).cell? ⟨w3.heap.size, 1, none⟩ = some (.int .i64 (q + n - l)) := by simp
  obtain ⟨q0, q1⟩ := stored2 (w3.alloc (Obj.cells #[.int .i64 n, .int .i64 (q + n - l)] 25)) (w.heap.size + 1 + 1) (.int .i64 (0)) (.int .i64 (0)) z0 z1
  go_wp2
  refine bodyPost_ret (v := rdv (0, 0, 4)) (by simp [results, Try.results15, go_sem, q0, q1, rdv, cv]) rfl ⟨rfl, stored2_grown _ _ G.out (by omega)⟩
end Go.Proofs.Ytilchmlbihffdaa
