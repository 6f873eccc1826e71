/- Contract of the reference's Read: where the counter has begun anew. -/
import Derived.Test.YtilchmlbihffdaaMq2
import Derived.RegionTactic
namespace Go.Proofs.Ytilchmlbihffdaa
open Go.ChangeShapes Go.WideShapes Go.ChangeAt Go.RowKit

set_option maxHeartbeats 600000 in
theorem rread_on (p b f l q n : Int) (w : World) (h : Mt.valid p b f = true) (hc : Mt.isC b l q = true) (hn : isR b n = true) (hl : n < l) (hm : ¬ 1099511627776 < q + n - l + Mt.span b) :
    Calls Try.prog 15 #[mv p b f, cv l q, .int .i64 n] w (Ret (rdv (n, q + n - l + Mt.span b, 0)) w) := by
  have HV := Lib.hid (fun w => refValid_yes p b f w h)
  obtain ⟨_, _, hb, _, _⟩ := Mt.valid_true h
  obtain ⟨c1, c2, c3, c4⟩ := Mt.isC_true hc
  obtain ⟨r1, r2⟩ := isR_true hn
  have HC := Lib.hid (fun w => rcount_any p b f l q w hb)
  have HR := Lib.hid (fun w => rreading_any p b f n w hb)
  rw [hc] at HC
  rw [hn] at HR
  have hs : Mt.span b ≤ 4294967296 := by
    rcases Mt.span_cases hb with ⟨_, e⟩ | ⟨_, e⟩ <;> omega
  clear h hc hn
  rcases Mt.span_cases hb with ⟨rfl, hsp⟩ | ⟨rfl, hsp⟩
  · rw [hsp] at c2 r2 hm ⊢
    clear hb hsp hs
    unfold mv cv
    go_enter Try.func15, Try.ntmps15
    go_wp2_with fail
    refine (HV.out _).mono ?_
    rintro e w1 ⟨rfl, hg⟩
    have R := Lib.hid ((RW.start _ _ _ _ _ _).grown hg)
    have G := Lib.hid (grown_trans (start_grown _ _ _ _) hg)
    clear hg
    obtain ⟨k0, k1, k2, k3, k4, z0, z1, z2, z3⟩ := R.out
    go_wp2_with fail
    refine (HC.out _).mono ?_
    rintro e w2 ⟨rfl, hg⟩
    have R := Lib.hid (R.out.grown hg)
    have G := Lib.hid (grown_trans G.out hg)
    clear hg
    clear k0 k1 k2 k3 k4 z0 z1 z2 z3
    obtain ⟨k0, k1, k2, k3, k4, z0, z1, z2, z3⟩ := R.out
    go_wp2_with fail
    refine (HR.out _).mono ?_
    rintro e w3 ⟨rfl, hg⟩
    have R := Lib.hid (R.out.grown hg)
    have G := Lib.hid (grown_trans G.out hg)
    clear hg
    have GB := G
    clear k0 k1 k2 k3 k4 z0 z1 z2 z3
    obtain ⟨k0, k1, k2, k3, k4, z0, z1, z2, z3⟩ := R.out
    have G := Lib.hid (grown_trans G.out (World.grownBy_alloc w3 (Obj.cells #[.int .i64 n, .int .i64 (q + n - l)] 25) none))
    have HX := Lib.hid (World.block_lt_of_cell? _ _ R.out.2.2.2.2.2.1)
    obtain ⟨k0, k1, k2, k3, k4, z0, z1, z2, z3⟩ := R.out.grown (World.grownBy_alloc w3 (Obj.cells #[.int .i64 n, .int .i64 (q + n - l)] 25) none)
    have m0 : (w3.alloc (Obj.cells #[.int .i64 n, .int .i64 (q + n - l)] 25)).cell? ⟨w3.heap.size, 0, none⟩ = some (.int .i64 n) := by simp
    have m1 : (w3.alloc (Obj.cells #[.int .i64 n, .int .i64 (q + n - l)] 25)).cell? ⟨w3.heap.size, 1, none⟩ = some (.int .i64 (q + n - l)) := by simp
    go_wp2
    go_region
    have gX := Lib.hid (show w3.grownBy ((w3.alloc (Obj.cells #[.int .i64 n, .int .i64 (q + n - l + 65536)] 25)).drew) none from grown_trans (World.grownBy_alloc w3 (Obj.cells #[.int .i64 n, .int .i64 (q + n - l + 65536)] 25) none) (grown_drewN _ 1 none))
    have G := Lib.hid (grown_trans GB.out gX.out)
    clear k0 k1 k2 k3 k4 z0 z1 z2 z3 m0 m1
    obtain ⟨k0, k1, k2, k3, k4, z0, z1, z2, z3⟩ := R.out.grown gX.out
    have m0 : ((w3.alloc (Obj.cells #[.int .i64 n, .int .i64 (q + n - l + 65536)] 25)).drew).cell? ⟨w3.heap.size, 0, none⟩ = some (.int .i64 n) := by simp
    have m1 : ((w3.alloc (Obj.cells #[.int .i64 n, .int .i64 (q + n - l + 65536)] 25)).drew).cell? ⟨w3.heap.size, 1, none⟩ = some (.int .i64 (q + n - l + 65536)) := by simp
    generalize (w3.alloc (Obj.cells #[.int .i64 n, .int .i64 (q + n - l + 65536)] 25)).drew = W4 at *
    obtain ⟨q0, q1⟩ := stored2 W4 (w.heap.size + 1 + 1) (.int .i64 (n)) (.int .i64 (q + n - l + 65536)) z0 z1
    go_wp2
    refine bodyPost_ret (v := rdv (n, q + n - l + 65536, 0)) (by simp [results, Try.results15, go_sem, q0, q1, rdv, cv]) rfl ⟨rfl, stored2_grown _ _ G.out (by omega)⟩
  · rw [hsp] at c2 r2 hm ⊢
    clear hb hsp hs
    unfold mv cv
    go_enter Try.func15, Try.ntmps15
    go_wp2_with fail
    refine (HV.out _).mono ?_
    rintro e w1 ⟨rfl, hg⟩
    have R := Lib.hid ((RW.start _ _ _ _ _ _).grown hg)
    have G := Lib.hid (grown_trans (start_grown _ _ _ _) hg)
    clear hg
    obtain ⟨k0, k1, k2, k3, k4, z0, z1, z2, z3⟩ := R.out
    go_wp2_with fail
    refine (HC.out _).mono ?_
    rintro e w2 ⟨rfl, hg⟩
    have R := Lib.hid (R.out.grown hg)
    have G := Lib.hid (grown_trans G.out hg)
    clear hg
    clear k0 k1 k2 k3 k4 z0 z1 z2 z3
    obtain ⟨k0, k1, k2, k3, k4, z0, z1, z2, z3⟩ := R.out
    go_wp2_with fail
    refine (HR.out _).mono ?_
    rintro e w3 ⟨rfl, hg⟩
    have R := Lib.hid (R.out.grown hg)
    have G := Lib.hid (grown_trans G.out hg)
    clear hg
    have GB := G
    clear k0 k1 k2 k3 k4 z0 z1 z2 z3
    obtain ⟨k0, k1, k2, k3, k4, z0, z1, z2, z3⟩ := R.out
    have G := Lib.hid (grown_trans G.out (World.grownBy_alloc w3 (Obj.cells #[.int .i64 n, .int .i64 (q + n - l)] 25) none))
    have HX := Lib.hid (World.block_lt_of_cell? _ _ R.out.2.2.2.2.2.1)
    obtain ⟨k0, k1, k2, k3, k4, z0, z1, z2, z3⟩ := R.out.grown (World.grownBy_alloc w3 (Obj.cells #[.int .i64 n, .int .i64 (q + n - l)] 25) none)
    have m0 : (w3.alloc (Obj.cells #[.int .i64 n, .int .i64 (q + n - l)] 25)).cell? ⟨w3.heap.size, 0, none⟩ = some (.int .i64 n) := by simp
    have m1 : (w3.alloc (Obj.cells #[.int .i64 n, .int .i64 (q + n - l)] 25)).cell? ⟨w3.heap.size, 1, none⟩ = some (.int .i64 (q + n - l)) := by simp
    go_wp2
    go_region
    have gX := Lib.hid (show w3.grownBy ((w3.alloc (Obj.cells #[.int .i64 n, .int .i64 (q + n - l + 4294967296)] 25)).drew) none from grown_trans (World.grownBy_alloc w3 (Obj.cells #[.int .i64 n, .int .i64 (q + n - l + 4294967296)] 25) none) (grown_drewN _ 1 none))
    have G := Lib.hid (grown_trans GB.out gX.out)
    clear k0 k1 k2 k3 k4 z0 z1 z2 z3 m0 m1
    obtain ⟨k0, k1, k2, k3, k4, z0, z1, z2, z3⟩ := R.out.grown gX.out
    have m0 : ((w3.alloc (Obj.cells #[.int .i64 n, .int .i64 (q + n - l + 4294967296)] 25)).drew).cell? ⟨w3.heap.size, 0, none⟩ = some (.int .i64 n) := by simp
    have m1 : ((w3.alloc (Obj.cells #[.int .i64 n, .int .i64 (q + n - l + 4294967296)] 25)).drew).cell? ⟨w3.heap.size, 1, none⟩ = some (.int .i64 (q + n - l + 4294967296)) := by simp
    generalize (w3.alloc (Obj.cells #[.int .i64 n, .int .i64 (q + n - l + 4294967296)] 25)).drew = W4 at *
    obtain ⟨q0, q1⟩ := stored2 W4 (w.heap.size + 1 + 1) (.int .i64 (n)) (.int .i64 (q + n - l + 4294967296)) z0 z1
    go_wp2
    refine bodyPost_ret (v := rdv (n, q + n - l + 4294967296, 0)) (by simp [results, Try.results15, go_sem, q0, q1, rdv, cv]) rfl ⟨rfl, stored2_grown _ _ G.out (by omega)⟩

set_option maxHeartbeats 600000 in
theorem rread_on_limit (p b f l q n : Int) (w : World) (h : Mt.valid p b f = true) (hc : Mt.isC b l q = true) (hn : isR b n = true) (hl : n < l) (hm : 1099511627776 < q + n - l + Mt.span b) :
    Calls Try.prog 15 #[mv p b f, cv l q, .int .i64 n] w (Ret (rdv (0, 0, 4)) w) := by
  have HV := Lib.hid (fun w => refValid_yes p b f w h)
  obtain ⟨_, _, hb, _, _⟩ := Mt.valid_true h
  obtain ⟨c1, c2, c3, c4⟩ := Mt.isC_true hc
  obtain ⟨r1, r2⟩ := isR_true hn
  have HC := Lib.hid (fun w => rcount_any p b f l q w hb)
  have HR := Lib.hid (fun w => rreading_any p b f n w hb)
  rw [hc] at HC
  rw [hn] at HR
  have hs : Mt.span b ≤ 4294967296 := by
    rcases Mt.span_cases hb with ⟨_, e⟩ | ⟨_, e⟩ <;> omega
  clear h hc hn
  rcases Mt.span_cases hb with ⟨rfl, hsp⟩ | ⟨rfl, hsp⟩
  · rw [hsp] at c2 r2 hm
    clear hb hsp hs
    unfold mv cv
    go_enter Try.func15, Try.ntmps15
    go_wp2_with fail
    refine (HV.out _).mono ?_
    rintro e w1 ⟨rfl, hg⟩
    have R := Lib.hid ((RW.start _ _ _ _ _ _).grown hg)
    have G := Lib.hid (grown_trans (start_grown _ _ _ _) hg)
    clear hg
    obtain ⟨k0, k1, k2, k3, k4, z0, z1, z2, z3⟩ := R.out
    go_wp2_with fail
    refine (HC.out _).mono ?_
    rintro e w2 ⟨rfl, hg⟩
    have R := Lib.hid (R.out.grown hg)
    have G := Lib.hid (grown_trans G.out hg)
    clear hg
    clear k0 k1 k2 k3 k4 z0 z1 z2 z3
    obtain ⟨k0, k1, k2, k3, k4, z0, z1, z2, z3⟩ := R.out
    go_wp2_with fail
    refine (HR.out _).mono ?_
    rintro e w3 ⟨rfl, hg⟩
    have R := Lib.hid (R.out.grown hg)
    have G := Lib.hid (grown_trans G.out hg)
    clear hg
    have GB := G
    clear k0 k1 k2 k3 k4 z0 z1 z2 z3
    obtain ⟨k0, k1, k2, k3, k4, z0, z1, z2, z3⟩ := R.out
    have G := Lib.hid (grown_trans G.out (World.grownBy_alloc w3 (Obj.cells #[.int .i64 n, .int .i64 (q + n - l)] 25) none))
    have HX := Lib.hid (World.block_lt_of_cell? _ _ R.out.2.2.2.2.2.1)
    obtain ⟨k0, k1, k2, k3, k4, z0, z1, z2, z3⟩ := R.out.grown (World.grownBy_alloc w3 (Obj.cells #[.int .i64 n, .int .i64 (q + n - l)] 25) none)
    have m0 : (w3.alloc (Obj.cells #[.int .i64 n, .int .i64 (q + n - l)] 25)).cell? ⟨w3.heap.size, 0, none⟩ = some (.int .i64 n) := by simp
    have m1 : (w3.alloc (Obj.cells #[.int .i64 n, .int .i64 (q + n - l)] 25)).cell? ⟨w3.heap.size, 1, none⟩ = some (.int .i64 (q + n - l)) := by simp
    go_wp2
    go_region
    have gX := Lib.hid (show w3.grownBy ((w3.alloc (Obj.cells #[.int .i64 n, .int .i64 (q + n - l + 65536)] 25)).drew) none from grown_trans (World.grownBy_alloc w3 (Obj.cells #[.int .i64 n, .int .i64 (q + n - l + 65536)] 25) none) (grown_drewN _ 1 none))
    have G := Lib.hid (grown_trans GB.out gX.out)
    clear k0 k1 k2 k3 k4 z0 z1 z2 z3 m0 m1
    obtain ⟨k0, k1, k2, k3, k4, z0, z1, z2, z3⟩ := R.out.grown gX.out
    have m0 : ((w3.alloc (Obj.cells #[.int .i64 n, .int .i64 (q + n - l + 65536)] 25)).drew).cell? ⟨w3.heap.size, 0, none⟩ = some (.int .i64 n) := by simp
    have m1 : ((w3.alloc (Obj.cells #[.int .i64 n, .int .i64 (q + n - l + 65536)] 25)).drew).cell? ⟨w3.heap.size, 1, none⟩ = some (.int .i64 (q + n - l + 65536)) := by simp
    generalize (w3.alloc (Obj.cells #[.int .i64 n, .int .i64 (q + n - l + 65536)] 25)).drew = W4 at *
    obtain ⟨q0, q1⟩ := stored2 W4 (w.heap.size + 1 + 1) (.int .i64 (0)) (.int .i64 (0)) z0 z1
    go_wp2
    refine bodyPost_ret (v := rdv (0, 0, 4)) (by simp [results, Try.results15, go_sem, q0, q1, rdv, cv]) rfl ⟨rfl, stored2_grown _ _ G.out (by omega)⟩
  · rw [hsp] at c2 r2 hm
    clear hb hsp hs
    unfold mv cv
    go_enter Try.func15, Try.ntmps15
    go_wp2_with fail
    refine (HV.out _).mono ?_
    rintro e w1 ⟨rfl, hg⟩
    have R := Lib.hid ((RW.start _ _ _ _ _ _).grown hg)
    have G := Lib.hid (grown_trans (start_grown _ _ _ _) hg)
    clear hg
    obtain ⟨k0, k1, k2, k3, k4, z0, z1, z2, z3⟩ := R.out
    go_wp2_with fail
    refine (HC.out _).mono ?_
    rintro e w2 ⟨rfl, hg⟩
    have R := Lib.hid (R.out.grown hg)
    have G := Lib.hid (grown_trans G.out hg)
    clear hg
    clear k0 k1 k2 k3 k4 z0 z1 z2 z3
    obtain ⟨k0, k1, k2, k3, k4, z0, z1, z2, z3⟩ := R.out
    go_wp2_with fail
    refine (HR.out _).mono ?_
    rintro e w3 ⟨rfl, hg⟩
    have R := Lib.hid (R.out.grown hg)
    have G := Lib.hid (grown_trans G.out hg)
    clear hg
    have GB := G
    clear k0 k1 k2 k3 k4 z0 z1 z2 z3
    obtain ⟨k0, k1, k2, k3, k4, z0, z1, z2, z3⟩ := R.out
    have G := Lib.hid (grown_trans G.out (World.grownBy_alloc w3 (Obj.cells #[.int .i64 n, .int .i64 (q + n - l)] 25) none))
    have HX := Lib.hid (World.block_lt_of_cell? _ _ R.out.2.2.2.2.2.1)
    obtain ⟨k0, k1, k2, k3, k4, z0, z1, z2, z3⟩ := R.out.grown (World.grownBy_alloc w3 (Obj.cells #[.int .i64 n, .int .i64 (q + n - l)] 25) none)
    have m0 : (w3.alloc (Obj.cells #[.int .i64 n, .int .i64 (q + n - l)] 25)).cell? ⟨w3.heap.size, 0, none⟩ = some (.int .i64 n) := by simp
    have m1 : (w3.alloc (Obj.cells #[.int .i64 n, .int .i64 (q + n - l)] 25)).cell? ⟨w3.heap.size, 1, none⟩ = some (.int .i64 (q + n - l)) := by simp
    go_wp2
    go_region
    have gX := Lib.hid (show w3.grownBy ((w3.alloc (Obj.cells #[.int .i64 n, .int .i64 (q + n - l + 4294967296)] 25)).drew) none from grown_trans (World.grownBy_alloc w3 (Obj.cells #[.int .i64 n, .int .i64 (q + n - l + 4294967296)] 25) none) (grown_drewN _ 1 none))
    have G := Lib.hid (grown_trans GB.out gX.out)
    clear k0 k1 k2 k3 k4 z0 z1 z2 z3 m0 m1
    obtain ⟨k0, k1, k2, k3, k4, z0, z1, z2, z3⟩ := R.out.grown gX.out
    have m0 : ((w3.alloc (Obj.cells #[.int .i64 n, .int .i64 (q + n - l + 4294967296)] 25)).drew).cell? ⟨w3.heap.size, 0, none⟩ = some (.int .i64 n) := by simp
    have m1 : ((w3.alloc (Obj.cells #[.int .i64 n, .int .i64 (q + n - l + 4294967296)] 25)).drew).cell? ⟨w3.heap.size, 1, none⟩ = some (.int .i64 (q + n - l + 4294967296)) := by simp
    generalize (w3.alloc (Obj.cells #[.int .i64 n, .int .i64 (q + n - l + 4294967296)] 25)).drew = W4 at *
    obtain ⟨q0, q1⟩ := stored2 W4 (w.heap.size + 1 + 1) (.int .i64 (0)) (.int .i64 (0)) z0 z1
    go_wp2
    refine bodyPost_ret (v := rdv (0, 0, 4)) (by simp [results, Try.results15, go_sem, q0, q1, rdv, cv]) rfl ⟨rfl, stored2_grown _ _ G.out (by omega)⟩

theorem rread_any (p b f l q n : Int) (w : World) :
    Calls Try.prog 15 #[mv p b f, cv l q, .int .i64 n] w (Ret (rdv (rd p b f l q n)) w) := by
  unfold rd
  cases h : Mt.valid p b f
  · exact rread_inv p b f l q n w h
  · cases hc : Mt.isC b l q
    · exact rread_count p b f l q n w h hc
    · cases hr : isR b n
      · exact rread_range p b f l q n w h hc hr
      · rw [if_pos rfl, if_pos rfl, if_pos rfl]
        by_cases hl : n < l
        · have e : q + Mt.step b l n = q + n - l + Mt.span b := by unfold Mt.step; rw [if_pos (by omega)]; omega
          rw [e]
          by_cases hs : q + n - l + Mt.span b ≤ 1099511627776
          · rw [if_pos hs]
            exact rread_on p b f l q n w h hc hr hl (by omega)
          · rw [if_neg hs]
            exact rread_on_limit p b f l q n w h hc hr hl (by omega)
        · have e : q + Mt.step b l n = q + n - l := by unfold Mt.step; rw [if_neg (by omega)]; omega
          rw [e]
          by_cases hs : q + n - l ≤ 1099511627776
          · rw [if_pos hs]
            exact rread_up p b f l q n w h hc hr hl (by omega)
          · rw [if_neg hs]
            exact rread_up_limit p b f l q n w h hc hr hl (by omega)
end Go.Proofs.Ytilchmlbihffdaa
