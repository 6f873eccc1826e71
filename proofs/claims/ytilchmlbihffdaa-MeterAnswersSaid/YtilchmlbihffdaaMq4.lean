/- Contract of the reference's Between. -/
import Derived.Test.YtilchmlbihffdaaMq3
namespace Go.Proofs.Ytilchmlbihffdaa
open Go.ChangeShapes Go.WideShapes Go.ChangeAt Go.RowKit

theorem rcount_eq (p b f l q : Int) (w : World) (hb : b = 16 ∨ b = 32) {r : Bool} (h : Mt.isC b l q = r) :
    Calls Try.prog 26 #[mv p b f, cv l q] w (Ret (.bool r) w) := by
  rw [← h]; exact rcount_any p b f l q w hb

theorem rbetween_inv (p b f l q l2 q2 : Int) (w : World) (h : Mt.valid p b f = false) :
    Calls Try.prog 17 #[mv p b f, cv l q, cv l2 q2] w (Ret (.tuple #[.int .i64 (0), .int .i64 9]) w) := by
  have HV := Lib.hid (fun w => refValid_no p b f w h)
  clear h
  unfold mv cv
  go_enter Try.func17, Try.ntmps17
  go_wp2_with fail
  refine (HV.out _).mono ?_
  rintro e w1 ⟨rfl, hg⟩
  have R := Lib.hid ((BW.start w p b f l q l2 q2).grown hg)
  have G := Lib.hid (grown_trans (start_grown _ _ _ _) hg)
  clear hg
  obtain ⟨k0, k1, k2, k3, k4, z0, z1⟩ := R.out
  go_wp2
  go_ret2
  exact ⟨rfl, G.out⟩

theorem rbetween_a (p b f l q l2 q2 : Int) (w : World) (h : Mt.valid p b f = true) (ha : Mt.isC b l q = false) :
    Calls Try.prog 17 #[mv p b f, cv l q, cv l2 q2] w (Ret (.tuple #[.int .i64 (0), .int .i64 9]) w) := by
  have HV := Lib.hid (fun w => refValid_yes p b f w h)
  obtain ⟨_, _, hb, _, _⟩ := Mt.valid_true h
  have HA := Lib.hid (fun w => rcount_eq p b f l q w hb ha)
  clear h hb ha
  unfold mv cv
  go_enter Try.func17, Try.ntmps17
  go_wp2_with fail
  refine (HV.out _).mono ?_
  rintro e w1 ⟨rfl, hg⟩
  have R := Lib.hid ((BW.start w p b f l q l2 q2).grown hg)
  have G := Lib.hid (grown_trans (start_grown _ _ _ _) hg)
  clear hg
  obtain ⟨k0, k1, k2, k3, k4, z0, z1⟩ := R.out
  go_wp2_with fail
  refine (HA.out _).mono ?_
  rintro e w2 ⟨rfl, hg⟩
  have R := Lib.hid (R.out.grown hg)
  have G := Lib.hid (grown_trans G.out hg)
  clear hg
  clear k0 k1 k2 k3 k4 z0 z1
  obtain ⟨k0, k1, k2, k3, k4, z0, z1⟩ := R.out
  go_wp2
  go_ret2
  exact ⟨rfl, G.out⟩

theorem rbetween_b (p b f l q l2 q2 : Int) (w : World) (h : Mt.valid p b f = true) (ha : Mt.isC b l q = true) (hc : Mt.isC b l2 q2 = false) :
    Calls Try.prog 17 #[mv p b f, cv l q, cv l2 q2] w (Ret (.tuple #[.int .i64 (0), .int .i64 9]) w) := by
  have HV := Lib.hid (fun w => refValid_yes p b f w h)
  obtain ⟨_, _, hb, _, _⟩ := Mt.valid_true h
  have HA := Lib.hid (fun w => rcount_eq p b f l q w hb ha)
  have HC := Lib.hid (fun w => rcount_eq p b f l2 q2 w hb hc)
  clear h hb ha hc
  unfold mv cv
  go_enter Try.func17, Try.ntmps17
  go_wp2_with fail
  refine (HV.out _).mono ?_
  rintro e w1 ⟨rfl, hg⟩
  have R := Lib.hid ((BW.start w p b f l q l2 q2).grown hg)
  have G := Lib.hid (grown_trans (start_grown _ _ _ _) hg)
  clear hg
  obtain ⟨k0, k1, k2, k3, k4, z0, z1⟩ := R.out
  go_wp2_with fail
  refine (HA.out _).mono ?_
  rintro e w2 ⟨rfl, hg⟩
  have R := Lib.hid (R.out.grown hg)
  have G := Lib.hid (grown_trans G.out hg)
  clear hg
  clear k0 k1 k2 k3 k4 z0 z1
  obtain ⟨k0, k1, k2, k3, k4, z0, z1⟩ := R.out
  go_wp2_with fail
  refine (HC.out _).mono ?_
  rintro e w3 ⟨rfl, hg⟩
  have R := Lib.hid (R.out.grown hg)
  have G := Lib.hid (grown_trans G.out hg)
  clear hg
  clear k0 k1 k2 k3 k4 z0 z1
  obtain ⟨k0, k1, k2, k3, k4, z0, z1⟩ := R.out
  go_wp2
  go_ret2
  exact ⟨rfl, G.out⟩

theorem rbetween_order (p b f l q l2 q2 : Int) (w : World) (h : Mt.valid p b f = true) (ha : Mt.isC b l q = true) (hc : Mt.isC b l2 q2 = true) (hq : q2 < q) :
    Calls Try.prog 17 #[mv p b f, cv l q, cv l2 q2] w (Ret (.tuple #[.int .i64 (0), .int .i64 6]) w) := by
  have HV := Lib.hid (fun w => refValid_yes p b f w h)
  obtain ⟨_, _, hb, _, _⟩ := Mt.valid_true h
  have HA := Lib.hid (fun w => rcount_eq p b f l q w hb ha)
  have HC := Lib.hid (fun w => rcount_eq p b f l2 q2 w hb hc)
  clear h hb ha hc
  unfold mv cv
  go_enter Try.func17, Try.ntmps17
  go_wp2_with fail
  refine (HV.out _).mono ?_
  rintro e w1 ⟨rfl, hg⟩
  have R := Lib.hid ((BW.start w p b f l q l2 q2).grown hg)
  have G := Lib.hid (grown_trans (start_grown _ _ _ _) hg)
  clear hg
  obtain ⟨k0, k1, k2, k3, k4, z0, z1⟩ := R.out
  go_wp2_with fail
  refine (HA.out _).mono ?_
  rintro e w2 ⟨rfl, hg⟩
  have R := Lib.hid (R.out.grown hg)
  have G := Lib.hid (grown_trans G.out hg)
  clear hg
  clear k0 k1 k2 k3 k4 z0 z1
  obtain ⟨k0, k1, k2, k3, k4, z0, z1⟩ := R.out
  go_wp2_with fail
  refine (HC.out _).mono ?_
  rintro e w3 ⟨rfl, hg⟩
  have R := Lib.hid (R.out.grown hg)
  have G := Lib.hid (grown_trans G.out hg)
  clear hg
  clear k0 k1 k2 k3 k4 z0 z1
  obtain ⟨k0, k1, k2, k3, k4, z0, z1⟩ := R.out
  go_wp2
  go_ret2
  exact ⟨rfl, G.out⟩

theorem lit_ok {p b f n : Int} (h : Mt.valid p b f = true) (h0 : 0 ≤ n) (h1 : n ≤ 1099511627776) : litV p b f n = Mt.vol p f n ∧ litE p b f n = 0 := by
  unfold litV litE
  rw [h, if_pos rfl, if_pos rfl, if_pos ⟨h0, h1⟩, if_pos ⟨h0, h1⟩]
  exact ⟨rfl, rfl⟩
theorem rlitres_ok (p b f n : Int) (w : World) (h : Mt.valid p b f = true) (h0 : 0 ≤ n) (h1 : n ≤ 1099511627776) :
    Calls Try.prog 19 #[mv p b f, .int .i64 n] w (Ret (.tuple #[.int .i64 (Mt.vol p f n), .int .i64 0]) w) := by
  have := rlitres_any p b f n w
  rw [(lit_ok h h0 h1).1, (lit_ok h h0 h1).2] at this
  exact this

set_option maxHeartbeats 600000 in
theorem rbetween_ok (p b f l q l2 q2 : Int) (w : World) (h : Mt.valid p b f = true) (ha : Mt.isC b l q = true) (hc : Mt.isC b l2 q2 = true) (hq : ¬ q2 < q) :
    Calls Try.prog 17 #[mv p b f, cv l q, cv l2 q2] w (Ret (.tuple #[.int .i64 (Mt.vol p f q2 - Mt.vol p f q), .int .i64 0]) w) := by
  have HV := Lib.hid (fun w => refValid_yes p b f w h)
  obtain ⟨v1, v2, hb, v4, v5⟩ := Mt.valid_true h
  obtain ⟨_, _, a3, a4⟩ := Mt.isC_true ha
  obtain ⟨_, _, c3, c4⟩ := Mt.isC_true hc
  have HA := Lib.hid (fun w => rcount_eq p b f l q w hb ha)
  have HC := Lib.hid (fun w => rcount_eq p b f l2 q2 w hb hc)
  have H1 := Lib.hid (fun w => rlitres_ok p b f q w h a3 a4)
  have H2 := Lib.hid (fun w => rlitres_ok p b f q2 w h c3 c4)
  have r1 := Mt.vol_range (p := p) (f := f) v1 a3 a4 (by omega) v5
  have r2 := Mt.vol_range (p := p) (f := f) v1 c3 c4 (by omega) v5
  generalize Mt.vol p f q = V1 at *
  generalize Mt.vol p f q2 = V2 at *
  clear h hb ha hc v1 v2 v4 v5
  unfold mv cv
  go_enter Try.func17, Try.ntmps17
  go_wp2_with fail
  refine (HV.out _).mono ?_
  rintro e w1 ⟨rfl, hg⟩
  have R := Lib.hid ((BW.start w p b f l q l2 q2).grown hg)
  have G := Lib.hid (grown_trans (start_grown _ _ _ _) hg)
  clear hg
  obtain ⟨k0, k1, k2, k3, k4, z0, z1⟩ := R.out
  go_wp2_with fail
  refine (HA.out _).mono ?_
  rintro e w2 ⟨rfl, hg⟩
  have R := Lib.hid (R.out.grown hg)
  have G := Lib.hid (grown_trans G.out hg)
  clear hg
  clear k0 k1 k2 k3 k4 z0 z1
  obtain ⟨k0, k1, k2, k3, k4, z0, z1⟩ := R.out
  go_wp2_with fail
  refine (HC.out _).mono ?_
  rintro e w3 ⟨rfl, hg⟩
  have R := Lib.hid (R.out.grown hg)
  have G := Lib.hid (grown_trans G.out hg)
  clear hg
  clear k0 k1 k2 k3 k4 z0 z1
  obtain ⟨k0, k1, k2, k3, k4, z0, z1⟩ := R.out
  go_wp2_with fail
  refine (H1.out _).mono ?_
  rintro e w4 ⟨rfl, hg⟩
  have R := Lib.hid (R.out.grown hg)
  have G := Lib.hid (grown_trans G.out hg)
  clear hg
  clear k0 k1 k2 k3 k4 z0 z1
  obtain ⟨k0, k1, k2, k3, k4, z0, z1⟩ := R.out
  go_wp2_with fail
  refine (H2.out _).mono ?_
  rintro e w5 ⟨rfl, hg⟩
  have R := Lib.hid (R.out.grown hg)
  have G := Lib.hid (grown_trans G.out hg)
  clear hg
  clear k0 k1 k2 k3 k4 z0 z1
  obtain ⟨k0, k1, k2, k3, k4, z0, z1⟩ := R.out
  go_wp2
  go_ret2
  exact ⟨rfl, G.out⟩

theorem rbetween_any (p b f l q l2 q2 : Int) (w : World) :
    Calls Try.prog 17 #[mv p b f, cv l q, cv l2 q2] w (Ret (.tuple #[.int .i64 (btV p b f l q l2 q2), .int .i64 (btE p b f l q l2 q2)]) w) := by
  unfold btV btE
  cases h : Mt.valid p b f
  · exact rbetween_inv p b f l q l2 q2 w h
  · cases ha : Mt.isC b l q
    · exact rbetween_a p b f l q l2 q2 w h ha
    · cases hc : Mt.isC b l2 q2
      · exact rbetween_b p b f l q l2 q2 w h ha hc
      · by_cases hq : q2 < q
        · rw [if_pos rfl, if_pos rfl, if_pos rfl, if_pos hq, if_pos rfl, if_pos rfl, if_pos rfl, if_pos hq]
          exact rbetween_order p b f l q l2 q2 w h ha hc hq
        · rw [if_pos rfl, if_pos rfl, if_pos rfl, if_neg hq, if_pos rfl, if_pos rfl, if_pos rfl, if_neg hq]
          exact rbetween_ok p b f l q l2 q2 w h ha hc hq
end Go.Proofs.Ytilchmlbihffdaa
