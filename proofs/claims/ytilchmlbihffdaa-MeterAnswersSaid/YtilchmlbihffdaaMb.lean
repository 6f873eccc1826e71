/- Contract of meter.Between. -/
import Derived.Test.YtilchmlbihffdaaMt3
namespace Go.Proofs.Ytilchmlbihffdaa
open Go.ChangeShapes Go.WideShapes Go.ChangeAt Go.RowKit

/-- What Between has laid: its meter, and two counts. -/
def BW (w : World) (X : Nat) (p b f l q l2 q2 : Int) : Prop :=
  w.cell? ⟨X, 0, none⟩ = some (.int .i64 p) ∧ w.cell? ⟨X, 1, none⟩ = some (.int .i64 b) ∧ w.cell? ⟨X, 2, none⟩ = some (.int .i64 f) ∧
  w.cell? ⟨X + 1, 0, none⟩ = some (.int .i64 l) ∧ w.cell? ⟨X + 1, 1, none⟩ = some (.int .i64 q) ∧
  w.cell? ⟨X + 1 + 1, 0, none⟩ = some (.int .i64 l2) ∧ w.cell? ⟨X + 1 + 1, 1, none⟩ = some (.int .i64 q2)
theorem BW.grown {w w' : World} {X : Nat} {p b f l q l2 q2 : Int} (h : BW w X p b f l q l2 q2) (hg : w.grownBy w' none) : BW w' X p b f l q l2 q2 := by
  obtain ⟨h0, h1, h2, h3, h4, h5, h6⟩ := h
  exact ⟨hg.cell h0 (by simp), hg.cell h1 (by simp), hg.cell h2 (by simp), hg.cell h3 (by simp), hg.cell h4 (by simp), hg.cell h5 (by simp), hg.cell h6 (by simp)⟩
theorem BW.start (w : World) (p b f l q l2 q2 : Int) : BW (((w.alloc (Obj.cells #[.int .i64 p, .int .i64 b, .int .i64 f] 23)).alloc (Obj.cells #[.int .i64 l, .int .i64 q] 25)).alloc (Obj.cells #[.int .i64 l2, .int .i64 q2] 25)) w.heap.size p b f l q l2 q2 := by
  unfold BW
  refine ⟨?_, ?_, ?_, ?_, ?_, ?_, ?_⟩
  all_goals go_simp

theorem between_inv (p b f l q l2 q2 : Int) (w : World) (h : Mt.valid p b f = false) :
    Calls Try.prog 16 #[mv p b f, cv l q, cv l2 q2] w (Ret (.tuple #[.int .i64 (0), .int .i64 9]) w) := by
  have HV := Lib.hid (fun w => meterValid_no p b f w h)
  clear h
  unfold mv cv
  go_enter Try.func16, Try.ntmps16
  go_wp2_with fail
  refine (HV.out _).mono ?_
  rintro e w1 ⟨rfl, hg⟩
  have R := Lib.hid ((BW.start w p b f l q l2 q2).grown hg)
  have G := Lib.hid (grown_trans (start_grown _ _ _ _) hg)
  clear hg
  obtain ⟨k0, k1, k2, k3, k4, z0, z1⟩ := R.out
  go_wp2
  go_ret2
  exact ⟨rfl, G.out⟩

theorem between_a (p b f l q l2 q2 : Int) (w : World) (h : Mt.valid p b f = true) (ha : Mt.isC b l q = false) :
    Calls Try.prog 16 #[mv p b f, cv l q, cv l2 q2] w (Ret (.tuple #[.int .i64 (0), .int .i64 9]) w) := by
  have HV := Lib.hid (fun w => meterValid_yes p b f w h)
  obtain ⟨_, _, hb, _, _⟩ := Mt.valid_true h
  have HA := Lib.hid (fun w => isCount_no p b f l q w hb ha)
  clear h hb ha
  unfold mv cv
  go_enter Try.func16, Try.ntmps16
  go_wp2_with fail
  refine (HV.out _).mono ?_
  rintro e w1 ⟨rfl, hg⟩
  have R := Lib.hid ((BW.start w p b f l q l2 q2).grown hg)
  have G := Lib.hid (grown_trans (start_grown _ _ _ _) hg)
  clear hg
  obtain ⟨k0, k1, k2, k3, k4, z0, z1⟩ := R.out
  go_wp2_with fail
  refine (HA.out _).mono ?_
  rintro e w2 ⟨rfl, hg⟩
  have R := Lib.hid (R.out.grown hg)
  have G := Lib.hid (grown_trans G.out hg)
  clear hg
  clear k0 k1 k2 k3 k4 z0 z1
  obtain ⟨k0, k1, k2, k3, k4, z0, z1⟩ := R.out
  go_wp2
  go_ret2
  exact ⟨rfl, G.out⟩

theorem between_b (p b f l q l2 q2 : Int) (w : World) (h : Mt.valid p b f = true) (ha : Mt.isC b l q = true) (hc : Mt.isC b l2 q2 = false) :
    Calls Try.prog 16 #[mv p b f, cv l q, cv l2 q2] w (Ret (.tuple #[.int .i64 (0), .int .i64 9]) w) := by
  have HV := Lib.hid (fun w => meterValid_yes p b f w h)
  obtain ⟨_, _, hb, _, _⟩ := Mt.valid_true h
  have HA := Lib.hid (fun w => isCount_yes p b f l q w hb ha)
  have HC := Lib.hid (fun w => isCount_no p b f l2 q2 w hb hc)
  clear h hb ha hc
  unfold mv cv
  go_enter Try.func16, Try.ntmps16
  go_wp2_with fail
  refine (HV.out _).mono ?_
  rintro e w1 ⟨rfl, hg⟩
  have R := Lib.hid ((BW.start w p b f l q l2 q2).grown hg)
  have G := Lib.hid (grown_trans (start_grown _ _ _ _) hg)
  clear hg
  obtain ⟨k0, k1, k2, k3, k4, z0, z1⟩ := R.out
  go_wp2_with fail
  refine (HA.out _).mono ?_
  rintro e w2 ⟨rfl, hg⟩
  have R := Lib.hid (R.out.grown hg)
  have G := Lib.hid (grown_trans G.out hg)
  clear hg
  clear k0 k1 k2 k3 k4 z0 z1
  obtain ⟨k0, k1, k2, k3, k4, z0, z1⟩ := R.out
  go_wp2_with fail
  refine (HC.out _).mono ?_
  rintro e w3 ⟨rfl, hg⟩
  have R := Lib.hid (R.out.grown hg)
  have G := Lib.hid (grown_trans G.out hg)
  clear hg
  clear k0 k1 k2 k3 k4 z0 z1
  obtain ⟨k0, k1, k2, k3, k4, z0, z1⟩ := R.out
  go_wp2
  go_ret2
  exact ⟨rfl, G.out⟩

theorem between_order (p b f l q l2 q2 : Int) (w : World) (h : Mt.valid p b f = true) (ha : Mt.isC b l q = true) (hc : Mt.isC b l2 q2 = true) (hq : q2 < q) :
    Calls Try.prog 16 #[mv p b f, cv l q, cv l2 q2] w (Ret (.tuple #[.int .i64 (0), .int .i64 6]) w) := by
  have HV := Lib.hid (fun w => meterValid_yes p b f w h)
  obtain ⟨_, _, hb, _, _⟩ := Mt.valid_true h
  have HA := Lib.hid (fun w => isCount_yes p b f l q w hb ha)
  have HC := Lib.hid (fun w => isCount_yes p b f l2 q2 w hb hc)
  clear h hb ha hc
  unfold mv cv
  go_enter Try.func16, Try.ntmps16
  go_wp2_with fail
  refine (HV.out _).mono ?_
  rintro e w1 ⟨rfl, hg⟩
  have R := Lib.hid ((BW.start w p b f l q l2 q2).grown hg)
  have G := Lib.hid (grown_trans (start_grown _ _ _ _) hg)
  clear hg
  obtain ⟨k0, k1, k2, k3, k4, z0, z1⟩ := R.out
  go_wp2_with fail
  refine (HA.out _).mono ?_
  rintro e w2 ⟨rfl, hg⟩
  have R := Lib.hid (R.out.grown hg)
  have G := Lib.hid (grown_trans G.out hg)
  clear hg
  clear k0 k1 k2 k3 k4 z0 z1
  obtain ⟨k0, k1, k2, k3, k4, z0, z1⟩ := R.out
  go_wp2_with fail
  refine (HC.out _).mono ?_
  rintro e w3 ⟨rfl, hg⟩
  have R := Lib.hid (R.out.grown hg)
  have G := Lib.hid (grown_trans G.out hg)
  clear hg
  clear k0 k1 k2 k3 k4 z0 z1
  obtain ⟨k0, k1, k2, k3, k4, z0, z1⟩ := R.out
  go_wp2
  go_ret2
  exact ⟨rfl, G.out⟩

set_option maxHeartbeats 600000 in
theorem between_ok (p b f l q l2 q2 : Int) (w : World) (h : Mt.valid p b f = true) (ha : Mt.isC b l q = true) (hc : Mt.isC b l2 q2 = true) (hq : ¬ q2 < q) :
    Calls Try.prog 16 #[mv p b f, cv l q, cv l2 q2] w (Ret (.tuple #[.int .i64 (Mt.vol p f q2 - Mt.vol p f q), .int .i64 0]) w) := by
  have HV := Lib.hid (fun w => meterValid_yes p b f w h)
  obtain ⟨v1, v2, hb, v4, v5⟩ := Mt.valid_true h
  obtain ⟨_, _, a3, a4⟩ := Mt.isC_true ha
  obtain ⟨_, _, c3, c4⟩ := Mt.isC_true hc
  have HA := Lib.hid (fun w => isCount_yes p b f l q w hb ha)
  have HC := Lib.hid (fun w => isCount_yes p b f l2 q2 w hb hc)
  have HN := Lib.hid (fun (n : Int) (hn : n = q2 ∨ n = q) w => volume_any p b f n w v1 v2 v4 v5 (by omega) (by omega))
  have r1 := Mt.vol_range (p := p) (f := f) v1 a3 a4 (by omega) v5
  have r2 := Mt.vol_range (p := p) (f := f) v1 c3 c4 (by omega) v5
  have hw : IntKind.i64.wrap (Mt.vol p f q2 - Mt.vol p f q) = Mt.vol p f q2 - Mt.vol p f q := IntWalk.i64_in _ (by omega)
  clear h hb ha hc v1 v2 v4 v5
  unfold mv cv
  go_enter Try.func16, Try.ntmps16
  go_wp2_with fail
  refine (HV.out _).mono ?_
  rintro e w1 ⟨rfl, hg⟩
  have R := Lib.hid ((BW.start w p b f l q l2 q2).grown hg)
  have G := Lib.hid (grown_trans (start_grown _ _ _ _) hg)
  clear hg
  obtain ⟨k0, k1, k2, k3, k4, z0, z1⟩ := R.out
  go_wp2_with fail
  refine (HA.out _).mono ?_
  rintro e w2 ⟨rfl, hg⟩
  have R := Lib.hid (R.out.grown hg)
  have G := Lib.hid (grown_trans G.out hg)
  clear hg
  clear k0 k1 k2 k3 k4 z0 z1
  obtain ⟨k0, k1, k2, k3, k4, z0, z1⟩ := R.out
  go_wp2_with fail
  refine (HC.out _).mono ?_
  rintro e w3 ⟨rfl, hg⟩
  have R := Lib.hid (R.out.grown hg)
  have G := Lib.hid (grown_trans G.out hg)
  clear hg
  clear k0 k1 k2 k3 k4 z0 z1
  obtain ⟨k0, k1, k2, k3, k4, z0, z1⟩ := R.out
  go_wp2_with fail
  have HK : Hid (∀ w', w3.grownBy w' none → w'.cell? ⟨w.heap.size, 0, none⟩ = some (.int .i64 p) ∧ w'.cell? ⟨w.heap.size, 1, none⟩ = some (.int .i64 b) ∧ w'.cell? ⟨w.heap.size, 2, none⟩ = some (.int .i64 f) ∧ w'.cell? ⟨w.heap.size + 1, 0, none⟩ = some (.int .i64 l) ∧ w'.cell? ⟨w.heap.size + 1, 1, none⟩ = some (.int .i64 q) ∧ w'.cell? ⟨w.heap.size + 1 + 1, 0, none⟩ = some (.int .i64 l2) ∧ w'.cell? ⟨w.heap.size + 1 + 1, 1, none⟩ = some (.int .i64 q2)) := fun w' hg => ⟨hg.cell k0 (by simp), hg.cell k1 (by simp), hg.cell k2 (by simp), hg.cell k3 (by simp), hg.cell k4 (by simp), hg.cell z0 (by simp), hg.cell z1 (by simp)⟩
  go_region_held3 (fun w' => w'.cell? ⟨w.heap.size, 0, none⟩ = some (.int .i64 p) ∧ w'.cell? ⟨w.heap.size, 1, none⟩ = some (.int .i64 b) ∧ w'.cell? ⟨w.heap.size, 2, none⟩ = some (.int .i64 f) ∧ w'.cell? ⟨w.heap.size + 1, 0, none⟩ = some (.int .i64 l) ∧ w'.cell? ⟨w.heap.size + 1, 1, none⟩ = some (.int .i64 q) ∧ w'.cell? ⟨w.heap.size + 1 + 1, 0, none⟩ = some (.int .i64 l2) ∧ w'.cell? ⟨w.heap.size + 1 + 1, 1, none⟩ = some (.int .i64 q2))
    (first | go_keep | exact HK.out _ hg5.out | exact HK.out _ hg4.out | fail)
    (first
      | (have hgo := hg4.out; go_at_call 28; refine (HN.out _ (Or.inr rfl) _).mono ?_; rintro e w5 ⟨rfl, hg⟩; have hg5 : Hid (w3.grownBy w5 none) := grown_trans hgo hg; clear hg hgo)
      | (go_at_call 28; refine (HN.out _ (Or.inl rfl) _).mono ?_; rintro e w4 ⟨rfl, hg⟩; have hg4 : Hid (w3.grownBy w4 none) := grown_trans (show w3.grownBy w3.drew none from grown_drewN w3 1 none) hg; clear hg)
      | fail)
  have G := Lib.hid (grown_trans G.out hg5.out)
  go_wp2
  go_ret2
  exact ⟨rfl, G.out⟩

def btV (p b f l q l2 q2 : Int) : Int := if Mt.valid p b f then if Mt.isC b l q then if Mt.isC b l2 q2 then if q2 < q then 0 else Mt.vol p f q2 - Mt.vol p f q else 0 else 0 else 0
def btE (p b f l q l2 q2 : Int) : Int := if Mt.valid p b f then if Mt.isC b l q then if Mt.isC b l2 q2 then if q2 < q then 6 else 0 else 9 else 9 else 9
theorem between_any (p b f l q l2 q2 : Int) (w : World) :
    Calls Try.prog 16 #[mv p b f, cv l q, cv l2 q2] w (Ret (.tuple #[.int .i64 (btV p b f l q l2 q2), .int .i64 (btE p b f l q l2 q2)]) w) := by
  unfold btV btE
  cases h : Mt.valid p b f
  · exact between_inv p b f l q l2 q2 w h
  · cases ha : Mt.isC b l q
    · exact between_a p b f l q l2 q2 w h ha
    · cases hc : Mt.isC b l2 q2
      · exact between_b p b f l q l2 q2 w h ha hc
      · by_cases hq : q2 < q
        · rw [if_pos rfl, if_pos rfl, if_pos rfl, if_pos hq, if_pos rfl, if_pos rfl, if_pos rfl, if_pos hq]
          exact between_order p b f l q l2 q2 w h ha hc hq
        · rw [if_pos rfl, if_pos rfl, if_pos rfl, if_neg hq, if_pos rfl, if_pos rfl, if_pos rfl, if_neg hq]
          exact between_ok p b f l q l2 q2 w h ha hc hq
end Go.Proofs.Ytilchmlbihffdaa
