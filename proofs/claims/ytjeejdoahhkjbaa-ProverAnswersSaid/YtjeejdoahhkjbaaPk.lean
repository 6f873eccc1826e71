/- Contract of the reader of runs. -/
import Derived.Test.YtjeejdoahhkjbaaPj
import Derived.Maps.AppendAt
namespace Go.Proofs.Ytjeejdoahhkjbaa
open Go.ChangeShapes Go.WideShapes Go.ChangeAt Go.RowKit

def setF (f : Nat → Int) (k : Nat) (v : Int) : Nat → Int := fun p => if p = k then v else f p
/-- The first m numbers of x as values. -/
def vals (x : Nat → Int) (m : Nat) : List Value := (List.range m).map (fun i => Value.int .i64 (x i))
theorem vals_len (x : Nat → Int) (m : Nat) : (vals x m).length = m := by simp [vals]
theorem vals_get (x : Nat → Int) (m i : Nat) (h : i < m) : (vals x m)[i]? = some (.int .i64 (x i)) := by simp [vals, h]
theorem vals_snoc (x : Nat → Int) (m : Nat) (v : Int) : vals (setF x m v) (m + 1) = vals x m ++ [.int .i64 v] := by
  unfold vals
  rw [List.range_succ, List.map_append]
  congr 1
  · apply List.map_congr_left
    intro i hi
    have : i ≠ m := by have := List.mem_range.1 hi; omega
    unfold setF; rw [if_neg this]
  · simp [setF]
theorem info3 : (Try.prog.info? 3).map (fun i => (i.zero, i.size, i.bytes)) = some (some (.int .i64 0), 1, 8) := by kernel_rfl
theorem info_parts3 : ∃ i, Try.prog.info? 3 = some i ∧ i.zero = some (.int .i64 0) ∧ i.size = 1 ∧ i.bytes = 8 := by
  obtain ⟨i, hi, hz⟩ := Option.map_eq_some_iff.1 info3
  simp only [Prod.mk.injEq] at hz
  exact ⟨i, hi, hz.1, hz.2.1, hz.2.2⟩
theorem own_cells {w : World} {base m cap g : Nat} {x : Nat → Int} (h : w.ownsRow base 3 1 (.slice (some ⟨g, 0, none⟩) m cap) m (vals x m)) (i : Nat) (hi : i < m) : w.cell? ⟨g, i, none⟩ = some (.int .i64 (x i)) := by
  rw [h.cellAt i (by omega)]; exact vals_get x m i hi
/-- A row of the call's own is a slice that can be read. -/
theorem own_sl {w : World} {base m : Nat} {v : Value} {x : Nat → Int} (h : w.ownsRow base 3 1 v m (vals x m)) :
    ∃ (a : Option Addr) (cap g : Nat), v = .slice a m cap ∧ m ≤ cap ∧ cap ≤ 9223372036854775807 ∧ (0 < m → a = some ⟨g, 0, none⟩ ∧ base ≤ g ∧ g < w.heap.size) ∧ Rw w g 0 m x ∧ ∀ i, w.frozen? ⟨g, i, none⟩ = false := by
  have h0 := h
  rcases h.2 with ⟨rfl, rfl⟩ | ⟨g, cap, cur, rfl, hb, hg, hc, hm, _⟩
  · refine ⟨none, 0, w.heap.size, rfl, by omega, by omega, fun h => absurd h (by omega), fun i hi => absurd hi (by omega), fun i => ?_⟩
    simp [World.frozen?]
  · refine ⟨_, cap, g, rfl, hc, by unfold maxLen at hm; omega, fun _ => ⟨rfl, hb, (Array.getElem?_eq_some_iff.1 hg).1⟩, fun i hi => ?_, fun i => h0.frozenAt i⟩
    rw [Nat.zero_add]
    exact own_cells h0 i hi
theorem own_kept {w w' : World} {S base m : Nat} {v : Value} {x : Nat → Int} (h : w.ownsRow base 3 1 v m (vals x m)) (hS : S < base) (hg : w.grownBy w' (some S)) : w'.ownsRow base 3 1 v m (vals x m) := by
  refine h.kept hg ?_
  cases hv : v.ownBlock with
  | none => exact .inl rfl
  | some k => exact .inr (by intro e; injection e with e; have := (h.lt k hv).1; omega)
theorem own_grown {w w' : World} {base m : Nat} {v : Value} {x : Nat → Int} (h : w.ownsRow base 3 1 v m (vals x m)) (hg : w.grownBy w' none) : w'.ownsRow base 3 1 v m (vals x m) :=
  h.kept hg (by cases v.ownBlock <;> simp)

/-- The runs that have been collected. -/
def ROK (w : World) (S : Nat) (wr : World) (v : Value) (m : Nat) (x : Nat → Int) : Prop :=
  wr.ownsRow w.heap.size 3 1 v m (vals x m) ∧ Pm.Runs m x ∧ SrcOK wr S ∧ w.grownBy wr (some S)

theorem ROK.next {w wr w4 w5 w' : World} {S m : Nat} {v v' : Value} {x : Nat → Int} {c : Int} (h : ROK w S wr v m x) (hS : S < w.heap.size) (h4 : wr.grownBy w4 (some S)) (hs : SrcOK w4 S) (h5 : w4.grownBy w5 none)
    (hown : w'.ownsRow w.heap.size 3 1 v' (m + 1) (vals x m ++ [.int .i64 c])) (hg : w5.grownBy w' v.ownBlock) (hc : 1 ≤ c ∧ c ≤ 1073741824) : ROK w S w' v' (m + 1) (setF x m c) := by
  obtain ⟨a1, a2, a3, a4⟩ := h
  have g5 : w.grownBy w5 (some S) := grown_trans (grown_trans a4 h4) (grown_weak _ h5)
  have rowlt : ∀ k, v.ownBlock = some k → w.heap.size ≤ k := fun k hk => (a1.lt k hk).1
  have g6 : w.grownBy w' (some S) := by
    cases hv : v.ownBlock with
    | none => rw [hv] at hg; exact grown_trans g5 (grown_weak _ hg)
    | some k => rw [hv] at hg; exact grown_skip g5 hg (rowlt k hv)
  refine ⟨by rw [vals_snoc]; exact hown, fun p hp => ?_, (hs.grown h5).grownRow hg (fun k hk => by have := rowlt k hk; omega), g6⟩
  unfold setF
  by_cases e : p = m
  · rw [if_pos e]; exact hc
  · rw [if_neg e]; exact a2 p (by omega)

def RunsEnd (S : Nat) (w : World) (e : Ending) (w' : World) : Prop :=
  ∃ (v : Value) (m : Nat) (x : Nat → Int), e = .returned v ∧ w'.ownsRow w.heap.size 3 1 v m (vals x m) ∧ Pm.Runs m x ∧ m ≤ 11 ∧ w.grownBy w' (some S) ∧ SrcOK w' S

theorem pick5 (E c : Int) (hE : 0 ≤ E ∧ E ≤ 536870) (h : ∃ j, j < 5 ∧ c = [0, 0, 1, 1, E + 1].getD j 0) : 0 ≤ c ∧ c ≤ 536871 := by
  obtain ⟨j, hj, rfl⟩ := h
  match j, hj with
  | 0, _ => simp
  | 1, _ => simp
  | 2, _ => simp
  | 3, _ => simp
  | 4, _ => simp; omega
theorem near (r c : Int) (h1 : -3 ≤ r) (h2 : r ≤ 3) (h3 : 0 ≤ c) (h4 : c ≤ 536871) : -1610613 ≤ r * c ∧ r * c ≤ 1610613 := by
  have a := Int.mul_le_mul_of_nonneg_right h1 h3
  have b := Int.mul_le_mul_of_nonneg_right h2 h3
  omega
theorem vpm_range {v t p b f : Int} (hv : Pm.pvalid v t = true) (hm : Mt.valid p b f = true) : 1 ≤ v * p ∧ v * p ≤ 104857600000 := by
  obtain ⟨h1, h2, _, _⟩ := Pm.pvalid_true hv
  obtain ⟨h3, h4, _, _, _⟩ := Mt.valid_true hm
  have a := Int.mul_le_mul h1 h3 (by omega) (by omega)
  have b := Int.mul_le_mul h2 h4 (by omega) (by omega)
  omega

set_option maxHeartbeats 1000000 in
theorem runs_any (S : Nat) (v t p b f : Int) (w : World) (hs : SrcOK w S) (hv : Pm.pvalid v t = true) (hm : Mt.valid p b f = true) :
    Calls Try.prog 13 #[.pointer (some ⟨S, 0, none⟩), pv v t, mv p b f] w (RunsEnd S w) := by
  obtain ⟨i0, hi, hz0, hz1, hz2⟩ := info_parts3
  have hS := src_lt hs
  have HS := Lib.hid hs
  have hvp := vpm_range hv hm
  have hw1 : IntKind.i64.wrap (v * p) = v * p := IntWalk.i64_in _ (by omega)
  have hd : (v * p).tdiv 1000 = v * p / 1000 := Rd.tdiv_same _ _ (by omega) (by rw [Int.tmod_eq_emod_of_nonneg (by omega)]; omega)
  have hq : 0 ≤ v * p / 1000 ∧ v * p / 1000 ≤ 104857600 := by omega
  clear hs
  unfold pv mv
  go_enter Try.func13, Try.ntmps13
  go_upto_region 2 with fail
  go_cut [7, 8] (fun s7 s8 wc => ∃ E : Int, s7 = .int .i64 E ∧ s8 = .slice none 0 0 ∧ 1 ≤ E ∧ E ≤ 536870912 ∧ Hid (wc = (w.alloc (Obj.cells #[.int .i64 v, .int .i64 t] 23)).alloc (Obj.cells #[.int .i64 p, .int .i64 b, .int .i64 f] 25)))
  case first =>
    go_wp2
    · go_meet
      case rel => exact ⟨_, rfl, rfl, by omega, by omega, rfl⟩
    · go_meet
      case rel => exact ⟨_, rfl, rfl, by omega, by omega, rfl⟩
  case rest =>
    obtain ⟨E, rfl, rfl, hE1, hE2, HW⟩ := hcut
    have G0 := Lib.hid (show w.grownBy wc none from by rw [HW.out]; exact grown_trans (World.grownBy_alloc _ _ _) (World.grownBy_alloc _ _ _))
    clear HW hw1 hd hq hvp
    go_wp2_with fail
    refine (n_any S 12 wc (HS.out.grown G0.out) (by omega) (by omega)).mono ?_
    rintro e w1 ⟨N, ⟨hN0, hN1⟩, rfl, hg, hs⟩
    have G := Lib.hid (grown_trans (grown_weak (some S) G0.out) hg)
    have HS := Lib.hid hs
    clear hg hs G0
    go_wp2
    go_loopw [8, 9] (fun s8 s9 wr => ∃ (i : Int) (m : Nat) (x : Nat → Int), s9 = .int .i64 i ∧ 0 ≤ i ∧ m + i = N ∧ Hid (ROK w S wr s8 m x)) (fun _ s9 _ => (intOf s9).toNat)
    case atStart => exact ⟨N, 0, fun _ => 0, rfl, by omega, by omega, World.ownsRow_nil _ _ _ _, fun p hp => absurd hp (by omega), HS.out, G.out⟩
    case round =>
      obtain ⟨i, m, x, rfl, hi0, hmi, W⟩ := hrel
      by_cases hlt : 0 < i
      · have hm10 : (m : Int) ≤ 10 := by omega
        have hi10 : i ≤ 11 := by omega
        have HM := Lib.hid hmi
        clear hmi hN0 hN1
        go_wp2_with fail
        refine (range_any S (-3) 3 wr W.out.2.2.1 (by omega) (by omega) (by omega)).mono ?_
        rintro e w3 ⟨r, ⟨hr1, hr2⟩, rfl, hg3, hs3⟩
        have G3 := Lib.hid hg3
        have S3 := Lib.hid hs3
        have hb3 : S < w3.heap.size := src_lt hs3
        clear hg3 hs3
        have hd2 : E.tdiv 1000 = E / 1000 := Rd.tdiv_same _ _ (by omega) (by rw [Int.tmod_eq_emod_of_nonneg (by omega)]; omega)
        have hq2 : 0 ≤ E / 1000 ∧ E / 1000 ≤ 536870 := by omega
        go_wp2_with fail
        refine (pick_any S w3.heap.size 0 5 5 [0, 0, 1, 1, E / 1000 + 1] (w3.alloc (.cells #[.int .i64 0, .int .i64 0, .int .i64 1, .int .i64 1, .int .i64 (E / 1000 + 1)] 3)) (S3.out.grown (World.grownBy_alloc _ _ _)) (by omega) rfl (by omega) (by omega) ?_).mono ?_
        · intro j hj
          match j, hj with
          | 0, _ => simp
          | 1, _ => simp
          | 2, _ => simp
          | 3, _ => simp
          | 4, _ => simp
        rintro e w4 ⟨c, hc, rfl, hg4, hs4⟩
        have hcc := pick5 (E / 1000) c hq2 hc
        have hn := near r c hr1 hr2 hcc.1 hcc.2
        have G4 := Lib.hid (grown_trans (grown_trans G3.out (World.grownBy_alloc w3 _ (some S))) hg4)
        have S4 := Lib.hid hs4
        have O4 := Lib.hid (own_kept W.out.1 hS G4.out)
        clear hg4 hs4 hc hq2 hd2 hcc
        have hp : IntKind.i64.wrap (r * c) = r * c := IntWalk.i64_in _ (by omega)
        go_wp2_with (at_builtin; refine wpList_append_own _ rfl _ _ 26 rfl w.heap.size 3 i0 (.int .i64 0) 1 8 Try.underlying26 hi hz0 hz1 hz2 rfl (by decide) _ _ _ rfl (O4.out.alloc _) ⟨w4.heap.size, 0, none⟩ 1 1 _ rfl rfl (cell_one_new _ _ _) (by intro u hu; simp at hu; subst hu; rfl) (by unfold maxLen; omega) (by omega) (by simp; have := G4.out.size; have := W.out.2.2.2.size; omega) ?_; intro v' w5 hown hg5 _)
        all_goals
          have W5 := Lib.hid (W.out.next hS G4.out S4.out (World.grownBy_alloc w4 _ none) hown hg5 (by omega))
          obtain ⟨a', cap', g, rfl, _⟩ := own_sl W5.out.1
          clear hown hg5
          go_wp2
          go_roundw
          case rel => exact ⟨i - 1, m + 1, _, rfl, by omega, by have := HM.out; omega, W5⟩
          case measure => simp [intOf]; omega
      · obtain rfl : i = 0 := by omega
        obtain ⟨a', cap', g, rfl, _⟩ := own_sl W.out.1
        go_wp2
        go_ret
        exact ⟨_, m, x, rfl, W.out.1, W.out.2.1, by omega, W.out.2.2.2, W.out.2.2.1⟩
end Go.Proofs.Ytjeejdoahhkjbaa
