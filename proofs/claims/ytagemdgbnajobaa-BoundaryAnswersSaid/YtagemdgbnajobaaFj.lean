/- Contracts of what package piece calls: slices.Clone, slices.Equal, slices.ContainsFunc at pieces, litres, isOutOfRange, find. -/
import Derived.Test.YtagemdgbnajobaaFg
namespace Go.Proofs.Ytagemdgbnajobaa
open Go.ChangeShapes Go.WideShapes Go.ChangeAt Go.RowKit

set_option maxHeartbeats 400000 in
theorem equal_any (s t : Sl) (f g : List Fm.Pc) (w : World) (h : FR w s f) (k : FR w t g) :
    Calls Try.prog 40 #[s.v, t.v] w (Ret (.bool (sameB f g)) w) := by
  obtain ⟨a, n, c⟩ := s
  obtain ⟨a', n', c'⟩ := t
  have hlen := h.len
  have klen := k.len
  have fit := h.fit
  have fit' := k.fit
  dsimp only [Sl.fit] at hlen klen fit fit'
  have HF := Lib.hid h
  have HG := Lib.hid k
  clear h k
  unfold Sl.v
  dsimp only
  by_cases hne : n = n'
  · subst hne
    go_enter Try.func40, Try.ntmps40
    go_wp2
    go_loopw [5, 13] (fun i5 i wr => ∃ (k : Nat), i = .int .i64 k ∧ k ≤ n ∧ Hid (∀ j, j < k → f.getD j Fm.zp = g.getD j Fm.zp) ∧ Hid (w.grownBy wr none)) (fun _ i _ => n - (intOf i).toNat)
    case atStart => exact ⟨0, rfl, by omega, fun j hj => absurd hj (by omega), grown_refl _ _⟩
    case round =>
      obtain ⟨k, rfl, hk, E, G⟩ := hrel
      by_cases hlt : k < n
      · obtain ⟨b, off, x0, y0, rfl, hp0, c0, c1⟩ := (HF.out.grown G.out).at_ k hlt
        obtain ⟨b', off', x1, y1, rfl, hp1, c2, c3⟩ := (HG.out.grown G.out).at_ k hlt
        have P0 := Lib.hid hp0
        have P1 := Lib.hid hp1
        clear hp0 hp1
        by_cases hxy : (x0, y0) = (x1, y1)
        · injection hxy with e1 e2
          subst e1; subst e2
          have EN := Lib.hid (show ∀ j, j < k + 1 → f.getD j Fm.zp = g.getD j Fm.zp from fun j hj => by
            by_cases e : j = k
            · subst e; rw [P0.out, P1.out]
            · exact E.out j (by omega))
          go_wp2
          go_quiet (fail)
          go_wp2
          go_roundw
          case rel => exact ⟨k + 1, by go_num, by omega, EN, Lib.hid (grown_trans G.out (grown_drewN _ _ _))⟩
          case measure => simp [intOf]; omega
        · have H := Lib.hid (sameB_false (f := f) (g := g) k (by rw [P0.out, P1.out]; exact hxy))
          by_cases e1 : x0 = x1
          · have e2 : (y0 == y1) = false := by rw [beq_eq_false_iff_ne]; intro e2; exact hxy (by rw [e1, e2])
            subst e1
            clear hxy
            go_wp2
            go_quiet (fail)
            go_wp2
            go_ret
            exact ⟨ret_bool H.out.symm, grown_trans G.out (grown_drewN _ _ _)⟩
          · have e2 : (x0 == x1) = false := by rw [beq_eq_false_iff_ne]; exact e1
            clear hxy e1
            go_wp2
            go_quiet (fail)
            go_wp2
            go_ret
            exact ⟨ret_bool H.out.symm, grown_trans G.out (grown_drewN _ _ _)⟩
      · obtain rfl : k = n := by omega
        have H := Lib.hid (sameB_true (by omega) (fun j hj => E.out j (by omega)))
        go_wp2
        go_ret
        exact ⟨ret_bool H.out.symm, G.out⟩
  · have H := Lib.hid (sameB_len (f := f) (g := g) (by omega))
    have hb : ((n : Int) == (n' : Int)) = false := by rw [beq_eq_false_iff_ne]; omega
    go_enter Try.func40, Try.ntmps40
    go_wp2
    go_ret
    exact ⟨ret_bool H.out.symm, grown_refl _ _⟩

set_option maxHeartbeats 400000 in
theorem litres_any (s : Sl) (f : List Fm.Pc) (w : World) (h : FR w s f) (hp : Fm.Pos f) (hv : Fm.vol f ≤ 4611686018427387904) : Calls Try.prog 42 #[s.v] w (Ret (.int .i64 (Fm.vol f)) w) := by
  obtain ⟨a, n, c⟩ := s
  have hlen := h.len
  dsimp only at hlen
  have HF := Lib.hid h
  have fit := h.fit
  dsimp only [Sl.fit] at fit
  have HV := Lib.hid (fun k => Fm.vol_take_le hp k)
  clear h hp
  unfold Sl.v
  dsimp only
  go_enter Try.func42, Try.ntmps42
  go_wp2
  go_loopw [3, 8] (fun sm i wr => ∃ (k : Nat) (x : Int), sm = .int .i64 x ∧ i = .int .i64 k ∧ k ≤ n ∧ Hid (x = Fm.vol (f.take k)) ∧ Hid (w.grownBy wr none)) (fun _ i _ => n - (intOf i).toNat)
  case atStart => exact ⟨0, 0, rfl, rfl, by omega, Lib.hid (by simp [Fm.vol]), grown_refl _ _⟩
  case round =>
    obtain ⟨k, x, rfl, rfl, hk, X, G⟩ := hrel
    by_cases hlt : k < n
    · obtain ⟨b, off, x0, y0, rfl, hp0, c0, c1⟩ := (HF.out.grown G.out).at_ k hlt
      have E := Lib.hid (show x + y0 = Fm.vol (f.take (k + 1)) by have := Fm.vol_next (f := f) (k := k) (by omega); rw [hp0] at this; rw [this, X.out])
      have v1 := HV.out k
      have v2 := HV.out (k + 1)
      rw [← E.out] at v2
      rw [← X.out] at v1
      clear hp0
      go_wp2
      go_roundw
      case rel => exact ⟨k + 1, _, rfl, by go_num, by omega, E, Lib.hid (grown_trans G.out (World.grownBy_alloc _ _ _))⟩
      case measure => simp [intOf]; omega
    · obtain rfl : k = n := by omega
      have E := Lib.hid (show x = Fm.vol f by rw [X.out, List.take_of_length_le (by omega)])
      go_wp2
      go_ret
      exact ⟨ret_int E.out, G.out⟩

/-- Out of range. -/
def outB (p : Fm.Pc) : Bool := decide (p.2 < 0) || decide (1000000 < p.2) || decide (p.1 < 0) || decide (1000 ≤ p.1)
theorem outB_yes {p : Fm.Pc} (h : ¬ okm p) : outB p = true := by
  unfold okm at h
  unfold outB
  simp only [Bool.or_eq_true, decide_eq_true_eq]
  omega
theorem outB_no {p : Fm.Pc} (h : okm p) : outB p = false := by
  unfold okm at h
  unfold outB
  simp only [Bool.or_eq_false_iff, decide_eq_false_iff_not]
  omega
theorem isout_any (x y : Int) (w : World) : Calls Try.prog 57 #[.agg #[.int .i64 x, .int .i64 y]] w (Ret (.bool (outB (x, y))) w) := by
  by_cases d1 : y < 0
  · have H := Lib.hid (outB_yes (p := (x, y)) (fun h => by unfold okm at h; dsimp only at h; omega))
    go_enter Try.func57, Try.ntmps57
    go_wp2
    go_ret
    exact ⟨ret_bool H.out.symm, World.grownBy_alloc _ _ _⟩
  · have e1 : decide (y < 0) = false := decide_eq_false d1
    by_cases d2 : 1000000 < y
    · have H := Lib.hid (outB_yes (p := (x, y)) (fun h => by unfold okm at h; dsimp only at h; omega))
      go_enter Try.func57, Try.ntmps57
      go_wp2
      go_ret
      exact ⟨ret_bool H.out.symm, World.grownBy_alloc _ _ _⟩
    · have e2 : decide (1000000 < y) = false := decide_eq_false d2
      by_cases d3 : x < 0
      · have H := Lib.hid (outB_yes (p := (x, y)) (fun h => by unfold okm at h; dsimp only at h; omega))
        go_enter Try.func57, Try.ntmps57
        go_wp2
        go_ret
        exact ⟨ret_bool H.out.symm, World.grownBy_alloc _ _ _⟩
      · have e3 : decide (x < 0) = false := decide_eq_false d3
        by_cases d4 : 1000 ≤ x
        · have H := Lib.hid (outB_yes (p := (x, y)) (fun h => by unfold okm at h; dsimp only at h; omega))
          go_enter Try.func57, Try.ntmps57
          go_wp2
          go_ret
          exact ⟨ret_bool H.out.symm, World.grownBy_alloc _ _ _⟩
        · have e4 : decide (1000 ≤ x) = false := decide_eq_false d4
          have H := Lib.hid (outB_no (p := (x, y)) (by unfold okm; dsimp only; omega))
          go_enter Try.func57, Try.ntmps57
          go_wp2
          go_ret
          exact ⟨ret_bool H.out.symm, World.grownBy_alloc _ _ _⟩

/-- What a look for a piece that is out of range returns. -/
def IdxEnd (f : List Fm.Pc) (w : World) (e : Ending) (w' : World) : Prop := ∃ i : Int, e = .returned (.int .i64 i) ∧ -1 ≤ i ∧ (i = -1 ↔ ∀ p ∈ f, okm p) ∧ w.grownBy w' none
set_option maxHeartbeats 400000 in
theorem index_any (s : Sl) (f : List Fm.Pc) (w : World) (h : FR w s f) :
    Calls Try.prog 61 #[s.v, .func (.func 57) #[] #[]] w (IdxEnd f w) := by
  obtain ⟨a, n, c⟩ := s
  have hlen := h.len
  have fit := h.fit
  dsimp only [Sl.fit] at hlen fit
  have HF := Lib.hid h
  clear h
  unfold Sl.v
  dsimp only
  go_enter Try.func61, Try.ntmps61
  go_wp2
  go_loopw [5, 8] (fun i5 i wr => ∃ (k : Nat), i = .int .i64 k ∧ k ≤ n ∧ Hid (∀ p ∈ f.take k, okm p) ∧ Hid (w.grownBy wr none)) (fun _ i _ => n - (intOf i).toNat)
  case atStart => exact ⟨0, rfl, by omega, Lib.hid (fun p hp => by simp at hp), grown_refl _ _⟩
  case round =>
    obtain ⟨k, rfl, hk, U, G⟩ := hrel
    by_cases hlt : k < n
    · obtain ⟨b, off, x0, y0, rfl, hp, c0, c1⟩ := (HF.out.grown G.out).at_ k hlt
      have HP := Lib.hid hp
      clear hp
      by_cases d1 : okm (x0, y0)
      · have B := Lib.hid (outB_no d1)
        have UN := Lib.hid (show ∀ p ∈ f.take (k + 1), okm p from fun p hp => by
          rw [Fm.take_next (by omega)] at hp
          rcases List.mem_append.1 hp with e | e
          · exact U.out p e
          · rw [List.mem_singleton] at e; subst e; rw [HP.out]; exact d1)
        clear d1
        go_wp2_with fail
        refine (isout_any x0 y0 _).mono ?_
        rintro e w1 ⟨rfl, hg⟩
        have G1 := Lib.hid (grown_trans G.out hg)
        clear hg
        rw [B.out]
        go_wp2
        go_roundw
        case rel => exact ⟨k + 1, by go_num, by omega, UN, G1⟩
        case measure => simp [intOf]; omega
      · have B := Lib.hid (outB_yes d1)
        have D := Lib.hid (show ¬ ∀ p ∈ f, okm p from fun h => d1 (by rw [← HP.out]; exact h _ (Fm.getD_mem (by omega))))
        clear d1
        go_wp2_with fail
        refine (isout_any x0 y0 _).mono ?_
        rintro e w1 ⟨rfl, hg⟩
        have G1 := Lib.hid (grown_trans G.out hg)
        clear hg
        rw [B.out]
        go_wp2
        go_ret
        exact ⟨_, rfl, by omega, ⟨fun e => by omega, fun h => absurd h D.out⟩, G1.out⟩
    · obtain rfl : k = n := by omega
      have D := Lib.hid (show ∀ p ∈ f, okm p by have := U.out; rw [List.take_of_length_le (by omega)] at this; exact this)
      go_wp2
      go_ret
      exact ⟨_, rfl, by omega, ⟨fun _ => D.out, fun _ => rfl⟩, G.out⟩
noncomputable def someOut (f : List Fm.Pc) : Bool := @decide (¬ ∀ p ∈ f, okm p) (Classical.propDecidable _)
theorem contains_any (s : Sl) (f : List Fm.Pc) (w : World) (h : FR w s f) :
    Calls Try.prog 56 #[s.v, .func (.func 57) #[] #[]] w (fun e w' => ∃ b, e = .returned (.bool b) ∧ (b = true ↔ ¬ ∀ p ∈ f, okm p) ∧ w.grownBy w' none) := by
  have HF := Lib.hid h
  clear h
  go_enter Try.func56, Try.ntmps56
  go_wp2_with fail
  refine (index_any s f w HF.out).mono ?_
  rintro e w1 ⟨i, rfl, h1, h2, hg⟩
  have G := Lib.hid hg
  have H2 := Lib.hid h2
  clear hg h2
  go_wp2
  go_ret
  refine ⟨_, rfl, ?_, G.out⟩
  rw [← H2.out]
  simp
  omega

/-- The piece that has the litre with this number, and how far within it. -/
structure Found (f : List Fm.Pc) (p : Int) (i : Nat) (x : Int) : Prop where
  le : i ≤ f.length
  x0 : 0 ≤ x
  xp : x ≤ p
  at_ : p = Fm.vol (f.take i) + x
  lt : i < f.length → x < (f.getD i Fm.zp).2
end Go.Proofs.Ytagemdgbnajobaa
