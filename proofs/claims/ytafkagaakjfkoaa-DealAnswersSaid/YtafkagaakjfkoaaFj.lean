/- Contracts of what package piece calls: slices.Clone, slices.Equal, slices.ContainsFunc at pieces, litres, isOutOfRange, find. -/
import Derived.Test.YtafkagaakjfkoaaFg
namespace Go.Proofs.Ytafkagaakjfkoaa
open Go.ChangeShapes Go.WideShapes Go.ChangeAt Go.RowKit

/-- Out of range. -/
def outB (p : Fm.Pc) : Bool := decide (p.2 < 0) || decide (1000000 < p.2) || decide (p.1 < 0) || decide (1000 ≤ p.1)
theorem outB_yes {p : Fm.Pc} (h : ¬ okm p) : outB p = true := by
  unfold okm at h
  unfold outB
  simp only [Bool.or_eq_true, decide_eq_true_eq]
  omega
theorem outB_no {p : Fm.Pc} (h : okm p) : outB p = false := by
  unfold okm at h
  unfold outB
  simp only [Bool.or_eq_false_iff, decide_eq_false_iff_not]
  omega
theorem isout_any (x y : Int) (w : World) : Calls Try.prog 46 #[.agg #[.int .i64 x, .int .i64 y]] w (Ret (.bool (outB (x, y))) w) := by
  by_cases d1 : y < 0
  · have H := Lib.hid (outB_yes (p := (x, y)) (fun h => by unfold okm at h; dsimp only at h; omega))
    go_enter Try.func46, Try.ntmps46
    go_wp2
    go_ret
    exact ⟨ret_bool H.out.symm, World.grownBy_alloc _ _ _⟩
  · have e1 : decide (y < 0) = false := decide_eq_false d1
    by_cases d2 : 1000000 < y
    · have H := Lib.hid (outB_yes (p := (x, y)) (fun h => by unfold okm at h; dsimp only at h; omega))
      go_enter Try.func46, Try.ntmps46
      go_wp2
      go_ret
      exact ⟨ret_bool H.out.symm, World.grownBy_alloc _ _ _⟩
    · have e2 : decide (1000000 < y) = false := decide_eq_false d2
      by_cases d3 : x < 0
      · have H := Lib.hid (outB_yes (p := (x, y)) (fun h => by unfold okm at h; dsimp only at h; omega))
        go_enter Try.func46, Try.ntmps46
        go_wp2
        go_ret
        exact ⟨ret_bool H.out.symm, World.grownBy_alloc _ _ _⟩
      · have e3 : decide (x < 0) = false := decide_eq_false d3
        by_cases d4 : 1000 ≤ x
        · have H := Lib.hid (outB_yes (p := (x, y)) (fun h => by unfold okm at h; dsimp only at h; omega))
          go_enter Try.func46, Try.ntmps46
          go_wp2
          go_ret
          exact ⟨ret_bool H.out.symm, World.grownBy_alloc _ _ _⟩
        · have e4 : decide (1000 ≤ x) = false := decide_eq_false d4
          have H := Lib.hid (outB_no (p := (x, y)) (by unfold okm; dsimp only; omega))
          go_enter Try.func46, Try.ntmps46
          go_wp2
          go_ret
          exact ⟨ret_bool H.out.symm, World.grownBy_alloc _ _ _⟩

/-- What a look for a piece that is out of range returns. -/
def IdxEnd (f : List Fm.Pc) (w : World) (e : Ending) (w' : World) : Prop := ∃ i : Int, e = .returned (.int .i64 i) ∧ -1 ≤ i ∧ (i = -1 ↔ ∀ p ∈ f, okm p) ∧ w.grownBy w' none
set_option maxHeartbeats 400000 in
theorem index_any (s : Sl) (f : List Fm.Pc) (w : World) (h : FR w s f) :
    Calls Try.prog 49 #[s.v, .func (.func 46) #[] #[]] w (IdxEnd f w) := by
  obtain ⟨a, n, c⟩ := s
  have hlen := h.len
  have fit := h.fit
  dsimp only [Sl.fit] at hlen fit
  have HF := Lib.hid h
  clear h
  unfold Sl.v
  dsimp only
  go_enter Try.func49, Try.ntmps49
  go_wp2
  go_loopw [5, 8] (fun i5 i wr => ∃ (k : Nat), i = .int .i64 k ∧ k ≤ n ∧ Hid (∀ p ∈ f.take k, okm p) ∧ Hid (w.grownBy wr none)) (fun _ i _ => n - (intOf i).toNat)
  case atStart => exact ⟨0, rfl, by omega, Lib.hid (fun p hp => by simp at hp), grown_refl _ _⟩
  case round =>
    obtain ⟨k, rfl, hk, U, G⟩ := hrel
    by_cases hlt : k < n
    · obtain ⟨b, off, x0, y0, rfl, hp, c0, c1⟩ := (HF.out.grown G.out).at_ k hlt
      have HP := Lib.hid hp
      clear hp
      by_cases d1 : okm (x0, y0)
      · have B := Lib.hid (outB_no d1)
        have UN := Lib.hid (show ∀ p ∈ f.take (k + 1), okm p from fun p hp => by
          rw [Fm.take_next (by omega)] at hp
          rcases List.mem_append.1 hp with e | e
          · exact U.out p e
          · rw [List.mem_singleton] at e; subst e; rw [HP.out]; exact d1)
        clear d1
        go_wp2_with fail
        refine (isout_any x0 y0 _).mono ?_
        rintro e w1 ⟨rfl, hg⟩
        have G1 := Lib.hid (grown_trans G.out hg)
        clear hg
        rw [B.out]
        go_wp2
        go_roundw
        case rel => exact ⟨k + 1, by go_num, by omega, UN, G1⟩
        case measure => simp [intOf]; omega
      · have B := Lib.hid (outB_yes d1)
        have D := Lib.hid (show ¬ ∀ p ∈ f, okm p from fun h => d1 (by rw [← HP.out]; exact h _ (Fm.getD_mem (by omega))))
        clear d1
        go_wp2_with fail
        refine (isout_any x0 y0 _).mono ?_
        rintro e w1 ⟨rfl, hg⟩
        have G1 := Lib.hid (grown_trans G.out hg)
        clear hg
        rw [B.out]
        go_wp2
        go_ret
        exact ⟨_, rfl, by omega, ⟨fun e => by omega, fun h => absurd h D.out⟩, G1.out⟩
    · obtain rfl : k = n := by omega
      have D := Lib.hid (show ∀ p ∈ f, okm p by have := U.out; rw [List.take_of_length_le (by omega)] at this; exact this)
      go_wp2
      go_ret
      exact ⟨_, rfl, by omega, ⟨fun _ => D.out, fun _ => rfl⟩, G.out⟩
noncomputable def someOut (f : List Fm.Pc) : Bool := @decide (¬ ∀ p ∈ f, okm p) (Classical.propDecidable _)
theorem contains_any (s : Sl) (f : List Fm.Pc) (w : World) (h : FR w s f) :
    Calls Try.prog 45 #[s.v, .func (.func 46) #[] #[]] w (fun e w' => ∃ b, e = .returned (.bool b) ∧ (b = true ↔ ¬ ∀ p ∈ f, okm p) ∧ w.grownBy w' none) := by
  have HF := Lib.hid h
  clear h
  go_enter Try.func45, Try.ntmps45
  go_wp2_with fail
  refine (index_any s f w HF.out).mono ?_
  rintro e w1 ⟨i, rfl, h1, h2, hg⟩
  have G := Lib.hid hg
  have H2 := Lib.hid h2
  clear hg h2
  go_wp2
  go_ret
  refine ⟨_, rfl, ?_, G.out⟩
  rw [← H2.out]
  simp
  omega

/-- The piece that has the litre with this number, and how far within it. -/
structure Found (f : List Fm.Pc) (p : Int) (i : Nat) (x : Int) : Prop where
  le : i ≤ f.length
  x0 : 0 ≤ x
  xp : x ≤ p
  at_ : p = Fm.vol (f.take i) + x
  lt : i < f.length → x < (f.getD i Fm.zp).2
end Go.Proofs.Ytafkagaakjfkoaa
