/- Contract of the reference's Next. -/
import Derived.Test.YtafkagaakjfkoaaDa
namespace Go.Proofs.Ytafkagaakjfkoaa
open Go.ChangeShapes Go.WideShapes Go.ChangeAt Go.RowKit

/-- Who gets the next litre, as a number; none: -1. -/
def nb : Option Nat → Int
  | none => -1
  | some b => b
theorem mul_bd {a b : Int} (a0 : 0 ≤ a) (a1 : a ≤ 1000001) (b0 : 0 ≤ b) (b1 : b ≤ 1000) : 0 ≤ a * b ∧ a * b ≤ 1000001000 :=
  ⟨Int.mul_nonneg a0 b0, Int.le_trans (Int.mul_le_mul a1 b1 b0 (by omega)) (by omega)⟩
/-- Counts that are small. -/
def okg (g : List Int) : Prop := ∀ i, i < g.length → 0 ≤ g.getD i 0 ∧ g.getD i 0 ≤ 1000000
theorem best_zero {r g : List Int} {k : Nat} (h : r.getD k 0 ≤ 0) : Dm.best r g (k + 1) = Dm.best r g k := by
  rw [Dm.best]
  split
  · rw [if_neg (by omega)]; simp [*]
  · rw [if_neg (fun h' => by omega)]; simp [*]
theorem best_first {r g : List Int} {k : Nat} (h : 0 < r.getD k 0) (e : Dm.best r g k = none) : Dm.best r g (k + 1) = some k := by
  rw [Dm.best, e]; exact if_pos h
theorem best_new {r g : List Int} {k b : Nat} (h : 0 < r.getD k 0) (e : Dm.best r g k = some b) (hl : (g.getD k 0 + 1) * r.getD b 0 < (g.getD b 0 + 1) * r.getD k 0) : Dm.best r g (k + 1) = some k := by
  rw [Dm.best, e]; exact if_pos ⟨h, hl⟩
theorem best_old {r g : List Int} {k b : Nat} (e : Dm.best r g k = some b) (hl : ¬ (g.getD k 0 + 1) * r.getD b 0 < (g.getD b 0 + 1) * r.getD k 0) : Dm.best r g (k + 1) = some b := by
  rw [Dm.best, e]; exact if_neg (fun h => hl h.2)

set_option maxHeartbeats 1000000 in
theorem rnext_any (s t : Sl) (r g : List Int) (w : World) (h : NR w s r) (k : NR w t g) (hr : okr r) (hg : okg g) (hl : g.length = r.length) (hn : r.length ≤ 64) : Calls Try.prog 34 #[s.v, t.v] w (Ret (.int .i64 (nb (Dm.next r g))) w) := by
  obtain ⟨a, n, c⟩ := s
  obtain ⟨a', n', c'⟩ := t
  have hlen := h.len
  have klen := k.len
  have fit := h.fit
  have fit' := k.fit
  dsimp only [Sl.fit] at hlen klen fit fit'
  obtain rfl : n' = n := by omega
  have HF := Lib.hid h
  have KF := Lib.hid k
  have HR := Lib.hid hr
  have HG := Lib.hid hg
  clear h k hr hg
  unfold Sl.v
  dsimp only
  obtain ⟨E, hE⟩ : ∃ E, E = nb (Dm.next r g) := ⟨_, rfl⟩
  rw [← hE]
  have HE := Lib.hid hE
  clear hE
  go_enter Try.func34, Try.ntmps34
  go_wp2
  go_loopw [5, 9] (fun sb i wr => ∃ (j : Nat) (o : Option Nat), sb = .int .i64 (nb o) ∧ i = .int .i64 j ∧ j ≤ n' ∧ Hid (o = Dm.best r g j) ∧ Hid (w.grownBy wr none)) (fun _ i _ => n' - (intOf i).toNat)
  case atStart => exact ⟨0, none, rfl, rfl, by omega, Lib.hid rfl, grown_refl _ _⟩
  case round =>
    obtain ⟨j, o, rfl, rfl, hj, O, G⟩ := hrel
    by_cases hlt : j < n'
    · obtain ⟨b, off, rfl, c0⟩ := (HF.out.grown G.out).at_ j hlt
      obtain ⟨b', off', rfl, d0⟩ := (KF.out.grown G.out).at_ j hlt
      have R := HR.out j (by omega)
      have Q := HG.out j (by omega)
      obtain ⟨y, hy⟩ : ∃ y, y = r.getD j 0 := ⟨_, rfl⟩
      rw [← hy] at c0 R
      obtain ⟨x, hx⟩ : ∃ x, x = g.getD j 0 := ⟨_, rfl⟩
      rw [← hx] at d0 Q
      have HY := Lib.hid hy
      have HX := Lib.hid hx
      clear hy hx
      by_cases y0 : 0 < y
      · cases o with
        | none =>
          have N := Lib.hid (best_first (by rw [← HY.out]; exact y0) O.out.symm).symm
          unfold nb
          dsimp only
          go_wp2
          go_quiet (fail)
          go_wp2
          go_roundw
          case rel => exact ⟨j + 1, some j, rfl, by go_num, by omega, N, Lib.hid (grown_trans G.out (grown_drewN _ _ _))⟩
          case measure => simp [intOf]; omega
        | some q =>
          have hq := (Dm.best_some O.out.symm).1
          have c1 := (HF.out.grown G.out).got q (by omega)
          have d1 := (KF.out.grown G.out).got q (by omega)
          have R1 := HR.out q (by omega)
          have Q1 := HG.out q (by omega)
          obtain ⟨y1, hy1⟩ : ∃ y, y = r.getD q 0 := ⟨_, rfl⟩
          rw [← hy1] at c1 R1
          obtain ⟨x1, hx1⟩ : ∃ x, x = g.getD q 0 := ⟨_, rfl⟩
          rw [← hx1] at d1 Q1
          have HY1 := Lib.hid hy1
          have HX1 := Lib.hid hx1
          clear hy1 hx1
          have hqn : (q : Int) < (n' : Int) := by omega
          have b1 := mul_bd (a := x + 1) (b := y1) (by omega) (by omega) R1.1 R1.2
          have b2 := mul_bd (a := x1 + 1) (b := y) (by omega) (by omega) R.1 R.2
          have w0 : IntKind.i64.wrap (x + 1) = x + 1 := IntWalk.i64_in _ (by omega)
          have w1 : IntKind.i64.wrap (x1 + 1) = x1 + 1 := IntWalk.i64_in _ (by omega)
          have w2 : IntKind.i64.wrap ((x + 1) * y1) = (x + 1) * y1 := IntWalk.i64_in _ (by omega)
          have w3 : IntKind.i64.wrap ((x1 + 1) * y) = (x1 + 1) * y := IntWalk.i64_in _ (by omega)
          have nq0 : decide ((q : Int) < 0) = false := decide_eq_false (by omega)
          clear b1 b2
          unfold nb
          dsimp only
          by_cases hlt2 : (x + 1) * y1 < (x1 + 1) * y
          · have N := Lib.hid (best_new (by rw [← HY.out]; exact y0) O.out.symm (by rw [← HY.out, ← HX.out, ← HY1.out, ← HX1.out]; exact hlt2)).symm
            go_wp2
            go_quiet (fail)
            go_wp2
            go_roundw
            case rel => exact ⟨j + 1, some j, rfl, by go_num, by omega, N, Lib.hid (grown_trans G.out (grown_drewN _ _ _))⟩
            case measure => simp [intOf]; omega
          · have N := Lib.hid (best_old O.out.symm (by rw [← HY.out, ← HX.out, ← HY1.out, ← HX1.out]; exact hlt2)).symm
            have e2 : decide ((x + 1) * y1 < (x1 + 1) * y) = false := decide_eq_false hlt2
            go_wp2
            go_quiet (fail)
            go_wp2
            go_roundw
            case rel => exact ⟨j + 1, some q, rfl, by go_num, by omega, N, Lib.hid (grown_trans G.out (grown_drewN _ _ _))⟩
            case measure => simp [intOf]; omega
      · have N := Lib.hid (show o = Dm.best r g (j + 1) by rw [best_zero (by rw [← HY.out]; omega)]; exact O.out)
        have e0 : decide (0 < y) = false := decide_eq_false y0
        go_wp2
        go_quiet (fail)
        go_wp2
        go_roundw
        case rel => exact ⟨j + 1, o, rfl, by go_num, by omega, N, Lib.hid (grown_trans G.out (grown_drewN _ _ _))⟩
        case measure => simp [intOf]; omega
    · obtain rfl : j = n' := by omega
      have N := Lib.hid (show nb o = nb (Dm.next r g) by unfold Dm.next; rw [show r.length = j by omega, ← O.out])
      go_wp2
      go_ret
      exact ⟨ret_i (by rw [HE.out, N.out]), G.out⟩
end Go.Proofs.Ytafkagaakjfkoaa
