/- Contracts of the law's example and of the reader of provers. -/
import Derived.Test.YtjeejdoahhkjbaaPi
namespace Go.Proofs.Ytjeejdoahhkjbaa
open Go.ChangeShapes Go.WideShapes Go.ChangeAt Go.RowKit

/-- A row that the call has just made. -/
theorem rw_new (w : World) (C : Array Value) (n : Nat) (x : Nat → Int) (hC : ∀ i, i < n → C[i]? = some (.int .i64 (x i))) : Rw (w.alloc (.cells C 3)) w.heap.size 0 n x := fun i hi => by
  rw [Nat.zero_add, World.cell?_alloc_new]
  exact hC i hi

def exRuns : Nat → Int := fun i => [1990, 2001, 2000, 2000, 2001, 2000].getD i 0
theorem ex_pr : Pm.Pr 1000 500 2000 16 100000 6 exRuns 99980 1 0 := by
  have h : Pm.Pr 1000 500 2000 16 100000 6 exRuns (Pm.fac 1000 2000 exRuns 1) (1 : Nat) 0 :=
    .ok (by decide) (by decide) (by omega) (fun i hi => by
      match i, hi with
      | 0, _ => decide
      | 1, _ => decide
      | 2, _ => decide
      | 3, _ => decide
      | 4, _ => decide
      | 5, _ => decide) 1 ⟨by omega, by decide, fun j hj => by obtain rfl : j = 0 := (by omega); decide⟩ (by decide) (by decide)
  rw [show Pm.fac 1000 2000 exRuns 1 = 99980 by decide] at h
  exact h

theorem awake_any (w : World) : Calls Try.prog 8 #[] w (Ret (.bool true) w) := by
  have h1 := prove_any 1000 500 2000 16 100000 99980 0 w.heap.size 0 6 6 1 (some ⟨w.heap.size, 0, none⟩) exRuns (w.alloc (.cells #[.int .i64 1990, .int .i64 2001, .int .i64 2000, .int .i64 2000, .int .i64 2001, .int .i64 2000] 3)) (by omega) (by omega) (fun _ => rfl)
    (rw_new w _ 6 exRuns (fun i hi => by
      match i, hi with
      | 0, _ => rfl
      | 1, _ => rfl
      | 2, _ => rfl
      | 3, _ => rfl
      | 4, _ => rfl
      | 5, _ => rfl)) ex_pr
  unfold pv mv errv at h1
  have H1 := Lib.hid h1
  clear h1
  go_enter Try.func8, Try.ntmps8
  go_wp2_with fail
  refine (H1.out).mono ?_
  rintro e w1 ⟨rfl, hg⟩
  have G := Lib.hid (grown_trans (World.grownBy_alloc _ _ _) hg)
  clear hg
  go_wp2
  go_ret
  exact ⟨rfl, G.out⟩

def MadeEnd (S : Nat) (w : World) (e : Ending) (w' : World) : Prop :=
  ∃ v t : Int, Pm.pvalid v t = true ∧ e = .returned (pv v t) ∧ w.grownBy w' (some S) ∧ SrcOK w' S

theorem ZW2_start (w : World) : (w.alloc (Obj.cells #[.int .i64 0, .int .i64 0] 23)).cell? ⟨w.heap.size, 0, none⟩ = some (.int .i64 0) ∧ (w.alloc (Obj.cells #[.int .i64 0, .int .i64 0] 23)).cell? ⟨w.heap.size, 1, none⟩ = some (.int .i64 0) ∧
    (w.alloc (Obj.cells #[.int .i64 0, .int .i64 0] 23)).frozen? ⟨w.heap.size, 0, none⟩ = false ∧ (w.alloc (Obj.cells #[.int .i64 0, .int .i64 0] 23)).frozen? ⟨w.heap.size, 1, none⟩ = false := by
  refine ⟨?_, ?_, ?_, ?_⟩
  all_goals go_simp
/-- A result of two numbers that lies in block X, and is still zero. -/
def ZV (w : World) (X : Nat) : Prop :=
  w.cell? ⟨X, 0, none⟩ = some (.int .i64 0) ∧ w.cell? ⟨X, 1, none⟩ = some (.int .i64 0) ∧ w.frozen? ⟨X, 0, none⟩ = false ∧ w.frozen? ⟨X, 1, none⟩ = false
theorem ZV.row {w w' : World} {X S : Nat} (h : ZV w X) (hg : w.grownBy w' (some S)) (hX : S < X) : ZV w' X := by
  obtain ⟨h0, h1, h3, h4⟩ := h
  have n0 : some X ≠ some S := by intro e; injection e; omega
  exact ⟨hg.cell h0 n0, hg.cell h1 n0, grown_frozen hg h0 h3 n0, grown_frozen hg h1 h4 n0⟩

set_option maxHeartbeats 600000 in
theorem made_any (S : Nat) (w : World) (hs : SrcOK w S) : Calls Try.prog 10 #[.pointer (some ⟨S, 0, none⟩)] w (MadeEnd S w) := by
  have hS := src_lt hs
  have HS := Lib.hid hs
  clear hs
  go_enter Try.func10, Try.ntmps10
  go_wp2_with fail
  refine Calls.mono (pick_lit S 4 (w.heap.size + 1) [1, 1000, 5000, 100000] #[.int .i64 1, .int .i64 1000, .int .i64 5000, .int .i64 100000] (w.alloc (Obj.cells #[.int .i64 0, .int .i64 0] 23)) (by simp) (HS.out.grown (World.grownBy_alloc _ _ _)) rfl (by omega) (by omega) ?_) ?_
  · intro i hi
    match i, hi with
    | 0, _ => rfl
    | 1, _ => rfl
    | 2, _ => rfl
    | 3, _ => rfl
  rintro e w1 ⟨v, hv, rfl, hg, hs⟩
  have V : Hid (1 ≤ v ∧ v ≤ 100000) := by
    simp at hv
    show 1 ≤ v ∧ v ≤ 100000
    omega
  have Z := Lib.hid ((show ZV _ _ from ZW2_start w).row hg hS)
  have G := Lib.hid (grown_trans (World.grownBy_alloc w (Obj.cells #[.int .i64 0, .int .i64 0] 23) (some S)) hg)
  have HS := Lib.hid hs
  clear hv hg hs
  go_wp2_with fail
  refine Calls.mono (pick_lit S 4 w1.heap.size [0, 200, 500, 10000] #[.int .i64 0, .int .i64 200, .int .i64 500, .int .i64 10000] w1 rfl HS.out rfl (by omega) (by omega) ?_) ?_
  · intro i hi
    match i, hi with
    | 0, _ => rfl
    | 1, _ => rfl
    | 2, _ => rfl
    | 3, _ => rfl
  rintro e w2 ⟨t, ht, rfl, hg, hs⟩
  have T : Hid (0 ≤ t ∧ t ≤ 10000) := by
    simp at ht
    show 0 ≤ t ∧ t ≤ 10000
    omega
  have Z := Lib.hid (Z.out.row hg hS)
  have G := Lib.hid (grown_trans G.out hg)
  have HS := Lib.hid hs
  clear ht hg hs
  obtain ⟨z0, z1, z3, z4⟩ := Z.out
  obtain ⟨q0, q1⟩ := stored2 w2 w.heap.size (.int .i64 v) (.int .i64 t) z0 z1
  have GE := Lib.hid (grown_skip (grown_skip G.out (grown_set _ ⟨w.heap.size, 0, none⟩ (.int .i64 v)) (Nat.le_refl _)) (grown_set _ ⟨w.heap.size, 1, none⟩ (.int .i64 t)) (Nat.le_refl _))
  have SE := Lib.hid ((HS.out.grownRow (grown_set _ ⟨w.heap.size, 0, none⟩ (.int .i64 v)) (fun k e => by cases e; exact hS)).grownRow (grown_set _ ⟨w.heap.size, 1, none⟩ (.int .i64 t)) (fun k e => by cases e; exact hS))
  go_wp2
  refine bodyPost_ret (v := pv v t) (by simp [results, Try.results10, go_sem, q0, q1, pv]) rfl ⟨v, t, Pm.pvalid_mk V.out.1 V.out.2 T.out.1 T.out.2, rfl, GE.out, SE.out⟩
end Go.Proofs.Ytjeejdoahhkjbaa
