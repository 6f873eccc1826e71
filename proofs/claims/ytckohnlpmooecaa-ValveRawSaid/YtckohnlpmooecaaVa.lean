/- Valves as values and in memory; the reference's Valid, Open, Closed and Command. -/
import Derived.Test.YtckohnlpmooecaaFk
import Derived.Test.YtckohnlpmooecaaVm
import Derived.Deep.RegionHeld3
namespace Go.Proofs.Ytckohnlpmooecaa
open Go.ChangeShapes Go.WideShapes Go.ChangeAt Go.RowKit

def vv (t o : Int) (a s : Bool) : Value := .agg #[.int .i64 t, .int .i64 o, .bool a, .bool s]
/-- The call returned v; it made memory at most. -/
def Ret (v : Value) (w : World) (e : Ending) (w' : World) : Prop := e = .returned v ∧ w.grownBy w' none
/-- What Command, Step and Pass return. -/
def ve (t o : Int) (a s : Bool) (e : Int) : Value := .tuple #[vv t o a s, .int .i64 e]

theorem grown_frozen {w w' : World} {row : Option Nat} (h : w.grownBy w' row) {a : Addr} {v : Value} (hc : w.cell? a = some v) (hf : w.frozen? a = false) (hr : some a.block ≠ row) : w'.frozen? a = false := by
  rw [World.frozen?_of_block (h.block a.block (World.block_lt_of_cell? _ _ hc) hr)]; exact hf
theorem grown_off {w wr w' : World} {B : Nat} (h : w.grownBy wr none) (k : wr.grownBy w' (some B)) (hB : w.heap.size ≤ B) : w.grownBy w' none :=
  ⟨k.os.trans h.os, k.tape.trans h.tape, k.output.trans h.output, Nat.le_trans h.size k.size, fun i hi _ => (k.block i (Nat.lt_of_lt_of_le hi h.size) (by intro e; injection e with e; omega)).trans (h.block i hi (by simp))⟩

/-- A valve lies in block B, and may be written there. -/
def VC (w : World) (B : Nat) (t o : Int) (a s : Bool) : Prop :=
  w.cell? ⟨B, 0, none⟩ = some (.int .i64 t) ∧ w.cell? ⟨B, 1, none⟩ = some (.int .i64 o) ∧ w.cell? ⟨B, 2, none⟩ = some (.bool a) ∧ w.cell? ⟨B, 3, none⟩ = some (.bool s) ∧
  w.frozen? ⟨B, 0, none⟩ = false ∧ w.frozen? ⟨B, 1, none⟩ = false ∧ w.frozen? ⟨B, 2, none⟩ = false ∧ w.frozen? ⟨B, 3, none⟩ = false
theorem VC.grownRow {w w' : World} {B : Nat} {t o : Int} {a s : Bool} {row : Option Nat} (h : VC w B t o a s) (hg : w.grownBy w' row) (hr : some B ≠ row) : VC w' B t o a s := by
  obtain ⟨h0, h1, h2, h3, f0, f1, f2, f3⟩ := h
  exact ⟨hg.cell h0 hr, hg.cell h1 hr, hg.cell h2 hr, hg.cell h3 hr, grown_frozen hg h0 f0 hr, grown_frozen hg h1 f1 hr, grown_frozen hg h2 f2 hr, grown_frozen hg h3 f3 hr⟩
theorem VC.grown {w w' : World} {B : Nat} {t o : Int} {a s : Bool} (h : VC w B t o a s) (hg : w.grownBy w' none) : VC w' B t o a s := h.grownRow hg (by simp)

theorem VC.lt {w : World} {B : Nat} {t o : Int} {a s : Bool} (h : VC w B t o a s) : B < w.heap.size := World.block_lt_of_cell? _ _ h.1

/-- Four cells of a block are written. -/
def set4 (w : World) (B : Nat) (v0 v1 v2 v3 : Value) : World := (((w.setCell ⟨B, 0, none⟩ v0).setCell ⟨B, 1, none⟩ v1).setCell ⟨B, 2, none⟩ v2).setCell ⟨B, 3, none⟩ v3
theorem set4_grown (w : World) (B : Nat) (v0 v1 v2 v3 : Value) : w.grownBy (set4 w B v0 v1 v2 v3) (some B) :=
  grown_trans (grown_trans (grown_trans (grown_set w ⟨B, 0, none⟩ v0) (grown_set _ ⟨B, 1, none⟩ v1)) (grown_set _ ⟨B, 2, none⟩ v2)) (grown_set _ ⟨B, 3, none⟩ v3)
theorem VC.set1 {w : World} {B : Nat} {t o : Int} {a s : Bool} (h : VC w B t o a s) (o' : Int) : VC (w.setCell ⟨B, 1, none⟩ (.int .i64 o')) B t o' a s := by
  obtain ⟨h0, h1, h2, h3, f0, f1, f2, f3⟩ := h
  refine ⟨?_, ?_, ?_, ?_, ?_, ?_, ?_, ?_⟩
  · exact (World.cell?_setCell_other _ _ _ _ (by simp)).trans h0
  · exact World.cell?_setCell_same _ _ _ h1
  · exact (World.cell?_setCell_other _ _ _ _ (by simp)).trans h2
  · exact (World.cell?_setCell_other _ _ _ _ (by simp)).trans h3
  · rw [World.frozen?_setCell]; exact f0
  · rw [World.frozen?_setCell]; exact f1
  · rw [World.frozen?_setCell]; exact f2
  · rw [World.frozen?_setCell]; exact f3
theorem VC.set4 {w : World} {B : Nat} {t o : Int} {a s : Bool} (h : VC w B t o a s) (t' o' : Int) (a' s' : Bool) : VC (set4 w B (.int .i64 t') (.int .i64 o') (.bool a') (.bool s')) B t' o' a' s' := by
  obtain ⟨h0, h1, h2, h3, f0, f1, f2, f3⟩ := h
  unfold Proofs.Ytckohnlpmooecaa.set4
  have k1 := (World.cell?_setCell_other w ⟨B, 0, none⟩ ⟨B, 1, none⟩ (.int .i64 t') (by simp)).trans h1
  have k2 := (World.cell?_setCell_other (w.setCell ⟨B, 0, none⟩ (.int .i64 t')) ⟨B, 1, none⟩ ⟨B, 2, none⟩ (.int .i64 o') (by simp)).trans ((World.cell?_setCell_other w ⟨B, 0, none⟩ ⟨B, 2, none⟩ (.int .i64 t') (by simp)).trans h2)
  have k3 := (World.cell?_setCell_other ((w.setCell ⟨B, 0, none⟩ (.int .i64 t')).setCell ⟨B, 1, none⟩ (.int .i64 o')) ⟨B, 2, none⟩ ⟨B, 3, none⟩ (.bool a') (by simp)).trans ((World.cell?_setCell_other (w.setCell ⟨B, 0, none⟩ (.int .i64 t')) ⟨B, 1, none⟩ ⟨B, 3, none⟩ (.int .i64 o') (by simp)).trans ((World.cell?_setCell_other w ⟨B, 0, none⟩ ⟨B, 3, none⟩ (.int .i64 t') (by simp)).trans h3))
  refine ⟨?_, ?_, ?_, ?_, ?_, ?_, ?_, ?_⟩
  · exact (World.cell?_setCell_other _ _ _ _ (by simp)).trans ((World.cell?_setCell_other _ _ _ _ (by simp)).trans ((World.cell?_setCell_other _ _ _ _ (by simp)).trans (World.cell?_setCell_same _ _ _ h0)))
  · exact (World.cell?_setCell_other _ _ _ _ (by simp)).trans ((World.cell?_setCell_other _ _ _ _ (by simp)).trans (World.cell?_setCell_same _ _ _ k1))
  · exact (World.cell?_setCell_other _ _ _ _ (by simp)).trans (World.cell?_setCell_same _ _ _ k2)
  · exact World.cell?_setCell_same _ _ _ k3
  · simp only [World.frozen?_setCell]; exact f0
  · simp only [World.frozen?_setCell]; exact f1
  · simp only [World.frozen?_setCell]; exact f2
  · simp only [World.frozen?_setCell]; exact f3

theorem rvalid_yes (t o : Int) (a s : Bool) (w : World) (h : Vm.Ok t o) :
    Calls Try.prog 14 #[vv t o a s] w (Ret (.bool true) w) := by
  obtain ⟨h1, h2, h3, h4⟩ := h
  unfold vv
  go_enter Try.func14, Try.ntmps14
  go_wp2
  go_ret
  exact ⟨rfl, World.grownBy_alloc _ _ _⟩
theorem rvalid_no (t o : Int) (a s : Bool) (w : World) (h : ¬ Vm.Ok t o) :
    Calls Try.prog 14 #[vv t o a s] w (Ret (.bool false) w) := by
  unfold Vm.Ok at h
  unfold vv
  by_cases h1 : 1 ≤ t
  · by_cases h2 : t ≤ 60
    · by_cases h3 : 0 ≤ o
      · have h4 : ¬ o ≤ t := by omega
        clear h
        go_enter Try.func14, Try.ntmps14
        go_wp2
        go_ret
        exact ⟨rfl, World.grownBy_alloc _ _ _⟩
      · clear h
        go_enter Try.func14, Try.ntmps14
        go_wp2
        go_ret
        exact ⟨rfl, World.grownBy_alloc _ _ _⟩
    · clear h
      go_enter Try.func14, Try.ntmps14
      go_wp2
      go_ret
      exact ⟨rfl, World.grownBy_alloc _ _ _⟩
  · clear h
    go_enter Try.func14, Try.ntmps14
    go_wp2
    go_ret
    exact ⟨rfl, World.grownBy_alloc _ _ _⟩
end Go.Proofs.Ytckohnlpmooecaa
