/- Contracts of meter.steps and meter.Read. -/
import Derived.Test.YtilchmlbihffdaaMr
namespace Go.Proofs.Ytilchmlbihffdaa
open Go.ChangeShapes Go.WideShapes Go.ChangeAt Go.RowKit

theorem step_range {b l n : Int} (hb : b = 16 ∨ b = 32) (h1 : 0 ≤ l) (h2 : l < Mt.span b) (h3 : 0 ≤ n) (h4 : n < Mt.span b) : 0 ≤ Mt.step b l n ∧ Mt.step b l n < Mt.span b ∧ Mt.span b ≤ 4294967296 := by
  unfold Mt.step
  rcases Mt.span_cases hb with ⟨_, e⟩ | ⟨_, e⟩ <;> split <;> omega

theorem steps_any (p b f l n : Int) (w : World) (hb : b = 16 ∨ b = 32) (h1 : 0 ≤ l) (h2 : l < Mt.span b) (h3 : 0 ≤ n) (h4 : n < Mt.span b) :
    Calls Try.prog 25 #[mv p b f, .int .i64 l, .int .i64 n] w (Ret (.int .i64 (Mt.step b l n)) w) := by
  have hr := step_range hb h1 h2 h3 h4
  have HR := Lib.hid (fun w => readings_any p b f w hb)
  by_cases h : n - l < 0
  · have e : Mt.step b l n = n - l + Mt.span b := by unfold Mt.step; rw [if_pos h]
    rw [e] at hr ⊢
    generalize Mt.span b = s at *
    clear e hb
    unfold mv
    go_enter Try.func25, Try.ntmps25
    go_wp2_with fail
    refine (HR.out _).mono ?_
    rintro e w' ⟨rfl, hg⟩
    have G := Lib.hid (grown_trans (World.grownBy_alloc _ _ _) hg)
    clear hg
    go_wp2
    go_ret
    exact ⟨rfl, G.out⟩
  · have e : Mt.step b l n = n - l := by unfold Mt.step; rw [if_neg h]
    rw [e] at hr ⊢
    generalize Mt.span b = s at *
    clear e hb
    unfold mv
    go_enter Try.func25, Try.ntmps25
    go_wp2
    go_ret
    exact ⟨rfl, World.grownBy_alloc _ _ _⟩

def rd (p b f l q n : Int) : Int × Int × Int :=
  if Mt.valid p b f then if Mt.isC b l q then if isR b n then if q + Mt.step b l n ≤ 1099511627776 then (n, q + Mt.step b l n, 0) else (0, 0, 4) else (0, 0, 1) else (0, 0, 9) else (0, 0, 9)
def rdv (r : Int × Int × Int) : Value := .tuple #[cv r.1 r.2.1, .int .i64 r.2.2]


/-- What a function that reads counts has laid: its meter, its count, and its result. -/
def RW (w : World) (X : Nat) (p b f l q : Int) : Prop :=
  w.cell? ⟨X, 0, none⟩ = some (.int .i64 p) ∧ w.cell? ⟨X, 1, none⟩ = some (.int .i64 b) ∧ w.cell? ⟨X, 2, none⟩ = some (.int .i64 f) ∧
  w.cell? ⟨X + 1, 0, none⟩ = some (.int .i64 l) ∧ w.cell? ⟨X + 1, 1, none⟩ = some (.int .i64 q) ∧
  w.cell? ⟨X + 1 + 1, 0, none⟩ = some (.int .i64 0) ∧ w.cell? ⟨X + 1 + 1, 1, none⟩ = some (.int .i64 0) ∧
  w.frozen? ⟨X + 1 + 1, 0, none⟩ = false ∧ w.frozen? ⟨X + 1 + 1, 1, none⟩ = false

theorem grown_frozen {w w' : World} {row : Option Nat} (h : w.grownBy w' row) {a : Addr} {v : Value} (hc : w.cell? a = some v) (hf : w.frozen? a = false) (hr : some a.block ≠ row) : w'.frozen? a = false := by
  rw [World.frozen?_of_block (h.block a.block (World.block_lt_of_cell? _ _ hc) hr)]; exact hf
theorem grown_off {w wr w' : World} {B : Nat} (h : w.grownBy wr none) (k : wr.grownBy w' (some B)) (hB : w.heap.size ≤ B) : w.grownBy w' none :=
  ⟨k.os.trans h.os, k.tape.trans h.tape, k.output.trans h.output, Nat.le_trans h.size k.size, fun i hi _ => (k.block i (Nat.lt_of_lt_of_le hi h.size) (by intro e; injection e with e; omega)).trans (h.block i hi (by simp))⟩

theorem RW.grown {w w' : World} {X : Nat} {p b f l q : Int} (h : RW w X p b f l q) (hg : w.grownBy w' none) : RW w' X p b f l q := by
  obtain ⟨h0, h1, h2, h3, h4, h5, h6, h7, h8⟩ := h
  exact ⟨hg.cell h0 (by simp), hg.cell h1 (by simp), hg.cell h2 (by simp), hg.cell h3 (by simp), hg.cell h4 (by simp), hg.cell h5 (by simp), hg.cell h6 (by simp), grown_frozen hg h5 h7 (by simp), grown_frozen hg h6 h8 (by simp)⟩
theorem RW.start (w : World) (p b f l q : Int) : RW (((w.alloc (Obj.cells #[.int .i64 p, .int .i64 b, .int .i64 f] 23)).alloc (Obj.cells #[.int .i64 l, .int .i64 q] 25)).alloc (Obj.cells #[.int .i64 0, .int .i64 0] 25)) w.heap.size p b f l q := by
  unfold RW
  refine ⟨?_, ?_, ?_, ?_, ?_, ?_, ?_, ?_, ?_⟩
  all_goals go_simp
theorem start_grown (w : World) (a b c : Obj) : w.grownBy (((w.alloc a).alloc b).alloc c) none := grown_trans (grown_trans (World.grownBy_alloc _ _ _) (World.grownBy_alloc _ _ _)) (World.grownBy_alloc _ _ _)

/-- Two cells of a block are written. -/
theorem stored2 (w1 : World) (B : Nat) {u0 u1 : Value} (v0 v1 : Value) (h0 : w1.cell? ⟨B, 0, none⟩ = some u0) (h1 : w1.cell? ⟨B, 1, none⟩ = some u1) :
    ((w1.setCell ⟨B, 0, none⟩ v0).setCell ⟨B, 1, none⟩ v1).cell? ⟨B, 0, none⟩ = some v0 ∧ ((w1.setCell ⟨B, 0, none⟩ v0).setCell ⟨B, 1, none⟩ v1).cell? ⟨B, 1, none⟩ = some v1 := by
  constructor
  · exact (World.cell?_setCell_other _ _ _ _ (by simp)).trans (World.cell?_setCell_same _ _ _ h0)
  · exact World.cell?_setCell_same _ _ _ (u := u1) ((World.cell?_setCell_other _ _ _ _ (by simp)).trans h1)
theorem stored2_grown {w w1 : World} {B : Nat} (v0 v1 : Value) (h : w.grownBy w1 none) (hB : w.heap.size ≤ B) : w.grownBy ((w1.setCell ⟨B, 0, none⟩ v0).setCell ⟨B, 1, none⟩ v1) none :=
  grown_off (grown_off h (grown_set _ ⟨B, 0, none⟩ _) hB) (grown_set _ ⟨B, 1, none⟩ _) hB

theorem RW.row {w w' : World} {X B : Nat} {p b f l q : Int} (h : RW w X p b f l q) (hg : w.grownBy w' (some B)) (hB : X + 1 + 1 < B) : RW w' X p b f l q := by
  obtain ⟨h0, h1, h2, h3, h4, h5, h6, h7, h8⟩ := h
  have n0 : some X ≠ some B := by intro e; injection e; omega
  have n1 : some (X + 1) ≠ some B := by intro e; injection e; omega
  have n2 : some (X + 1 + 1) ≠ some B := by intro e; injection e; omega
  exact ⟨hg.cell h0 n0, hg.cell h1 n0, hg.cell h2 n0, hg.cell h3 n1, hg.cell h4 n1, hg.cell h5 n2, hg.cell h6 n2, grown_frozen hg h5 h7 n2, grown_frozen hg h6 h8 n2⟩
theorem RW.stored2 {w : World} {X B : Nat} {p b f l q : Int} (v0 v1 : Value) (h : RW w X p b f l q) (hB : X + 1 + 1 < B) : RW ((w.setCell ⟨B, 0, none⟩ v0).setCell ⟨B, 1, none⟩ v1) X p b f l q :=
  (h.row (grown_set w ⟨B, 0, none⟩ v0) hB).row (grown_set _ ⟨B, 1, none⟩ v1) hB

theorem read_inv (p b f l q n : Int) (w : World) (h : Mt.valid p b f = false) :
    Calls Try.prog 14 #[mv p b f, cv l q, .int .i64 n] w (Ret (rdv (0, 0, 9)) w) := by
  have HV := Lib.hid (fun w => meterValid_no p b f w h)
  clear h
  unfold mv cv
  go_enter Try.func14, Try.ntmps14
  go_wp2_with fail
  refine (HV.out _).mono ?_
  rintro e w1 ⟨rfl, hg⟩
  have R := Lib.hid ((RW.start w p b f l q).grown hg)
  have G := Lib.hid (grown_trans (start_grown _ _ _ _) hg)
  clear hg
  obtain ⟨_, _, _, _, _, z0, z1, z2, z3⟩ := R.out
  obtain ⟨q0, q1⟩ := stored2 w1 (w.heap.size + 1 + 1) (.int .i64 0) (.int .i64 0) z0 z1
  go_wp2
  refine bodyPost_ret (v := rdv (0, 0, 9)) (by simp [results, Try.results14, go_sem, q0, q1, rdv, cv]) rfl ⟨rfl, stored2_grown _ _ G.out (by omega)⟩
end Go.Proofs.Ytilchmlbihffdaa
