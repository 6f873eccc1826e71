/- Six cells of a telegram in memory. -/
import Derived.Test.YtcjbhkocpfkcbaaDoorTj
import Derived.Test.YtcjbhkocpfkcbaaDoorTf
namespace Go.Proofs.YtcjbhkocpfkcbaaDoor.Wr
open Go.ChangeShapes Go.WideShapes Go.ChangeAt Go.RowKit

/-- Block B holds a telegram, and may be written. -/
def Six (w : World) (B : Nat) (t : Tm.Tg) (V : Value) : Prop :=
  (w.cell? ⟨B, 0, none⟩ = some (.int .i64 t.st) ∧ w.cell? ⟨B, 1, none⟩ = some (.int .i64 t.ep) ∧ w.cell? ⟨B, 2, none⟩ = some (.int .i64 t.sq) ∧ w.cell? ⟨B, 3, none⟩ = some (.int .i64 t.tm) ∧ w.cell? ⟨B, 4, none⟩ = some (.int .i64 t.kd) ∧ w.cell? ⟨B, 5, none⟩ = some V) ∧
  (w.frozen? ⟨B, 0, none⟩ = false ∧ w.frozen? ⟨B, 1, none⟩ = false ∧ w.frozen? ⟨B, 2, none⟩ = false ∧ w.frozen? ⟨B, 3, none⟩ = false ∧ w.frozen? ⟨B, 4, none⟩ = false ∧ w.frozen? ⟨B, 5, none⟩ = false)
theorem Six.grown {w w' : World} {B : Nat} {t : Tm.Tg} {V : Value} {row : Option Nat} (h : Six w B t V) (g : w.grownBy w' row) (hr : some B ≠ row) : Six w' B t V := by
  obtain ⟨⟨h0, h1, h2, h3, h4, h5⟩, k0, k1, k2, k3, k4, k5⟩ := h
  exact ⟨⟨g.cell h0 hr, g.cell h1 hr, g.cell h2 hr, g.cell h3 hr, g.cell h4 hr, g.cell h5 hr⟩, grown_frozen g h0 k0 hr, grown_frozen g h1 k1 hr, grown_frozen g h2 k2 hr, grown_frozen g h3 k3 hr, grown_frozen g h4 k4 hr, grown_frozen g h5 k5 hr⟩
/-- A telegram is stored in block B. -/
def six (w : World) (B : Nat) (t : Tm.Tg) (V : Value) : World :=
  (((((w.setCell ⟨B, 0, none⟩ (.int .i64 t.st)).setCell ⟨B, 1, none⟩ (.int .i64 t.ep)).setCell ⟨B, 2, none⟩ (.int .i64 t.sq)).setCell ⟨B, 3, none⟩ (.int .i64 t.tm)).setCell ⟨B, 4, none⟩ (.int .i64 t.kd)).setCell ⟨B, 5, none⟩ V
theorem six_grown (w : World) (B : Nat) (t : Tm.Tg) (V : Value) : w.grownBy (six w B t V) (some B) :=
  grown_trans (grown_trans (grown_trans (grown_trans (grown_trans (grown_set w ⟨B, 0, none⟩ _) (grown_set _ ⟨B, 1, none⟩ _)) (grown_set _ ⟨B, 2, none⟩ _)) (grown_set _ ⟨B, 3, none⟩ _)) (grown_set _ ⟨B, 4, none⟩ _)) (grown_set _ ⟨B, 5, none⟩ _)
theorem set_hit {w : World} {a : Addr} {u : Value} (v : Value) (h : w.cell? a = some u) : (w.setCell a v).cell? a = some v := World.cell?_setCell_same _ _ _ h
theorem set_miss {w : World} {a b : Addr} {u : Value} (v : Value) (n : a ≠ b) (h : w.cell? b = some u) : (w.setCell a v).cell? b = some u := (World.cell?_setCell_other _ _ _ _ n).trans h
theorem off_ne (B : Nat) {i j : Nat} (h : i ≠ j) : (⟨B, i, none⟩ : Addr) ≠ ⟨B, j, none⟩ := by intro e; injection e with _ e2 _; exact h e2
theorem Six.store {w : World} {B : Nat} {t : Tm.Tg} {V : Value} (h : Six w B t V) (u : Tm.Tg) (U : Value) : Six (six w B u U) B u U := by
  obtain ⟨⟨h0, h1, h2, h3, h4, h5⟩, k0, k1, k2, k3, k4, k5⟩ := h
  have d (i j : Nat) (e : i ≠ j) := off_ne B e
  unfold six
  refine ⟨⟨?_, ?_, ?_, ?_, ?_, ?_⟩, ?_, ?_, ?_, ?_, ?_, ?_⟩
  · exact set_miss _ (d 5 0 (by omega)) (set_miss _ (d 4 0 (by omega)) (set_miss _ (d 3 0 (by omega)) (set_miss _ (d 2 0 (by omega)) (set_miss _ (d 1 0 (by omega)) (set_hit _ h0)))))
  · exact set_miss _ (d 5 1 (by omega)) (set_miss _ (d 4 1 (by omega)) (set_miss _ (d 3 1 (by omega)) (set_miss _ (d 2 1 (by omega)) (set_hit _ (set_miss _ (d 0 1 (by omega)) h1)))))
  · exact set_miss _ (d 5 2 (by omega)) (set_miss _ (d 4 2 (by omega)) (set_miss _ (d 3 2 (by omega)) (set_hit _ (set_miss _ (d 1 2 (by omega)) (set_miss _ (d 0 2 (by omega)) h2)))))
  · exact set_miss _ (d 5 3 (by omega)) (set_miss _ (d 4 3 (by omega)) (set_hit _ (set_miss _ (d 2 3 (by omega)) (set_miss _ (d 1 3 (by omega)) (set_miss _ (d 0 3 (by omega)) h3)))))
  · exact set_miss _ (d 5 4 (by omega)) (set_hit _ (set_miss _ (d 3 4 (by omega)) (set_miss _ (d 2 4 (by omega)) (set_miss _ (d 1 4 (by omega)) (set_miss _ (d 0 4 (by omega)) h4)))))
  · exact set_hit _ (set_miss _ (d 4 5 (by omega)) (set_miss _ (d 3 5 (by omega)) (set_miss _ (d 2 5 (by omega)) (set_miss _ (d 1 5 (by omega)) (set_miss _ (d 0 5 (by omega)) h5)))))
  all_goals simp only [World.frozen?_setCell]; assumption
theorem Six.made (w : World) (t : Tm.Tg) (V : Value) : Six (w.alloc (tcells t V)) w.heap.size t V := by
  obtain ⟨h0, h1, h2, h3, h4, h5⟩ := boxed_at (t := t) (V := V) (grown_refl (w.alloc (tcells t V)) none)
  exact ⟨⟨h0, h1, h2, h3, h4, h5⟩, by unfold tcells; simp⟩
theorem Six.put {w : World} {B : Nat} {t : Tm.Tg} {V : Value} (h : Six w B t V) (pb po : Nat → Nat) (f : Nat → Int) (k : Nat) (hn : ∀ i, i < k → pb i ≠ B) : Six (Wr.put w pb po f k) B t V := by
  obtain ⟨⟨h0, h1, h2, h3, h4, h5⟩, k0, k1, k2, k3, k4, k5⟩ := h
  have d (o : Nat) : ∀ i, i < k → (⟨pb i, po i, none⟩ : Addr) ≠ ⟨B, o, none⟩ := fun i hi e => hn i hi (by injection e)
  simp only [Six, put_other w pb po f _ k (d _), put_frozen]
  exact ⟨⟨h0, h1, h2, h3, h4, h5⟩, k0, k1, k2, k3, k4, k5⟩
end Go.Proofs.YtcjbhkocpfkcbaaDoor.Wr
