/- Contracts of the reference's Shift and Push. -/
import Derived.Test.YtafkagaakjfkoaaFf
namespace Go.Proofs.Ytafkagaakjfkoaa
open Go.ChangeShapes Go.WideShapes Go.ChangeAt Go.RowKit

/-- What a push returns: the new fill, what leaves, the error. -/
inductive Pushed (f g : List Fm.Pc) (back : Bool) : List Fm.Pc → List Fm.Pc → Int → Prop
  | bad : ¬ (Fm.Val f ∧ Fm.Val g) → Pushed f g back [] [] 9
  | full : Fm.Val f → Fm.Val g → 200 < (Fm.mer (Fm.shift (Fm.lit f) (Fm.lit g) back).1).length ∨ 200 < (Fm.mer (Fm.shift (Fm.lit f) (Fm.lit g) back).2).length → Pushed f g back [] [] 4
  | ok : Fm.Val f → Fm.Val g → (Fm.mer (Fm.shift (Fm.lit f) (Fm.lit g) back).1).length ≤ 200 → (Fm.mer (Fm.shift (Fm.lit f) (Fm.lit g) back).2).length ≤ 200 → Pushed f g back (Fm.mer (Fm.shift (Fm.lit f) (Fm.lit g) back).1) (Fm.mer (Fm.shift (Fm.lit f) (Fm.lit g) back).2) 0
theorem pushed_any (f g : List Fm.Pc) (back : Bool) : ∃ n o c, Pushed f g back n o c := by
  by_cases h1 : Fm.Val f
  · by_cases h2 : Fm.Val g
    · by_cases h3 : (Fm.mer (Fm.shift (Fm.lit f) (Fm.lit g) back).1).length ≤ 200
      · by_cases h4 : (Fm.mer (Fm.shift (Fm.lit f) (Fm.lit g) back).2).length ≤ 200
        · exact ⟨_, _, _, .ok h1 h2 h3 h4⟩
        · exact ⟨_, _, _, .full h1 h2 (.inr (by omega))⟩
      · exact ⟨_, _, _, .full h1 h2 (.inl (by omega))⟩
    · exact ⟨_, _, _, .bad (fun h => h2 h.2)⟩
  · exact ⟨_, _, _, .bad (fun h => h1 h.1)⟩
/-- Three values are returned, and memory is made at most. -/
def PushEnd (n o : List Fm.Pc) (c : Int) (w : World) (e : Ending) (w' : World) : Prop :=
  ∃ r t : Sl, e = .returned (.tuple #[r.v, t.v, .int .i64 c]) ∧ FR w' r n ∧ FR w' t o ∧ w.grownBy w' none

/-- A literal without elements. -/
theorem or_lit (W : World) : OP W.heap.size (W.alloc (.cells #[] 38)) ⟨some ⟨W.heap.size, 0, none⟩, 0, 0⟩ [] := by
  refine ⟨?_⟩
  have := World.ownsRow_lit (base := W.heap.size) (e := 38) (size := 2) W #[] 0 (Nat.le_refl _) (by unfold maxLen; omega) (by simp)
  simpa [Sl.v, f2] using this
theorem shift_bound {f g : List Fm.Pc} (hf : Fm.Val f) (hg : Fm.Val g) : Fm.Pos (f ++ g) ∧ (f ++ g).length ≤ 400 ∧ Fm.vol (f ++ g) ≤ 2000000 := by
  refine ⟨hf.pos.app hg.pos, ?_, ?_⟩
  · have := hf.len; have := hg.len; rw [List.length_append]; omega
  · have := hf.vol; have := hg.vol; rw [Fm.vol_app]; omega

theorem pushed_val {f g n o : List Fm.Pc} {back : Bool} {c : Int} (h : Pushed f g back n o c) : n.length ≤ 200 ∧ o.length ≤ 200 := by
  cases h with
  | bad _ => simp
  | full _ _ _ => simp
  | ok _ _ h1 h2 => exact ⟨h1, h2⟩
theorem pushed_one {f g n o n' o' : List Fm.Pc} {back : Bool} {c c' : Int} (h : Pushed f g back n o c) (k : Pushed f g back n' o' c') : n = n' ∧ o = o' ∧ c = c' := by
  cases h with
  | bad h =>
    cases k with
    | bad _ => exact ⟨rfl, rfl, rfl⟩
    | full a b _ => exact absurd ⟨a, b⟩ h
    | ok a b _ _ => exact absurd ⟨a, b⟩ h
  | full a b h =>
    cases k with
    | bad k => exact absurd ⟨a, b⟩ k
    | full _ _ _ => exact ⟨rfl, rfl, rfl⟩
    | ok _ _ h1 h2 => omega
  | ok a b h1 h2 =>
    cases k with
    | bad k => exact absurd ⟨a, b⟩ k
    | full _ _ h => omega
    | ok _ _ _ _ => exact ⟨rfl, rfl, rfl⟩

end Go.Proofs.Ytafkagaakjfkoaa
