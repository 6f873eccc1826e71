/- Contract of the reference's Merge. -/
import Derived.Test.YtagemdgbnajobaaFd
namespace Go.Proofs.Ytagemdgbnajobaa
open Go.ChangeShapes Go.WideShapes Go.ChangeAt Go.RowKit

/-- A piece that may be merged. -/
def okm (p : Fm.Pc) : Prop := 0 ≤ p.1 ∧ p.1 < 1000 ∧ 0 ≤ p.2 ∧ p.2 ≤ 1000000
/-- A list that may be merged. -/
structure Mok (f : List Fm.Pc) : Prop where
  len : f.length ≤ 400
  ok : ∀ p ∈ f, okm p
theorem Mok.pos {f : List Fm.Pc} (h : Mok f) : Fm.Pos f := fun p hp => (h.ok p hp).2.2.1
theorem okm_vol {f : List Fm.Pc} (h : ∀ p ∈ f, okm p) : 0 ≤ Fm.vol f ∧ Fm.vol f ≤ 1000000 * f.length := by
  induction f with
  | nil => simp [Fm.vol]
  | cons p r ih =>
    have h1 := ih fun q hq => h q (by simp [hq])
    have h2 := h p (by simp)
    unfold okm at h2
    simp only [Fm.vol, List.length_cons]
    omega
theorem Mok.vol {f : List Fm.Pc} (h : Mok f) : Fm.vol f ≤ 400000000 := by have := okm_vol h.ok; have := h.len; omega
/-- What Merge returns. -/
noncomputable def merged (f : List Fm.Pc) : List Fm.Pc := @ite _ (Mok f) (Classical.propDecidable _) (Fm.mer (Fm.lit f)) []
theorem merged_yes {f : List Fm.Pc} (h : Mok f) : merged f = Fm.mer (Fm.lit f) := if_pos h
theorem merged_no {f : List Fm.Pc} (h : ¬ Mok f) : merged f = [] := if_neg h

end Go.Proofs.Ytagemdgbnajobaa
