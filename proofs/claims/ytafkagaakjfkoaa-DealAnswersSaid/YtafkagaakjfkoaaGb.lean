/- Pieces that came in. -/
import Derived.Test.YtafkagaakjfkoaaFa
import Derived.ChangeArms
import Derived.WideShapes
import Derived.Deep.Slices
namespace Go.Proofs.Ytafkagaakjfkoaa
open Go.ChangeShapes Go.WideShapes Go.ChangeAt Go.RowKit

abbrev sp1 : Nat → Bool := fun _ => true
theorem cellsP : Try.prog.cellsOf 38 = 2 := by kernel_rfl
theorem cells_3 : Try.prog.cellsOf 3 = 1 := by kernel_rfl
section
variable {H : Type} {enc : TypeId × Value → H} {W : World}
theorem max64 : maxLen ≤ 9223372036854775807 := by unfold maxLen; omega
set_option maxRecDepth 100000 in
theorem in_pc {fuel : Nat} {cs : List Value} {x : DataW H × List MemPlace} (h : DataW.trod enc Try.prog W 0 sp1 true fuel 38 cs = some x) : ∃ y : Fm.Pc, cs = pcs y := by
  obtain ⟨xs, n, _, rfl, hcl, hlen, hg⟩ := DataW.trod_struct Try.underlying38 h
  rw [cellsP] at hcl
  match cs, hcl, xs, hlen with
  | [c0, c1], _, [y0, y1], _ =>
    have g0 := hg 0 _ rfl
    have g1 := hg 1 _ rfl
    simp [cells_3] at g0 g1
    obtain ⟨x0, e0, rfl, u0⟩ := DataW.trod_int Try.underlying3 g0
    obtain ⟨x1, e1, rfl, u1⟩ := DataW.trod_int Try.underlying3 g1
    simp at e0 e1
    subst e0 e1
    exact ⟨(x0, x1), rfl⟩
theorem no_spot {a : Addr} {v : Value} (h : W.cell? (a.add 0) = some v) : ∃ b off, a = ⟨b, off, none⟩ := by
  obtain ⟨b, off, spot⟩ := a
  have hs : spot = none := by simpa [Addr.add] using World.cell?_spot h
  exact ⟨b, off, by rw [hs]⟩
set_option maxRecDepth 100000 in
/-- A slice of pieces that came in. -/
theorem in_fr {fuel : Nat} {cs : List Value} {x : DataW H × List MemPlace} (h : DataW.trod enc Try.prog W 0 sp1 true fuel 23 cs = some x) : ∃ (T : Sl) (f : List Fm.Pc), cs = [T.v] ∧ FR W T f := by
  rcases Go.Deep.open_slice Try.underlying23 h with ⟨rfl, rfl⟩ | ⟨a, len, cap, m, n, D, Pl, rfl, _, hl, hm, hmm, rfl, hx⟩
  · exact ⟨⟨none, 0, 0⟩, [], rfl, FR.nil⟩
  · have hm' := max64
    have hmc : m = cap := by simpa using hmm
    by_cases hl0 : len = 0
    · subst hl0
      exact ⟨⟨some a, 0, cap⟩, [], rfl, ⟨⟨hl, by dsimp only; omega⟩, rfl, fun j u hu => by simp [f2] at hu⟩⟩
    have hc0 : ∀ i, i < len → ∃ y : Fm.Pc, ∀ j u, (pcs y)[j]? = some u → W.cell? (a.add (i * 2 + j)) = some u := fun i hi => by
      obtain ⟨cs', h1, h2⟩ := hx i (by omega)
      rw [cellsP] at h1
      obtain ⟨_, hcl, hcc⟩ := World.cells?_some h1
      obtain ⟨y, rfl⟩ := in_pc h2
      refine ⟨y, fun j u hu => ?_⟩
      have hj : j < 2 := by
        rcases Nat.lt_or_ge j 2 with k | k
        · exact k
        · rw [List.getElem?_eq_none (by exact k)] at hu; cases hu
      have := hcc j hj
      rw [Go.Deep.add_add] at this
      rw [this, hu]
    obtain ⟨b, off, rfl⟩ : ∃ b off, a = ⟨b, off, none⟩ := by
      obtain ⟨y, hy⟩ := hc0 0 (by omega)
      exact no_spot (by simpa using hy 0 _ rfl)
    obtain ⟨f, hf⟩ := Go.Deep.choose_lt hc0
    refine ⟨⟨some ⟨b, off, none⟩, len, cap⟩, (List.range len).map f, rfl, ⟨hl, by dsimp only; omega⟩, by simp, fun j u hu => ⟨b, off, rfl, ?_⟩⟩
    have hj : j < len * 2 := by
      rcases Nat.lt_or_ge j (len * 2) with k | k
      · exact k
      · rw [List.getElem?_eq_none (by rw [f2_len]; simp; exact k)] at hu; cases hu
    have hx2 : ((List.range len).map f)[j / 2]? = some (f (j / 2)) := by simp [show j / 2 < len by omega]
    have hg := flat_get pcs_len ((List.range len).map f) (j / 2) (j % 2) (by omega) _ hx2
    rw [show j / 2 * 2 + j % 2 = j by omega] at hg
    have := hf (j / 2) (by omega) (j % 2) u (by rw [← hg]; exact hu)
    rw [add_lit, show j / 2 * 2 + j % 2 = j by omega] at this
    exact this
end
end Go.Proofs.Ytafkagaakjfkoaa
