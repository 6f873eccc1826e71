/- Rows of rows of pieces; contract of the reference's Same. -/
import Derived.Test.YtafkagaakjfkoaaDd
namespace Go.Proofs.Ytafkagaakjfkoaa
open Go.ChangeShapes Go.WideShapes Go.ChangeAt Go.RowKit

/-- The lists fs of pieces lie at the slice s. -/
structure RR (w : World) (s : Sl) (fs : List (List Fm.Pc)) : Prop where
  fit : s.fit
  len : fs.length = s.n
  at_ : ∀ i, i < s.n → ∃ (b off : Nat) (v : Sl), s.a = some ⟨b, off, none⟩ ∧ w.cell? ⟨b, off + i, none⟩ = some v.v ∧ FR w v (fs.getD i [])
theorem RR.grown {w w' : World} {s : Sl} {fs : List (List Fm.Pc)} (h : RR w s fs) (g : w.grownBy w' none) : RR w' s fs :=
  ⟨h.fit, h.len, fun i hi => by obtain ⟨b, off, v, e, hc, hf⟩ := h.at_ i hi; exact ⟨b, off, v, e, g.cell hc (by simp), hf.grown g⟩⟩
theorem RR.nil {w : World} : RR w ⟨none, 0, 0⟩ [] := ⟨⟨Nat.le_refl _, by dsimp only; omega⟩, rfl, fun i hi => by simp at hi⟩
theorem RR.got {w : World} {b off n c : Nat} {fs : List (List Fm.Pc)} (h : RR w ⟨some ⟨b, off, none⟩, n, c⟩ fs) (i : Nat) (hi : i < n) :
    ∃ v : Sl, w.cell? ⟨b, off + i, none⟩ = some v.v ∧ FR w v (fs.getD i []) := by
  obtain ⟨b', off', v, e, hc, hf⟩ := h.at_ i hi
  cases e
  exact ⟨v, hc, hf⟩
/-- The bool of two lists of lists that are equal. -/
def sameRB (f g : List (List Fm.Pc)) : Bool := decide (f = g)
theorem sameRB_refl (f : List (List Fm.Pc)) : sameRB f f = true := by unfold sameRB; simp
theorem sameRB_len {f g : List (List Fm.Pc)} (h : f.length ≠ g.length) : sameRB f g = false := by
  unfold sameRB; rw [decide_eq_false_iff_not]; intro e; subst e; exact h rfl
theorem sameRB_false {f g : List (List Fm.Pc)} (j : Nat) (h : f.getD j [] ≠ g.getD j []) : sameRB f g = false := by
  unfold sameRB; rw [decide_eq_false_iff_not]; intro e; subst e; exact h rfl
theorem sameRB_true {f g : List (List Fm.Pc)} (h1 : f.length = g.length) (h2 : ∀ j, j < f.length → f.getD j [] = g.getD j []) : sameRB f g = true := by
  unfold sameRB
  rw [decide_eq_true_eq]
  apply List.ext_getElem h1
  intro j hj hj2
  have := h2 j hj
  simpa [List.getD_eq_getElem?_getD, List.getElem?_eq_getElem hj, List.getElem?_eq_getElem hj2] using this
theorem sameB_eq {f g : List Fm.Pc} (h : f = g) : sameB f g = true := by unfold sameB; simp [h]
theorem sameB_ne {f g : List Fm.Pc} (h : f ≠ g) : sameB f g = false := by unfold sameB; simp [h]

set_option maxHeartbeats 1000000 in
theorem rsameR_any (s t : Sl) (f g : List (List Fm.Pc)) (w : World) (h : RR w s f) (k : RR w t g) :
    Calls Try.prog 20 #[s.v, t.v] w (Ret (.bool (sameRB f g)) w) := by
  obtain ⟨a, n, c⟩ := s
  obtain ⟨a', n', c'⟩ := t
  have hlen := h.len
  have klen := k.len
  have fit := h.fit
  have fit' := k.fit
  dsimp only [Sl.fit] at hlen klen fit fit'
  have HF := Lib.hid h
  have HG := Lib.hid k
  clear h k
  unfold Sl.v
  dsimp only
  by_cases hne : n = n'
  · subst hne
    go_enter Try.func20, Try.ntmps20
    go_wp2
    go_loopw [13] (fun i wr => ∃ (k : Nat), i = .int .i64 k ∧ k ≤ n ∧ Hid (∀ j, j < k → f.getD j [] = g.getD j []) ∧ Hid (w.grownBy wr none)) (fun i _ => n - (intOf i).toNat)
    case atStart => exact ⟨0, rfl, by omega, fun j hj => absurd hj (by omega), grown_refl _ _⟩
    case round =>
      obtain ⟨k, rfl, hk, E, G⟩ := hrel
      by_cases hlt : k < n
      · obtain ⟨b, off, ⟨va, vn, vc⟩, rfl, c0, hf⟩ := (HF.out.grown G.out).at_ k hlt
        obtain ⟨b', off', ⟨ua, un, uc⟩, rfl, d0, hg⟩ := (HG.out.grown G.out).at_ k hlt
        have F1 := Lib.hid hf
        have G1 := Lib.hid hg
        dsimp only [Sl.v] at c0 d0
        have K0 := Lib.hid (fun (W : World) (hW : wr.grownBy W none) => (⟨hW.cell c0 (by simp), hW.cell d0 (by simp)⟩ : W.cell? ⟨b, off + k, none⟩ = some (.slice va vn vc) ∧ W.cell? ⟨b', off' + k, none⟩ = some (.slice ua un uc)))
        clear hf hg
        by_cases he : f.getD k [] = g.getD k []
        · have SB := Lib.hid (sameB_eq he)
          have EN := Lib.hid (show ∀ j, j < k + 1 → f.getD j [] = g.getD j [] from fun j hj => by
            by_cases e : j = k
            · subst e; exact he
            · exact E.out j (by omega))
          clear he
          go_wp2
          go_region_held3 (fun w' => w'.cell? ⟨b, off + k, none⟩ = some (.slice va vn vc) ∧ w'.cell? ⟨b', off' + k, none⟩ = some (.slice ua un uc))
            (first | go_keep | exact K0.out _ GS.out | fail)
            (first
              | (go_at_call 25; refine (rsame_any ⟨va, vn, vc⟩ ⟨ua, un, uc⟩ (f.getD k []) (g.getD k []) _ (F1.out.grown (grown_drewN wr 1 none)) (G1.out.grown (grown_drewN wr 1 none))).mono ?_; rw [SB.out]; rintro e ws ⟨rfl, hg⟩; have GS := Lib.hid (grown_trans (show wr.grownBy wr.drew none from grown_drewN wr 1 none) hg); clear hg)
              | fail)
          have GG := Lib.hid (grown_trans G.out GS.out)
          go_wp2
          go_roundw
          case rel => exact ⟨k + 1, by go_num, by omega, EN, GG⟩
          case measure => simp [intOf]; omega
        · have SB := Lib.hid (sameB_ne he)
          have H := Lib.hid (sameRB_false k he)
          clear he
          go_wp2
          go_region_held3 (fun w' => w'.cell? ⟨b, off + k, none⟩ = some (.slice va vn vc) ∧ w'.cell? ⟨b', off' + k, none⟩ = some (.slice ua un uc))
            (first | go_keep | exact K0.out _ GS.out | fail)
            (first
              | (go_at_call 25; refine (rsame_any ⟨va, vn, vc⟩ ⟨ua, un, uc⟩ (f.getD k []) (g.getD k []) _ (F1.out.grown (grown_drewN wr 1 none)) (G1.out.grown (grown_drewN wr 1 none))).mono ?_; rw [SB.out]; rintro e ws ⟨rfl, hg⟩; have GS := Lib.hid (grown_trans (show wr.grownBy wr.drew none from grown_drewN wr 1 none) hg); clear hg)
              | fail)
          have GG := Lib.hid (grown_trans G.out GS.out)
          go_wp2
          go_ret
          exact ⟨ret_bool H.out.symm, GG.out⟩
      · obtain rfl : k = n := by omega
        have H := Lib.hid (sameRB_true (f := f) (g := g) (by omega) (fun j hj => E.out j (by omega)))
        go_wp2
        go_ret
        exact ⟨ret_bool H.out.symm, G.out⟩
  · have H := Lib.hid (sameRB_len (f := f) (g := g) (by omega))
    have hb : ((n : Int) == (n' : Int)) = false := by rw [beq_eq_false_iff_ne]; omega
    go_enter Try.func20, Try.ntmps20
    go_wp2
    go_ret
    exact ⟨ret_bool H.out.symm, grown_refl _ _⟩
end Go.Proofs.Ytafkagaakjfkoaa
