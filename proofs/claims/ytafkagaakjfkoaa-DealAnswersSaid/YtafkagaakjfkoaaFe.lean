/- Contract of the reference's Merge. -/
import Derived.Test.YtafkagaakjfkoaaFd
namespace Go.Proofs.Ytafkagaakjfkoaa
open Go.ChangeShapes Go.WideShapes Go.ChangeAt Go.RowKit

/-- A piece that may be merged. -/
def okm (p : Fm.Pc) : Prop := 0 ≤ p.1 ∧ p.1 < 1000 ∧ 0 ≤ p.2 ∧ p.2 ≤ 1000000
/-- A list that may be merged. -/
structure Mok (f : List Fm.Pc) : Prop where
  len : f.length ≤ 400
  ok : ∀ p ∈ f, okm p
theorem Mok.pos {f : List Fm.Pc} (h : Mok f) : Fm.Pos f := fun p hp => (h.ok p hp).2.2.1
theorem okm_vol {f : List Fm.Pc} (h : ∀ p ∈ f, okm p) : 0 ≤ Fm.vol f ∧ Fm.vol f ≤ 1000000 * f.length := by
  induction f with
  | nil => simp [Fm.vol]
  | cons p r ih =>
    have h1 := ih fun q hq => h q (by simp [hq])
    have h2 := h p (by simp)
    unfold okm at h2
    simp only [Fm.vol, List.length_cons]
    omega
theorem Mok.vol {f : List Fm.Pc} (h : Mok f) : Fm.vol f ≤ 400000000 := by have := okm_vol h.ok; have := h.len; omega
/-- What Merge returns. -/
noncomputable def merged (f : List Fm.Pc) : List Fm.Pc := @ite _ (Mok f) (Classical.propDecidable _) (Fm.mer (Fm.lit f)) []
theorem merged_yes {f : List Fm.Pc} (h : Mok f) : merged f = Fm.mer (Fm.lit f) := if_pos h
theorem merged_no {f : List Fm.Pc} (h : ¬ Mok f) : merged f = [] := if_neg h

set_option maxHeartbeats 1000000 in
theorem rmerge_any (s : Sl) (f : List Fm.Pc) (w : World) (h : FR w s f) : Calls Try.prog 37 #[s.v] w (PEnd (merged f) w) := by
  obtain ⟨a, n, c⟩ := s
  have hlen := h.len
  have fit := h.fit
  dsimp only [Sl.fit] at hlen fit
  have HF := Lib.hid h
  clear h
  unfold Sl.v
  dsimp only
  by_cases hl : n ≤ 400
  · go_enter Try.func37, Try.ntmps37
    go_wp2
    go_loopw [10] (fun i wr => ∃ (k : Nat), i = .int .i64 k ∧ k ≤ n ∧ Hid (∀ p ∈ f.take k, okm p) ∧ Hid (w.grownBy wr none)) (fun i _ => n - (intOf i).toNat)
    case atStart => exact ⟨0, rfl, by omega, Lib.hid (fun p hp => by simp at hp), grown_refl _ _⟩
    case round =>
      obtain ⟨k, rfl, hk, U, G⟩ := hrel
      by_cases hlt : k < n
      · obtain ⟨b, off, x0, y0, rfl, hp, c0, c1⟩ := (HF.out.grown G.out).at_ k hlt
        have HP := Lib.hid hp
        clear hp
        have GE : ∀ nq, Hid (w.grownBy ((wr.alloc (.cells #[.int .i64 x0, .int .i64 y0] 38)).drewN nq) none) := fun nq => Lib.hid (grown_trans G.out (grown_trans (World.grownBy_alloc _ _ _) (grown_drewN _ _ _)))
        have bad : ¬ okm (x0, y0) → merged f = [] := fun h => merged_no fun m => h (by rw [← HP.out]; exact m.ok _ (Fm.getD_mem (by omega)))
        cases hpr : Fm.proper x0 with
        | false =>
          have H := Lib.hid (bad (by unfold Fm.proper at hpr; unfold okm; simp at hpr; dsimp only; omega))
          have P := Lib.hid hpr
          clear hpr bad
          go_wp2_with fail
          refine (P.out ▸ rproper_any x0 _ : Calls _ _ _ _ _).mono ?_
          rintro e w1 ⟨rfl, rfl⟩
          go_wp2
          go_ret
          exact ⟨⟨none, 0, 0⟩, rfl, by rw [H.out]; exact or_nil _ _ _ _, (GE 0).out⟩
        | true =>
          have P := Lib.hid hpr
          have px : 0 ≤ x0 ∧ x0 < 1000 := by unfold Fm.proper at hpr; simp at hpr; exact hpr
          clear hpr
          by_cases d1 : y0 < 0
          · have H := Lib.hid (bad (by unfold okm; dsimp only; omega))
            clear bad
            go_wp2_with fail
            refine (P.out ▸ rproper_any x0 _ : Calls _ _ _ _ _).mono ?_
            rintro e w1 ⟨rfl, rfl⟩
            go_wp2
            go_ret
            exact ⟨⟨none, 0, 0⟩, rfl, by rw [H.out]; exact or_nil _ _ _ _, (GE 0).out⟩
          · have e1 : decide (y0 < 0) = false := decide_eq_false d1
            by_cases d2 : 1000000 < y0
            · have H := Lib.hid (bad (by unfold okm; dsimp only; omega))
              clear bad
              go_wp2_with fail
              refine (P.out ▸ rproper_any x0 _ : Calls _ _ _ _ _).mono ?_
              rintro e w1 ⟨rfl, rfl⟩
              go_wp2
              go_ret
              exact ⟨⟨none, 0, 0⟩, rfl, by rw [H.out]; exact or_nil _ _ _ _, (GE 0).out⟩
            · have e2 : decide (1000000 < y0) = false := decide_eq_false d2
              have UN := Lib.hid (show ∀ p ∈ f.take (k + 1), okm p from fun p hp => by
                rw [Fm.take_next (by omega)] at hp
                rcases List.mem_append.1 hp with e | e
                · exact U.out p e
                · rw [List.mem_singleton] at e; subst e; rw [HP.out]; unfold okm; dsimp only; omega)
              clear bad
              go_wp2_with fail
              refine (P.out ▸ rproper_any x0 _ : Calls _ _ _ _ _).mono ?_
              rintro e w1 ⟨rfl, rfl⟩
              go_wp2
              go_roundw
              case rel => exact ⟨k + 1, by go_num, by omega, UN, GE 0⟩
              case measure => simp [intOf]; omega
      · obtain rfl : k = n := by omega
        have M : Mok f := ⟨by omega, by have := U.out; rw [List.take_of_length_le (by omega)] at this; exact this⟩
        have H := Lib.hid (merged_yes M)
        have MP := Lib.hid M.pos
        have MV := Lib.hid M.vol
        clear M
        go_wp2_with fail
        refine (rjoined_any ⟨a, k, c⟩ f wr (HF.out.grown G.out) MP.out (by omega) (by have := MV.out; omega)).mono ?_
        rintro e w1 ⟨⟨ra, rn, rc⟩, rfl, hr, hg⟩
        have HR := Lib.hid hr
        have HG := Lib.hid hg
        clear hr hg
        dsimp only [Sl.v]
        go_wp2
        go_ret
        exact ⟨⟨ra, rn, rc⟩, rfl, by rw [H.out]; exact HR.out.base_ G.out.size, grown_trans G.out HG.out⟩
  · have H := Lib.hid (merged_no (f := f) (fun m => by have := m.len; omega))
    go_enter Try.func37, Try.ntmps37
    go_wp2
    go_ret
    exact ⟨⟨none, 0, 0⟩, rfl, by rw [H.out]; exact or_nil _ _ _ _, grown_refl _ _⟩
end Go.Proofs.Ytafkagaakjfkoaa
