/- Contracts of the reference's Sum, Volume, At, Of, Batch, Same. -/
import Derived.Test.YtafkagaakjfkoaaFb
namespace Go.Proofs.Ytafkagaakjfkoaa
open Go.ChangeShapes Go.WideShapes Go.ChangeAt Go.RowKit

set_option maxHeartbeats 400000 in
theorem rsum_any (s : Sl) (f : List Fm.Pc) (w : World) (h : FR w s f) (hp : Fm.Pos f) (hv : Fm.vol f ≤ 4611686018427387904) : Calls Try.prog 22 #[s.v] w (Ret (.int .i64 (Fm.vol f)) w) := by
  obtain ⟨a, n, c⟩ := s
  have hlen := h.len
  dsimp only at hlen
  have HF := Lib.hid h
  have fit := h.fit
  dsimp only [Sl.fit] at fit
  have HV := Lib.hid (fun k => Fm.vol_take_le hp k)
  clear h hp
  unfold Sl.v
  dsimp only
  go_enter Try.func22, Try.ntmps22
  go_wp2
  go_loopw [3, 7] (fun sm i wr => ∃ (k : Nat) (x : Int), sm = .int .i64 x ∧ i = .int .i64 k ∧ k ≤ n ∧ Hid (x = Fm.vol (f.take k)) ∧ Hid (w.grownBy wr none)) (fun _ i _ => n - (intOf i).toNat)
  case atStart => exact ⟨0, 0, rfl, rfl, by omega, Lib.hid (by simp [Fm.vol]), grown_refl _ _⟩
  case round =>
    obtain ⟨k, x, rfl, rfl, hk, X, G⟩ := hrel
    by_cases hlt : k < n
    · obtain ⟨b, off, x0, y0, rfl, hp0, c0, c1⟩ := (HF.out.grown G.out).at_ k hlt
      have E := Lib.hid (show x + y0 = Fm.vol (f.take (k + 1)) by have := Fm.vol_next (f := f) (k := k) (by omega); rw [hp0] at this; rw [this, X.out])
      have v1 := HV.out k
      have v2 := HV.out (k + 1)
      rw [← E.out] at v2
      rw [← X.out] at v1
      clear hp0
      go_wp2
      go_roundw
      case rel => exact ⟨k + 1, _, rfl, by go_num, by omega, E, G⟩
      case measure => simp [intOf]; omega
    · obtain rfl : k = n := by omega
      have E := Lib.hid (show x = Fm.vol f by rw [X.out, List.take_of_length_le (by omega)])
      go_wp2
      go_ret
      exact ⟨ret_int E.out, G.out⟩

theorem Val.sum {f : List Fm.Pc} (h : Fm.Val f) : Fm.vol f ≤ 4611686018427387904 := by have := h.vol; omega

/-- The volume of a fill. -/
noncomputable def volume (f : List Fm.Pc) : Int := if Fm.valid f = true then Fm.vol f else 0
/-- The batch of the litre with the number k, in a list of pieces that is a fill. -/
noncomputable def atOf (f : List Fm.Pc) (k : Int) : Int := if Fm.valid f = true then Fm.at_ (Fm.lit f) k else -1
noncomputable def batchOf (f : List Fm.Pc) (b : Int) : Int := if Fm.valid f = true then Fm.of b f else 0
set_option maxHeartbeats 400000 in
theorem rof_any (s : Sl) (f : List Fm.Pc) (d : Int) (w : World) (h : FR w s f) (hp : Fm.Pos f) (hv : Fm.vol f ≤ 4611686018427387904) : Calls Try.prog 21 #[s.v, .int .i64 d] w (Ret (.int .i64 (Fm.of d f)) w) := by
  obtain ⟨a, n, c⟩ := s
  have hlen := h.len
  dsimp only at hlen
  have HF := Lib.hid h
  have fit := h.fit
  dsimp only [Sl.fit] at fit
  have HV := Lib.hid (fun k => show 0 ≤ Fm.of d (f.take k) ∧ Fm.of d (f.take k) ≤ 4611686018427387904 by have h1 := Fm.of_range d (hp.take k); have h2 := Fm.vol_take_le hp k; omega)
  clear h hp
  unfold Sl.v
  dsimp only
  go_enter Try.func21, Try.ntmps21
  go_wp2
  go_loopw [5, 10] (fun sm i wr => ∃ (k : Nat) (x : Int), sm = .int .i64 x ∧ i = .int .i64 k ∧ k ≤ n ∧ Hid (x = Fm.of d (f.take k)) ∧ Hid (w.grownBy wr none)) (fun _ i _ => n - (intOf i).toNat)
  case atStart => exact ⟨0, 0, rfl, rfl, by omega, Lib.hid (by simp [Fm.of]), grown_refl _ _⟩
  case round =>
    obtain ⟨k, x, rfl, rfl, hk, X, G⟩ := hrel
    by_cases hlt : k < n
    · obtain ⟨b, off, x0, y0, rfl, hp0, c0, c1⟩ := (HF.out.grown G.out).at_ k hlt
      have e0 := Fm.of_next d (f := f) (k := k) (by omega)
      rw [hp0, ← X.out] at e0
      dsimp only at e0
      have v1 := HV.out k
      have v2 := HV.out (k + 1)
      rw [← X.out] at v1
      by_cases hd : x0 = d
      · rw [if_pos hd] at e0
        subst hd
        rw [e0] at v2
        have E := Lib.hid e0.symm
        clear hp0 e0
        go_wp2
        go_roundw
        case rel => exact ⟨k + 1, _, rfl, by go_num, by omega, E, Lib.hid (grown_trans G.out (World.grownBy_alloc _ _ _))⟩
        case measure => simp [intOf]; omega
      · rw [if_neg hd, Int.add_zero] at e0
        have E := Lib.hid e0.symm
        have hb : (x0 == d) = false := by rw [beq_eq_false_iff_ne]; exact hd
        clear hp0 e0 v2
        go_wp2
        go_roundw
        case rel => exact ⟨k + 1, _, rfl, by go_num, by omega, E, Lib.hid (grown_trans G.out (World.grownBy_alloc _ _ _))⟩
        case measure => simp [intOf]; omega
    · obtain rfl : k = n := by omega
      have E := Lib.hid (show x = Fm.of d f by rw [X.out, List.take_of_length_le (by omega)])
      go_wp2
      go_ret
      exact ⟨ret_int E.out, G.out⟩
/-- The bool of two lists that are equal. -/
def sameB (f g : List Fm.Pc) : Bool := decide (f = g)
theorem sameB_true {f g : List Fm.Pc} (h1 : f.length = g.length) (h2 : ∀ j, j < f.length → f.getD j Fm.zp = g.getD j Fm.zp) : sameB f g = true := by
  unfold sameB
  rw [decide_eq_true_eq]
  apply List.ext_getElem h1
  intro i h3 h4
  have := h2 i h3
  simpa [List.getD_eq_getElem?_getD, List.getElem?_eq_getElem h3, List.getElem?_eq_getElem h4] using this
theorem sameB_false {f g : List Fm.Pc} (j : Nat) (h2 : f.getD j Fm.zp ≠ g.getD j Fm.zp) : sameB f g = false := by
  unfold sameB
  rw [decide_eq_false_iff_not]
  intro e; subst e; exact h2 rfl
theorem sameB_len {f g : List Fm.Pc} (h : f.length ≠ g.length) : sameB f g = false := by
  unfold sameB
  rw [decide_eq_false_iff_not]
  intro e; subst e; exact h rfl
set_option maxHeartbeats 400000 in
theorem rsame_any (s t : Sl) (f g : List Fm.Pc) (w : World) (h : FR w s f) (k : FR w t g) :
    Calls Try.prog 25 #[s.v, t.v] w (Ret (.bool (sameB f g)) w) := by
  obtain ⟨a, n, c⟩ := s
  obtain ⟨a', n', c'⟩ := t
  have hlen := h.len
  have klen := k.len
  have fit := h.fit
  have fit' := k.fit
  dsimp only [Sl.fit] at hlen klen fit fit'
  have HF := Lib.hid h
  have HG := Lib.hid k
  clear h k
  unfold Sl.v
  dsimp only
  by_cases hne : n = n'
  · subst hne
    go_enter Try.func25, Try.ntmps25
    go_wp2
    go_loopw [13] (fun i wr => ∃ (k : Nat), i = .int .i64 k ∧ k ≤ n ∧ Hid (∀ j, j < k → f.getD j Fm.zp = g.getD j Fm.zp) ∧ Hid (w.grownBy wr none)) (fun i _ => n - (intOf i).toNat)
    case atStart => exact ⟨0, rfl, by omega, fun j hj => absurd hj (by omega), grown_refl _ _⟩
    case round =>
      obtain ⟨k, rfl, hk, E, G⟩ := hrel
      by_cases hlt : k < n
      · obtain ⟨b, off, x0, y0, rfl, hp0, c0, c1⟩ := (HF.out.grown G.out).at_ k hlt
        obtain ⟨b', off', x1, y1, rfl, hp1, c2, c3⟩ := (HG.out.grown G.out).at_ k hlt
        have P0 := Lib.hid hp0
        have P1 := Lib.hid hp1
        clear hp0 hp1
        by_cases hxy : (x0, y0) = (x1, y1)
        · injection hxy with e1 e2
          subst e1; subst e2
          have EN := Lib.hid (show ∀ j, j < k + 1 → f.getD j Fm.zp = g.getD j Fm.zp from fun j hj => by
            by_cases e : j = k
            · subst e; rw [P0.out, P1.out]
            · exact E.out j (by omega))
          go_wp2
          go_quiet (fail)
          go_wp2
          go_roundw
          case rel => exact ⟨k + 1, by go_num, by omega, EN, Lib.hid (grown_trans G.out (grown_drewN _ _ _))⟩
          case measure => simp [intOf]; omega
        · have H := Lib.hid (sameB_false (f := f) (g := g) k (by rw [P0.out, P1.out]; exact hxy))
          by_cases e1 : x0 = x1
          · have e2 : (y0 == y1) = false := by rw [beq_eq_false_iff_ne]; intro e2; exact hxy (by rw [e1, e2])
            subst e1
            clear hxy
            go_wp2
            go_quiet (fail)
            go_wp2
            go_ret
            exact ⟨ret_bool H.out.symm, grown_trans G.out (grown_drewN _ _ _)⟩
          · have e2 : (x0 == x1) = false := by rw [beq_eq_false_iff_ne]; exact e1
            clear hxy e1
            go_wp2
            go_quiet (fail)
            go_wp2
            go_ret
            exact ⟨ret_bool H.out.symm, grown_trans G.out (grown_drewN _ _ _)⟩
      · obtain rfl : k = n := by omega
        have H := Lib.hid (sameB_true (by omega) (fun j hj => E.out j (by omega)))
        go_wp2
        go_ret
        exact ⟨ret_bool H.out.symm, G.out⟩
  · have H := Lib.hid (sameB_len (f := f) (g := g) (by omega))
    have hb : ((n : Int) == (n' : Int)) = false := by rw [beq_eq_false_iff_ne]; omega
    go_enter Try.func25, Try.ntmps25
    go_wp2
    go_ret
    exact ⟨ret_bool H.out.symm, grown_refl _ _⟩
end Go.Proofs.Ytafkagaakjfkoaa
