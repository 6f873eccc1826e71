/- Contracts of the reference's Sum, Volume, At, Of, Batch, Same. -/
import Derived.Test.YtagemdgbnajobaaFb
namespace Go.Proofs.Ytagemdgbnajobaa
open Go.ChangeShapes Go.WideShapes Go.ChangeAt Go.RowKit

set_option maxHeartbeats 400000 in
theorem rsum_any (s : Sl) (f : List Fm.Pc) (w : World) (h : FR w s f) (hp : Fm.Pos f) (hv : Fm.vol f ≤ 4611686018427387904) : Calls Try.prog 32 #[s.v] w (Ret (.int .i64 (Fm.vol f)) w) := by
  obtain ⟨a, n, c⟩ := s
  have hlen := h.len
  dsimp only at hlen
  have HF := Lib.hid h
  have fit := h.fit
  dsimp only [Sl.fit] at fit
  have HV := Lib.hid (fun k => Fm.vol_take_le hp k)
  clear h hp
  unfold Sl.v
  dsimp only
  go_enter Try.func32, Try.ntmps32
  go_wp2
  go_loopw [3, 7] (fun sm i wr => ∃ (k : Nat) (x : Int), sm = .int .i64 x ∧ i = .int .i64 k ∧ k ≤ n ∧ Hid (x = Fm.vol (f.take k)) ∧ Hid (w.grownBy wr none)) (fun _ i _ => n - (intOf i).toNat)
  case atStart => exact ⟨0, 0, rfl, rfl, by omega, Lib.hid (by simp [Fm.vol]), grown_refl _ _⟩
  case round =>
    obtain ⟨k, x, rfl, rfl, hk, X, G⟩ := hrel
    by_cases hlt : k < n
    · obtain ⟨b, off, x0, y0, rfl, hp0, c0, c1⟩ := (HF.out.grown G.out).at_ k hlt
      have E := Lib.hid (show x + y0 = Fm.vol (f.take (k + 1)) by have := Fm.vol_next (f := f) (k := k) (by omega); rw [hp0] at this; rw [this, X.out])
      have v1 := HV.out k
      have v2 := HV.out (k + 1)
      rw [← E.out] at v2
      rw [← X.out] at v1
      clear hp0
      go_wp2
      go_roundw
      case rel => exact ⟨k + 1, _, rfl, by go_num, by omega, E, G⟩
      case measure => simp [intOf]; omega
    · obtain rfl : k = n := by omega
      have E := Lib.hid (show x = Fm.vol f by rw [X.out, List.take_of_length_le (by omega)])
      go_wp2
      go_ret
      exact ⟨ret_int E.out, G.out⟩

theorem Val.sum {f : List Fm.Pc} (h : Fm.Val f) : Fm.vol f ≤ 4611686018427387904 := by have := h.vol; omega

/-- The volume of a fill. -/
noncomputable def volume (f : List Fm.Pc) : Int := if Fm.valid f = true then Fm.vol f else 0
theorem rvolume_any (s : Sl) (f : List Fm.Pc) (w : World) (h : FR w s f) : Calls Try.prog 24 #[s.v] w (Ret (.int .i64 (volume f)) w) := by
  have HF := Lib.hid h
  clear h
  unfold volume
  cases hv : Fm.valid f with
  | false =>
    have V := Lib.hid hv
    clear hv
    go_enter Try.func24, Try.ntmps24
    go_wp2_with fail
    refine (rvalid_any s f w HF.out).mono ?_
    rintro e w1 ⟨rfl, hg⟩
    have G := Lib.hid hg
    clear hg
    rw [V.out]
    go_wp2
    go_ret
    exact ⟨ret_int (by simp), G.out⟩
  | true =>
    have V := Lib.hid hv
    have hV := Fm.valid_iff.1 hv
    have P := Lib.hid hV.pos
    have B := Lib.hid (Val.sum hV)
    clear hv hV
    go_enter Try.func24, Try.ntmps24
    go_wp2_with fail
    refine (rvalid_any s f w HF.out).mono ?_
    rintro e w1 ⟨rfl, hg⟩
    have G := Lib.hid hg
    clear hg
    rw [V.out]
    go_wp2_with fail
    refine (rsum_any s f w1 (HF.out.grown G.out) P.out B.out).mono ?_
    rintro e w2 ⟨rfl, hg⟩
    have G2 := Lib.hid hg
    clear hg
    go_wp2
    go_ret
    exact ⟨ret_int (by simp), grown_trans G.out G2.out⟩

/-- The batch of the litre with the number k, in a list of pieces that is a fill. -/
noncomputable def atOf (f : List Fm.Pc) (k : Int) : Int := if Fm.valid f = true then Fm.at_ (Fm.lit f) k else -1
noncomputable def batchOf (f : List Fm.Pc) (b : Int) : Int := if Fm.valid f = true then Fm.of b f else 0
set_option maxHeartbeats 400000 in
theorem rat_any (s : Sl) (f : List Fm.Pc) (p : Int) (w : World) (h : FR w s f) (hp63 : p ≤ 9223372036854775807) : Calls Try.prog 22 #[s.v, .int .i64 p] w (Ret (.int .i64 (atOf f p)) w) := by
  have HF := Lib.hid h
  have fit := h.fit
  have hlen := h.len
  clear h
  unfold atOf
  cases hv : Fm.valid f with
  | false =>
    have V := Lib.hid hv
    clear hv
    go_enter Try.func22, Try.ntmps22
    go_wp2_with fail
    refine (rvalid_any s f w HF.out).mono ?_
    rintro e w1 ⟨rfl, hg⟩
    have G := Lib.hid hg
    clear hg
    rw [V.out]
    go_wp2
    go_ret
    exact ⟨ret_int (by simp), G.out⟩
  | true =>
    have V := Lib.hid hv
    have hV := Fm.valid_iff.1 hv
    have P := Lib.hid hV.pos
    clear hv hV
    obtain ⟨a, n, c⟩ := s
    dsimp only [Sl.fit] at fit hlen
    by_cases h0 : p < 0
    · go_enter Try.func22, Try.ntmps22
      go_wp2_with fail
      refine (rvalid_any ⟨a, n, c⟩ f w HF.out).mono ?_
      rintro e w1 ⟨rfl, hg⟩
      have G := Lib.hid hg
      clear hg
      rw [V.out]
      go_wp2
      go_ret
      exact ⟨ret_int (by simp [Fm.at_neg _ h0]), G.out⟩
    · unfold Sl.v
      dsimp only
      go_enter Try.func22, Try.ntmps22
      go_wp2_with fail
      refine (rvalid_any ⟨a, n, c⟩ f w HF.out).mono ?_
      rintro e w1 ⟨rfl, hg⟩
      have G := Lib.hid hg
      clear hg
      rw [V.out]
      go_wp2
      go_loopw [1, 16] (fun pl i wr => ∃ (k : Nat) (x : Int), pl = .int .i64 x ∧ i = .int .i64 k ∧ k ≤ n ∧ 0 ≤ x ∧ x ≤ p ∧ Hid (x = p - Fm.vol (f.take k)) ∧ Hid (w.grownBy wr none)) (fun _ i _ => n - (intOf i).toNat)
      case atStart => exact ⟨0, p, rfl, rfl, by omega, by omega, by omega, Lib.hid (by simp [Fm.vol]), G⟩
      case round =>
        obtain ⟨k, x, rfl, rfl, hk, hx0, hxp, X, G⟩ := hrel
        by_cases hlt : k < n
        · obtain ⟨b, off, x0, y0, rfl, hp0, c0, c1⟩ := (HF.out.grown G.out).at_ k hlt
          have hy := P.out _ (Fm.getD_mem (f := f) (i := k) (by omega))
          rw [hp0] at hy
          dsimp only at hy
          by_cases hxy : x < y0
          · have E := Lib.hid (Fm.at_here P.out (k := k) (x := p) (by omega) (by have := X.out; omega) (by rw [hp0]; have := X.out; dsimp only; omega))
            rw [hp0] at E
            clear hp0
            go_wp2
            go_ret
            exact ⟨ret_int (by simp [E.out]), grown_trans G.out (World.grownBy_alloc _ _ _)⟩
          · have E := Lib.hid (show x - y0 = p - Fm.vol (f.take (k + 1)) by have := Fm.vol_next (f := f) (k := k) (by omega); rw [hp0] at this; rw [this, X.out]; dsimp only; omega)
            clear hp0
            go_wp2
            go_roundw
            case rel => exact ⟨k + 1, _, rfl, by go_num, by omega, by omega, by omega, E, Lib.hid (grown_trans G.out (World.grownBy_alloc _ _ _))⟩
            case measure => simp [intOf]; omega
        · obtain rfl : k = n := by omega
          have E := Lib.hid (Fm.at_end (l := Fm.lit f) (k := p) (by have h1 := Fm.lit_len P.out; have h2 := X.out; rw [List.take_of_length_le (by omega)] at h2; omega))
          go_wp2
          go_ret
          exact ⟨ret_int (by simp [E.out]), G.out⟩

set_option maxHeartbeats 400000 in
theorem rof_any (s : Sl) (f : List Fm.Pc) (d : Int) (w : World) (h : FR w s f) (hp : Fm.Pos f) (hv : Fm.vol f ≤ 4611686018427387904) : Calls Try.prog 38 #[s.v, .int .i64 d] w (Ret (.int .i64 (Fm.of d f)) w) := by
  obtain ⟨a, n, c⟩ := s
  have hlen := h.len
  dsimp only at hlen
  have HF := Lib.hid h
  have fit := h.fit
  dsimp only [Sl.fit] at fit
  have HV := Lib.hid (fun k => show 0 ≤ Fm.of d (f.take k) ∧ Fm.of d (f.take k) ≤ 4611686018427387904 by have h1 := Fm.of_range d (hp.take k); have h2 := Fm.vol_take_le hp k; omega)
  clear h hp
  unfold Sl.v
  dsimp only
  go_enter Try.func38, Try.ntmps38
  go_wp2
  go_loopw [5, 10] (fun sm i wr => ∃ (k : Nat) (x : Int), sm = .int .i64 x ∧ i = .int .i64 k ∧ k ≤ n ∧ Hid (x = Fm.of d (f.take k)) ∧ Hid (w.grownBy wr none)) (fun _ i _ => n - (intOf i).toNat)
  case atStart => exact ⟨0, 0, rfl, rfl, by omega, Lib.hid (by simp [Fm.of]), grown_refl _ _⟩
  case round =>
    obtain ⟨k, x, rfl, rfl, hk, X, G⟩ := hrel
    by_cases hlt : k < n
    · obtain ⟨b, off, x0, y0, rfl, hp0, c0, c1⟩ := (HF.out.grown G.out).at_ k hlt
      have e0 := Fm.of_next d (f := f) (k := k) (by omega)
      rw [hp0, ← X.out] at e0
      dsimp only at e0
      have v1 := HV.out k
      have v2 := HV.out (k + 1)
      rw [← X.out] at v1
      by_cases hd : x0 = d
      · rw [if_pos hd] at e0
        subst hd
        rw [e0] at v2
        have E := Lib.hid e0.symm
        clear hp0 e0
        go_wp2
        go_roundw
        case rel => exact ⟨k + 1, _, rfl, by go_num, by omega, E, Lib.hid (grown_trans G.out (World.grownBy_alloc _ _ _))⟩
        case measure => simp [intOf]; omega
      · rw [if_neg hd, Int.add_zero] at e0
        have E := Lib.hid e0.symm
        have hb : (x0 == d) = false := by rw [beq_eq_false_iff_ne]; exact hd
        clear hp0 e0 v2
        go_wp2
        go_roundw
        case rel => exact ⟨k + 1, _, rfl, by go_num, by omega, E, Lib.hid (grown_trans G.out (World.grownBy_alloc _ _ _))⟩
        case measure => simp [intOf]; omega
    · obtain rfl : k = n := by omega
      have E := Lib.hid (show x = Fm.of d f by rw [X.out, List.take_of_length_le (by omega)])
      go_wp2
      go_ret
      exact ⟨ret_int E.out, G.out⟩
theorem rbatch_any (s : Sl) (f : List Fm.Pc) (d : Int) (w : World) (h : FR w s f) : Calls Try.prog 23 #[s.v, .int .i64 d] w (Ret (.int .i64 (batchOf f d)) w) := by
  have HF := Lib.hid h
  clear h
  unfold batchOf
  cases hv : Fm.valid f with
  | false =>
    have V := Lib.hid hv
    clear hv
    go_enter Try.func23, Try.ntmps23
    go_wp2_with fail
    refine (rvalid_any s f w HF.out).mono ?_
    rintro e w1 ⟨rfl, hg⟩
    have G := Lib.hid hg
    clear hg
    rw [V.out]
    go_wp2
    go_ret
    exact ⟨ret_int (by simp), G.out⟩
  | true =>
    have V := Lib.hid hv
    have hV := Fm.valid_iff.1 hv
    have P := Lib.hid hV.pos
    have B := Lib.hid (Val.sum hV)
    clear hv hV
    go_enter Try.func23, Try.ntmps23
    go_wp2_with fail
    refine (rvalid_any s f w HF.out).mono ?_
    rintro e w1 ⟨rfl, hg⟩
    have G := Lib.hid hg
    clear hg
    rw [V.out]
    go_wp2_with fail
    refine (rof_any s f d w1 (HF.out.grown G.out) P.out B.out).mono ?_
    rintro e w2 ⟨rfl, hg⟩
    have G2 := Lib.hid hg
    clear hg
    go_wp2
    go_ret
    exact ⟨ret_int (by simp), grown_trans G.out G2.out⟩

/-- The bool of two lists that are equal. -/
def sameB (f g : List Fm.Pc) : Bool := decide (f = g)
theorem sameB_true {f g : List Fm.Pc} (h1 : f.length = g.length) (h2 : ∀ j, j < f.length → f.getD j Fm.zp = g.getD j Fm.zp) : sameB f g = true := by
  unfold sameB
  rw [decide_eq_true_eq]
  apply List.ext_getElem h1
  intro i h3 h4
  have := h2 i h3
  simpa [List.getD_eq_getElem?_getD, List.getElem?_eq_getElem h3, List.getElem?_eq_getElem h4] using this
theorem sameB_false {f g : List Fm.Pc} (j : Nat) (h2 : f.getD j Fm.zp ≠ g.getD j Fm.zp) : sameB f g = false := by
  unfold sameB
  rw [decide_eq_false_iff_not]
  intro e; subst e; exact h2 rfl
theorem sameB_len {f g : List Fm.Pc} (h : f.length ≠ g.length) : sameB f g = false := by
  unfold sameB
  rw [decide_eq_false_iff_not]
  intro e; subst e; exact h rfl
end Go.Proofs.Ytagemdgbnajobaa
