/- Rows of boundaries; contracts of the reference's List and Same. -/
import Derived.Test.YtagemdgbnajobaaFn
import Derived.Test.YtagemdgbnajobaaHm
namespace Go.Proofs.Ytagemdgbnajobaa
open Go.ChangeShapes Go.WideShapes Go.ChangeAt Go.RowKit

theorem info_b : (Try.prog.info? 44).map (fun i => (i.zero, i.size, i.bytes)) = some (some (.agg #[.int .i64 0, .int .i64 0, .int .i64 0]), 3, 24) := by kernel_rfl
theorem parts_b : ∃ i, Try.prog.info? 44 = some i ∧ i.zero = some (.agg #[.int .i64 0, .int .i64 0, .int .i64 0]) ∧ i.size = 3 ∧ i.bytes = 24 := by
  obtain ⟨i, hi, hz⟩ := Option.map_eq_some_iff.1 info_b
  simp only [Prod.mk.injEq] at hz
  exact ⟨i, hi, hz.1, hz.2.1, hz.2.2⟩
def bcs (b : Bm.Bd) : List Value := [.int .i64 b.1, .int .i64 b.2.1, .int .i64 b.2.2]
def b3 (l : List Bm.Bd) : List Value := l.flatMap bcs
theorem bcs_len (b : Bm.Bd) : (bcs b).length = 3 := rfl
theorem bcs_one (b : Bm.Bd) : ∀ v ∈ bcs b, v.oneCell' = true := by
  intro v hv
  simp only [bcs, List.mem_cons, List.not_mem_nil, or_false] at hv
  rcases hv with rfl | rfl | rfl <;> rfl
theorem b3_len (l : List Bm.Bd) : (b3 l).length = l.length * 3 := flat_len bcs_len l
theorem b3_snoc (l : List Bm.Bd) (b : Bm.Bd) : b3 l ++ bcs b = b3 (l ++ [b]) := by unfold b3; rw [flat_app]; simp
/-- A row of boundaries that the call made since base. -/
abbrev OB (base : Nat) (w : World) (s : Sl) (l : List Bm.Bd) : Prop := OR base w 44 3 s (b3 l)
/-- The boundaries l lie at the slice s. -/
structure BR (w : World) (s : Sl) (l : List Bm.Bd) : Prop where
  fit : s.fit
  len : l.length = s.n
  cr : CR w s (b3 l)
theorem BR.grown {w w' : World} {s : Sl} {l : List Bm.Bd} (h : BR w s l) (g : w.grownBy w' none) : BR w' s l := ⟨h.fit, h.len, h.cr.grown g⟩
theorem OR.br {base : Nat} {w : World} {T : TypeId} {s : Sl} {l : List Bm.Bd} (h : OR base w T 3 s (b3 l)) : BR w s l :=
  ⟨h.fit, by have := h.len; rw [b3_len] at this; omega, h.cr⟩
theorem BR.nil {w : World} : BR w ⟨none, 0, 0⟩ [] := ⟨⟨Nat.le_refl _, by dsimp only; omega⟩, rfl, fun j u hu => by simp [b3] at hu⟩
theorem b3_get (l : List Bm.Bd) (i : Nat) (hi : i < l.length) : (b3 l)[i * 3]? = some (.int .i64 (l.getD i Bm.zb).1) ∧ (b3 l)[i * 3 + 1]? = some (.int .i64 (l.getD i Bm.zb).2.1) ∧ (b3 l)[i * 3 + 2]? = some (.int .i64 (l.getD i Bm.zb).2.2) := by
  have hx : l[i]? = some (l.getD i Bm.zb) := by simp [List.getD_eq_getElem?_getD, List.getElem?_eq_getElem hi]
  exact ⟨flat_get bcs_len l i 0 (by omega) _ hx, flat_get bcs_len l i 1 (by omega) _ hx, flat_get bcs_len l i 2 (by omega) _ hx⟩
/-- The boundary with the number i. -/
theorem BR.at_ {w : World} {s : Sl} {l : List Bm.Bd} (h : BR w s l) (i : Nat) (hi : i < s.n) :
    ∃ b off x y z, s.a = some ⟨b, off, none⟩ ∧ l.getD i Bm.zb = (x, y, z) ∧ w.cell? ⟨b, off + i * 3, none⟩ = some (.int .i64 x) ∧ w.cell? ⟨b, off + i * 3 + 1, none⟩ = some (.int .i64 y) ∧ w.cell? ⟨b, off + i * 3 + 2, none⟩ = some (.int .i64 z) := by
  obtain ⟨h0, h1, h2⟩ := b3_get l i (by rw [h.len]; exact hi)
  obtain ⟨b, off, e, c0⟩ := h.cr _ _ h0
  obtain ⟨b', off', e', c1⟩ := h.cr _ _ h1
  obtain ⟨b'', off'', e'', c2⟩ := h.cr _ _ h2
  rw [e] at e' e''
  cases e'; cases e''
  exact ⟨b, off, _, _, _, e, rfl, c0, c1, c2⟩
theorem BR.got {w : World} {b off n c : Nat} {l : List Bm.Bd} (h : BR w ⟨some ⟨b, off, none⟩, n, c⟩ l) (i : Nat) (hi : i < n) :
    ∃ x y z, l.getD i Bm.zb = (x, y, z) ∧ w.cell? ⟨b, off + i * 3, none⟩ = some (.int .i64 x) ∧ w.cell? ⟨b, off + i * 3 + 1, none⟩ = some (.int .i64 y) ∧ w.cell? ⟨b, off + i * 3 + 2, none⟩ = some (.int .i64 z) := by
  obtain ⟨b', off', x, y, z, e, h1, h2, h3, h4⟩ := h.at_ i hi
  cases e
  exact ⟨x, y, z, h1, h2, h3, h4⟩
/-- A literal of boundaries. -/
theorem br_new (w : World) (l : List Bm.Bd) {A : Nat} {cs : Array Value} (hA : A = w.heap.size) (hc : (b3 l).toArray = cs) (hl : l.length ≤ 1000) : BR (w.alloc (.cells cs 44)) ⟨some ⟨A, 0, none⟩, l.length, l.length⟩ l := by
  subst hA; subst hc
  refine ⟨⟨Nat.le_refl _, by dsimp only; omega⟩, rfl, fun j u hu => ⟨w.heap.size, 0, rfl, ?_⟩⟩
  rw [Nat.zero_add]
  have h1 : (b3 l).toArray[j]? = some u := by simpa using hu
  simp [h1]
theorem cr_bd (w : World) (x y z : Int) {A : Nat} (hA : A = w.heap.size) : CR (w.alloc (.cells #[.int .i64 x, .int .i64 y, .int .i64 z] 44)) ⟨some ⟨A, 0, none⟩, 1, 1⟩ (bcs (x, y, z)) := by
  have := (br_new w [(x, y, z)] (A := A) (cs := #[.int .i64 x, .int .i64 y, .int .i64 z]) hA rfl (by simp)).cr
  simpa [b3] using this
/-- .. whose cells are told. -/
theorem cr_three {W : World} {A : Nat} {b : Bm.Bd} (h0 : W.cell? ⟨A, 0, none⟩ = some (.int .i64 b.1)) (h1 : W.cell? ⟨A, 1, none⟩ = some (.int .i64 b.2.1)) (h2 : W.cell? ⟨A, 2, none⟩ = some (.int .i64 b.2.2)) : CR W ⟨some ⟨A, 0, none⟩, 1, 1⟩ (bcs b) := by
  intro j u hu
  refine ⟨A, 0, rfl, ?_⟩
  rw [Nat.zero_add]
  match j, hu with
  | 0, hu => simp [bcs] at hu; subst hu; exact h0
  | 1, hu => simp [bcs] at hu; subst hu; exact h1
  | 2, hu => simp [bcs] at hu; subst hu; exact h2

/-! ## List -/
/-- The boundaries of what may be a fill, and the error. -/
noncomputable def listOf (f : List Fm.Pc) : List Bm.Bd := if Fm.valid f = true then Bm.bnd f else []
noncomputable def invOf (f : List Fm.Pc) : Int := if Fm.valid f = true then 0 else 9
def ListEnd (l : List Bm.Bd) (c : Int) (w : World) (e : Ending) (w' : World) : Prop := ∃ r : Sl, e = .returned (.tuple #[r.v, .int .i64 c]) ∧ BR w' r l ∧ w.grownBy w' none
theorem fr_front {w : World} {a : Option Addr} {n c : Nat} {f : List Fm.Pc} (h : FR w ⟨a, n, c⟩ f) (i : Nat) (hi : i ≤ n) : FR w ⟨a, i, c⟩ (f.take i) := by
  have hf := h.fit
  dsimp only [Sl.fit] at hf
  refine ⟨⟨by dsimp only; omega, hf.2⟩, by have := h.len; dsimp only at this ⊢; rw [List.length_take]; omega, fun j u hu => ?_⟩
  refine h.cr j u ?_
  rw [f2, ← flat_take pcs_len, List.getElem?_take] at hu
  split at hu
  · exact hu
  · cases hu

set_option maxHeartbeats 1000000 in
theorem rlist_any (s : Sl) (f : List Fm.Pc) (w : World) (h : FR w s f) : Calls Try.prog 14 #[s.v] w (ListEnd (listOf f) (invOf f) w) := by
  have HF := Lib.hid h
  clear h
  unfold listOf invOf
  cases hv : Fm.valid f with
  | false =>
    have V := Lib.hid hv
    clear hv
    go_enter Try.func14, Try.ntmps14
    go_wp2_with fail
    refine (rvalid_any s f w HF.out).mono ?_
    rintro e w1 ⟨rfl, hg⟩
    have G := Lib.hid hg
    clear hg
    rw [V.out]
    go_wp2
    go_ret2
    exact ⟨⟨none, 0, 0⟩, rfl, BR.nil, G.out⟩
  | true =>
    obtain ⟨i0, hi, hz0, hz1, hz2⟩ := parts_b
    have V := Lib.hid hv
    have hV := Fm.valid_iff.1 hv
    have P := Lib.hid hV.pos
    have VV := Lib.hid hV
    obtain ⟨a, n, c⟩ := s
    have hlen := HF.out.len
    have fit := HF.out.fit
    dsimp only [Sl.fit] at hlen fit
    have hn200 : n ≤ 200 := by have := hV.len; omega
    clear hv hV
    unfold Sl.v
    dsimp only
    go_enter Try.func14, Try.ntmps14
    go_wp2_with fail
    refine (rvalid_any ⟨a, n, c⟩ f w HF.out).mono ?_
    rintro e w1 ⟨rfl, hg⟩
    have G := Lib.hid hg
    clear hg
    rw [V.out]
    go_wp2
    go_loopw [4, 5] (fun so i wr => ∃ (k j : Nat) (o : Sl), so = .slice o.a o.n o.c ∧ i = .int .i64 j ∧ Hid (j = k + 1 ∧ k ≤ n - 1) ∧ Hid (OB w.heap.size wr o (Bm.bds f k)) ∧ Hid (w.grownBy wr none)) (fun _ i _ => n + 1 - (intOf i).toNat)
    case atStart => exact ⟨0, 1, ⟨none, 0, 0⟩, rfl, rfl, Lib.hid ⟨rfl, by omega⟩, Lib.hid (or_nil _ _ _ _), G⟩
    case round =>
      obtain ⟨k, j, ⟨oa, on, oc⟩, rfl, rfl, KJ, O, G⟩ := hrel
      dsimp only
      have ON := Lib.hid (show on = k by have := O.out.br.len; rw [Bm.bds_len] at this; exact this.symm)
      by_cases hlt : j < n
      · have hkn : k < n := by have := KJ.out.1; omega
        have hon2 : on ≤ 1000 := by have := ON.out; omega
        obtain ⟨b, off, x0, y0, rfl, hp0, c0, c1⟩ := (HF.out.grown G.out).at_ k hkn
        obtain ⟨x1, y1, hp1, c2, c3⟩ := (HF.out.grown G.out).got j hlt
        have hw : IntKind.i64.wrap ((j : Int) - 1) = (k : Int) := by rw [IntWalk.i64_in _ (by omega)]; have := KJ.out.1; omega
        have hnn : (k : Int) < (n : Int) := by omega
        have BD := Lib.hid (show (Fm.vol (f.take j), x0, x1) = Bm.bd f k by unfold Bm.bd; rw [← KJ.out.1, hp0, hp1])
        have SU := Lib.hid (show Fm.vol (f.take j) ≤ 4611686018427387904 by have h1 := Fm.vol_take_le P.out j; have h2 := VV.out.vol; omega)
        have PT := Lib.hid (P.out.take j)
        have FT := Lib.hid (fr_front (HF.out.grown G.out) j (by omega))
        obtain ⟨V0, hV0⟩ : ∃ V0, V0 = Fm.vol (f.take j) := ⟨_, rfl⟩
        rw [← hV0] at BD
        have HV := Lib.hid hV0
        clear hp0 hp1 hV0 c1 c3
        have szw := G.out.size
        have K0 := Lib.hid (fun (W : World) (hW : wr.grownBy W none) => (⟨hW.cell c0 (by simp), hW.cell c2 (by simp)⟩ : W.cell? ⟨b, off + k * 2, none⟩ = some (.int .i64 x0) ∧ W.cell? ⟨b, off + j * 2, none⟩ = some (.int .i64 x1)))
        have NB := Lib.hid (show (⟨oa, on, oc⟩ : Sl).blk ≠ some b from fun e => by obtain ⟨_, _, _, h1, _⟩ := HF.out.got k hkn; have h2 := World.block_lt_of_cell? _ _ h1; have h3 := (O.out.blk b e).1; dsimp only at h2; omega)
        have hjc : j ≤ c := by omega
        have hjc2 : (j : Int) ≤ (c : Int) := by omega
        go_wp2
        go_region_held3 (fun w' => w'.cell? ⟨b, off + k * 2, none⟩ = some (.int .i64 x0) ∧ w'.cell? ⟨b, off + j * 2, none⟩ = some (.int .i64 x1))
          (first | go_keep | exact K5.out | exact K0.out _ GS.out | fail)
          (first
            | (go_at_call 32; refine (rsum_any ⟨some ⟨b, off, none⟩, j, c⟩ (f.take j) _ (FT.out.grown (grown_drewN wr 1 none)) PT.out SU.out).mono ?_; rw [← HV.out]; rintro e ws ⟨rfl, hg⟩; have GS := Lib.hid (grown_trans (show wr.grownBy wr.drew none from grown_drewN wr 1 none) hg); clear hg)
            | (refine step_appV rfl (.tmp 15) (.tmp 32) 30 rfl (S := ⟨oa, on, oc⟩) (V := ⟨some ⟨ws.heap.size, 0, none⟩, 1, 1⟩) (vs := bcs (V0, x0, x1)) Try.underlying30 hi hz0 hz1 hz2 (by rfl) (by omega) (by rfl) (by rfl) (O.out.grown (grown_trans GS.out (World.grownBy_alloc _ _ _))) ?a1 (by rfl) (cr_bd _ _ _ _ rfl) (bcs_one _) ?a2 ?a3 ?_
               case a1 => simp; have := GS.out.size; omega
               case a2 => dsimp only; omega
               case a3 => dsimp only; omega
               intro r w5 hrn hr hg5 hbl
               have K5 := Lib.hid (show w5.cell? ⟨b, off + k * 2, none⟩ = some (.int .i64 x0) ∧ w5.cell? ⟨b, off + j * 2, none⟩ = some (.int .i64 x1) by
                 obtain ⟨q0, q1⟩ := K0.out _ (grown_trans GS.out (World.grownBy_alloc ws (.cells #[.int .i64 V0, .int .i64 x0, .int .i64 x1] 44) none))
                 exact ⟨hg5.cell q0 (fun e => NB.out e.symm), hg5.cell q1 (fun e => NB.out e.symm)⟩)
               have R5 := Lib.hid (grown_row0 (grown_trans G.out (grown_trans GS.out (World.grownBy_alloc _ _ _))) hg5 (fun b hb => (O.out.blk b hb).1)))
            | fail)
        rw [BD.out, b3_snoc, ← Bm.bds_next] at hr
        have RR := Lib.hid hr
        clear hr hg5 hbl hrn hw
        obtain ⟨ra, rn, rc⟩ := r
        dsimp only [Sl.v]
        go_wp2
        go_roundw
        case rel => exact ⟨k + 1, j + 1, ⟨ra, rn, rc⟩, rfl, by go_num, Lib.hid ⟨by have := KJ.out.1; omega, by have := KJ.out.1; omega⟩, RR, R5⟩
        case measure => simp [intOf]; omega
      · have e1 : decide ((j : Int) < (n : Int)) = false := decide_eq_false (by omega)
        have E := Lib.hid (show k = n - 1 by have := KJ.out; omega)
        go_wp2
        go_ret2
        exact ⟨⟨oa, on, oc⟩, rfl, by have h1 := O.out.br; rw [E.out, ← hlen] at h1; exact h1, G.out⟩

/-- The bool of two lists of boundaries that are equal. -/
def sameL (f g : List Bm.Bd) : Bool := decide (f = g)
theorem sameL_refl (f : List Bm.Bd) : sameL f f = true := by unfold sameL; simp
theorem sameL_false {f g : List Bm.Bd} (j : Nat) (h2 : f.getD j Bm.zb ≠ g.getD j Bm.zb) : sameL f g = false := by
  unfold sameL
  rw [decide_eq_false_iff_not]
  intro e; subst e; exact h2 rfl
theorem sameL_len {f g : List Bm.Bd} (h : f.length ≠ g.length) : sameL f g = false := by
  unfold sameL
  rw [decide_eq_false_iff_not]
  intro e; subst e; exact h rfl
theorem sameL_true {f g : List Bm.Bd} (h1 : f.length = g.length) (h2 : ∀ j, j < f.length → f.getD j Bm.zb = g.getD j Bm.zb) : sameL f g = true := by
  unfold sameL
  rw [decide_eq_true_eq]
  apply List.ext_getElem h1
  intro j hj hj2
  have := h2 j hj
  simpa [List.getD_eq_getElem?_getD, List.getElem?_eq_getElem hj, List.getElem?_eq_getElem hj2] using this
set_option maxHeartbeats 400000 in
theorem rsameL_any (s t : Sl) (f g : List Bm.Bd) (w : World) (h : BR w s f) (k : BR w t g) :
    Calls Try.prog 15 #[s.v, t.v] w (Ret (.bool (sameL f g)) w) := by
  obtain ⟨a, n, c⟩ := s
  obtain ⟨a', n', c'⟩ := t
  have hlen := h.len
  have klen := k.len
  have fit := h.fit
  have fit' := k.fit
  dsimp only [Sl.fit] at hlen klen fit fit'
  have HF := Lib.hid h
  have HG := Lib.hid k
  clear h k
  unfold Sl.v
  dsimp only
  by_cases hne : n = n'
  · subst hne
    go_enter Try.func15, Try.ntmps15
    go_wp2
    go_loopw [5, 13] (fun i5 i wr => ∃ (k : Nat), i = .int .i64 k ∧ k ≤ n ∧ Hid (∀ j, j < k → f.getD j Bm.zb = g.getD j Bm.zb) ∧ Hid (w.grownBy wr none)) (fun _ i _ => n - (intOf i).toNat)
    case atStart => exact ⟨0, rfl, by omega, fun j hj => absurd hj (by omega), grown_refl _ _⟩
    case round =>
      obtain ⟨k, rfl, hk, E, G⟩ := hrel
      by_cases hlt : k < n
      · obtain ⟨b, off, x0, y0, z0, rfl, hp0, c0, c1, d0⟩ := (HF.out.grown G.out).at_ k hlt
        obtain ⟨b', off', x1, y1, z1, rfl, hp1, c2, c3, d1⟩ := (HG.out.grown G.out).at_ k hlt
        have P0 := Lib.hid hp0
        have P1 := Lib.hid hp1
        clear hp0 hp1
        by_cases hxy : (x0, y0, z0) = (x1, y1, z1)
        · injection hxy with e1 e2
          injection e2 with e2 e3
          subst e1; subst e2; subst e3
          have EN := Lib.hid (show ∀ j, j < k + 1 → f.getD j Bm.zb = g.getD j Bm.zb from fun j hj => by
            by_cases e : j = k
            · subst e; rw [P0.out, P1.out]
            · exact E.out j (by omega))
          go_wp2
          go_quiet (fail)
          go_wp2
          go_roundw
          case rel => exact ⟨k + 1, by go_num, by omega, EN, Lib.hid (grown_trans G.out (grown_drewN _ _ _))⟩
          case measure => simp [intOf]; omega
        · have H := Lib.hid (sameL_false (f := f) (g := g) k (by rw [P0.out, P1.out]; exact hxy))
          by_cases e1 : x0 = x1
          · by_cases e2 : y0 = y1
            · have e3 : (z0 == z1) = false := by rw [beq_eq_false_iff_ne]; intro e3; exact hxy (by rw [e1, e2, e3])
              subst e1; subst e2
              clear hxy
              go_wp2
              go_quiet (fail)
              go_wp2
              go_ret
              exact ⟨ret_bool H.out.symm, grown_trans G.out (grown_drewN _ _ _)⟩
            · have e3 : (y0 == y1) = false := by rw [beq_eq_false_iff_ne]; exact e2
              subst e1
              clear hxy e2
              go_wp2
              go_quiet (fail)
              go_wp2
              go_ret
              exact ⟨ret_bool H.out.symm, grown_trans G.out (grown_drewN _ _ _)⟩
          · have e2 : (x0 == x1) = false := by rw [beq_eq_false_iff_ne]; exact e1
            clear hxy e1
            go_wp2
            go_quiet (fail)
            go_wp2
            go_ret
            exact ⟨ret_bool H.out.symm, grown_trans G.out (grown_drewN _ _ _)⟩
      · obtain rfl : k = n := by omega
        have H := Lib.hid (sameL_true (f := f) (g := g) (by omega) (fun j hj => E.out j (by omega)))
        go_wp2
        go_ret
        exact ⟨ret_bool H.out.symm, G.out⟩
  · have H := Lib.hid (sameL_len (f := f) (g := g) (by omega))
    have hb : ((n : Int) == (n' : Int)) = false := by rw [beq_eq_false_iff_ne]; omega
    go_enter Try.func15, Try.ntmps15
    go_wp2
    go_ret
    exact ⟨ret_bool H.out.symm, grown_refl _ _⟩
end Go.Proofs.Ytagemdgbnajobaa
