/- Package boundary: List. -/
import Derived.Test.YtagemdgbnajobaaHb
namespace Go.Proofs.Ytagemdgbnajobaa
open Go.ChangeShapes Go.WideShapes Go.ChangeAt Go.RowKit

set_option maxHeartbeats 1000000 in
theorem blist_any (s : Sl) (f : List Fm.Pc) (w : World) (h : FR w s f) : Calls Try.prog 13 #[s.v] w (ListEnd (listOf f) (invOf f) w) := by
  have HF := Lib.hid h
  clear h
  unfold listOf invOf
  cases hv : Fm.valid f with
  | false =>
    have V := Lib.hid hv
    clear hv
    go_enter Try.func13, Try.ntmps13
    go_wp2_with fail
    refine (pvalid_any s f w HF.out).mono ?_
    rintro e w1 ⟨rfl, hg⟩
    have G := Lib.hid hg
    clear hg
    rw [V.out]
    go_wp2
    go_ret2
    exact ⟨⟨none, 0, 0⟩, rfl, BR.nil, G.out⟩
  | true =>
    obtain ⟨i0, hi, hz0, hz1, hz2⟩ := parts_b
    have V := Lib.hid hv
    have hV := Fm.valid_iff.1 hv
    have P := Lib.hid hV.pos
    have VV := Lib.hid hV
    have HB := Lib.hid (show ∀ k, 0 ≤ Fm.vol (f.take k) ∧ Fm.vol (f.take k) ≤ 1000000 from fun k => by have h1 := Fm.vol_take_le P.out k; have h2 := VV.out.vol; omega)
    obtain ⟨a, n, c⟩ := s
    have hlen := HF.out.len
    have fit := HF.out.fit
    dsimp only [Sl.fit] at hlen fit
    have hn200 : n ≤ 200 := by have := hV.len; omega
    clear hv hV
    unfold Sl.v
    dsimp only
    go_enter Try.func13, Try.ntmps13
    go_wp2_with fail
    refine (pvalid_any ⟨a, n, c⟩ f w HF.out).mono ?_
    rintro e w1 ⟨rfl, hg⟩
    have G := Lib.hid hg
    clear hg
    rw [V.out]
    go_wp2
    go_loopw [4, 5, 6] (fun so sx i wr => ∃ (k j : Nat) (x : Int) (o : Sl), so = .slice o.a o.n o.c ∧ sx = .int .i64 x ∧ i = .int .i64 j ∧ Hid (j = k + 1 ∧ k ≤ n - 1) ∧ Hid (x = Fm.vol (f.take k)) ∧ Hid (OB w.heap.size wr o (Bm.bds f k)) ∧ Hid (w.grownBy wr none)) (fun _ _ i _ => n + 1 - (intOf i).toNat)
    case atStart => exact ⟨0, 1, 0, ⟨none, 0, 0⟩, rfl, rfl, rfl, Lib.hid ⟨rfl, by omega⟩, Lib.hid (by simp [Fm.vol]), Lib.hid (or_nil _ _ _ _), G⟩
    case round =>
      obtain ⟨k, j, x, ⟨oa, on, oc⟩, rfl, rfl, rfl, KJ, X, O, G⟩ := hrel
      dsimp only
      have ON := Lib.hid (show on = k by have := O.out.br.len; rw [Bm.bds_len] at this; exact this.symm)
      by_cases hlt : j < n
      · have hkn : k < n := by have := KJ.out.1; omega
        have hon2 : on ≤ 1000 := by have := ON.out; omega
        obtain ⟨b, off, x0, y0, rfl, hp0, c0, c1⟩ := (HF.out.grown G.out).at_ k hkn
        obtain ⟨x1, y1, hp1, c2, c3⟩ := (HF.out.grown G.out).got j hlt
        have hw : IntKind.i64.wrap ((j : Int) - 1) = (k : Int) := by rw [IntWalk.i64_in _ (by omega)]; have := KJ.out.1; omega
        have hnn : (k : Int) < (n : Int) := by omega
        have BD := Lib.hid (show (Fm.vol (f.take j), x0, x1) = Bm.bd f k by unfold Bm.bd; rw [← KJ.out.1, hp0, hp1])
        have E := Lib.hid (show x + y0 = Fm.vol (f.take j) by have := Fm.vol_next (f := f) (k := k) (by omega); rw [hp0] at this; rw [KJ.out.1, this, X.out])
        have v1 := HB.out k
        have v2 := HB.out j
        rw [← E.out] at v2
        rw [← X.out] at v1
        clear hp0 hp1
        go_upto_region 8 with fail
        have szb : b < wr.heap.size := World.block_lt_of_cell? _ _ c0
        go_region
        all_goals
          go_wp2_with (first
            | (at_builtin
               refine wpList_appV rfl _ _ 30 rfl (S := ⟨oa, on, oc⟩) (V := ⟨some ⟨wr.heap.size + 1 + 1, 0, none⟩, 1, 1⟩) (vs := bcs (x + y0, x0, x1)) Try.underlying30 hi hz0 hz1 hz2 (by rfl) (by omega) rfl rfl (O.out.grown (grown_trans (grown_trans (grown_trans (World.grownBy_alloc _ _ _) (World.grownBy_alloc _ _ _)) (grown_drewN _ 1 none)) (World.grownBy_alloc _ _ _))) ?a1 (by rfl) (cr_bd _ _ _ _ (by simp)) (bcs_one _) ?a2 ?a3 ?_
               case a1 => simp; have := G.out.size; omega
               case a2 => dsimp only; omega
               case a3 => dsimp only; omega
               intro r w5 hrn hr hg5 hbl)
            | fail)
          rw [E.out, BD.out, b3_snoc, ← Bm.bds_next] at hr
          have RR := Lib.hid hr
          have R5 := Lib.hid (grown_row0 (grown_trans G.out (grown_trans (grown_trans (grown_trans (World.grownBy_alloc _ _ _) (World.grownBy_alloc _ _ _)) (grown_drewN _ 1 none)) (World.grownBy_alloc _ _ _))) hg5 (fun b hb => (O.out.blk b hb).1))
          clear hr hg5 hbl hrn hw
          obtain ⟨ra, rn, rc⟩ := r
          dsimp only [Sl.v]
          go_wp2
          go_roundw
          case rel => exact ⟨k + 1, j + 1, _, ⟨ra, rn, rc⟩, rfl, rfl, by go_num, Lib.hid ⟨by have := KJ.out.1; omega, by have := KJ.out.1; omega⟩, Lib.hid (by rw [E.out, KJ.out.1]), RR, R5⟩
          case measure => simp [intOf]; omega
      · have e1 : decide ((j : Int) < (n : Int)) = false := decide_eq_false (by omega)
        have E := Lib.hid (show k = n - 1 by have := KJ.out; omega)
        go_wp2
        go_ret2
        exact ⟨⟨oa, on, oc⟩, rfl, by have h1 := O.out.br; rw [E.out, ← hlen] at h1; exact h1, G.out⟩
end Go.Proofs.Ytagemdgbnajobaa
