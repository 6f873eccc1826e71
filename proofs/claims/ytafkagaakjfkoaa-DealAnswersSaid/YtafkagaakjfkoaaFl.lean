/- Contract of package piece's Merge. -/
import Derived.Test.YtafkagaakjfkoaaFj
namespace Go.Proofs.Ytafkagaakjfkoaa
open Go.ChangeShapes Go.WideShapes Go.ChangeAt Go.RowKit

set_option maxHeartbeats 1000000 in
theorem pmerged_any (s : Sl) (f : List Fm.Pc) (w : World) (h : FR w s f) : Calls Try.prog 35 #[s.v] w (PEnd (merged f) w) := by
  obtain ⟨i0, hi, hz0, hz1, hz2⟩ := parts_p
  obtain ⟨a, n, c⟩ := s
  have hlen := h.len
  have fit := h.fit
  dsimp only [Sl.fit] at hlen fit
  have HF := Lib.hid h
  clear h
  by_cases hl : n ≤ 400
  · by_cases hm : ∀ p ∈ f, okm p
    · have M : Mok f := ⟨by omega, hm⟩
      have HO := Lib.hid hm
      have H := Lib.hid (merged_yes M)
      have HP := Lib.hid M.pos
      have HV := Lib.hid (fun k => show 0 ≤ Fm.vol (f.take k) ∧ Fm.vol (f.take k) ≤ 400000000 by have h1 := Fm.vol_take_le M.pos k; have h2 := M.vol; omega)
      clear M hm
      have e400 : decide ((400 : Int) < (n : Int)) = false := decide_eq_false (by omega)
      unfold Sl.v
      dsimp only
      go_enter Try.func35, Try.ntmps35
      go_wp2_with fail
      refine (contains_any ⟨a, n, c⟩ f w HF.out).mono ?_
      rintro e w1 ⟨b, rfl, hb, hg⟩
      have b0 : b = false := by
        cases b with
        | false => rfl
        | true => exact absurd HO.out (hb.1 rfl)
      subst b0
      have G1 := Lib.hid hg
      clear hb hg
      go_wp2
      go_loopw [3, 6, 16] (fun so s6 i wr => ∃ (k : Nat) (o : Sl) (m : List Fm.Pc), so = .slice o.a o.n o.c ∧ i = .int .i64 k ∧ k ≤ n ∧ Hid (m = Fm.mer (Fm.lit (f.take k))) ∧ Hid (OP w.heap.size wr o m) ∧ Hid (w.grownBy wr none)) (fun _ _ i _ => n - (intOf i).toNat)
      case atStart => exact ⟨0, ⟨none, 0, 0⟩, [], rfl, rfl, by omega, Lib.hid (by simp [Fm.lit, Fm.mer]), Lib.hid (or_nil _ _ _ _), G1⟩
      case round =>
        obtain ⟨k, ⟨oa, on, oc⟩, m, rfl, rfl, hk, M, O, G⟩ := hrel
        dsimp only
        by_cases hlt : k < n
        · obtain ⟨b, off, x0, y0, rfl, hp0, c0, c1⟩ := (HF.out.grown G.out).at_ k hlt
          have hy := HP.out _ (Fm.getD_mem (f := f) (i := k) (by omega))
          rw [hp0] at hy
          dsimp only at hy
          have v1 := HV.out k
          have v2 := HV.out (k + 1)
          rw [Fm.vol_next (by omega), hp0] at v2
          dsimp only at v2
          have J := Lib.hid (Fm.join_next (f := f) (i := k) (by omega) HP.out)
          rw [hp0, ← M.out] at J
          have GA := Lib.hid (grown_trans G.out (World.grownBy_alloc wr (.cells #[.int .i64 x0, .int .i64 y0] 38) none))
          have OA := Lib.hid (O.out.grown (World.grownBy_alloc wr (.cells #[.int .i64 x0, .int .i64 y0] 38) none))
          have hml : m.length = on := (O.out.fr).len
          have ofit := O.out.fit
          dsimp only [Sl.fit] at ofit
          have hon : on ≤ k := by
            have h1 := Fm.mer_lit_len (f.take k)
            rw [← M.out, List.length_take] at h1
            omega
          clear hp0
          by_cases hy0 : y0 = 0
          · subst hy0
            rw [jstep_zero (p := (x0, 0)) rfl] at J
            go_wp2
            go_roundw
            case rel => exact ⟨k + 1, ⟨oa, on, oc⟩, m, rfl, by go_num, by omega, J, OA, GA⟩
            case measure => simp [intOf]; omega
          · have hb : (y0 == 0) = false := by rw [beq_eq_false_iff_ne]; exact hy0
            by_cases h0 : 0 < on
            · obtain ⟨d, q, hd, hdl, hq⟩ := last_piece hml h0
              have hqv := last_vol HP.out M.out hd
              obtain ⟨j, hj⟩ : ∃ j, j = on - 1 := ⟨_, rfl⟩
              rw [← hj] at hdl hq
              have hjn : (j : Int) < (on : Int) := by omega
              have hj0 : (0 : Int) ≤ (j : Int) := by omega
              have hw : IntKind.i64.wrap ((on : Int) - 1) = (j : Int) := by rw [IntWalk.i64_in _ (by omega)]; omega
              rcases O.out.form with ⟨_, e0, _⟩ | ⟨g, e0, g1, g2⟩
              · dsimp only at e0; omega
              · dsimp only at e0
                subst e0
                have hgn : ¬ wr.heap.size = g := by omega
                obtain ⟨x1, y1, hp1, c2, c3⟩ := OA.out.fr.got j (by omega)
                rw [hq] at hp1
                subst hp1
                have fz := OA.out.own.frozenAt (j * 2 + 1)
                rw [Nat.zero_add] at c2 c3
                have D := Lib.hid hd
                have DL := Lib.hid hdl
                clear hd hdl hq hj
                by_cases hx : x1 = x0
                · subst hx
                  have JS := Lib.hid (show d ++ [(x1, y1 + y0)] = Fm.mer (Fm.lit (f.take (k + 1))) by rw [← J.out, jstep_same (p := (x1, y0)) hy0 D.out rfl])
                  have ST := fun nq => Lib.hid ((OA.out.grown (grown_drewN _ nq none)).stored (j * 2 + 1) (.int .i64 (y1 + y0)))
                  rw [f2_set D.out DL.out] at ST
                  go_wp2
                  go_quiet (fail)
                  go_wp2
                  go_region
                  have S1 := Lib.hid (ST (nq + 1)).out.1
                  have S2 := Lib.hid (grown_row0 (grown_trans GA.out (grown_drewN _ (nq + 1) none)) (ST (nq + 1)).out.2 (fun b hb => by cases hb; exact g1))
                  clear ST
                  go_wp2
                  go_roundw
                  case rel => exact ⟨k + 1, ⟨some ⟨g, 0, none⟩, on, oc⟩, _, rfl, by go_num, by omega, JS, S1, S2⟩
                  case measure => simp [intOf]; omega
                · have hxb : (x1 == x0) = false := by rw [beq_eq_false_iff_ne]; exact hx
                  have JS := Lib.hid (show m ++ [(x0, y0)] = Fm.mer (Fm.lit (f.take (k + 1))) by rw [← J.out, jstep_other (p := (x0, y0)) hy0 D.out hx])
                  go_wp2
                  go_quiet (fail)
                  have OW := Lib.hid (OA.out.grown (grown_drewN _ nq none))
                  go_wp2_with (first
                    | (at_builtin
                       refine wpList_appV rfl _ _ 23 rfl (S := ⟨some ⟨g, 0, none⟩, on, oc⟩) (V := ⟨some ⟨wr.heap.size + 1, 0, none⟩, 1, 1⟩) (vs := pcs (x0, y0)) Try.underlying23 hi hz0 hz1 hz2 (by rfl) (by omega) rfl rfl (OW.out.grown (World.grownBy_alloc _ _ _)) ?a1 (by rfl) (cr_new _ _ _ (by simp)) (pcs_one _) ?a2 ?a3 ?_
                       case a1 => simp; have := G.out.size; omega
                       case a2 => dsimp only; omega
                       case a3 => dsimp only; omega
                       intro r w5 hrn hr hg5 hbl)
                    | fail)
                  rw [f2_snoc2, JS.out] at hr
                  have RR := Lib.hid hr
                  have R5 := Lib.hid (grown_row0 (grown_trans (grown_trans GA.out (grown_drewN _ nq none)) (World.grownBy_alloc _ _ _)) hg5 (fun b hb => (O.out.blk b hb).1))
                  clear hr hg5 hbl hrn
                  obtain ⟨ra, rn, rc⟩ := r
                  dsimp only [Sl.v]
                  go_wp2
                  go_roundw
                  case rel => exact ⟨k + 1, ⟨ra, rn, rc⟩, _, rfl, by go_num, by omega, Lib.hid rfl, RR, R5⟩
                  case measure => simp [intOf]; omega
            · obtain rfl : on = 0 := by omega
              have hw : IntKind.i64.wrap (((0 : Nat) : Int) - 1) = -1 := by decide
              have JS := Lib.hid (show m ++ [(x0, y0)] = Fm.mer (Fm.lit (f.take (k + 1))) by rw [← J.out, jstep_none (p := (x0, y0)) hy0 (by omega)])
              go_wp2
              go_quiet (fail)
              have OW := Lib.hid (OA.out.grown (grown_drewN _ nq none))
              go_wp2_with (first
                | (at_builtin
                   refine wpList_appV rfl _ _ 23 rfl (S := ⟨oa, 0, oc⟩) (V := ⟨some ⟨wr.heap.size + 1, 0, none⟩, 1, 1⟩) (vs := pcs (x0, y0)) Try.underlying23 hi hz0 hz1 hz2 (by rfl) (by omega) rfl rfl (OW.out.grown (World.grownBy_alloc _ _ _)) ?a1 (by rfl) (cr_new _ _ _ (by simp)) (pcs_one _) ?a2 ?a3 ?_
                   case a1 => simp; have := G.out.size; omega
                   case a2 => dsimp only; omega
                   case a3 => dsimp only; omega
                   intro r w5 hrn hr hg5 hbl)
                | fail)
              rw [f2_snoc2, JS.out] at hr
              have RR := Lib.hid hr
              have R5 := Lib.hid (grown_row0 (grown_trans (grown_trans GA.out (grown_drewN _ nq none)) (World.grownBy_alloc _ _ _)) hg5 (fun b hb => (O.out.blk b hb).1))
              clear hr hg5 hbl hrn
              obtain ⟨ra, rn, rc⟩ := r
              dsimp only [Sl.v]
              go_wp2
              go_roundw
              case rel => exact ⟨k + 1, ⟨ra, rn, rc⟩, _, rfl, by go_num, by omega, Lib.hid rfl, RR, R5⟩
              case measure => simp [intOf]; omega
        · obtain rfl : k = n := by omega
          go_wp2
          go_ret
          refine ⟨⟨oa, on, oc⟩, rfl, ?_, G.out⟩
          have := M.out
          rw [List.take_of_length_le (by omega)] at this
          rw [H.out, ← this]; exact O.out
    · have H := Lib.hid (merged_no (f := f) (fun m => hm m.ok))
      have HO := Lib.hid hm
      clear hm
      have e400 : decide ((400 : Int) < (n : Int)) = false := decide_eq_false (by omega)
      go_enter Try.func35, Try.ntmps35
      unfold Sl.v
      dsimp only
      go_wp2_with fail
      refine (contains_any ⟨a, n, c⟩ f w HF.out).mono ?_
      rintro e w1 ⟨b, rfl, hb, hg⟩
      have b0 : b = true := hb.2 HO.out
      subst b0
      have G1 := Lib.hid hg
      clear hb hg
      go_wp2
      go_ret
      exact ⟨⟨none, 0, 0⟩, rfl, by rw [H.out]; exact or_nil _ _ _ _, G1.out⟩
  · have H := Lib.hid (merged_no (f := f) (fun m => by have := m.len; omega))
    have e400 : (400 : Int) < (n : Int) := by omega
    unfold Sl.v
    dsimp only
    go_enter Try.func35, Try.ntmps35
    go_wp2
    go_ret
    exact ⟨⟨none, 0, 0⟩, rfl, by rw [H.out]; exact or_nil _ _ _ _, grown_refl _ _⟩
end Go.Proofs.Ytafkagaakjfkoaa
