/- PieceMerges: the walk. -/
import Derived.Test.YtaghcdelnjjncaaFv
namespace Go.Proofs.Ytaghcdelnjjncaa
open Go.ChangeShapes Go.WideShapes Go.ChangeAt Go.RowKit

set_option maxRecDepth 100000 in
set_option maxHeartbeats 4000000 in
theorem merges_walk (a : Option Addr) (len cap : Nat) (zs : List Int) (w : World) (hi : InRow w a len cap zs) :
    Calls Try.prog 8 #[.slice a len cap] w fun e w' => e = .returned (.bool true) ∧ Below w.heap.size w w' := by
  obtain ⟨i0, hi0, hz0, hz1, hz2⟩ := parts_p
  obtain ⟨j0, hj0, jz0, jz1, jz2⟩ := parts_i
  go_enter Try.func8, Try.ntmps8
  go_wp2_with fail
  refine (new_any a len cap zs w hi).mono ?_
  rintro e w1 ⟨rfl, hg, hs, _⟩
  have G := Lib.hid hg
  have HS := Lib.hid hs
  clear hi hg hs
  obtain ⟨S, hS⟩ : ∃ S, S = w.heap.size := ⟨_, rfl⟩
  have SW := Lib.hid hS
  rw [← hS] at HS ⊢
  clear hS
  go_wp2_with fail
  refine (n_any S 20 w1 HS.out (by omega) (by omega)).mono ?_
  rintro e w2 ⟨N, ⟨hN0, hN1⟩, rfl, hg, hs⟩
  replace G := Lib.hid (G.out.under SW.out hg)
  have W0 := Lib.hid (show Fw w2 S ⟨none, 0, 0⟩ [] w2 from ⟨or_nil _ _ _ _, hs, grown_refl _ _, src_lt hs⟩)
  clear hg hs HS
  go_wp2
  go_loopw [4, 5] (fun s4 s5 wr => ∃ (i : Int) (o : Sl) (f : List Fm.Pc), s4 = .slice o.a o.n o.c ∧ s5 = .int .i64 i ∧ 0 ≤ i ∧ i ≤ 19 ∧ Hid (o.n + i = N) ∧ o.n ≤ 19 ∧ Hid (Sm f) ∧ Hid (Fw w2 S o f wr)) (fun _ s5 _ => (intOf s5).toNat)
  case atStart => exact ⟨N, ⟨none, 0, 0⟩, [], rfl, rfl, hN0, by omega, Lib.hid (by dsimp only; omega), by simp, Lib.hid Sm.nil, W0⟩
  case round =>
    obtain ⟨i, ⟨oa, on, oc⟩, f, rfl, rfl, hi, hi19, HN, hon, HM, W⟩ := hrel
    dsimp only at *
    by_cases hlt : 0 < i
    · have hon2 : on < 19 := by have := HN.out; omega
      go_wp2_with fail
      refine (n_any S 3 wr W.out.src (by omega) (by omega)).mono ?_
      rintro e w3 ⟨x, hx, rfl, hg, hs⟩
      have W3 := Lib.hid (W.out.grown hg hs)
      clear hg hs
      go_wp2_with fail
      refine (n_any S 4 w3 W3.out.src (by omega) (by omega)).mono ?_
      rintro e w4 ⟨y, hy, rfl, hg, hs⟩
      have W4 := Lib.hid (W3.out.grown hg hs)
      have SN := Lib.hid (HM.out.snoc hx hy)
      have O := Lib.hid (W4.out.own.grown (World.grownBy_alloc w4 (.cells #[.int .i64 x, .int .i64 y] 30) none))
      have szw := W4.out.gr.size
      clear hg hs W3
      go_wp2_with (first
        | (at_builtin
           refine wpList_appV rfl _ _ 22 rfl (S := ⟨oa, on, oc⟩) (V := ⟨some ⟨w4.heap.size, 0, none⟩, 1, 1⟩) (vs := pcs (x, y)) Try.underlying22 hi0 hz0 hz1 hz2 (by rfl) (by omega) rfl rfl O.out ?a1 (by rfl) (cr_new _ _ _ rfl) (pcs_one _) ?a2 ?a3 ?_
           case a1 => simp; omega
           case a2 => dsimp only; omega
           case a3 => dsimp only; omega
           intro r5 w5 hrn hr hg5 hbl)
        | fail)
      obtain ⟨ra, rn, rc⟩ := r5
      rw [f2_snoc2] at hr
      have RR := Lib.hid ((W4.out.grown0 (World.grownBy_alloc w4 (.cells #[.int .i64 x, .int .i64 y] 30) none)).put hr hg5)
      have hrn2 : rn = on + 1 := hrn
      have RN := Lib.hid hrn2
      clear hr hg5 hbl hrn hrn2
      dsimp only [Sl.v]
      go_wp2
      go_roundw
      case rel => exact ⟨i - 1, ⟨ra, rn, rc⟩, _, rfl, rfl, by omega, by omega, Lib.hid (by have := RN.out; have := HN.out; dsimp only; omega), by have := RN.out; dsimp only; omega, SN, RR⟩
      case measure => simp [intOf]; omega
    · obtain rfl : i = 0 := by omega
      have F := Lib.hid W.out.own.fr
      have hfl := F.out.len
      dsimp only at hfl
      have SM := HM
      have MD := Lib.hid (HM.out.md (by omega))
      have FP := Lib.hid HM.out.pos
      have FV := Lib.hid HM.out.vol
      have FL := Lib.hid hfl
      replace G := Lib.hid (G.out.under SW.out W.out.gr)
      clear hfl W hlt hi hi19 HN
      obtain ⟨m, hm⟩ : ∃ m, m = Fm.mer (Fm.lit f) := ⟨_, rfl⟩
      rw [← hm] at MD
      clear hm
      go_wp2_with fail
      refine (pmerge_any ⟨oa, on, oc⟩ f wr F.out).mono ?_
      rintro e w6 ⟨⟨ma, mn, mc⟩, rfl, hr, hg⟩
      rw [MD.out.eq] at hr
      have M := Lib.hid hr
      replace F := Lib.hid (F.out.grown hg)
      replace G := Lib.hid (grown_trans G.out hg)
      clear hr hg
      dsimp only [Sl.v]
      go_wp2_with fail
      refine (pmerge_any ⟨ma, mn, mc⟩ m w6 M.out).mono ?_
      rintro e w7 ⟨⟨qa, qn, qc⟩, rfl, hr, hg⟩
      rw [MD.out.again] at hr
      have Q := Lib.hid hr
      replace F := Lib.hid (F.out.grown hg)
      replace M := Lib.hid (M.out.grown hg)
      replace G := Lib.hid (grown_trans G.out hg)
      clear hr hg
      dsimp only [Sl.v]
      go_wp2_with fail
      refine (rsame_any ⟨qa, qn, qc⟩ ⟨ma, mn, mc⟩ _ _ w7 Q.out M.out).mono ?_
      rw [sameB_refl]
      rintro e w8 ⟨rfl, hg⟩
      replace F := Lib.hid (F.out.grown hg)
      replace M := Lib.hid (M.out.grown hg)
      replace G := Lib.hid (grown_trans G.out hg)
      clear hg Q
      go_wp2_with fail
      refine (rsum_any ⟨ma, mn, mc⟩ _ w8 M.out MD.out.mgd.pos (by have := MD.out.vol; have := FV.out; have := FL.out; omega)).mono ?_
      rw [MD.out.vol]
      rintro e w9 ⟨rfl, hg⟩
      replace F := Lib.hid (F.out.grown hg)
      replace M := Lib.hid (M.out.grown hg)
      replace G := Lib.hid (grown_trans G.out hg)
      clear hg
      go_wp2_with fail
      refine (rsum_any ⟨oa, on, oc⟩ _ w9 F.out FP.out (by have := FV.out; have := FL.out; omega)).mono ?_
      rintro e wm ⟨rfl, hg⟩
      replace F := Lib.hid (F.out.grown hg)
      replace M := Lib.hid (M.out.grown hg)
      replace G := Lib.hid (grown_trans G.out hg)
      clear hg
      have ffit := F.out.fit
      dsimp only [Sl.fit] at ffit
      go_wp2
      go_loopw [7, 47] (fun s7 s47 wr => ∃ (k : Nat) (s : Sl), s7 = .slice s.a s.n s.c ∧ s47 = .int .i64 k ∧ k ≤ on ∧ Hid (OI wm.heap.size wr s (Fm.lit (f.take k))) ∧ Hid (wm.grownBy wr none)) (fun _ s47 _ => on - (intOf s47).toNat)
      case atStart => exact ⟨0, ⟨none, 0, 0⟩, rfl, rfl, by omega, Lib.hid (or_nil _ _ _ _), Lib.hid (grown_refl _ _)⟩
      case round =>
        obtain ⟨k, ⟨sa, sn, sc⟩, rfl, rfl, hk, A, GA⟩ := hrel
        dsimp only
        by_cases hlt : k < on
        · obtain ⟨b, off, x, y, rfl, hp, c0, c1⟩ := (F.out.grown GA.out).at_ k hlt
          have hxy := SM.out _ (Fm.getD_mem (f := f) (i := k) (by have := FL.out; omega))
          rw [hp] at hxy
          dsimp only at hxy
          have ST := Lib.hid (fun (j : Int) => lit_step (f := f) (k := k) (by have := FL.out; omega) hp hxy.2.2.1 (j := j))
          have AI := Lib.hid (Ai.new A.out GA.out x y)
          have BL := Lib.hid (lit_small SM.out FL.out hon k)
          clear hp
          go_wp2
          clear c0 c1
          obtain ⟨B, hB⟩ : ∃ B, B = wr.heap.size := ⟨_, rfl⟩
          rw [← hB] at AI ⊢
          clear hB
          go_loopw [7, 11] (fun s7 s11 wq => ∃ (j : Int) (s : Sl), s7 = .slice s.a s.n s.c ∧ s11 = .int .i64 j ∧ 0 ≤ j ∧ j ≤ y ∧ Hid (Ai wm s (Fm.lit (f.take k) ++ List.replicate j.toNat x) B x y wq)) (fun _ s11 _ => (y - intOf s11).toNat)
          case atStart => exact ⟨0, ⟨sa, sn, sc⟩, rfl, rfl, by omega, by omega, Lib.hid (by simpa using AI.out)⟩
          case round =>
            obtain ⟨j, ⟨ta, tn, tc⟩, rfl, rfl, hj0', hj1, T⟩ := hrel
            dsimp only
            have c0 := T.out.c0
            have c1 := T.out.c1
            by_cases hjy : j < y
            · have O := Lib.hid (T.out.own.grown (World.grownBy_alloc _ (.cells #[.int .i64 x] 3) none))
              have szw := T.out.gr.size
              have tl := T.out.own.len
              simp only [ivs, List.length_map, List.length_append, List.length_replicate, Nat.mul_one] at tl
              have tb : tn ≤ 100 := by have := BL.out; omega
              clear tl
              go_wp2_with (first
                | (at_builtin
                   refine wpList_appV rfl _ _ 23 rfl (S := ⟨ta, tn, tc⟩) (V := ⟨some ⟨_, 0, none⟩, 1, 1⟩) (vs := ivs [x]) Try.underlying23 hj0 jz0 jz1 jz2 (by rfl) (by omega) rfl rfl O.out ?a1 (by rfl) (cr_one _ _ rfl) (ivs_one _) ?a2 ?a3 ?_
                   case a1 => simp; omega
                   case a2 => dsimp only; omega
                   case a3 => dsimp only; omega
                   intro r5 w5 hrn hr hg5 hbl)
                | fail)
              obtain ⟨ra, rn, rc⟩ := r5
              rw [ivs_snoc] at hr
              have RR := T.out.put hr hg5 hbl
              rw [rep_snoc _ hj0'] at RR
              have RR := Lib.hid RR
              clear hr hg5 hbl hrn c0 c1
              dsimp only [Sl.v]
              go_wp2
              go_roundw
              case rel => exact ⟨j + 1, ⟨ra, rn, rc⟩, rfl, rfl, by omega, by omega, RR⟩
              case measure => simp [intOf]; omega
            · have T2 := T.out.own
              rw [ST.out j (by omega) hj1] at T2
              have O2 := Lib.hid T2
              have G2 := Lib.hid T.out.gr
              clear T2
              go_wp2
              go_roundw
              case rel => exact ⟨k + 1, ⟨ta, tn, tc⟩, rfl, by go_num, by omega, O2, G2⟩
              case measure => simp [intOf]; omega
        · have hke : on = k := by omega
          subst hke
          have A2 := A.out
          rw [List.take_of_length_le (by have := FL.out; omega)] at A2
          have A := Lib.hid A2
          replace M := Lib.hid (M.out.grown GA.out)
          replace G := Lib.hid (grown_trans G.out GA.out)
          clear A2 GA
          have mfit := M.out.fit
          have hml := M.out.len
          dsimp only [Sl.fit] at mfit hml
          have hmn : mn ≤ 19 := by have := MD.out.len; omega
          have ML := Lib.hid hml
          clear hml
          obtain ⟨wn, hwn⟩ : ∃ wn, wn = wr := ⟨_, rfl⟩
          rw [← hwn] at A M G ⊢
          clear hwn
          go_wp2
          go_loopw [8, 65] (fun s8 s65 wr => ∃ (k : Nat) (s : Sl), s8 = .slice s.a s.n s.c ∧ s65 = .int .i64 k ∧ k ≤ mn ∧ Hid (OI wn.heap.size wr s (Fm.lit (m.take k))) ∧ Hid (wn.grownBy wr none)) (fun _ s65 _ => mn - (intOf s65).toNat)
          case atStart => exact ⟨0, ⟨none, 0, 0⟩, rfl, rfl, by omega, Lib.hid (or_nil _ _ _ _), Lib.hid (grown_refl _ _)⟩
          case round =>
            obtain ⟨k, ⟨pa, pn, pc⟩, rfl, rfl, hk, P, GP⟩ := hrel
            dsimp only
            by_cases hlt : k < mn
            · obtain ⟨b, off, x, y, rfl, hp, c0, c1⟩ := (M.out.grown GP.out).at_ k hlt
              have hy0 := MD.out.mgd.one _ (Fm.getD_mem (f := m) (i := k) (by have := ML.out; omega))
              have hy1 := MD.out.top _ (Fm.getD_mem (f := m) (i := k) (by have := ML.out; omega))
              rw [hp] at hy0 hy1
              dsimp only at hy0 hy1
              have HP := Lib.hid hp
              have ST := Lib.hid (fun (j : Int) => lit_step (f := m) (k := k) (by have := ML.out; omega) hp (by omega) (j := j))
              have AI := Lib.hid (Ai.new P.out GP.out x y)
              have BL := Lib.hid (show (Fm.lit (m.take k)).length ≤ 57 by
                have h1 := Fm.lit_len (MD.out.mgd.pos.take k)
                have h2 := Fm.vol_take_le MD.out.mgd.pos k
                have h3 := MD.out.vol
                have h4 := FV.out
                have h5 := FL.out
                omega)
              clear hp
              have d1 : decide (y < 1) = false := decide_eq_false (by omega)
              have d2 : decide (100 < y) = false := decide_eq_false (by omega)
              go_upto_region 22 with fail
              go_cut [92] (fun s92 wd => s92 = .bool false ∧ Hid (Ai wn ⟨pa, pn, pc⟩ (Fm.lit (m.take k)) wr.heap.size x y wd))
              case first =>
                by_cases h0 : 0 < k
                · have h0i : (0 : Int) < (k : Int) := by omega
                  obtain ⟨j, hj⟩ : ∃ j, j = k - 1 := ⟨_, rfl⟩
                  have hjn : (j : Int) < (mn : Int) := by omega
                  obtain ⟨x1, y1, hp1, c2, c3⟩ := (M.out.grown GP.out).got j (by omega)
                  have hne := Fm.mgd_at MD.out.mgd k h0 (by have := ML.out; omega)
                  rw [← hj, HP.out, hp1] at hne
                  have hxb : (x == x1) = false := by rw [beq_eq_false_iff_ne]; exact hne
                  have hw : IntKind.i64.wrap ((k : Int) - 1) = (j : Int) := by rw [IntWalk.i64_in _ (by omega)]; omega
                  have c4 := (World.grownBy_alloc wr (.cells #[.int .i64 x, .int .i64 y] 30) none).cell c2 (by simp)
                  clear hp1 hj hne c2 c3
                  go_wp2
                  go_quiet (fail)
                  go_wp2
                  go_meet
                  case rel => exact ⟨rfl, Lib.hid (AI.out.drew _)⟩
                · have h0i : decide ((0 : Int) < (k : Int)) = false := decide_eq_false (by omega)
                  go_wp2
                  go_quiet (fail)
                  go_wp2
                  go_meet
                  case rel => exact ⟨rfl, Lib.hid (AI.out.drew _)⟩
              case rest =>
                obtain ⟨rfl, AI2⟩ := hcut
                clear AI c0 c1 d1 d2
                obtain ⟨B, hB⟩ : ∃ B, B = wr.heap.size := ⟨_, rfl⟩
                rw [← hB] at AI2 ⊢
                clear hB
                go_wp2
                go_loopw [8, 14] (fun s8 s14 wq => ∃ (j : Int) (s : Sl), s8 = .slice s.a s.n s.c ∧ s14 = .int .i64 j ∧ 0 ≤ j ∧ j ≤ y ∧ Hid (Ai wn s (Fm.lit (m.take k) ++ List.replicate j.toNat x) B x y wq)) (fun _ s14 _ => (y - intOf s14).toNat)
                case atStart => exact ⟨0, ⟨pa, pn, pc⟩, rfl, rfl, by omega, by omega, Lib.hid (by simpa using AI2.out)⟩
                case round =>
                  obtain ⟨j, ⟨ta, tn, tc⟩, rfl, rfl, hj0', hj1, T⟩ := hrel
                  dsimp only
                  have c0 := T.out.c0
                  have c1 := T.out.c1
                  by_cases hjy : j < y
                  · have O := Lib.hid (T.out.own.grown (World.grownBy_alloc _ (.cells #[.int .i64 x] 3) none))
                    have szw := T.out.gr.size
                    have tl := T.out.own.len
                    simp only [ivs, List.length_map, List.length_append, List.length_replicate, Nat.mul_one] at tl
                    have tb : tn ≤ 200 := by have := BL.out; omega
                    clear tl
                    go_wp2_with (first
                      | (at_builtin
                         refine wpList_appV rfl _ _ 23 rfl (S := ⟨ta, tn, tc⟩) (V := ⟨some ⟨_, 0, none⟩, 1, 1⟩) (vs := ivs [x]) Try.underlying23 hj0 jz0 jz1 jz2 (by rfl) (by omega) rfl rfl O.out ?a1 (by rfl) (cr_one _ _ rfl) (ivs_one _) ?a2 ?a3 ?_
                         case a1 => simp; omega
                         case a2 => dsimp only; omega
                         case a3 => dsimp only; omega
                         intro r5 w5 hrn hr hg5 hbl)
                      | fail)
                    obtain ⟨ra, rn, rc⟩ := r5
                    rw [ivs_snoc] at hr
                    have RR := T.out.put hr hg5 hbl
                    rw [rep_snoc _ hj0'] at RR
                    have RR := Lib.hid RR
                    clear hr hg5 hbl hrn c0 c1
                    dsimp only [Sl.v]
                    go_wp2
                    go_roundw
                    case rel => exact ⟨j + 1, ⟨ra, rn, rc⟩, rfl, rfl, by omega, by omega, RR⟩
                    case measure => simp [intOf]; omega
                  · have T2 := T.out.own
                    rw [ST.out j (by omega) hj1] at T2
                    have O2 := Lib.hid T2
                    have G2 := Lib.hid T.out.gr
                    clear T2
                    go_wp2
                    go_roundw
                    case rel => exact ⟨k + 1, ⟨ta, tn, tc⟩, rfl, by go_num, by omega, O2, G2⟩
                    case measure => simp [intOf]; omega
            · have hke : mn = k := by omega
              subst hke
              have P2 := P.out
              rw [List.take_of_length_le (by have := ML.out; omega), MD.out.lit] at P2
              have BB := Lib.hid P2
              have AA := Lib.hid (A.out.grown GP.out)
              replace G := Lib.hid (grown_trans G.out GP.out)
              have ll := lit_small SM.out FL.out hon on
              rw [List.take_of_length_le (by have := FL.out; omega)] at ll
              have LL := Lib.hid ll
              clear P2 P A M GP ll
              go_wp2_with fail
              refine (ints_any (.slice sa sn sc) (.slice pa pn pc) (Fm.lit f) (Fm.lit f) wr (OI.sli AA.out) (OI.sli BB.out) (by have := LL.out; omega) (by have := LL.out; omega)).mono ?_
              rw [show eqB (Fm.lit f) (Fm.lit f) = true from by unfold eqB; simp]
              rintro e wy ⟨rfl, q, hq⟩
              replace G := Lib.hid (show w.grownBy wy none by rw [hq]; exact grown_trans G.out (grown_drewN _ _ _))
              clear hq
              go_wp2_with fail
              refine (awake_any wy).mono ?_
              rintro e wz ⟨rfl, hg⟩
              replace G := Lib.hid (grown_trans G.out hg)
              clear hg
              go_wp2
              go_ret
              exact ⟨rfl, grown_below G.out⟩
end Go.Proofs.Ytaghcdelnjjncaa
