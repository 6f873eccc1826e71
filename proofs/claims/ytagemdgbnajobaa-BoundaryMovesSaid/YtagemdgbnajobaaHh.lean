/- BoundaryMoves: the walk. -/
import Derived.Test.YtagemdgbnajobaaHg
namespace Go.Proofs.Ytagemdgbnajobaa
open Go.ChangeShapes Go.WideShapes Go.ChangeAt Go.RowKit

theorem moved_nx {f : List Fm.Pc} {V : Int} {k : Int} (h : Filled f V 4) (hk : 1 ≤ k) (hf : 0 < f.length) : Bm.bnd (nx f [(9, k)] false) = Bm.moved f V k (f.length - 1) := by
  have := Bm.moved_bnd (f := f) h.val.mgd (fun p hp => by have := h.bat p hp; omega) hk hf
  rw [h.vol] at this
  rw [← this]
  unfold nx Fm.shift
  simp only [Bool.false_eq_true, if_false, Fm.lit_one]
theorem vol_fill {f : List Fm.Pc} {V C : Int} (h : Filled f V C) : volume f = V := by unfold volume; rw [if_pos (Fm.valid_yes h.val), h.vol]
set_option maxRecDepth 100000 in
set_option maxHeartbeats 4000000 in
theorem moves_walk (a : Option Addr) (len cap : Nat) (zs : List Int) (d : Int) (wf : (Lit.int .u8 d).wf = true) (w : World) (hi : InRow w a len cap zs) :
    Calls Try.prog 6 #[.slice a len cap, .int .u8 d] w fun e w' => e = .returned (.bool true) ∧ Below w.heap.size w w' := by
  obtain ⟨i0, hi0, hz0, hz1, hz2⟩ := parts_b
  have hd := bounds_u8 wf
  clear wf
  have hwd : IntKind.i64.wrap (1 + d) = 1 + d := IntWalk.i64_in _ (by omega)
  go_enter Try.func6, Try.ntmps6
  go_wp2_with fail
  refine (new_any a len cap zs w hi).mono ?_
  rintro e w1 ⟨rfl, hg, hs, _⟩
  have G := Lib.hid hg
  have HS := Lib.hid hs
  clear hi hg hs
  obtain ⟨S, hS⟩ : ∃ S, S = w.heap.size := ⟨_, rfl⟩
  have SW := Lib.hid hS
  rw [← hS] at HS ⊢
  clear hS
  go_wp2_with fail
  refine (n_any S 200 w1 HS.out (by omega) (by omega)).mono ?_
  rintro e w2 ⟨V1, ⟨hv1, hv2⟩, rfl, hg, hs⟩
  replace G := Lib.hid (G.out.under SW.out hg)
  replace HS := Lib.hid hs
  clear hg hs
  have hwv : IntKind.i64.wrap (1 + V1) = 1 + V1 := IntWalk.i64_in _ (by omega)
  go_wp2_with fail
  refine (fill_any S (1 + V1) 4 w2 HS.out (by omega) (by omega) (by omega) (by omega)).mono ?_
  rintro e w3 ⟨⟨fa, fn, fc⟩, f, rfl, ho, hf, hg, hs⟩
  have F := Lib.hid ho.fr
  have FF := Lib.hid hf
  replace G := Lib.hid (G.out.under SW.out hg)
  clear ho hf hg hs HS
  dsimp only [Sl.v]
  have hfn : f.length = fn := F.out.len
  have hfn12 : fn ≤ 12 := by have := FF.out.len; omega
  have hf0 : 0 < fn := by
    rcases Nat.eq_zero_or_pos fn with e | e
    · have h1 := FF.out.vol
      have h2 : f = [] := List.eq_nil_of_length_eq_zero (by omega)
      rw [h2] at h1
      simp [Fm.vol] at h1
      omega
    · exact e
  obtain ⟨N0, hN0⟩ : ∃ x, x = w3.heap.size := ⟨_, rfl⟩
  have GN := Lib.hid (World.grownBy_alloc w3 (.cells #[.int .i64 9, .int .i64 (1 + d)] 49) none)
  have gf : Few [(9, 1 + d)] 12 := nine_few (by omega) (by omega)
  have P := Lib.hid (FF.out.few.pushed gf (by omega) false)
  have NV := Lib.hid (FF.out.few.nx gf (by omega) false)
  have TG := Lib.hid (show FR (w3.alloc (.cells #[.int .i64 9, .int .i64 (1 + d)] 49)) ⟨some ⟨N0, 0, none⟩, 1, 1⟩ [(9, 1 + d)] from (fr_new w3 [(9, 1 + d)] (cs := #[.int .i64 9, .int .i64 (1 + d)]) hN0 rfl (by simp)))
  have MV := Lib.hid (moved_nx (k := 1 + d) FF.out (by omega) (by omega))
  clear gf
  go_wp2_with fail
  rw [← hN0]
  refine (rpush_any ⟨fa, fn, fc⟩ ⟨some ⟨N0, 0, none⟩, 1, 1⟩ f _ false _ (F.out.grown GN.out) TG.out P.out).mono ?_
  rintro e w4 ⟨⟨xa, xn, xc⟩, ⟨ya, yn, yc⟩, rfl, hx, hy, hg⟩
  have X := Lib.hid hx
  replace F := Lib.hid (F.out.grown (grown_trans GN.out hg))
  replace G := Lib.hid (grown_trans G.out (grown_trans GN.out hg))
  clear hx hy hg TG hN0 hwv GN P
  dsimp only [Sl.v]
  go_wp2_with fail
  refine (blist_any ⟨fa, fn, fc⟩ f w4 F.out).mono ?_
  rw [list_val FF.out.val, inv_val FF.out.val]
  rintro e w5 ⟨⟨ba, bn, bc⟩, rfl, hB, hg⟩
  replace F := Lib.hid (F.out.grown hg)
  replace X := Lib.hid (X.out.grown hg)
  replace G := Lib.hid (grown_trans G.out hg)
  have B := Lib.hid hB
  clear hB hg
  dsimp only [Sl.v]
  go_wp2_with fail
  refine (blist_any ⟨xa, xn, xc⟩ _ w5 X.out).mono ?_
  rw [list_val NV.out.1.val, inv_val NV.out.1.val]
  rintro e w6 ⟨⟨ca, cn, cc⟩, rfl, hC, hg⟩
  replace F := Lib.hid (F.out.grown hg)
  replace X := Lib.hid (X.out.grown hg)
  replace B := Lib.hid (B.out.grown hg)
  replace G := Lib.hid (grown_trans G.out hg)
  have C := Lib.hid hC
  clear hC hg
  dsimp only [Sl.v]
  rw [MV.out] at C
  go_wp2_with fail
  refine (rvolume_any ⟨fa, fn, fc⟩ f w6 F.out).mono ?_
  rw [vol_fill FF.out]
  rintro e w7 ⟨rfl, hg⟩
  replace F := Lib.hid (F.out.grown hg)
  replace X := Lib.hid (X.out.grown hg)
  replace B := Lib.hid (B.out.grown hg)
  replace C := Lib.hid (C.out.grown hg)
  replace G := Lib.hid (grown_trans G.out hg)
  clear hg
  obtain ⟨n, hn⟩ : ∃ n, n = 1 + V1 := ⟨_, rfl⟩
  obtain ⟨k, hk⟩ : ∃ k, k = 1 + d := ⟨_, rfl⟩
  have hk1 : 1 ≤ k ∧ k ≤ 256 := by omega
  have hn1 : 1 ≤ n ∧ n ≤ 200 := by omega
  rw [← hn, ← hk] at C
  rw [← hn] at FF
  have HBN := Lib.hid (show bn = fn - 1 by have := B.out.len; rw [Bm.bnd_len] at this; dsimp only at this; omega)
  have bfit := B.out.fit
  dsimp only [Sl.fit] at bfit
  have bn12 : bn ≤ 12 := by have := HBN.out; omega
  have hf0i : (0 : Int) < (fn : Int) := by omega
  go_upto_region 11 with fail
  rw [← hn, ← hk]
  clear hk hn hd hv1 hv2 hwd MV
  go_cut [67] (fun s67 wc => s67 = .bool (decide (k < n)) ∧ w7 = wc)
  case first =>
    by_cases h1 : k < n
    · have h2 : decide (k < n) = true := decide_eq_true h1
      go_wp2
      go_meet
      case rel => exact ⟨by rw [h2], rfl⟩
    · have h2 : decide (k < n) = false := decide_eq_false h1
      go_wp2
      go_meet
      case rel => exact ⟨by rw [h2], rfl⟩
  case rest =>
  obtain ⟨rfl, rfl⟩ := hcut
  obtain ⟨cb, hcb⟩ : ∃ cb, cb = decide (k < n) := ⟨_, rfl⟩
  rw [← hcb]
  go_upto_if 67 with fail
  go_cut [16] (fun s16 wc => ∃ o : Sl, s16 = .slice o.a o.n o.c ∧ Hid (OB w7.heap.size wc o (Bm.moved f n k 0)) ∧ Hid (w7.grownBy wc none))
  case first =>
    cases cb with
    | true =>
      have h1 : k < n := of_decide_eq_true hcb.symm
      clear hcb
      obtain ⟨b, off, x0, y0, rfl, hp0, c0, c1⟩ := F.out.at_ 0 hf0
      have M0 := Lib.hid (show [(k, 9, x0)] = Bm.moved f n k 0 by rw [Bm.moved, if_pos ⟨h1, by omega⟩, hp0])
      simp only [Nat.zero_mul, Nat.add_zero] at c0
      clear hp0 h1 c1
      go_wp2_with (first
        | (at_builtin
           refine wpList_appV rfl _ _ 30 rfl (S := ⟨none, 0, 0⟩) (V := ⟨some ⟨w7.heap.size, 0, none⟩, 1, 1⟩) (vs := bcs (k, 9, x0)) Try.underlying30 hi0 hz0 hz1 hz2 (by rfl) (by omega) rfl rfl (or_nil w7.heap.size _ _ _) ?a1 (by rfl) (cr_bd _ _ _ _ rfl) (bcs_one _) ?a2 ?a3 ?_
           case a1 => simp
           case a2 => dsimp only; omega
           case a3 => dsimp only; omega
           intro r w8 hrn hr hg5 hbl)
        | fail)
      rw [List.nil_append, show bcs (k, 9, x0) = b3 [(k, 9, x0)] by simp [b3], M0.out] at hr
      have RR := Lib.hid hr
      have R5 := Lib.hid (grown_trans (World.grownBy_alloc w7 (.cells #[.int .i64 k, .int .i64 9, .int .i64 x0] 44) none) hg5)
      clear hr hg5 hbl hrn
      obtain ⟨ra, rn, rc⟩ := r
      dsimp only [Sl.v]
      go_wp2
      go_meet
      case rel => exact ⟨⟨ra, rn, rc⟩, rfl, RR, R5⟩
    | false =>
      have h1 : ¬ k < n := of_decide_eq_false hcb.symm
      clear hcb
      have M0 := Lib.hid (show [] = Bm.moved f n k 0 by rw [Bm.moved, if_neg (fun h => h1 h.1)])
      clear h1
      go_wp2
      go_meet
      case rel => exact ⟨⟨none, 0, 0⟩, rfl, by rw [← M0.out]; exact Lib.hid (or_nil _ _ _ _), Lib.hid (grown_refl _ _)⟩
  case rest =>
    obtain ⟨⟨oa, on, oc⟩, rfl, O, GO⟩ := hcut
    dsimp only
    go_wp2
    go_loopw [16, 79] (fun s16 s79 wr => ∃ (j : Nat) (o : Sl), s16 = .slice o.a o.n o.c ∧ s79 = .int .i64 j ∧ j ≤ bn ∧ Hid (OB w7.heap.size wr o (Bm.moved f n k j)) ∧ Hid (w7.grownBy wr none)) (fun _ s79 _ => bn - (intOf s79).toNat)
    case atStart => exact ⟨0, ⟨oa, on, oc⟩, rfl, rfl, by omega, O, GO⟩
    case round =>
      obtain ⟨j, ⟨pa, pn, pc⟩, rfl, rfl, hj, O2, GL⟩ := hrel
      dsimp only
      by_cases hlt : j < bn
      · obtain ⟨b, off, x, y, z, rfl, hp0, c0, c1, c2⟩ := (B.out.grown GL.out).at_ j hlt
        rw [Bm.bnd_get f (by have := HBN.out; omega)] at hp0
        have hxb : 0 ≤ x ∧ x ≤ 1000000 := by
          have h1 := Fm.vol_take_le FF.out.val.pos (j + 1)
          have h2 := FF.out.val.vol
          have h3 : x = Fm.vol (f.take (j + 1)) := by have := congrArg Prod.fst hp0; exact this.symm
          omega
        have hw : IntKind.i64.wrap (x + k) = x + k := IntWalk.i64_in _ (by omega)
        have pn2 : pn ≤ 1000 := by have h1 := O2.out.br.len; have h2 := Bm.moved_len f n k j; dsimp only at h1; omega
        have szw := GL.out.size
        by_cases hc : x + k < n
        · have M := Lib.hid (show Bm.moved f n k j ++ [(x + k, y, z)] = Bm.moved f n k (j + 1) by rw [Bm.moved, hp0, if_pos hc])
          clear hp0
          go_wp2_with (first
            | (at_builtin
               refine wpList_appV rfl _ _ 30 rfl (S := ⟨pa, pn, pc⟩) (V := ⟨some ⟨wr.heap.size + 1, 0, none⟩, 1, 1⟩) (vs := bcs (x + k, y, z)) Try.underlying30 hi0 hz0 hz1 hz2 (by rfl) (by omega) rfl rfl ((O2.out.grown (World.grownBy_alloc _ _ _)).grown (World.grownBy_alloc _ _ _)) ?a1 (by rfl) (cr_bd _ _ _ _ (by simp)) (bcs_one _) ?a2 ?a3 ?_
               case a1 => simp; omega
               case a2 => dsimp only; omega
               case a3 => dsimp only; omega
               intro r w8 hrn hr hg5 hbl)
            | fail)
          rw [b3_snoc, M.out] at hr
          have RR := Lib.hid hr
          have R5 := Lib.hid (grown_row0 (grown_trans GL.out (grown_trans (World.grownBy_alloc _ _ _) (World.grownBy_alloc _ _ _))) hg5 (fun b hb => (O2.out.blk b hb).1))
          clear hr hg5 hbl hrn
          obtain ⟨ra, rn, rc⟩ := r
          dsimp only [Sl.v]
          go_wp2
          go_roundw
          case rel => exact ⟨j + 1, ⟨ra, rn, rc⟩, rfl, by go_num, by omega, RR, R5⟩
          case measure => simp [intOf]; omega
        · have M := Lib.hid (show Bm.moved f n k j = Bm.moved f n k (j + 1) by rw [Bm.moved, hp0, if_neg hc])
          have hc2 : decide (x + k < n) = false := decide_eq_false hc
          clear hp0
          have R5 := Lib.hid (grown_trans GL.out (World.grownBy_alloc wr (.cells #[.int .i64 x, .int .i64 y, .int .i64 z] 44) none))
          have RR := Lib.hid (show OB w7.heap.size (wr.alloc (.cells #[.int .i64 x, .int .i64 y, .int .i64 z] 44)) ⟨pa, pn, pc⟩ (Bm.moved f n k (j + 1)) by rw [← M.out]; exact O2.out.grown (World.grownBy_alloc _ _ _))
          go_wp2
          go_roundw
          case rel => exact ⟨j + 1, ⟨pa, pn, pc⟩, rfl, by go_num, by omega, RR, R5⟩
          case measure => simp [intOf]; omega
      · obtain rfl : j = bn := by omega
        have E := Lib.hid (show Bm.moved f n k (f.length - 1) = Bm.moved f n k j by rw [HBN.out, hfn])
        rw [E.out] at C
        replace G := Lib.hid (grown_trans G.out GL.out)
        go_wp2_with fail
        refine (rsameL_any ⟨ca, cn, cc⟩ ⟨pa, pn, pc⟩ _ _ wr (C.out.grown GL.out) O2.out.br).mono ?_
        rw [sameL_refl]
        rintro e wy ⟨rfl, hg⟩
        replace G := Lib.hid (grown_trans G.out hg)
        clear hg
        go_wp2_with fail
        refine (awake15_any wy).mono ?_
        rintro e wz ⟨rfl, hg⟩
        replace G := Lib.hid (grown_trans G.out hg)
        clear hg
        go_wp2
        go_ret
        exact ⟨rfl, grown_below G.out⟩
end Go.Proofs.Ytagemdgbnajobaa
