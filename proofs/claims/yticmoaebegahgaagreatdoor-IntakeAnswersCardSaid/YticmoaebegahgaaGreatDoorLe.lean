import Derived.Test.YticmoaebegahgaaGreatDoorLv
import Derived.Test.YticmoaebegahgaaGreatDoorT4
import Derived.Test.YticmoaebegahgaaGreatDoorP2
import Derived.Deep.DeepCutAuto
import Derived.Deep.CutBlock
import Derived.BigQuiet
set_option linter.all false
namespace Go.Proofs.YticmoaebegahgaaGreatDoor.Iw
open Go.ChangeShapes Go.WideShapes Go.ChangeAt Go.RowKit
open Wr (IR RB iv ivs bv bvs grown_trans grown_refl grown_alloc ret_int ret_bool tv Ret ret_mk Made OwnEnd)
theorem small_of {st : Int} {t : Tm.Tg} (h : Wr.TgIn st t) (h0 : 0 ≤ st ∧ st ≤ 2) : Im.Small t := by
  obtain ⟨⟨h1, h2, h3⟩, h4, h5, h6, h7, h8⟩ := h
  exact ⟨by rw [h1]; exact h0, h4, h5, h6, h7, h3, h8⟩
theorem small_ok {t : Tm.Tg} (h : Im.Small t) : t.ok = true := by
  have h1 := h.st; have h2 := h.ep; have h3 := h.sq; have h5 := h.kd; have h6 := h.len
  have h4 := h.tm
  simp only [List.mem_cons, List.not_mem_nil, or_false] at h4
  refine (Tm.Tg.ok_iff t).2 ⟨by omega, by omega, by omega, by omega, by omega, by omega, fun v hv => ?_⟩
  have := h.vs v hv
  simp only [Im.picks, List.mem_cons, List.not_mem_nil, or_false] at this
  omega
theorem hit_of {r : Int} (h : r ∈ ([0, 124, 125, 126, 200] : List Int)) : ∃ x ∈ Im.hits, r = ((x.toNat : Nat) : Int) ∧ IntKind.u8.wrap r = ((x.toNat : Nat) : Int) := by
  simp only [List.mem_cons, List.not_mem_nil, or_false] at h
  rcases h with rfl | rfl | rfl | rfl | rfl
  · exact ⟨0, by decide, rfl, by decide⟩
  · exact ⟨124, by decide, rfl, by decide⟩
  · exact ⟨125, by decide, rfl, by decide⟩
  · exact ⟨126, by decide, rfl, by decide⟩
  · exact ⟨200, by decide, rfl, by decide⟩
theorem piece_len {f pre g : List UInt8} (h : Im.Piece f pre g) : pre.length ≤ 1 ∧ g.length ≤ f.length := by
  rcases h with ⟨rfl, rfl⟩ | ⟨k, x, hk, hx, rfl, rfl⟩ | ⟨k, hk, rfl, rfl⟩ | ⟨x, hx, rfl, rfl⟩ <;> simp
  omega
theorem stream_len {n : Nat} {out : List UInt8} (h : Im.Stream n out) : out.length ≤ 601 * n := by
  induction h with
  | nil => simp
  | @step n out pre g t b hs ht hp ih =>
    have h1 := piece_len hp
    have h2 := Tm.Tg.bytes_len (small_ok ht)
    rw [List.length_append, List.length_append, List.length_append]
    have : (if b = true then g else []).length ≤ g.length := by split <;> simp
    omega
theorem by1 {x : Nat} {w w' : World} (g : Chg [x] w w') : w.grownBy w' (some x) := ⟨g.os, g.tape, g.output, g.size, fun i hi hn => g.block i hi (by rw [List.mem_singleton]; intro e; subst e; exact hn rfl)⟩
def StreamEnd (S : Nat) (w : World) (e : Ending) (w' : World) : Prop :=
  ∃ (s : Sl) (out : List UInt8) (k : Nat), e = .returned s.v ∧ k ≤ 13 ∧ Im.Stream k out ∧ OR w.heap.size w' 5 1 s (bvs out) ∧ w.grownBy w' (some S) ∧ Wr.SrcOK w' S
set_option maxRecDepth 100000 in
set_option maxHeartbeats 8000000 in
theorem stream_any (S : Nat) (w : World) (hs : Wr.SrcOK w S) :
    Calls Tryz.prog 6 #[.pointer (some ⟨S, 0, none⟩)] w (StreamEnd S w) := by
  have HS0 := Hi (show S < w.heap.size from Wr.src_lt hs)
  obtain ⟨I, hI, hz, hsz, hby⟩ := parts_b
  go_enter Tryz.func6, Tryz.ntmps6
  go_wp2_with fail
  refine (Wr.n_any S 14 w hs (by omega) (by omega)).mono ?_
  rintro e w1 ⟨cnt, hcnt, rfl, g1, s1⟩
  obtain ⟨cn, rfl⟩ : ∃ k : Nat, cnt = k := ⟨cnt.toNat, by omega⟩
  have hcn : cn ≤ 13 := by omega
  have G1 := Hi g1
  have S1 := Hi s1
  clear g1 s1 hs hcnt
  go_wp2_with fail
  go_loopw [3, 4] (fun v i wr => ∃ (A : Option Addr) (N c k j : Nat) (out : List UInt8), v = .slice A N c ∧ i = .int .i64 k ∧ j + k ≤ 13 ∧ Hid (Im.Stream j out) ∧ Hid (OR w.heap.size wr 5 1 ⟨A, N, c⟩ (bvs out)) ∧ Hid (w.grownBy wr (some S)) ∧ Hid (Wr.SrcOK wr S)) (fun _ i _ => (intOf i).toNat)
  case atStart => exact ⟨none, 0, 0, cn, 0, [], rfl, rfl, by omega, Hi Im.Stream.nil, Hi (or_nil _ _ _ _), G1, S1⟩
  case round =>
    obtain ⟨OA, ON, OC, k, j, out, rfl, rfl, hjk, ST, RO, G, SR⟩ := hrel
    have hON := Hi (show out.length = ON ∧ ON ≤ 601 * j by have h1 := RO.out.len; rw [Wr.bvs_len] at h1; dsimp only at h1; have h2 := stream_len ST.out; omega)
    by_cases hk : 0 < k
    · have hk1 : (0 : Int) < (k : Int) := by omega
      go_wp2_with fail
      refine (Wr.n_any S 3 _ SR.out (by omega) (by omega)).mono ?_
      rintro e w2 ⟨st, hst, rfl, g2, s2⟩
      have R2 := RO.out.chg (Chg.of (L := [S]) g2 (fun b hb => by injection hb with hb; simp [hb])) (fun b hb hm => by rw [List.mem_singleton] at hm; have h1 := (RO.out.blk b hb).1; have h2 := HS0.out; omega)
      have RO2 := Hi R2
      have G2 := Hi (grown_trans G.out g2)
      have S2 := Hi s2
      clear R2 g2 s2
      go_wp2_with fail
      refine (Wr.telegram_in S st w2 S2.out hst.1 (by omega)).mono ?_
      rintro e w3 ⟨t, VA, vn, vc, rfl, g3, s3, ho, htg⟩
      have SM := Hi (small_of htg ⟨hst.1, by omega⟩)
      have HV := Hi ho.ir
      have hvl : t.vs.length = vn := ho.len
      have hvn : vn ≤ 16 := by have := SM.out.len; omega
      have RO3 := Hi (RO2.out.chg (Chg.of (L := [S]) g3 (fun b hb => by injection hb with hb; simp [hb])) (fun b hb hm => by rw [List.mem_singleton] at hm; have h1 := (RO2.out.blk b hb).1; have h2 := HS0.out; omega))
      have G3 := Hi (grown_trans G2.out g3)
      have S3 := Hi s3
      clear g3 s3 ho htg hst RO2 G2 S2 hvl
      have IN := Hi (Wr.rinside_any t VA vn vc w3 HV.out (Tm.Tg.fits_of_ok (small_ok SM.out)) hvn)
      obtain ⟨tst, tep, tsq, ttm, tkd, tvs⟩ := t
      obtain ⟨TG, hTG⟩ : ∃ TG : Tm.Tg, TG = ⟨tst, tep, tsq, ttm, tkd, tvs⟩ := ⟨_, rfl⟩
      rw [← hTG] at IN SM
      have HTG := Hi hTG
      have e1 : tv TG (.slice VA vn vc) = .agg #[.int .i64 tst, .int .i64 tep, .int .i64 tsq, .int .i64 ttm, .int .i64 tkd, .slice VA vn vc] := by rw [hTG]; rfl
      rw [e1] at IN
      clear e1 hTG HV
      dsimp only [tv]
      go_wp2_with fail
      refine IN.out.mono ?_
      rintro e w4 ⟨IA, iN, IC, rfl, hm4⟩
      have hil : TG.inside.length = iN := hm4.len
      have hi2 : iN ≤ 149 := by
        have h1 := Tm.Tg.len (small_ok SM.out)
        have h2 : TG.inside.length = (Tm.body TG.nums).length + 4 := Tm.shut_len _
        omega
      have ST2 := Hi (Wr.rstuff_any IA iN IC TG.inside w4 hm4.rb (by omega))
      have g4 := hm4.gr
      have RO4 := Hi (RO3.out.grown g4)
      have G4 := Hi (grown_trans G3.out (Wr.grown_weak (some S) g4))
      have S4 := Hi (S3.out.grown g4)
      clear hm4 IN g4 RO3 G3 S3 hil hi2
      go_wp2_with fail
      refine ST2.out.mono ?_
      rintro e w5 ⟨FA, FN, FC, rfl, hm5⟩
      have hfl : TG.bytes.length = FN := hm5.len
      have hf3 : 0 < FN ∧ FN ≤ 300 := by
        have h1 := Tm.Tg.bytes_len (small_ok SM.out)
        have h2 : TG.bytes ≠ [] := by unfold Tm.Tg.bytes Wm.frame; simp
        have h3 : 0 < TG.bytes.length := List.length_pos_iff.2 h2
        omega
      have FO := Hi (show OR w.heap.size w5 5 1 ⟨FA, FN, FC⟩ (bvs TG.bytes) from OR.base_ ⟨hm5.own⟩ G4.out.size)
      have g5 := hm5.gr
      have AP := Hi (fun b (hb : Sl.blk ⟨FA, FN, FC⟩ = some b) (hb2 : Sl.blk ⟨OA, ON, OC⟩ = some b) => show False from by
        have h1 := (RO4.out.blk b hb2).2
        have h2 := (OR.blk (s := ⟨FA, FN, FC⟩) ⟨hm5.own⟩ b hb).1
        omega)
      have RO5 := Hi (RO4.out.grown g5)
      have G5 := Hi (grown_trans G4.out (Wr.grown_weak (some S) g5))
      have S5 := Hi (S4.out.grown g5)
      have HFL := Hi hfl
      clear hm5 ST2 g5 RO4 G4 S4 hfl
      go_wp2_with fail
      refine (Wr.n_any S 6 w5 S5.out (by omega) (by omega)).mono ?_
      rintro e w6 ⟨q, hq, rfl, g6, s6⟩
      have c6 : Chg [S] w5 w6 := Chg.of g6 (fun b hb => by injection hb with hb; simp [hb])
      have RO6 := Hi (RO5.out.chg c6 (fun b hb hm => by rw [List.mem_singleton] at hm; have h1 := (RO5.out.blk b hb).1; have h2 := HS0.out; omega))
      have FO6 := Hi (FO.out.chg c6 (fun b hb hm => by rw [List.mem_singleton] at hm; have h1 := (FO.out.blk b hb).1; have h2 := HS0.out; omega))
      have G6 := Hi (grown_trans G5.out g6)
      have S6 := Hi s6
      have HQ := Hi hq
      clear c6 g6 s6 hq RO5 FO G5 S5
      go_upto_block 2 with fail
      go_cut [3, 5] (fun vo vf wd => ∃ (O F : Sl) (pre g : List UInt8), vo = O.v ∧ vf = F.v ∧ Hid (Im.Piece TG.bytes pre g) ∧ Hid (OR w.heap.size wd 5 1 O (bvs (out ++ pre))) ∧ Hid (OR w.heap.size wd 5 1 F (bvs g)) ∧ Hid (∀ b, F.blk = some b → O.blk = some b → False) ∧ Hid (w.grownBy wd (some S)) ∧ Hid (Wr.SrcOK wd S))
      case first =>
        by_cases q0 : q = 0
        · subst q0
          go_wp2_with fail
          refine (Wr.n_any S (FN : Nat) w6 S6.out (by omega) (by omega)).mono ?_
          rintro e w7 ⟨x0, hx0, rfl, g7, s7⟩
          obtain ⟨i0, rfl⟩ : ∃ k : Nat, x0 = k := ⟨x0.toNat, by omega⟩
          have cw7 : Chg [S] w6 w7 := Chg.of g7 (fun b hb => by injection hb with hb; simp [hb])
          have RO6 := Hi (RO6.out.chg cw7 (fun b hb hm => by rw [List.mem_singleton] at hm; have h1 := (RO6.out.blk b hb).1; have h2 := HS0.out; omega))
          have FO6 := Hi (FO6.out.chg cw7 (fun b hb hm => by rw [List.mem_singleton] at hm; have h1 := (FO6.out.blk b hb).1; have h2 := HS0.out; omega))
          have G6 := Hi (grown_trans G6.out g7)
          have S6 := Hi s7
          clear cw7 g7 s7
          go_wp2_with fail
          refine Calls.mono (Wr.pick_lit S 5 w7.heap.size [0, 124, 125, 126, 200] #[.int .i64 0, .int .i64 124, .int .i64 125, .int .i64 126, .int .i64 200] w7 rfl S6.out rfl (by omega) (by omega) ?_) ?_
          · intro i hi
            match i, hi with
            | 0, _ => rfl
            | 1, _ => rfl
            | 2, _ => rfl
            | 3, _ => rfl
            | 4, _ => rfl
          rintro e w8 ⟨r, hr, rfl, g8, s8⟩
          obtain ⟨x, hx, rfl, e2⟩ := hit_of hr
          have cw8 : Chg [S] w7 w8 := Chg.of g8 (fun b hb => by injection hb with hb; simp [hb])
          have RO6 := Hi (RO6.out.chg cw8 (fun b hb hm => by rw [List.mem_singleton] at hm; have h1 := (RO6.out.blk b hb).1; have h2 := HS0.out; omega))
          have FO6 := Hi (FO6.out.chg cw8 (fun b hb hm => by rw [List.mem_singleton] at hm; have h1 := (FO6.out.blk b hb).1; have h2 := HS0.out; omega))
          have G6 := Hi (grown_trans G6.out g8)
          have S6 := Hi s8
          have HX := Hi hx
          obtain ⟨g, rfl, hg1, hg2⟩ : ∃ g, FA = some ⟨g, 0, none⟩ ∧ w.heap.size ≤ g ∧ g < w8.heap.size := by
            rcases FO6.out.form with ⟨_, h0, _⟩ | h0
            · dsimp only at h0; omega
            · exact h0
          have hc0 := own_cell FO6.out.own i0 _ (Wr.bvs_get TG.bytes i0 (by have := HFL.out; omega))
          have hf0 := FO6.out.open_ i0
          unfold Wr.bv at hc0
          have hst := FO6.out.own.stored i0 (Wr.bv x)
          have FO9 := Hi (show OR w.heap.size (w8.setCell ⟨g, i0, none⟩ (.int .u8 ((x.toNat : Nat) : Int))) 5 1 ⟨some ⟨g, 0, none⟩, FN, FC⟩ (bvs (TG.bytes.set i0 x)) from ⟨by rw [Wr.bvs_set]; exact hst.1⟩)
          have cg := chg_set w8 g i0 (.int .u8 ((x.toNat : Nat) : Int))
          have RO9 := Hi (RO6.out.chg cg (fun b hb hm => by rw [List.mem_singleton] at hm; subst hm; exact AP.out b rfl hb))
          have G9 := Hi (by1 ((Chg.of (L := [S]) G6.out (fun b hb => by injection hb with hb; simp [hb])).then cg (fun b hb => by rw [List.mem_singleton] at hb; subst hb; exact .inr hg1)))
          have S9 := Hi (S6.out.grownRow hst.2 (fun b hb => by injection hb with hb; have := HS0.out; omega))
          have PC := Hi (show Im.Piece TG.bytes [] (TG.bytes.set i0 x) from .inr (.inl ⟨i0, x, by have := HFL.out; omega, HX.out, rfl, rfl⟩))
          have hi0 : i0 < FN := by omega
          clear hst cg cw8 g8 s8 hr hx
          go_wp2
          go_meet
          case rel => exact ⟨⟨OA, ON, OC⟩, ⟨some ⟨g, 0, none⟩, FN, FC⟩, [], TG.bytes.set i0 x, rfl, rfl, PC, Hi (by rw [List.append_nil]; exact RO9.out), FO9, AP, G9, S9⟩
        · have b0 : (q == 0) = false := by simp [q0]
          by_cases q1 : q = 1
          · subst q1
            go_wp2_with fail
            refine (Wr.n_any S (FN : Nat) w6 S6.out (by omega) (by omega)).mono ?_
            rintro e w7 ⟨x0, hx0, rfl, g7, s7⟩
            obtain ⟨i0, rfl⟩ : ∃ k : Nat, x0 = k := ⟨x0.toNat, by omega⟩
            have cw7 : Chg [S] w6 w7 := Chg.of g7 (fun b hb => by injection hb with hb; simp [hb])
            have RO6 := Hi (RO6.out.chg cw7 (fun b hb hm => by rw [List.mem_singleton] at hm; have h1 := (RO6.out.blk b hb).1; have h2 := HS0.out; omega))
            have FO6 := Hi (FO6.out.chg cw7 (fun b hb hm => by rw [List.mem_singleton] at hm; have h1 := (FO6.out.blk b hb).1; have h2 := HS0.out; omega))
            have G6 := Hi (grown_trans G6.out g7)
            have S6 := Hi s7
            clear cw7 g7 s7
            have hfc : FN ≤ FC := FO6.out.fit.1
            obtain ⟨g, rfl, hg1, hg2⟩ : ∃ g, FA = some ⟨g, 0, none⟩ ∧ w.heap.size ≤ g ∧ g < w7.heap.size := by
              rcases FO6.out.form with ⟨_, h0, _⟩ | h0
              · dsimp only at h0; omega
              · exact h0
            have FO9 := Hi (show OR w.heap.size w7 5 1 ⟨some ⟨g, 0, none⟩, i0, FC⟩ (bvs (TG.bytes.take i0)) from ⟨by
              have := own_front FO6.out.own (m := i0) (by dsimp only; omega)
              rw [Nat.mul_one] at this
              unfold bvs
              rw [List.map_take]
              exact this⟩)
            have PC := Hi (show Im.Piece TG.bytes [] (TG.bytes.take i0) from .inr (.inr (.inl ⟨i0, by have := HFL.out; omega, rfl, rfl⟩)))
            have hi0 : i0 < FN := by omega
            go_wp2
            go_meet
            case rel => exact ⟨⟨OA, ON, OC⟩, ⟨some ⟨g, 0, none⟩, i0, FC⟩, [], TG.bytes.take i0, rfl, rfl, PC, Hi (by rw [List.append_nil]; exact RO6.out), FO9, Hi (fun b hb hb2 => AP.out b hb hb2), G6, S6⟩
          · have b1 : (q == 1) = false := by simp [q1]
            by_cases q2 : q = 2
            · subst q2
              go_wp2_with fail
              refine Calls.mono (Wr.pick_lit S 5 w6.heap.size [0, 124, 125, 126, 200] #[.int .i64 0, .int .i64 124, .int .i64 125, .int .i64 126, .int .i64 200] w6 rfl S6.out rfl (by omega) (by omega) ?_) ?_
              · intro i hi
                match i, hi with
                | 0, _ => rfl
                | 1, _ => rfl
                | 2, _ => rfl
                | 3, _ => rfl
                | 4, _ => rfl
              rintro e w8 ⟨r, hr, rfl, g8, s8⟩
              obtain ⟨x, hx, rfl, e2⟩ := hit_of hr
              have cw8 : Chg [S] w6 w8 := Chg.of g8 (fun b hb => by injection hb with hb; simp [hb])
              have RO6 := Hi (RO6.out.chg cw8 (fun b hb hm => by rw [List.mem_singleton] at hm; have h1 := (RO6.out.blk b hb).1; have h2 := HS0.out; omega))
              have FO6 := Hi (FO6.out.chg cw8 (fun b hb hm => by rw [List.mem_singleton] at hm; have h1 := (FO6.out.blk b hb).1; have h2 := HS0.out; omega))
              have G6 := Hi (grown_trans G6.out g8)
              have S6 := Hi s8
              have HX := Hi hx
              obtain ⟨wl, hwl⟩ : ∃ wl, wl = w8.alloc (.cells #[.int .u8 ((x.toNat : Nat) : Int)] 5) := ⟨_, rfl⟩
              have gl : w8.grownBy wl none := by subst hwl; exact grown_alloc _ _ _
              have CL := Hi (show CR wl ⟨some ⟨w8.heap.size, 0, none⟩, 1, 1⟩ (bvs [x]) by
                subst hwl
                exact crRB (Wr.rb_lit w8 #[.int .u8 ((x.toNat : Nat) : Int)] 1 [x] rfl rfl (by omega)))
              have ROL := Hi (RO6.out.grown gl)
              have FOL := Hi (FO6.out.grown gl)
              have GL := Hi (grown_trans G6.out (Wr.grown_weak (some S) gl))
              have SL := Hi (S6.out.grown gl)
              have hON2 : ON ≤ 601 * j := hON.out.2
              have hll : (bvs [x]).length = 1 * 1 := rfl
              have HLL := Hi hll
              have HB1 := Hi (show (ON + 1) * 1 ≤ 140737488355328 by omega)
              have HB2 := Hi (show ON + 1 ≤ 1000000000 by omega)
              have HLE := Hi GL.out.size
              clear cw8 g8 s8 hr hx gl hll RO6 G6 S6
              rw [hwl] at ROL CL HLE
              go_wp2_with (first
                | (at_builtin
                   refine wpList_appV rfl (.tmp 42) (.tmp 47) 22 rfl (S := ⟨OA, ON, OC⟩) (V := ⟨some ⟨w8.heap.size, 0, none⟩, 1, 1⟩) Tryz.underlying22 hI hz hsz hby (by rfl) (by omega) rfl rfl ROL.out HLE.out HLL.out CL.out (Wr.bvs_one _) HB1.out HB2.out ?_
                   intro r2 w9 hrn hr2 hg2 hrb2
                   clear hrn
                   rw [← hwl] at hg2 hrb2
                   have hr3 : OR w.heap.size w9 5 1 r2 (bvs (out ++ [x])) := by rw [Wr.bvs_append]; exact hr2
                   have RO9 := Hi hr3
                   have c9 : Chg (Sl.blk ⟨OA, ON, OC⟩).toList wl w9 := Chg.of hg2 (fun b hb => by simpa using hb)
                   have FO9 := Hi (FOL.out.chg c9 (fun b hb hm => AP.out b hb (by simpa using hm)))
                   have AP9 := Hi (fun b (hb : Sl.blk ⟨FA, FN, FC⟩ = some b) (hb2 : r2.blk = some b) => show False from by
                     rcases hrb2 b hb2 with e | e
                     · exact AP.out b hb e
                     · have := (FOL.out.blk b hb).2; omega)
                   have G9 := Hi (by1 ((Chg.of (L := [S]) GL.out (fun b hb => by injection hb with hb; simp [hb])).then c9 (fun b hb => .inr (by rw [← hwl] at ROL; exact (ROL.out.blk b (by simpa using hb)).1))))
                   have S9 := Hi (SL.out.grownRow hg2 (fun b hb => by rw [← hwl] at ROL; have h1 := (ROL.out.blk b hb).1; have := HS0.out; omega))
                   clear hr2 hr3 hg2 hrb2 c9
                   obtain ⟨r2a, r2n, r2c⟩ := r2
                   dsimp only [Sl.v])
                | fail)
              have PC := Hi (show Im.Piece TG.bytes [x] TG.bytes from .inr (.inr (.inr ⟨x, HX.out, rfl, rfl⟩)))
              go_wp2
              go_meet
              case rel => exact ⟨⟨r2a, r2n, r2c⟩, ⟨FA, FN, FC⟩, [x], TG.bytes, rfl, rfl, PC, RO9, FO9, AP9, G9, S9⟩
            · have b2 : (q == 2) = false := by simp [q2]
              go_wp2
              go_meet
              case rel => exact ⟨⟨OA, ON, OC⟩, ⟨FA, FN, FC⟩, [], TG.bytes, rfl, rfl, Hi (.inl ⟨rfl, rfl⟩), Hi (by rw [List.append_nil]; exact RO6.out), FO6, AP, G6, S6⟩
      case rest =>
        obtain ⟨⟨Oa, On, Oc⟩, ⟨Fa, Fn, Fc⟩, pre, g, rfl, rfl, PC, RO7, FO7, AP7, G7, S7⟩ := hcut
        have hl1 := RO7.out.len
        have hl2 := FO7.out.len
        rw [Wr.bvs_len] at hl1 hl2
        dsimp only at hl1 hl2
        have hp := piece_len PC.out
        have hON2 : out.length ≤ 601 * j := by have := hON.out; omega
        have hgl : Fn ≤ 300 := by have := HFL.out; omega
        have hol : On ≤ 601 * j + 1 := by rw [List.length_append] at hl1; omega
        have HGL := Hi hgl
        have HOL := Hi hol
        have HLE1 := Hi G7.out.size
        have HLL1 := Hi (show (bvs g).length = Fn * 1 by rw [Wr.bvs_len]; exact hl2)
        have HB11 := Hi (show (On + Fn) * 1 ≤ 140737488355328 by omega)
        have HB21 := Hi (show On + Fn ≤ 1000000000 by omega)
        dsimp only [Sl.v]
        clear hl1 hl2 hp hON2 hgl hol
        go_wp2_with  (first
          | (at_builtin
             refine wpList_appV rfl (.tmp 49) (.tmp 50) 22 rfl (S := ⟨Oa, On, Oc⟩) (V := ⟨Fa, Fn, Fc⟩) Tryz.underlying22 hI hz hsz hby (by rfl) (by omega) rfl rfl RO7.out HLE1.out HLL1.out FO7.out.cr (Wr.bvs_one _) HB11.out HB21.out ?_
             intro r2 w9 hrn hr2 hg2 hrb2
             have RN8 := Hi hrn
             clear hrn
             have hr3 : OR w.heap.size w9 5 1 r2 (bvs ((out ++ pre) ++ g)) := by rw [Wr.bvs_append]; exact hr2
             have RO8 := Hi hr3
             have c9 : Chg (Sl.blk ⟨Oa, On, Oc⟩).toList wc w9 := Chg.of hg2 (fun b hb => by simpa using hb)
             have FO8 := Hi (FO7.out.chg c9 (fun b hb hm => AP7.out b hb (by simpa using hm)))
             have AP8 := Hi (fun b (hb : Sl.blk ⟨Fa, Fn, Fc⟩ = some b) (hb2 : r2.blk = some b) => show False from by
               rcases hrb2 b hb2 with e | e
               · exact AP7.out b hb e
               · have := (FO7.out.blk b hb).2; omega)
             have G8 := Hi (by1 ((Chg.of (L := [S]) G7.out (fun b hb => by injection hb with hb; simp [hb])).then c9 (fun b hb => .inr (RO7.out.blk b (by simpa using hb)).1)))
             have S8 := Hi (S7.out.grownRow hg2 (fun b hb => by have h1 := (RO7.out.blk b hb).1; have := HS0.out; omega))
             clear hr2 hr3 hg2 hrb2 c9
             obtain ⟨r2a, r2n, r2c⟩ := r2
             dsimp only [Sl.v] at RN8 ⊢)
          | fail)
        clear RO7 FO7 AP7 G7 S7
        refine (Wr.n_any S 5 w9 S8.out (by omega) (by omega)).mono ?_
        rintro e wx ⟨y, hy, rfl, gx, sx⟩
        have cwx : Chg [S] w9 wx := Chg.of gx (fun b hb => by injection hb with hb; simp [hb])
        have RO8 := Hi (RO8.out.chg cwx (fun b hb hm => by rw [List.mem_singleton] at hm; have h1 := (RO8.out.blk b hb).1; have h2 := HS0.out; omega))
        have FO8 := Hi (FO8.out.chg cwx (fun b hb hm => by rw [List.mem_singleton] at hm; have h1 := (FO8.out.blk b hb).1; have h2 := HS0.out; omega))
        have G8 := Hi (grown_trans G8.out gx)
        have S8 := Hi sx
        have HY := Hi hy
        clear cwx gx sx hy
        by_cases y0 : y = 0
        · subst y0
          have HLE2 := Hi G8.out.size
          have HLL2 := Hi HLL1.out
          have HB12 := Hi (show (r2n + Fn) * 1 ≤ 140737488355328 by have h1 := RN8.out; have h2 := HOL.out; have h3 := HGL.out; omega)
          have HB22 := Hi (show r2n + Fn ≤ 1000000000 by have h1 := RN8.out; have h2 := HOL.out; have h3 := HGL.out; omega)
          go_wp2_with  (first
            | (at_builtin
               refine wpList_appV rfl (.tmp 55) (.tmp 56) 22 rfl (S := ⟨r2a, r2n, r2c⟩) (V := ⟨Fa, Fn, Fc⟩) Tryz.underlying22 hI hz hsz hby (by rfl) (by omega) rfl rfl RO8.out HLE2.out HLL2.out FO8.out.cr (Wr.bvs_one _) HB12.out HB22.out ?_
               intro r2 w9 hrn hr2 hg2 hrb2
               have RN9 := Hi hrn
               clear hrn
               have hr3 : OR w.heap.size w9 5 1 r2 (bvs (((out ++ pre) ++ g) ++ g)) := by rw [Wr.bvs_append]; exact hr2
               have RO9 := Hi hr3
               have c9 : Chg (Sl.blk ⟨r2a, r2n, r2c⟩).toList wx w9 := Chg.of hg2 (fun b hb => by simpa using hb)
               have FO9 := Hi (FO8.out.chg c9 (fun b hb hm => AP8.out b hb (by simpa using hm)))
               have AP9 := Hi (fun b (hb : Sl.blk ⟨Fa, Fn, Fc⟩ = some b) (hb2 : r2.blk = some b) => show False from by
                 rcases hrb2 b hb2 with e | e
                 · exact AP8.out b hb e
                 · have := (FO8.out.blk b hb).2; omega)
               have G9 := Hi (by1 ((Chg.of (L := [S]) G8.out (fun b hb => by injection hb with hb; simp [hb])).then c9 (fun b hb => .inr (RO8.out.blk b (by simpa using hb)).1)))
               have S9 := Hi (S8.out.grownRow hg2 (fun b hb => by have h1 := (RO8.out.blk b hb).1; have := HS0.out; omega))
               clear hr2 hr3 hg2 hrb2 c9
               obtain ⟨r2a, r2n, r2c⟩ := r2
               dsimp only [Sl.v] at RN9 ⊢)
            | fail)
          have STN := Hi (Im.Stream.step true ST.out SM.out PC.out)
          have EQ : (out ++ pre) ++ g ++ g = out ++ (pre ++ (g ++ if true = true then g else [])) := by simp
          rw [EQ] at RO9
          clear EQ
          go_roundw
          case rel => exact ⟨r2a, r2n, r2c, k - 1, j + 1, _, rfl, by go_num, by omega, STN, RO9, G9, S9⟩
          case measure => simp [intOf]; omega
        · have y1 : (y == 0) = false := by simp [y0]
          have STN := Hi (Im.Stream.step false ST.out SM.out PC.out)
          have EQ : (out ++ pre) ++ g = out ++ (pre ++ (g ++ if false = true then g else [])) := by simp
          rw [EQ] at RO8
          clear EQ
          go_wp2
          go_roundw
          case rel => exact ⟨r2a, r2n, r2c, k - 1, j + 1, _, rfl, by go_num, by omega, STN, RO8, G8, S8⟩
          case measure => simp [intOf]; omega
    · obtain rfl : k = 0 := by omega
      go_wp2_with fail
      go_ret
      exact ⟨⟨OA, ON, OC⟩, out, j, rfl, by omega, ST.out, RO.out, G.out, SR.out⟩
end Go.Proofs.YticmoaebegahgaaGreatDoor.Iw
