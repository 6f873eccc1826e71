/- The walk of IntakeDamage. -/
import Derived.Test.YticmoaebegahgaaDoorLf
import Derived.Test.YticmoaebegahgaaDoorLe
import Derived.Test.YticmoaebegahgaaDoorLs
namespace Go.Proofs.YticmoaebegahgaaDoor.Iw
open Go.ChangeShapes Go.WideShapes Go.ChangeAt Go.RowKit
open Wr (IR RB iv ivs bv bvs grown_trans grown_refl grown_alloc ret_int ret_bool tv Ret ret_mk Made OwnEnd)

/-- Both streams have had the same frames, and no frame is open. -/
def Sc (cl di : List UInt8) (F : List (List UInt8)) : Prop := Im.scan none cl = ⟨F, none⟩ ∧ Im.scan none di = ⟨F, none⟩
theorem sc_frame {cl di : List UInt8} {F : List (List UInt8)} (h : Sc cl di F) {l : List UInt8} : Sc (cl ++ Wm.frame l) (di ++ Wm.frame l) (F ++ [Wm.frame l]) := by
  obtain ⟨h1, h2⟩ := h
  constructor
  · rw [Im.scan_append, h1]; dsimp only; rw [Im.scan_frame]
  · rw [Im.scan_append, h2]; dsimp only; rw [Im.scan_frame]
theorem sc_noise {cl di : List UInt8} {F : List (List UInt8)} (h : Sc cl di F) {x : UInt8} (hx : x ≠ 126) : Sc cl (di ++ [x]) F := by
  obtain ⟨h1, h2⟩ := h
  refine ⟨h1, ?_⟩
  rw [Im.scan_append, h2]; dsimp only
  rw [Im.scan_noise (fun y hy => by rw [List.mem_singleton] at hy; rw [hy]; exact hx)]
  simp
theorem feed_same {cl di : List UInt8} {F : List (List UInt8)} (h : Sc cl di F) (win : Int) : feedF ⟨win, [], []⟩ di = feedF ⟨win, [], []⟩ cl := by
  have e : ∀ b, Im.feed win [] [] b = (Im.cut (Im.scan none b).cur, (Im.run win [] (Im.gets (Im.scan none b).out)).1, (Im.run win [] (Im.gets (Im.scan none b).out)).2) := fun b => rfl
  unfold feedF
  dsimp only
  rw [e, e, h.1, h.2]
theorem or_rb {base : Nat} {w : World} {s : Sl} {l : List UInt8} (h : OR base w 5 1 s (bvs l)) : RB w s.a s.n l := rbCR h.cr (by have := h.len; rw [Wr.bvs_len] at this; omega)
theorem ok_nil {win : Int} (h : 0 ≤ win ∧ win ≤ 16) : (⟨win, [], []⟩ : Ik).ok = true := Ik.ok_iff.2 ⟨h, by simp, .inl rfl, Im.sok_nil win⟩
theorem newF_yes {n : Int} (h : 0 ≤ n ∧ n ≤ 16) : newF n = (⟨n, [], []⟩, 0) := by unfold newF; rw [if_pos (Tm.upTo_iff.2 h)]
set_option maxRecDepth 100000 in
set_option maxHeartbeats 8000000 in
theorem damage_any (A : Option Addr) (n c : Nat) (zs : List Int) (NA : Option Addr) (Nn Nc : Nat) (nz : List UInt8) (at_ : Int) (w : World) (hl : Wr.InRow w A n c zs) (hb : Wr.InB w NA Nn Nc nz) (hat : 0 ≤ at_ ∧ at_ ≤ 255) (ht : Wr.Tabled w) :
    Calls Tryd.prog 5 #[.slice A n c, .slice NA Nn Nc, .int .u8 at_] w (Ret (.bool true) w) := by
  have HL := Lib.hid hl
  have HB := Lib.hid hb
  have HT := Lib.hid ht
  have hc1 : IntKind.i64.wrap at_ = at_ := IntWalk.i64_in _ (by omega)
  have hc2 : IntKind.i64.wrap (at_ % 6) = at_ % 6 := IntWalk.i64_in _ (by omega)
  obtain ⟨I, hI, hz, hsz, hby⟩ := parts_b
  clear hl hb ht
  go_enter Tryd.func5, Tryd.ntmps5
  by_cases hN : 200 < Nn
  · have hN1 : (200 : Int) < (Nn : Int) := by omega
    go_wp2_with fail
    refine (awake_any w).mono ?_
    rintro e w8 ⟨rfl, g8⟩
    have G8 := Lib.hid g8
    clear g8
    go_wp2
    go_ret
    exact ret_mk rfl G8.out
  · have hN1 : ¬ (200 : Int) < (Nn : Int) := by omega
    go_wp2_with fail
    refine (Wr.new_any _ _ _ _ w HL.out).mono ?_
    rintro e w1 ⟨rfl, g1, s1, z1⟩
    obtain ⟨S, hS⟩ : ∃ S, S = w.heap.size := ⟨_, rfl⟩
    simp only [← hS] at s1 z1 ⊢
    obtain ⟨lo, hlo⟩ : ∃ lo, lo = w1.heap.size := ⟨_, rfl⟩
    have HS0 := Lib.hid (show w.heap.size ≤ S by omega)
    have HSL := Lib.hid (show S < lo by omega)
    have G := Lib.hid g1
    have SR := Lib.hid s1
    have LW := Lib.hid (show lo ≤ w1.heap.size by omega)
    clear g1 s1 z1 hS hlo HL
    go_wp2_with fail
    try simp only [hc1, hc2]
    obtain ⟨K0, hK0⟩ : ∃ x, x = at_ % 6 := ⟨_, rfl⟩
    rw [← hK0]
    have HK := Lib.hid (show 0 ≤ K0 ∧ K0 ≤ 5 by omega)
    clear hK0 hc1 hc2 hat
    go_loopw [8, 9, 11] (fun vc vd vi wr => ∃ (i : Nat) (C D : Sl) (cl di : List UInt8) (F : List (List UInt8)), vc = C.v ∧ vd = D.v ∧ vi = .int .i64 i ∧ i ≤ 5 ∧ Hid (C.n ≤ 300 * i) ∧ Hid (D.n ≤ 500 * i) ∧ Hid (Sc cl di F) ∧ Hid (OR lo wr 5 1 C (bvs cl)) ∧ Hid (OR lo wr 5 1 D (bvs di)) ∧ Hid (∀ b, C.blk = some b → D.blk = some b → False) ∧ Hid (w.grownBy wr none) ∧ Hid (Wr.SrcOK wr S) ∧ Hid (lo ≤ wr.heap.size)) (fun _ _ vi _ => 5 - (intOf vi).toNat)
    case atStart => exact ⟨0, nilS, nilS, [], [], [], rfl, rfl, rfl, by omega, Lib.hid (by simp [nilS]), Lib.hid (by simp [nilS]), Lib.hid ⟨rfl, rfl⟩, Lib.hid (or_nil _ _ _ _), Lib.hid (or_nil _ _ _ _), Lib.hid (fun b hb => by cases hb), G, SR, LW⟩
    case round =>
      obtain ⟨i, ⟨Ca, Cn, Cc⟩, ⟨Da, Dn, Dc⟩, cl, di, F, rfl, rfl, rfl, hi, HCN, HDN, SC, RC, RD, CD, G, SR, LW⟩ := hrel
      dsimp only [Sl.v] at HCN HDN ⊢
      by_cases hi5 : i < 5
      · have hi5' : (i : Int) < 5 := by omega
        by_cases hk : (i : Int) = K0
        · have hk' : ((i : Int) == K0) = true := by simp [hk]
          have HK2 := Lib.hid hk
          clear hk
          go_wp2_with fail
          go_loopw [9, 41] (fun vd vp wq => ∃ (p : Nat) (D : Sl) (di : List UInt8), vd = D.v ∧ vp = .int .i64 p ∧ p ≤ Nn ∧ Hid (D.n ≤ 500 * i + p) ∧ Hid (Sc cl di F) ∧ Hid (OR lo wq 5 1 ⟨Ca, Cn, Cc⟩ (bvs cl)) ∧ Hid (OR lo wq 5 1 D (bvs di)) ∧ Hid (∀ b, Sl.blk ⟨Ca, Cn, Cc⟩ = some b → D.blk = some b → False) ∧ Hid (w.grownBy wq none) ∧ Hid (Wr.SrcOK wq S) ∧ Hid (lo ≤ wq.heap.size)) (fun _ vp _ => Nn - (intOf vp).toNat)
          case atStart => exact ⟨0, ⟨Da, Dn, Dc⟩, di, rfl, rfl, by omega, HDN, SC, RC, RD, CD, G, SR, LW⟩
          case round =>
            clear SC RC RD CD G SR LW HDN
            obtain ⟨p, ⟨Da, Dn, Dc⟩, di, rfl, rfl, hp, HDN, SC, RC, RD, CD, G, SR, LW⟩ := hrel
            dsimp only [Sl.v] at HDN ⊢
            by_cases hpl : p < Nn
            · obtain ⟨b', off, hNA, hcb⟩ := HB.out.1.2 p hpl
              subst hNA
              have hcb := G.out.cell hcb (by simp)
              generalize nz.getD p 0 = x at *
              have hx8 := x.toNat_lt
              have hcx : IntKind.i64.wrap ((x.toNat : Nat) : Int) = ((x.toNat : Nat) : Int) := IntWalk.i64_in _ (by omega)
              by_cases hx : x = 126
              · subst hx
                go_wp2
                go_roundw
                case rel => exact ⟨p + 1, ⟨Da, Dn, Dc⟩, di, rfl, by go_num, by omega, Lib.hid (by have := HDN.out; dsimp only; omega), SC, RC, RD, CD, G, SR, LW⟩
                case measure => simp [intOf]; omega
              · have hb1 : (((x.toNat : Nat) : Int) != 126) = true := by
                  simp only [bne_iff_ne, ne_eq]; intro e; exact hx ((ub x 126 (by omega)).1 e)
                obtain ⟨wl, hwl⟩ : ∃ wl, wl = wr.alloc (.cells #[.int .u8 ((x.toNat : Nat) : Int)] 5) := ⟨_, rfl⟩
                have gl : wr.grownBy wl none := by subst hwl; exact grown_alloc _ _ _
                have CL := Lib.hid (show CR wl ⟨some ⟨wr.heap.size, 0, none⟩, 1, 1⟩ (bvs [x]) by
                  subst hwl
                  exact crRB (Wr.rb_lit wr #[.int .u8 ((x.toNat : Nat) : Int)] 1 [x] rfl rfl (by omega)))
                have HX := Lib.hid hx
                have RC := Lib.hid (RC.out.grown gl)
                have RD := Lib.hid (RD.out.grown gl)
                have G := Lib.hid (grown_trans G.out gl)
                have SR := Lib.hid (SR.out.grown gl)
                have LW := Lib.hid (show lo ≤ wl.heap.size from Nat.le_trans LW.out gl.size)
                have HLL := Lib.hid (show (bvs [x]).length = 1 * 1 from rfl)
                have HB1 := Lib.hid (show (Dn + 1) * 1 ≤ 140737488355328 by have := HDN.out; omega)
                have HB2 := Lib.hid (show Dn + 1 ≤ 1000000000 by have := HDN.out; omega)
                have RDX := Lib.hid RD.out
                have LWX := Lib.hid LW.out
                rw [hwl] at RDX LWX CL
                clear gl hx
                go_wp2_with (first
                  | (at_builtin
                     refine wpList_appV rfl (.tmp 48) (.tmp 50) 25 rfl (S := ⟨Da, Dn, Dc⟩) (V := ⟨some ⟨wr.heap.size, 0, none⟩, 1, 1⟩) Tryd.underlying25 hI hz hsz hby (by rfl) (by omega) rfl rfl RDX.out LWX.out HLL.out CL.out (Wr.bvs_one _) HB1.out HB2.out ?_
                     intro r2 w9 hrn hr2 hg2 hrb2
                     rw [← hwl] at hg2 hrb2
                     have RN2 := Lib.hid hrn
                     have hr3 : OR lo w9 5 1 r2 (bvs (di ++ [x])) := by rw [Wr.bvs_append]; exact hr2
                     have RD9 := Lib.hid hr3
                     have c9 : Chg (Sl.blk ⟨Da, Dn, Dc⟩).toList wl w9 := Chg.of hg2 (fun b hb => by simpa using hb)
                     have RC9 := Lib.hid (RC.out.chg c9 (fun b hb hm => CD.out b hb (by simpa using hm)))
                     have CD9 := Lib.hid (fun b (hb : Sl.blk ⟨Ca, Cn, Cc⟩ = some b) (hb2 : r2.blk = some b) => show False from by
                       rcases hrb2 b hb2 with e | e
                       · exact CD.out b hb e
                       · have := (RC.out.blk b hb).2; omega)
                     have G9 := Lib.hid (c9.grown G.out (fun b hb => by have h1 := (RD.out.blk b (by simpa using hb)).1; have := HSL.out; have := HS0.out; omega))
                     have SR9 := Lib.hid (SR.out.grownRow hg2 (fun b hb => by have h1 := (RD.out.blk b hb).1; have := HSL.out; omega))
                     have LW9 := Lib.hid (show lo ≤ w9.heap.size from Nat.le_trans LW.out c9.size)
                     clear hrn hr2 hr3 hg2 hrb2 c9
                     obtain ⟨D2a, D2n, D2c⟩ := r2
                     dsimp only [Sl.v] at RN2 ⊢)
                  | fail)
                have SC9 := Lib.hid (sc_noise SC.out HX.out)
                go_wp2
                go_roundw
                case rel => exact ⟨p + 1, ⟨D2a, D2n, D2c⟩, di ++ [x], rfl, by go_num, by omega, Lib.hid (by have h1 := RN2.out; have h2 := HDN.out; dsimp only; omega), SC9, RC9, RD9, CD9, G9, SR9, LW9⟩
                case measure => simp [intOf]; omega
            · obtain rfl : p = Nn := by omega
              have HDN := Lib.hid (show Dn ≤ 500 * i + 200 by have := HDN.out; omega)
              go_wp2_with fail
              refine (Wr.n_any S 3 wr SR.out (by omega) (by omega)).mono ?_
              rintro e w2 ⟨st, hst, rfl, g2, s2⟩
              have cw2 : Chg [S] wr w2 := Chg.of g2 (fun b hb => by injection hb with hb; simp [hb])
              have RC := Lib.hid (RC.out.chg cw2 (fun b hb hm => by rw [List.mem_singleton] at hm; have h1 := (RC.out.blk b hb).1; have h2 := HSL.out; omega))
              have RD := Lib.hid (RD.out.chg cw2 (fun b hb hm => by rw [List.mem_singleton] at hm; have h1 := (RD.out.blk b hb).1; have h2 := HSL.out; omega))
              have LW := Lib.hid (show lo ≤ w2.heap.size from Nat.le_trans LW.out g2.size)
              have G := Lib.hid (Wr.grown_off G.out g2 HS0.out)
              have SR := Lib.hid s2
              clear cw2 g2 s2
              go_wp2_with fail
              refine (Wr.telegram_in S st w2 SR.out hst.1 (by omega)).mono ?_
              rintro e w3 ⟨t, VA, vn, vc, rfl, g3, s3, ho, htg⟩
              have SM := Lib.hid (small_of htg ⟨hst.1, by omega⟩)
              have HV := Lib.hid ho.ir
              have hvl : t.vs.length = vn := ho.len
              have hvn : vn ≤ 16 := by have := SM.out.len; omega
              have cw3 : Chg [S] w2 w3 := Chg.of g3 (fun b hb => by injection hb with hb; simp [hb])
              have RC := Lib.hid (RC.out.chg cw3 (fun b hb hm => by rw [List.mem_singleton] at hm; have h1 := (RC.out.blk b hb).1; have h2 := HSL.out; omega))
              have RD := Lib.hid (RD.out.chg cw3 (fun b hb hm => by rw [List.mem_singleton] at hm; have h1 := (RD.out.blk b hb).1; have h2 := HSL.out; omega))
              have LW := Lib.hid (show lo ≤ w3.heap.size from Nat.le_trans LW.out g3.size)
              have G := Lib.hid (Wr.grown_off G.out g3 HS0.out)
              have SR := Lib.hid s3
              clear cw3 g3 s3
              clear ho htg hst hvl
              have IN := Lib.hid (Wr.rinside_any t VA vn vc w3 HV.out (Tm.Tg.fits_of_ok (small_ok SM.out)) hvn)
              obtain ⟨tst, tep, tsq, ttm, tkd, tvs⟩ := t
              obtain ⟨TG, hTG⟩ : ∃ TG : Tm.Tg, TG = ⟨tst, tep, tsq, ttm, tkd, tvs⟩ := ⟨_, rfl⟩
              rw [← hTG] at IN SM
              have e1 : tv TG (.slice VA vn vc) = .agg #[.int .i64 tst, .int .i64 tep, .int .i64 tsq, .int .i64 ttm, .int .i64 tkd, .slice VA vn vc] := by rw [hTG]; rfl
              rw [e1] at IN
              clear e1 hTG HV
              dsimp only [tv]
              go_wp2_with fail
              refine IN.out.mono ?_
              rintro e w4 ⟨IA, iN, IC, rfl, hm4⟩
              have hil : TG.inside.length = iN := hm4.len
              have hi2 : iN ≤ 149 := by
                have h1 := Tm.Tg.len (small_ok SM.out)
                have h2 : TG.inside.length = (Tm.body TG.nums).length + 4 := Tm.shut_len _
                omega
              have ST2 := Lib.hid (Wr.rstuff_any IA iN IC TG.inside w4 hm4.rb (by omega))
              have g4 := hm4.gr
              have RC := Lib.hid (RC.out.grown g4)
              have RD := Lib.hid (RD.out.grown g4)
              have G := Lib.hid (grown_trans G.out g4)
              have LW := Lib.hid (show lo ≤ w4.heap.size from Nat.le_trans LW.out g4.size)
              have SR := Lib.hid (SR.out.grown g4)
              clear hm4 IN g4 hil hi2
              go_wp2_with fail
              refine ST2.out.mono ?_
              rintro e w5 ⟨FA, FN, FC, rfl, hm5⟩
              have hfl : TG.bytes.length = FN := hm5.len
              have hf3 : FN ≤ 300 := by have h1 := Tm.Tg.bytes_len (small_ok SM.out); omega
              have hlo4 : lo ≤ w4.heap.size := LW.out
              have FO := Lib.hid (show OR lo w5 5 1 ⟨FA, FN, FC⟩ (bvs TG.bytes) from OR.base_ ⟨hm5.own⟩ hlo4)
              have g5 := hm5.gr
              have AC := Lib.hid (fun b (hb : Sl.blk ⟨FA, FN, FC⟩ = some b) (hb2 : Sl.blk ⟨Ca, Cn, Cc⟩ = some b) => show False from by
                have h1 := (RC.out.blk b hb2).2
                have h2 := (OR.blk (s := ⟨FA, FN, FC⟩) ⟨hm5.own⟩ b hb).1
                omega)
              have AD := Lib.hid (fun b (hb : Sl.blk ⟨FA, FN, FC⟩ = some b) (hb2 : Sl.blk ⟨Da, Dn, Dc⟩ = some b) => show False from by
                have h1 := (RD.out.blk b hb2).2
                have h2 := (OR.blk (s := ⟨FA, FN, FC⟩) ⟨hm5.own⟩ b hb).1
                omega)
              have RC := Lib.hid (RC.out.grown g5)
              have RD := Lib.hid (RD.out.grown g5)
              have G := Lib.hid (grown_trans G.out g5)
              have SR := Lib.hid (SR.out.grown g5)
              have HFL := Lib.hid (And.intro hfl hf3)
              have LW5 := Lib.hid (show lo ≤ w5.heap.size from Nat.le_trans hlo4 g5.size)
              have HLL := Lib.hid (show (bvs TG.bytes).length = FN * 1 by rw [Wr.bvs_len]; omega)
              have HB1 := Lib.hid (show (Cn + FN) * 1 ≤ 140737488355328 by have := HCN.out; omega)
              have HB2 := Lib.hid (show Cn + FN ≤ 1000000000 by have := HCN.out; omega)
              have HB3 := Lib.hid (show (Dn + FN) * 1 ≤ 140737488355328 by have := HDN.out; omega)
              have HB4 := Lib.hid (show Dn + FN ≤ 1000000000 by have := HDN.out; omega)
              clear hm5 ST2 g5 hfl hf3 hlo4
              go_wp2_with (first
                | (at_builtin
                   refine wpList_appV rfl (.tmp 59) (.tmp 60) 25 rfl (S := ⟨Ca, Cn, Cc⟩) (V := ⟨FA, FN, FC⟩) Tryd.underlying25 hI hz hsz hby (by rfl) (by omega) rfl rfl RC.out LW5.out HLL.out FO.out.cr (Wr.bvs_one _) HB1.out HB2.out ?_
                   intro r2 w6 hrn hr2 hg2 hrb2
                   have RN2 := Lib.hid hrn
                   have hr3 : OR lo w6 5 1 r2 (bvs (cl ++ TG.bytes)) := by rw [Wr.bvs_append]; exact hr2
                   have RC6 := Lib.hid hr3
                   have c6 : Chg (Sl.blk ⟨Ca, Cn, Cc⟩).toList w5 w6 := Chg.of hg2 (fun b hb => by simpa using hb)
                   have FO6 := Lib.hid (FO.out.chg c6 (fun b hb hm => AC.out b hb (by simpa using hm)))
                   have RD6 := Lib.hid (RD.out.chg c6 (fun b hb hm => CD.out b (by simpa using hm) hb))
                   have CD6 := Lib.hid (fun b (hb : r2.blk = some b) (hb2 : Sl.blk ⟨Da, Dn, Dc⟩ = some b) => show False from by
                     rcases hrb2 b hb with e | e
                     · exact CD.out b e hb2
                     · have := (RD.out.blk b hb2).2; omega)
                   have G6 := Lib.hid (c6.grown G.out (fun b hb => by have h1 := (RC.out.blk b (by simpa using hb)).1; have := HSL.out; have := HS0.out; omega))
                   have SR6 := Lib.hid (SR.out.grownRow hg2 (fun b hb => by have h1 := (RC.out.blk b hb).1; have := HSL.out; omega))
                   have LW6 := Lib.hid (show lo ≤ w6.heap.size from Nat.le_trans LW5.out c6.size)
                   clear hrn hr2 hr3 hg2 hrb2 c6
                   obtain ⟨C2a, C2n, C2c⟩ := r2
                   dsimp only [Sl.v] at RN2 ⊢)
                | (at_builtin
                   refine wpList_appV rfl (.tmp 62) (.tmp 63) 25 rfl (S := ⟨Da, Dn, Dc⟩) (V := ⟨FA, FN, FC⟩) Tryd.underlying25 hI hz hsz hby (by rfl) (by omega) rfl rfl RD6.out LW6.out HLL.out FO6.out.cr (Wr.bvs_one _) HB3.out HB4.out ?_
                   intro r2 w7 hrn hr2 hg2 hrb2
                   have RN3 := Lib.hid hrn
                   have hr3 : OR lo w7 5 1 r2 (bvs (di ++ TG.bytes)) := by rw [Wr.bvs_append]; exact hr2
                   have RD7 := Lib.hid hr3
                   have c7 : Chg (Sl.blk ⟨Da, Dn, Dc⟩).toList w6 w7 := Chg.of hg2 (fun b hb => by simpa using hb)
                   have RC7 := Lib.hid (RC6.out.chg c7 (fun b hb hm => CD6.out b hb (by simpa using hm)))
                   have CD7 := Lib.hid (fun b (hb : Sl.blk ⟨C2a, C2n, C2c⟩ = some b) (hb2 : r2.blk = some b) => show False from by
                     rcases hrb2 b hb2 with e | e
                     · exact CD6.out b hb e
                     · have := (RC6.out.blk b hb).2; omega)
                   have G7 := Lib.hid (c7.grown G6.out (fun b hb => by have h1 := (RD6.out.blk b (by simpa using hb)).1; have := HSL.out; have := HS0.out; omega))
                   have SR7 := Lib.hid (SR6.out.grownRow hg2 (fun b hb => by have h1 := (RD6.out.blk b hb).1; have := HSL.out; omega))
                   have LW7 := Lib.hid (show lo ≤ w7.heap.size from Nat.le_trans LW6.out c7.size)
                   clear hrn hr2 hr3 hg2 hrb2 c7
                   obtain ⟨D2a, D2n, D2c⟩ := r2
                   dsimp only [Sl.v] at RN3 ⊢)
                | fail)
              have SC2 := Lib.hid (sc_frame SC.out (l := TG.inside))
              have HC2 := Lib.hid (show C2n ≤ 300 * (i + 1) by have h1 := RN2.out; have h2 := HFL.out; have h3 := HCN.out; omega)
              have HD2 := Lib.hid (show D2n ≤ 500 * (i + 1) by have h1 := RN3.out; have h2 := HFL.out; have h3 := HDN.out; omega)
              go_wp2
              go_roundw
              case rel => exact ⟨i + 1, ⟨C2a, C2n, C2c⟩, ⟨D2a, D2n, D2c⟩, cl ++ TG.bytes, di ++ TG.bytes, F ++ [TG.bytes], rfl, rfl, by go_num, by omega, HC2, HD2, SC2, RC7, RD7, CD7, G7, SR7, LW7⟩
              case measure => simp [intOf]; omega
        · have hk' : ((i : Int) == K0) = false := by simp [hk]
          have HDN := Lib.hid (show Dn ≤ 500 * i + 200 by have := HDN.out; omega)
          go_wp2_with fail
          refine (Wr.n_any S 3 wr SR.out (by omega) (by omega)).mono ?_
          rintro e w2 ⟨st, hst, rfl, g2, s2⟩
          have cw2 : Chg [S] wr w2 := Chg.of g2 (fun b hb => by injection hb with hb; simp [hb])
          have RC := Lib.hid (RC.out.chg cw2 (fun b hb hm => by rw [List.mem_singleton] at hm; have h1 := (RC.out.blk b hb).1; have h2 := HSL.out; omega))
          have RD := Lib.hid (RD.out.chg cw2 (fun b hb hm => by rw [List.mem_singleton] at hm; have h1 := (RD.out.blk b hb).1; have h2 := HSL.out; omega))
          have LW := Lib.hid (show lo ≤ w2.heap.size from Nat.le_trans LW.out g2.size)
          have G := Lib.hid (Wr.grown_off G.out g2 HS0.out)
          have SR := Lib.hid s2
          clear cw2 g2 s2
          go_wp2_with fail
          refine (Wr.telegram_in S st w2 SR.out hst.1 (by omega)).mono ?_
          rintro e w3 ⟨t, VA, vn, vc, rfl, g3, s3, ho, htg⟩
          have SM := Lib.hid (small_of htg ⟨hst.1, by omega⟩)
          have HV := Lib.hid ho.ir
          have hvl : t.vs.length = vn := ho.len
          have hvn : vn ≤ 16 := by have := SM.out.len; omega
          have cw3 : Chg [S] w2 w3 := Chg.of g3 (fun b hb => by injection hb with hb; simp [hb])
          have RC := Lib.hid (RC.out.chg cw3 (fun b hb hm => by rw [List.mem_singleton] at hm; have h1 := (RC.out.blk b hb).1; have h2 := HSL.out; omega))
          have RD := Lib.hid (RD.out.chg cw3 (fun b hb hm => by rw [List.mem_singleton] at hm; have h1 := (RD.out.blk b hb).1; have h2 := HSL.out; omega))
          have LW := Lib.hid (show lo ≤ w3.heap.size from Nat.le_trans LW.out g3.size)
          have G := Lib.hid (Wr.grown_off G.out g3 HS0.out)
          have SR := Lib.hid s3
          clear cw3 g3 s3
          clear ho htg hst hvl
          have IN := Lib.hid (Wr.rinside_any t VA vn vc w3 HV.out (Tm.Tg.fits_of_ok (small_ok SM.out)) hvn)
          obtain ⟨tst, tep, tsq, ttm, tkd, tvs⟩ := t
          obtain ⟨TG, hTG⟩ : ∃ TG : Tm.Tg, TG = ⟨tst, tep, tsq, ttm, tkd, tvs⟩ := ⟨_, rfl⟩
          rw [← hTG] at IN SM
          have e1 : tv TG (.slice VA vn vc) = .agg #[.int .i64 tst, .int .i64 tep, .int .i64 tsq, .int .i64 ttm, .int .i64 tkd, .slice VA vn vc] := by rw [hTG]; rfl
          rw [e1] at IN
          clear e1 hTG HV
          dsimp only [tv]
          go_wp2_with fail
          refine IN.out.mono ?_
          rintro e w4 ⟨IA, iN, IC, rfl, hm4⟩
          have hil : TG.inside.length = iN := hm4.len
          have hi2 : iN ≤ 149 := by
            have h1 := Tm.Tg.len (small_ok SM.out)
            have h2 : TG.inside.length = (Tm.body TG.nums).length + 4 := Tm.shut_len _
            omega
          have ST2 := Lib.hid (Wr.rstuff_any IA iN IC TG.inside w4 hm4.rb (by omega))
          have g4 := hm4.gr
          have RC := Lib.hid (RC.out.grown g4)
          have RD := Lib.hid (RD.out.grown g4)
          have G := Lib.hid (grown_trans G.out g4)
          have LW := Lib.hid (show lo ≤ w4.heap.size from Nat.le_trans LW.out g4.size)
          have SR := Lib.hid (SR.out.grown g4)
          clear hm4 IN g4 hil hi2
          go_wp2_with fail
          refine ST2.out.mono ?_
          rintro e w5 ⟨FA, FN, FC, rfl, hm5⟩
          have hfl : TG.bytes.length = FN := hm5.len
          have hf3 : FN ≤ 300 := by have h1 := Tm.Tg.bytes_len (small_ok SM.out); omega
          have hlo4 : lo ≤ w4.heap.size := LW.out
          have FO := Lib.hid (show OR lo w5 5 1 ⟨FA, FN, FC⟩ (bvs TG.bytes) from OR.base_ ⟨hm5.own⟩ hlo4)
          have g5 := hm5.gr
          have AC := Lib.hid (fun b (hb : Sl.blk ⟨FA, FN, FC⟩ = some b) (hb2 : Sl.blk ⟨Ca, Cn, Cc⟩ = some b) => show False from by
            have h1 := (RC.out.blk b hb2).2
            have h2 := (OR.blk (s := ⟨FA, FN, FC⟩) ⟨hm5.own⟩ b hb).1
            omega)
          have AD := Lib.hid (fun b (hb : Sl.blk ⟨FA, FN, FC⟩ = some b) (hb2 : Sl.blk ⟨Da, Dn, Dc⟩ = some b) => show False from by
            have h1 := (RD.out.blk b hb2).2
            have h2 := (OR.blk (s := ⟨FA, FN, FC⟩) ⟨hm5.own⟩ b hb).1
            omega)
          have RC := Lib.hid (RC.out.grown g5)
          have RD := Lib.hid (RD.out.grown g5)
          have G := Lib.hid (grown_trans G.out g5)
          have SR := Lib.hid (SR.out.grown g5)
          have HFL := Lib.hid (And.intro hfl hf3)
          have LW5 := Lib.hid (show lo ≤ w5.heap.size from Nat.le_trans hlo4 g5.size)
          have HLL := Lib.hid (show (bvs TG.bytes).length = FN * 1 by rw [Wr.bvs_len]; omega)
          have HB1 := Lib.hid (show (Cn + FN) * 1 ≤ 140737488355328 by have := HCN.out; omega)
          have HB2 := Lib.hid (show Cn + FN ≤ 1000000000 by have := HCN.out; omega)
          have HB3 := Lib.hid (show (Dn + FN) * 1 ≤ 140737488355328 by have := HDN.out; omega)
          have HB4 := Lib.hid (show Dn + FN ≤ 1000000000 by have := HDN.out; omega)
          clear hm5 ST2 g5 hfl hf3 hlo4
          go_wp2_with (first
            | (at_builtin
               refine wpList_appV rfl (.tmp 59) (.tmp 60) 25 rfl (S := ⟨Ca, Cn, Cc⟩) (V := ⟨FA, FN, FC⟩) Tryd.underlying25 hI hz hsz hby (by rfl) (by omega) rfl rfl RC.out LW5.out HLL.out FO.out.cr (Wr.bvs_one _) HB1.out HB2.out ?_
               intro r2 w6 hrn hr2 hg2 hrb2
               have RN2 := Lib.hid hrn
               have hr3 : OR lo w6 5 1 r2 (bvs (cl ++ TG.bytes)) := by rw [Wr.bvs_append]; exact hr2
               have RC6 := Lib.hid hr3
               have c6 : Chg (Sl.blk ⟨Ca, Cn, Cc⟩).toList w5 w6 := Chg.of hg2 (fun b hb => by simpa using hb)
               have FO6 := Lib.hid (FO.out.chg c6 (fun b hb hm => AC.out b hb (by simpa using hm)))
               have RD6 := Lib.hid (RD.out.chg c6 (fun b hb hm => CD.out b (by simpa using hm) hb))
               have CD6 := Lib.hid (fun b (hb : r2.blk = some b) (hb2 : Sl.blk ⟨Da, Dn, Dc⟩ = some b) => show False from by
                 rcases hrb2 b hb with e | e
                 · exact CD.out b e hb2
                 · have := (RD.out.blk b hb2).2; omega)
               have G6 := Lib.hid (c6.grown G.out (fun b hb => by have h1 := (RC.out.blk b (by simpa using hb)).1; have := HSL.out; have := HS0.out; omega))
               have SR6 := Lib.hid (SR.out.grownRow hg2 (fun b hb => by have h1 := (RC.out.blk b hb).1; have := HSL.out; omega))
               have LW6 := Lib.hid (show lo ≤ w6.heap.size from Nat.le_trans LW5.out c6.size)
               clear hrn hr2 hr3 hg2 hrb2 c6
               obtain ⟨C2a, C2n, C2c⟩ := r2
               dsimp only [Sl.v] at RN2 ⊢)
            | (at_builtin
               refine wpList_appV rfl (.tmp 62) (.tmp 63) 25 rfl (S := ⟨Da, Dn, Dc⟩) (V := ⟨FA, FN, FC⟩) Tryd.underlying25 hI hz hsz hby (by rfl) (by omega) rfl rfl RD6.out LW6.out HLL.out FO6.out.cr (Wr.bvs_one _) HB3.out HB4.out ?_
               intro r2 w7 hrn hr2 hg2 hrb2
               have RN3 := Lib.hid hrn
               have hr3 : OR lo w7 5 1 r2 (bvs (di ++ TG.bytes)) := by rw [Wr.bvs_append]; exact hr2
               have RD7 := Lib.hid hr3
               have c7 : Chg (Sl.blk ⟨Da, Dn, Dc⟩).toList w6 w7 := Chg.of hg2 (fun b hb => by simpa using hb)
               have RC7 := Lib.hid (RC6.out.chg c7 (fun b hb hm => CD6.out b hb (by simpa using hm)))
               have CD7 := Lib.hid (fun b (hb : Sl.blk ⟨C2a, C2n, C2c⟩ = some b) (hb2 : r2.blk = some b) => show False from by
                 rcases hrb2 b hb2 with e | e
                 · exact CD6.out b hb e
                 · have := (RC6.out.blk b hb).2; omega)
               have G7 := Lib.hid (c7.grown G6.out (fun b hb => by have h1 := (RD6.out.blk b (by simpa using hb)).1; have := HSL.out; have := HS0.out; omega))
               have SR7 := Lib.hid (SR6.out.grownRow hg2 (fun b hb => by have h1 := (RD6.out.blk b hb).1; have := HSL.out; omega))
               have LW7 := Lib.hid (show lo ≤ w7.heap.size from Nat.le_trans LW6.out c7.size)
               clear hrn hr2 hr3 hg2 hrb2 c7
               obtain ⟨D2a, D2n, D2c⟩ := r2
               dsimp only [Sl.v] at RN3 ⊢)
            | fail)
          have SC2 := Lib.hid (sc_frame SC.out (l := TG.inside))
          have HC2 := Lib.hid (show C2n ≤ 300 * (i + 1) by have h1 := RN2.out; have h2 := HFL.out; have h3 := HCN.out; omega)
          have HD2 := Lib.hid (show D2n ≤ 500 * (i + 1) by have h1 := RN3.out; have h2 := HFL.out; have h3 := HDN.out; omega)
          go_wp2
          go_roundw
          case rel => exact ⟨i + 1, ⟨C2a, C2n, C2c⟩, ⟨D2a, D2n, D2c⟩, cl ++ TG.bytes, di ++ TG.bytes, F ++ [TG.bytes], rfl, rfl, by go_num, by omega, HC2, HD2, SC2, RC7, RD7, CD7, G7, SR7, LW7⟩
          case measure => simp [intOf]; omega
      · obtain rfl : i = 5 := by omega
        have CS := Lib.hid (show RB wr Ca Cn cl from or_rb RC.out)
        have DS := Lib.hid (show RB wr Da Dn di from or_rb RD.out)
        have CF := Lib.hid (show Cn ≤ Cc ∧ Cc ≤ 9223372036854775807 from RC.out.fit)
        have DF := Lib.hid (show Dn ≤ Dc ∧ Dc ≤ 9223372036854775807 from RD.out.fit)
        obtain ⟨FF, hFF⟩ : ∃ FF, FF = feedF ⟨3, [], []⟩ cl := ⟨_, rfl⟩
        have FE := Lib.hid (show feedF ⟨3, [], []⟩ cl = FF ∧ feedF ⟨3, [], []⟩ di = FF from ⟨hFF.symm, by rw [hFF]; exact feed_same SC.out 3⟩)
        have F3 := Lib.hid (show FF.1.win = 3 ∧ FF.2.2 = 0 by rw [hFF]; exact ⟨rfl, rfl⟩)
        clear hFF RC RD SC CD SR LW
        go_wp2_with fail
        refine (new_nil 3 wr).mono ?_
        rintro e w2 ⟨rfl, g2⟩
        rw [newF_yes ⟨by omega, by omega⟩]
        dsimp only [iv3, nilS, Sl.v]
        obtain ⟨w3, hw3⟩ : ∃ w3, w3 = w2.alloc (Obj.cells #[.int .i64 3, .slice none 0 0, .slice none 0 0] 29) := ⟨_, rfl⟩
        obtain ⟨sB, hsB⟩ : ∃ b, b = w2.heap.size := ⟨_, rfl⟩
        have g3 : w2.grownBy w3 none := by subst hw3; exact grown_alloc _ _ _
        have b3 : Tri w3 sB (.int .i64 3) (.slice none 0 0) (.slice none 0 0) := by subst hw3; subst hsB; exact tri_made _ _ _ _ _
        have B3 := Lib.hid b3
        have G3 := Lib.hid (grown_trans G.out (grown_trans g2 g3))
        have GR := Lib.hid (grown_trans g2 g3)
        have FD := Lib.hid (feed_any nilS nilS ⟨3, [], []⟩ Ca Cn Cc cl w3 (kr_nil w3 3) (ok_nil ⟨by omega, by omega⟩) (CS.out.grown GR.out) CF.out.1 CF.out.2 (by have := HCN.out; omega) (HT.out.grown G3.out))
        rw [FE.out.1] at FD
        dsimp only [iv3, nilS, Sl.v] at FD
        clear b3 g2 g3
        go_wp2_with fail
        rw [← hw3]
        simp only [← hsB]
        clear hw3 hsB
        refine FD.out.mono ?_
        rintro e w4 ⟨⟨T1a, T1n, T1c⟩, ⟨E1a, E1n, E1c⟩, ⟨G1a, G1n, G1c⟩, rfl, hk1, hn1, ht1, g4⟩
        have K1 := Lib.hid hk1.now
        have O1 := Lib.hid ht1.now
        rw [F3.out.1, F3.out.2]
        dsimp only [iv3, Sl.v]
        clear hk1 ht1 hn1 FD
        obtain ⟨w5, hw5⟩ : ∃ w5, w5 = w4.alloc (Obj.cells #[.int .i64 3, .slice T1a T1n T1c, .slice E1a E1n E1c] 29) := ⟨_, rfl⟩
        obtain ⟨aB, haB⟩ : ∃ b, b = w4.heap.size := ⟨_, rfl⟩
        have g5 : w4.grownBy w5 none := by subst hw5; exact grown_alloc _ _ _
        have b5 : Tri w5 aB (.int .i64 3) (.slice T1a T1n T1c) (.slice E1a E1n E1c) := by subst hw5; subst haB; exact tri_made _ _ _ _ _
        have B5 := Lib.hid b5
        have K1 := Lib.hid (K1.out.grown g5)
        have O1 := Lib.hid (O1.out.grown g5)
        have GR := Lib.hid (grown_trans GR.out (grown_trans g4 g5))
        have G5 := Lib.hid (grown_trans G3.out (grown_trans g4 g5))
        have B3 := Lib.hid (B3.out.grown (grown_trans g4 g5))
        have FD := Lib.hid (feed_any nilS nilS ⟨3, [], []⟩ Da Dn Dc di w5 (kr_nil w5 3) (ok_nil ⟨by omega, by omega⟩) (DS.out.grown GR.out) DF.out.1 DF.out.2 (by have := HDN.out; omega) (HT.out.grown G5.out))
        rw [FE.out.2] at FD
        dsimp only [iv3, nilS, Sl.v] at FD
        clear b5 g4 g5
        obtain ⟨⟨s0, s1, s2⟩, -⟩ := B3.out
        go_upto_region 20 with fail
        rw [← hw5]
        simp only [← haB]
        clear hw5 haB
        go_wp2_with fail
        refine FD.out.mono ?_
        rintro e w6 ⟨⟨T2a, T2n, T2c⟩, ⟨E2a, E2n, E2c⟩, ⟨G2a, G2n, G2c⟩, rfl, hk2, hn2, ht2, g6⟩
        have K2 := Lib.hid hk2.now
        have O2 := Lib.hid ht2.now
        rw [F3.out.1, F3.out.2]
        dsimp only [iv3, Sl.v]
        clear hk2 ht2 hn2 FD s0 s1 s2
        obtain ⟨w7, hw7⟩ : ∃ w7, w7 = w6.alloc (Obj.cells #[.int .i64 3, .slice T2a T2n T2c, .slice E2a E2n E2c] 29) := ⟨_, rfl⟩
        obtain ⟨bB, hbB⟩ : ∃ b, b = w6.heap.size := ⟨_, rfl⟩
        have g7 : w6.grownBy w7 none := by subst hw7; exact grown_alloc _ _ _
        have b7 : Tri w7 bB (.int .i64 3) (.slice T2a T2n T2c) (.slice E2a E2n E2c) := by subst hw7; subst hbB; exact tri_made _ _ _ _ _
        have B7 := Lib.hid b7
        have B5 := Lib.hid (B5.out.grown (grown_trans g6 g7))
        have K1 := Lib.hid (K1.out.grown (grown_trans g6 g7))
        have O1 := Lib.hid (O1.out.grown (grown_trans g6 g7))
        have K2 := Lib.hid (K2.out.grown g7)
        have O2 := Lib.hid (O2.out.grown g7)
        have G7 := Lib.hid (grown_trans G5.out (grown_trans g6 g7))
        have SQ := Lib.hid (same_eq ⟨T1a, T1n, T1c⟩ ⟨E1a, E1n, E1c⟩ ⟨T2a, T2n, T2c⟩ ⟨E2a, E2n, E2c⟩ FF.1 w7 K1.out K2.out)
        rw [F3.out.1] at SQ
        dsimp only [iv3, Sl.v] at SQ
        clear b7 g6 g7
        obtain ⟨⟨p0, p1, p2⟩, -⟩ := B5.out
        obtain ⟨⟨q0, q1, q2⟩, -⟩ := B7.out
        go_upto_region 21 with fail
        rw [← hw7]
        simp only [← hbB]
        clear hw7 hbB
        go_wp2_with fail
        refine SQ.out.mono ?_
        rintro e w8 ⟨rfl, g8⟩
        have AL := Lib.hid (alike_any ⟨G1a, G1n, G1c⟩ ⟨G2a, G2n, G2c⟩ FF.2.1 FF.2.1 w8 (O1.out.grown g8) (O2.out.grown g8))
        rw [alike_self] at AL
        dsimp only [Sl.v] at AL
        have G8 := Lib.hid (grown_trans G7.out g8)
        clear g8 p0 p1 p2 q0 q1 q2 SQ
        go_wp2_with fail
        refine AL.out.mono ?_
        rintro e w9 ⟨rfl, g9⟩
        have G9 := Lib.hid (grown_trans G8.out g9)
        clear g9 AL
        go_wp2_with fail
        refine (awake_any w9).mono ?_
        rintro e w10 ⟨rfl, g10⟩
        have G10 := Lib.hid (grown_trans G9.out g10)
        clear g10
        go_wp2
        go_ret
        exact ret_mk rfl G10.out
end Go.Proofs.YticmoaebegahgaaDoor.Iw
