import Derived.Test.YticmoaebegahgaaGreatDoorKi
import Derived.Test.YticmoaebegahgaaGreatDoorKo
import Derived.Deep.CutBlock
set_option linter.all false
namespace Go.Proofs.YticmoaebegahgaaGreatDoor.Iw
open Go.ChangeShapes Go.WideShapes Go.ChangeAt Go.RowKit
open Wr (IR RB iv ivs bv bvs grown_trans grown_refl grown_alloc ret_int ret_bool tv Ret ret_mk)
theorem Chg.one {x : Nat} {w w' : World} (g : Chg [x] w w') : w.grownBy w' (some x) := ⟨g.os, g.tape, g.output, g.size, fun i hi hn => g.block i hi (by rw [List.mem_singleton]; intro e; subst e; exact hn rfl)⟩
theorem or_lit0 (w : World) : OR w.heap.size (w.alloc (Obj.cells #[] 28)) 28 6 ⟨some ⟨w.heap.size, 0, none⟩, 0, 0⟩ [] :=
 ⟨World.ownsRow_lit (base := w.heap.size) (e := 28) (size := 6) w #[] 0 (Nat.le_refl _) (by unfold maxLen; omega) (by simp)⟩
theorem lows_at {q : Int} {l : List Tm.Tg} {a : Nat} {n : Int} (hs : Im.Asc n l) (ha : a ≤ l.length) (h1 : ∀ j, j < a → (l.getD j Tm.zero).sq < q) (h2 : a = l.length ∨ q ≤ (l.getD a Tm.zero).sq) : Im.lows q l = l.take a ∧ Im.highs q l = l.drop a := by
 induction l generalizing a n with
 | nil => obtain rfl : a = 0 := by simpa using ha
          simp [Im.lows, Im.highs]
 | cons t r ih =>
  cases a with
  | zero =>
   have : ¬ t.sq < q := by
    rcases h2 with h2 | h2
    ·simp at h2
    ·simp at h2; omega
   simp [Im.lows, Im.highs, this]
  | succ a =>
   have h0 : t.sq < q := by simpa using h1 0 (by omega)
   obtain ⟨i1, i2⟩ := ih (a := a) hs.2 (by simpa using ha) (fun j hj => by simpa using h1 (j + 1) (by omega)) (by simpa using h2)
   simp only [Im.lows, Im.highs] at i1 i2 ⊢
   simp [h0, i1, i2]
theorem Four.all {w : World} {X : Nat} {a b c : Int} {v : Value} (h : Four w X a b c v) (a' b' c' : Int) (v' : Value) : Four ((((w.setCell ⟨X, 0, none⟩ (.int .i64 a')).setCell ⟨X, 1, none⟩ (.int .i64 b')).setCell ⟨X, 2, none⟩ (.int .i64 c')).setCell ⟨X, 3, none⟩ v') X a' b' c' v' := by
 obtain ⟨⟨h0, h1, h2, h3⟩, f⟩ := h
 have f0 := f 0
 have f1 := f 1
 have f2 := f 2
 have f3 := f 3
 refine ⟨⟨by go_simp, by go_simp, by go_simp, by go_simp⟩, fun i => ?_⟩
 rw [World.frozen?_setCell, World.frozen?_setCell, World.frozen?_setCell, World.frozen?_setCell]; exact f i
theorem give_lens (l : List Tm.Tg) : ∀ n, (Im.give l n).1.length + (Im.give l n).2.2.length = l.length := by
 induction l with
 | nil => intro n; rfl
 | cons t r ih =>
  intro n
  unfold Im.give
  split
  ·have := ih (n + 1)
   simp only [List.length_cons]
   omega
  ·rfl
theorem rgive_mem (l : List Tm.Tg) : ∀ n, ∀ u ∈ (Im.give l n).1, u ∈ l := by
 induction l with
 | nil => intro n u hu; cases hu
 | cons t r ih =>
  intro n u hu
  unfold Im.give at hu
  split at hu
  ·exact List.mem_cons_of_mem _ (ih _ u hu)
  ·exact hu
structure Mid (win : Int) (x : Im.Wt) (t : Tm.Tg) (nxc : Int) (hc os : List Tm.Tg) : Prop where
 n0 : 0 ≤ nxc ∧ nxc ≤ 2147483649
 asc : Im.Asc nxc hc
 len : hc.length ≤ 16 ∧ os.length ≤ 16
 sq : nxc ≤ t.sq
 yes : Im.dup t.sq hc = true → hc = x.held ∧ x.ep = t.ep ∧ nxc = x.nx ∧ Im.take win x t = (x, [])
 no : Im.dup t.sq hc = false → Im.take win x t = Im.settle win x.st t.ep nxc (Im.lows t.sq hc ++ t :: Im.highs t.sq hc) os
 oks : ∀ u ∈ hc, 0 ≤ u.sq ∧ u.sq ≤ 2147483648
theorem mid_new {win : Int} {x : Im.Wt} {t : Tm.Tg} (hx : Im.WOk win x) (hw : win ≤ 16) (ht : t.ok = true) (h : x.ep < t.ep) : Mid win x t 0 [] x.held := by
 have := Im.sq_le ht
 have hl := hx.len
 refine ⟨by omega, trivial, ⟨by simp, by omega⟩, by omega, fun h => by simp [Im.dup, Im.highs] at h, fun _ => ?_, fun u hu => by cases hu⟩
 unfold Im.take
 rw [if_neg (by omega), if_pos h]
 simp [Im.lows, Im.highs]
theorem mid_same {win : Int} {x : Im.Wt} {t : Tm.Tg} (hx : Im.WOk win x) (hw : win ≤ 16) (h : x.ep = t.ep) (h2 : x.nx ≤ t.sq) : Mid win x t x.nx x.held [] := by
 have hl := hx.len
 refine ⟨hx.n0, hx.asc, ⟨by omega, by simp⟩, h2, fun hd => ⟨rfl, h, rfl, ?_⟩, fun hd => ?_, fun u hu => Im.sq_le (hx.all u hu).1⟩
 ·unfold Im.take; rw [if_neg (by omega), if_neg (by omega), if_pos hd]
 ·unfold Im.take; rw [if_neg (by omega), if_neg (by omega), if_neg (by rw [hd]; simp), h]
set_option maxRecDepth 100000 in
set_option maxHeartbeats 4000000 in
theorem rtake_any (L : List Nat) (win : Int) (x : Im.Wt) (t : Tm.Tg) (H V : Sl) (w : World) (hL : ∀ b ∈ L, b < w.heap.size) (hH : TL w L H x.held) (hV : VI w L V t.vs) (hx : Im.WOk win x) (ht : t.ok = true) (hw : 0 ≤ win ∧ win ≤ 16) :
  Calls Tryz.prog 38 #[ev x.st x.ep x.nx H, tv t V.v, .int .i64 win] w (TakeE L (Im.take win x t) w) := by
 have HH := Hi hH
 have HV := Hi hV
 have HX := Hi hx
 have HT := Hi ht
 have HLL := Hi hL
 have hsq := Im.sq_le ht
 have hnx := hx.n0
 have hhl := hx.len
 clear hH hV hx ht hL
 obtain ⟨st, ep, nx, held⟩ := x
 obtain ⟨tst, tep, tsq, ttm, tkd, tvs⟩ := t
 obtain ⟨Ha, Hn, Hc⟩ := H
 obtain ⟨Va, Vn, Vc⟩ := V
 dsimp only at hsq hnx hhl
 have hHn : held.length = Hn := HH.out.len
 have HHN := Hi hHn
 dsimp only [ev, tv, Sl.v]
 obtain ⟨X, hX⟩ : ∃ X, X = w.heap.size := ⟨_, rfl⟩
 obtain ⟨w1, hw1⟩ : ∃ w1, w1 = w.alloc (Obj.cells #[.int .i64 st, .int .i64 ep, .int .i64 nx, .slice Ha Hn Hc] 32) := ⟨_, rfl⟩
 obtain ⟨w2, hw2⟩ : ∃ w2, w2 = w1.alloc (Wr.tcells ⟨tst, tep, tsq, ttm, tkd, tvs⟩ (.slice Va Vn Vc)) := ⟨_, rfl⟩
 obtain ⟨w3, hw3⟩ : ∃ w3, w3 = w2.alloc (Obj.cells #[.int .i64 0, .int .i64 0, .int .i64 0, .slice none 0 0] 32) := ⟨_, rfl⟩
 have z1 : w1.heap.size = X + 1 := by subst hw1; subst hX; simp
 have z2 : w2.heap.size = X + 2 := by subst hw2; simp [z1]
 have z2' : w2.heap.size = X + 1 + 1 := z2
 have z3 : w3.heap.size = X + 3 := by subst hw3; simp [z2]
 have g1 : w.grownBy w1 none := by subst hw1; exact grown_alloc _ _ _
 have g2 : w1.grownBy w2 none := by subst hw2; exact grown_alloc _ _ _
 have g3 : w2.grownBy w3 none := by subst hw3; exact grown_alloc _ _ _
 have G0 := Hi (grown_trans g1 (grown_trans g2 g3))
 have FX := Hi (show Four w3 X st ep nx (.slice Ha Hn Hc) from (show Four w1 X _ _ _ _ by subst hw1; subst hX; exact four_made _ _ _ _ _ _).grown (grown_trans g2 g3))
 have SY := Hi (show Wr.Six w3 (X + 1) ⟨tst, tep, tsq, ttm, tkd, tvs⟩ (.slice Va Vn Vc) from (show Wr.Six w2 (X + 1) _ _ by subst hw2; rw [← z1]; exact Wr.Six.made _ _ _).grown g3 (by simp))
 have FZ := Hi (show Four w3 (X + 1 + 1) 0 0 0 (.slice none 0 0) by subst hw3; rw [← z2']; exact four_made _ _ _ _ _ _)
 obtain ⟨L2, hL2⟩ : ∃ L2, L2 = X :: (X + 1) :: (X + 1 + 1) :: L := ⟨_, rfl⟩
 have HL2 := Hi (show (∀ b ∈ L, b ∈ L2) ∧ X ∈ L2 ∧ X + 1 ∈ L2 ∧ X + 1 + 1 ∈ L2 by subst hL2; exact ⟨fun b hb => List.mem_cons_of_mem _ (List.mem_cons_of_mem _ (List.mem_cons_of_mem _ hb)), by simp, by simp, by simp⟩)
 have hnew : ∀ b ∈ L2, b ∈ L ∨ w.heap.size ≤ b := fun b hb => by
  subst hL2
  rcases List.mem_cons.1 hb with rfl | hb
  ·right; omega
  ·rcases List.mem_cons.1 hb with rfl | hb
   ·right; omega
   ·rcases List.mem_cons.1 hb with rfl | hb
    ·right; omega
    ·exact .inl hb
 have HL3 := Hi (show ∀ b ∈ L2, b < w3.heap.size from fun b hb => by
  subst hL2
  rcases List.mem_cons.1 hb with rfl | hb
  ·omega
  ·rcases List.mem_cons.1 hb with rfl | hb
   ·omega
   ·rcases List.mem_cons.1 hb with rfl | hb
    ·omega
    ·have := HLL.out b hb; omega)
 have HH3 := Hi (HH.out.step (M := []) (Chg.of0 G0.out) (fun _ h => by cases h) hnew)
 have HV3 := Hi (HV.out.step (L' := L2) (Chg.of0 G0.out) hnew)
 have HZX := Hi (show w3.heap.size = X + 3 ∧ w.heap.size = X from ⟨z3, hX.symm⟩)
 unfold Wr.tcells at hw2
 try dsimp only at hw2
 go_enter Tryz.func38, Tryz.ntmps38
 go_upto_region 2 with fail
 rw [← hw1, ← hw2, ← hw3]
 simp only [← hX]
 try simp only [z1, z2']
 clear hX hw1 hw2 hw3 g1 g2 g3 z1 z2 z2' z3 hL2 hnew HH HV HLL hHn
 obtain ⟨⟨c0, c1, c2, c3⟩, cF⟩ := FX.out
 obtain ⟨⟨t0, t1, t2, t3, t4, t5⟩, -⟩ := SY.out
 obtain ⟨⟨z0, z1, z2, z3⟩, zF⟩ := FZ.out
 dsimp only at t0 t1 t2 t3 t4 t5
 have OLD := Hi (fun (h : tep < ep ∨ tep = ep ∧ tsq < nx) (wz : World) (gz : Chg [X + 1 + 1] w3 wz) => show TakeE L (Im.take win ⟨st, ep, nx, held⟩ ⟨tst, tep, tsq, ttm, tkd, tvs⟩) w (.returned (.tuple #[ev st ep nx ⟨Ha, Hn, Hc⟩, Sl.v nilS])) wz from by
  rw [Im.take_older h]
  refine ⟨⟨Ha, Hn, Hc⟩, nilS, rfl, ?_, TL.nil _ _ _ _ (by omega), gz.grown G0.out (fun b hb => by rw [List.mem_singleton] at hb; have := HZX.out; omega)⟩
  exact HH3.out.step gz (fun b hb => by rw [List.mem_singleton] at hb; subst hb; exact .inl HL2.out.2.2.2) (fun b hb => .inl (HL2.out.1 b hb)))
 have y0 := zF 0
 have y1 := zF 1
 have y2 := zF 2
 have y3 := zF 3
 clear zF
 by_cases hA : tep < ep ∨ tep = ep ∧ tsq < nx
 ·have FIN := Hi (OLD.out hA)
  clear OLD
  rcases hA with h1 | ⟨h1, h2⟩
  ·have b1 : decide (tep < ep) = true := by simpa using h1
   go_wp2_with fail
   try simp only [Exit.inBlock, Exit.then]
   refine bodyPost_ret (v := .tuple #[ev st ep nx ⟨Ha, Hn, Hc⟩, Sl.v nilS]) ?hr rfl ?hE
   case hr =>
    rw [results_cell1 rfl]
    go_simp
    first | rfl | exact ⟨rfl, rfl⟩
   case hE =>
    exact FIN.out _ (((((Chg.refl _ w3).set ⟨X + 1 + 1, 0, none⟩ (.int .i64 st) (by simp)).set ⟨X + 1 + 1, 1, none⟩ (.int .i64 ep) (by simp)).set ⟨X + 1 + 1, 2, none⟩ (.int .i64 nx) (by simp)).set ⟨X + 1 + 1, 3, none⟩ (.slice Ha Hn Hc) (by simp))
  ·subst h1
   have b1 : decide (tep < tep) = false := by simp
   have b2 : decide (tsq < nx) = true := by simpa using h2
   go_wp2_with fail
   try simp only [Exit.inBlock, Exit.then]
   refine bodyPost_ret (v := .tuple #[ev st tep nx ⟨Ha, Hn, Hc⟩, Sl.v nilS]) ?hr rfl ?hE
   case hr =>
    rw [results_cell1 rfl]
    go_simp
    first | rfl | exact ⟨rfl, rfl⟩
   case hE =>
    exact FIN.out _ (((((Chg.refl _ w3).set ⟨X + 1 + 1, 0, none⟩ (.int .i64 st) (by simp)).set ⟨X + 1 + 1, 1, none⟩ (.int .i64 tep) (by simp)).set ⟨X + 1 + 1, 2, none⟩ (.int .i64 nx) (by simp)).set ⟨X + 1 + 1, 3, none⟩ (.slice Ha Hn Hc) (by simp))
 ·clear OLD
  have hA1 : ep ≤ tep := by omega
  have hA2 : ep = tep → nx ≤ tsq := fun e => by omega
  have HA := Hi (show ep ≤ tep ∧ (ep = tep → nx ≤ tsq) from ⟨hA1, hA2⟩)
  clear hA hA1 hA2
  go_cut [28] (fun v wc => v = .bool false ∧ Hid (wc = w3))
  case first =>
   rcases Int.lt_or_le ep tep with h | h
   ·have b1 : decide (tep < ep) = false := by simp; omega
    have b2 : (tep == ep) = false := by simp; omega
    go_wp2
    go_meet
    case rel => exact ⟨rfl, rfl⟩
   ·obtain rfl : ep = tep := by have := HA.out.1; omega
    have h2 := HA.out.2 rfl
    have b1 : decide (ep < ep) = false := by simp
    have b2 : decide (tsq < nx) = false := by simp; omega
    go_wp2
    go_meet
    case rel => exact ⟨rfl, rfl⟩
  case rest =>
   obtain ⟨rfl, hwc⟩ := hcut
   obtain rfl := hwc.out
   clear hwc
   have f0 := cF 0
   have f1 := cF 1
   have f2 := cF 2
   have f3 := cF 3
   clear cF
   go_upto_if 34 with fail
   go_cut [8] (fun o wd => ∃ (O Hd : Sl) (nxc : Int) (hc os : List Tm.Tg), o = O.v ∧ Hid (w.grownBy wd none) ∧ Hid (Four wd X st tep nxc Hd.v) ∧ Hid (Wr.Six wd (X + 1) (⟨tst, tep, tsq, ttm, tkd, tvs⟩ : Tm.Tg) (.slice Va Vn Vc)) ∧ Hid (Four wd (X + 1 + 1) 0 0 0 (.slice none 0 0)) ∧ Hid (TO (X + 3) wd (L2 ++ O.blk.toList) O os) ∧ Hid (TL wd (L2 ++ O.blk.toList) Hd hc) ∧ Hid (VI wd (L2 ++ O.blk.toList) ⟨Va, Vn, Vc⟩ tvs) ∧ Hid (Mid win ⟨st, ep, nx, held⟩ (⟨tst, tep, tsq, ttm, tkd, tvs⟩ : Tm.Tg) nxc hc os) ∧ X + 3 ≤ wd.heap.size)
   case first =>
    by_cases h : ep < tep
    ·have bd : decide (ep < tep) = true := by simpa using h
     have MI := Hi (mid_new HX.out hw.2 HT.out h)
     obtain ⟨xs, hxs, hcr, hvi, hxl⟩ := HH3.out.list
     dsimp only at hxs hxl
     have HXS := Hi hxs
     have HCR := Hi hcr
     have HVI := Hi hvi
     obtain ⟨I, hI, hz, hsz, hby⟩ := parts_t
     have HLEN := Hi (show (f6 xs).length = Hn * 6 by rw [f6_len, hxl])
     have hH16 : Hn ≤ 16 := by have := HHN.out; omega
     have HB1 := Hi (show (0 + Hn) * 64 ≤ 140737488355328 by omega)
     have HB2 := Hi (show 0 + Hn ≤ 1000000000 by omega)
     have HBS := Hi (show X + 3 ≤ wc.heap.size from by have := HZX.out.1; omega)
     have HON := Hi (or_nil (X + 3) wc 28 6)
     clear hxs hcr hvi hxl
     go_upto_region 6 with (first
      | (at_builtin
         refine wpList_appV rfl _ _ 30 rfl (S := nilS) (V := ⟨Ha, Hn, Hc⟩) Tryz.underlying30 hI hz hsz hby (by rfl) (by omega) rfl rfl HON.out HBS.out HLEN.out HCR.out (f6_one xs) HB1.out HB2.out ?_
         intro r w5 hrn hr hg5 hrb
         clear hrn)
      | fail)
     have g5 : wc.grownBy w5 none := hg5
     have hrn : ∀ b, r.blk = some b → b = wc.heap.size := fun b hb => by
      rcases hrb b hb with e | e
      ·cases e
      ·exact e
     clear hrb hg5
     have HG5 := Hi g5
     have HR5 := Hi hr
     have HRB := Hi hrn
     clear hr hrn
     have c0 := g5.cell c0 (by simp)
     have c1 := g5.cell c1 (by simp)
     have c2 := g5.cell c2 (by simp)
     have c3 := g5.cell c3 (by simp)
     have t1 := g5.cell t1 (by simp)
     have FX5 := Hi (FX.out.grown g5)
     have SY5 := Hi (SY.out.grown g5 (by simp))
     have FZ5 := Hi (FZ.out.grown g5)
     have q0 := FX5.out.2 0
     have q1 := FX5.out.2 1
     have q2 := FX5.out.2 2
     have q3 := FX5.out.2 3
     clear g5 t0 t2 t3 t4 t5 z0 z1 z2 z3 y0 y1 y2 y3 f0 f1 f2 f3
     go_wp2
     go_meet
     case rel =>
      have gs := (((((Chg.refl [X] w5).set ⟨X, 0, none⟩ (.int .i64 st) (by simp)).set ⟨X, 1, none⟩ (.int .i64 tep) (by simp)).set ⟨X, 2, none⟩ (.int .i64 0) (by simp)).set ⟨X, 3, none⟩ (.slice none 0 0) (by simp))
      have F6 := FX5.out.all st tep 0 (.slice none 0 0)
      generalize ((((w5.setCell ⟨X, 0, none⟩ (.int .i64 st)).setCell ⟨X, 1, none⟩ (.int .i64 tep)).setCell ⟨X, 2, none⟩ (.int .i64 0)).setCell ⟨X, 3, none⟩ (.slice none 0 0)) = w6 at *
      have hLr : ∀ b ∈ L2 ++ r.blk.toList, b ∈ L2 ∨ wc.heap.size ≤ b := fun b hb => by
       rcases List.mem_append.1 hb with hb | hb
       ·exact .inl hb
       ·right; have := HRB.out b (by simpa using hb); omega
      have hXm : ∀ b ∈ [X], b ∈ L2 ++ r.blk.toList ∨ w5.heap.size ≤ b := fun b hb => by rw [List.mem_singleton] at hb; subst hb; exact .inl (List.mem_append_left _ HL2.out.2.1)
      have T5 : TO (X + 3) w5 (L2 ++ r.blk.toList) r held := ⟨⟨xs, HXS.out, by simpa using HR5.out, fun x hx => (HVI.out x hx).step (Chg.of0 HG5.out) hLr⟩⟩
      have T6 := T5.step gs (fun b hb hm => by rw [List.mem_singleton] at hm; have := HRB.out b hb; have := HZX.out.1; omega) hXm (fun _ hb => .inl hb)
      have V5 : VI w5 (L2 ++ r.blk.toList) ⟨Va, Vn, Vc⟩ tvs := HV3.out.step (Chg.of0 HG5.out) hLr
      have V6 := V5.step ((Chg.refl _ w5).then gs hXm) (fun _ hb => .inl hb)
      exact ⟨r, nilS, 0, [], held, rfl, gs.grown (grown_trans G0.out HG5.out) (fun b hb => by rw [List.mem_singleton] at hb; have := HZX.out.2; omega), F6, SY5.out.grown (Chg.one gs) (fun e => by have e := Option.some.inj e; omega), FZ5.out.step gs (fun hm => by rw [List.mem_singleton] at hm; omega), T6, TL.nil _ _ _ _ (by omega), V6, MI, by have h1 := HG5.out.size; have h2 := gs.size; have := HZX.out.1; omega⟩
    ·obtain rfl : ep = tep := by have := HA.out.1; omega
     have bd : decide (ep < ep) = false := by simp
     have MI := Hi (mid_same (t := ⟨tst, ep, tsq, ttm, tkd, tvs⟩) HX.out hw.2 rfl (HA.out.2 rfl))
     go_wp2
     go_meet
     case rel => exact ⟨nilS, ⟨Ha, Hn, Hc⟩, nx, held, [], rfl, G0, FX, SY, FZ, ⟨⟨[], rfl, or_nil _ _ _ _, (fun x hx => by cases hx)⟩⟩, Hi (HH3.out.same (fun b hb => by simpa [nilS, Sl.blk] using hb)), Hi (HV3.out.step (Chg.refl _ _) (fun b hb => .inl (by simpa [nilS, Sl.blk] using hb))), MI, by have := HZX.out.1; omega⟩
   case rest =>
    obtain ⟨O, ⟨Da, Dn, Dc⟩, nxc, hc, os, rfl, GD, FX, SY, FZ, TOD, TLD, VID, MI, hwd⟩ := hcut
    clear HA c0 c1 c2 c3 t0 t1 t2 t3 t4 t5 z0 z1 z2 z3 y0 y1 y2 y3 f0 f1 f2 f3
    have hdl : hc.length = Dn := TLD.out.len
    have hd16 : Dn ≤ 16 := by have := MI.out.len.1; omega
    have HDL := Hi hdl
    clear hdl
    dsimp only [Sl.v] at FX
    obtain ⟨Oa, On, Oc⟩ := O
    dsimp only [Sl.v]
    go_upto_block 0 with fail
    go_cut [9] (fun v wd => ∃ a : Nat, v = .int .i64 a ∧ a ≤ Dn ∧ Hid (wc.grownBy wd none) ∧ Hid (Im.lows tsq hc = hc.take a ∧ Im.highs tsq hc = hc.drop a))
    case first =>
     go_wp2_with fail
     go_loopw [9] (fun v wr => ∃ a : Nat, v = .int .i64 a ∧ a ≤ Dn ∧ Hid (wc.grownBy wr none) ∧ Hid (∀ j, j < a → (hc.getD j Tm.zero).sq < tsq)) (fun v _ => Dn - (intOf v).toNat)
     case atStart => exact ⟨0, rfl, by omega, grown_refl _ _, fun j hj => absurd hj (by omega)⟩
     case round =>
      obtain ⟨a, rfl, ha, GR, LW⟩ := hrel
      obtain ⟨⟨c0, c1, c2, c3⟩, -⟩ := FX.out.grown GR.out
      obtain ⟨⟨t0, t1, t2, t3, t4, t5⟩, -⟩ := SY.out.grown GR.out (by simp)
      dsimp only at t0 t1 t2 t3 t4 t5
      by_cases hlt : a < Dn
      ·obtain ⟨b, off, ⟨Wa, Wn, Wc⟩, hDa, -, -, hcc⟩ := (TLD.out.grown GR.out).at_ a hlt
       dsimp only at hDa
       subst hDa
       obtain ⟨d0, d1, d2, d3, d4, d5⟩ := six_of (o := off + a * 6) (fun j u hu => by rw [Nat.add_assoc]; exact hcc j u hu)
       dsimp only at d2
       obtain ⟨y, hy⟩ : ∃ y, y = (hc.getD a Tm.zero).sq := ⟨_, rfl⟩
       rw [← hy] at d2
       have HY := Hi hy
       clear hy hcc d0 d1 d3 d4 d5
       have b1 : decide ((a : Int) < (Dn : Int)) = true := by simp; omega
       by_cases hq : y < tsq
       ·have b2 : decide (y < tsq) = true := by simpa using hq
        have L2' := Hi (fun j (hj : j < a + 1) => show (hc.getD j Tm.zero).sq < tsq from by
         rcases Nat.lt_or_ge j a with e | e
         ·exact LW.out j e
         ·obtain rfl : j = a := by omega
          rw [← HY.out]; exact hq)
        go_wp2_with fail
        go_quiet (fail)
        go_wp2
        go_roundw
        case rel => exact ⟨a + 1, by go_num, by omega, grown_trans GR.out (Wr.grown_drewN wr nq none), L2'⟩
        case measure => simp [intOf]; omega
       ·have b2 : decide (y < tsq) = false := by simpa using hq
        have LA := Hi (lows_at (q := tsq) MI.out.asc (by rw [HDL.out]; exact ha) LW.out (.inr (by rw [← HY.out]; omega)))
        go_wp2_with fail
        go_quiet (fail)
        go_wp2_with fail
        go_meet
        case rel => exact ⟨a, rfl, ha, grown_trans GR.out (Wr.grown_drewN wr nq none), LA⟩
      ·have b1 : decide ((a : Int) < (Dn : Int)) = false := by simp; omega
       have LA := Hi (lows_at (q := tsq) MI.out.asc (by rw [HDL.out]; exact ha) LW.out (.inl (by rw [HDL.out]; omega)))
       go_wp2_with fail
       go_quiet (fail)
       go_wp2_with fail
       go_meet
       case rel => exact ⟨a, rfl, ha, grown_trans GR.out (Wr.grown_drewN wr nq none), LA⟩
    case rest =>
     obtain ⟨a, rfl, ha, GR, LA⟩ := hcut
     have FX := Hi (FX.out.grown GR.out)
     have SY := Hi (SY.out.grown GR.out (by simp))
     have FZ := Hi (FZ.out.grown GR.out)
     have TOD := Hi (TOD.out.grown GR.out)
     have TLD := Hi (TLD.out.grown GR.out)
     have VID := Hi (VID.out.grown GR.out)
     have GD := Hi (grown_trans GD.out GR.out)
     have hwd := Nat.le_trans hwd GR.out.size
     clear GR
     obtain ⟨⟨c0, c1, c2, c3⟩, cF⟩ := FX.out
     obtain ⟨⟨t0, t1, t2, t3, t4, t5⟩, -⟩ := SY.out
     obtain ⟨⟨z0, z1, z2, z3⟩, zF⟩ := FZ.out
     dsimp only at t0 t1 t2 t3 t4 t5
     go_upto_region 10 with fail
     go_cut [77] (fun v wd => v = .bool (Im.dup tsq hc) ∧ Hid (wc.grownBy wd none))
     case first =>
      by_cases hlt : a < Dn
      ·obtain ⟨b, off, ⟨Wa, Wn, Wc⟩, hDa, -, -, hcc⟩ := TLD.out.at_ a hlt
       dsimp only at hDa
       subst hDa
       obtain ⟨d0, d1, d2, d3, d4, d5⟩ := six_of (o := off + a * 6) (fun j u hu => by rw [Nat.add_assoc]; exact hcc j u hu)
       dsimp only at d2
       have hdup : Im.dup tsq hc = decide ((hc.getD a Tm.zero).sq = tsq) := by
        unfold Im.dup
        rw [LA.out.2, drop_cons (by rw [HDL.out]; exact hlt) Tm.zero]
       obtain ⟨y, hy⟩ : ∃ y, y = (hc.getD a Tm.zero).sq := ⟨_, rfl⟩
       rw [← hy] at d2 hdup
       have HD := Hi hdup
       clear hy hcc d0 d1 d3 d4 d5 hdup
       have b1 : decide ((a : Int) < (Dn : Int)) = true := by simp; omega
       go_wp2_with fail
       go_quiet (fail)
       go_wp2
       go_meet
       case rel => exact ⟨by rw [HD.out]; first | rfl | (congr 1; simp [beq_eq_decide]; done) | (congr 1; rw [Bool.eq_iff_iff]; simp), Wr.grown_drewN wc nq none⟩
      ·have b1 : decide ((a : Int) < (Dn : Int)) = false := by simp; omega
       have HD := Hi (show Im.dup tsq hc = false by
        unfold Im.dup
        rw [LA.out.2, List.drop_of_length_le (by rw [HDL.out]; omega)])
       go_wp2_with fail
       go_quiet (fail)
       go_wp2
       go_meet
       case rel => exact ⟨by rw [HD.out], Wr.grown_drewN wc nq none⟩
     case rest =>
      obtain ⟨rfl, GR⟩ := hcut
      have FX := Hi (FX.out.grown GR.out)
      have SY := Hi (SY.out.grown GR.out (by simp))
      have FZ := Hi (FZ.out.grown GR.out)
      have TOD := Hi (TOD.out.grown GR.out)
      have TLD := Hi (TLD.out.grown GR.out)
      have VID := Hi (VID.out.grown GR.out)
      have GD := Hi (grown_trans GD.out GR.out)
      have hwd := Nat.le_trans hwd GR.out.size
      clear GR c0 c1 c2 c3 t0 t1 t2 t3 t4 t5 z0 z1 z2 z3 cF zF
      obtain ⟨⟨c0, c1, c2, c3⟩, cF⟩ := FX.out
      obtain ⟨⟨t0, t1, t2, t3, t4, t5⟩, -⟩ := SY.out
      obtain ⟨⟨z0, z1, z2, z3⟩, zF⟩ := FZ.out
      dsimp only at t0 t1 t2 t3 t4 t5
      rcases Bool.eq_false_or_eq_true (Im.dup tsq hc) with hd | hd
      ·obtain ⟨m1, m2, m3, m4⟩ := MI.out.yes hd
       dsimp only at m1 m2 m3 m4
       subst m1
       subst m3
       have FIN := Hi (fun (wz : World) (gz : Chg [X + 1 + 1] wc wz) => show TakeE L (Im.take win ⟨st, ep, nxc, hc⟩ ⟨tst, tep, tsq, ttm, tkd, tvs⟩) w (.returned (.tuple #[ev st tep nxc ⟨Da, Dn, Dc⟩, Sl.v nilS])) wz from by
        rw [m4]
        refine ⟨⟨Da, Dn, Dc⟩, nilS, by rw [m2], ?_, TL.nil _ _ _ _ (by omega), gz.grown GD.out (fun b hb => by rw [List.mem_singleton] at hb; have := HZX.out.2; omega)⟩
        exact TLD.out.step gz (fun b hb => by rw [List.mem_singleton] at hb; subst hb; exact .inl (List.mem_append_left _ HL2.out.2.2.2)) (fun b hb => .inl (List.mem_append_left _ (HL2.out.1 b hb))))
       rw [hd]
       clear m2 m4 hd
       have y0 := zF 0
       have y1 := zF 1
       have y2 := zF 2
       have y3 := zF 3
       clear zF cF
       go_wp2_with fail
       try simp only [Exit.inBlock, Exit.then]
       refine bodyPost_ret (v := .tuple #[ev st tep nxc ⟨Da, Dn, Dc⟩, Sl.v nilS]) ?hr rfl ?hE
       case hr =>
        rw [results_cell1 rfl]
        go_simp
        first | rfl | exact ⟨rfl, rfl⟩
       case hE =>
        exact FIN.out _ (((((Chg.refl _ wc).set ⟨X + 1 + 1, 0, none⟩ (.int .i64 st) (by simp)).set ⟨X + 1 + 1, 1, none⟩ (.int .i64 tep) (by simp)).set ⟨X + 1 + 1, 2, none⟩ (.int .i64 nxc) (by simp)).set ⟨X + 1 + 1, 3, none⟩ (.slice Da Dn Dc) (by simp))
      ·have HST := Hi (MI.out.no hd)
       rw [LA.out.1, LA.out.2] at HST
       obtain ⟨xs, hxs, hcr, hvi, hxl⟩ := TLD.out.list
       dsimp only at hxs hxl
       have HXS := Hi hxs
       have HCR := Hi hcr
       have HVI := Hi hvi
       have HXL := Hi hxl
       obtain ⟨I, hI, hz, hsz, hby⟩ := parts_t
       have hDC : Dn ≤ Dc := TLD.out.fit.1
       have hac : a ≤ Dc := Nat.le_trans ha hDC
       have hac2 : ¬ Dc < a := by omega
       have had2 : ¬ Dn < a := by omega
       clear hxs hcr hvi hxl c0 c1 c2 c3 t0 t1 t2 t3 t4 t5 z0 z1 z2 z3 cF zF
       rw [hd]
       clear hd
       obtain ⟨⟨c0, c1, c2, c3⟩, -⟩ := FX.out
       go_upto_region 12 with fail
       clear c0 c1 c2 c3
       go_cut [] (fun wx => ∃ R : Sl, Hid (Four wx X st tep nxc R.v) ∧ Hid (TL wx (L2 ++ (Sl.blk ⟨Oa, On, Oc⟩).toList) R (hc.take a ++ (⟨tst, tep, tsq, ttm, tkd, tvs⟩ : Tm.Tg) :: hc.drop a)) ∧ Hid (Chg [X] wc wx))
       case first =>
        have gd := Wr.grown_drew wc none
        refine wp_region_L 15 (fun w' => w'.cell? ⟨X, 3, none⟩ = some (.slice Da Dn Dc) ∧ w'.cell? ⟨X + 1, 0, none⟩ = some (.int .i64 tst) ∧ w'.cell? ⟨X + 1, 1, none⟩ = some (.int .i64 tep) ∧ w'.cell? ⟨X + 1, 2, none⟩ = some (.int .i64 tsq) ∧ w'.cell? ⟨X + 1, 3, none⟩ = some (.int .i64 ttm) ∧ w'.cell? ⟨X + 1, 4, none⟩ = some (.int .i64 tkd) ∧ w'.cell? ⟨X + 1, 5, none⟩ = some (.slice Va Vn Vc)) (by kernel_rfl) ?_ (fun hHeld => ?_)
        ·obtain ⟨u0, u1, u2, u3, u4, u5⟩ := (SY.out.grown gd (by simp)).1
         exact ⟨(FX.out.grown gd).1.2.2.2, u0, u1, u2, u3, u4, u5⟩
        try simp only [Act.put, lsA, lsB, lsC]
        have G := Hi gd
        clear gd
        generalize wc.drew = wd at *
        obtain ⟨bz, hbz⟩ : ∃ b, b = wd.heap.size := ⟨_, rfl⟩
        have GB := Hi (show wd.grownBy wd none from grown_refl _ _)
        have HBZ := Hi (show wc.heap.size ≤ bz ∧ bz = wd.heap.size from ⟨by have := G.out.size; omega, hbz⟩)
        have HLB := Hi (show ∀ b ∈ L2 ++ (Sl.blk ⟨Oa, On, Oc⟩).toList, b < bz from fun b hb => by
         have h1 := HBZ.out.1
         rcases List.mem_append.1 hb with hb | hb
         ·have := HL3.out b hb; have := HZX.out.1; omega
         ·have := (TOD.out.blk b (by simpa using hb)).2; omega)
        obtain ⟨ad, had0, had1⟩ : ∃ ad : Option Addr, (Da = none → ad = none) ∧ ∀ q, Da = some q → (if Dc = a then (some q : Option Addr) else some (q.add (a * 6))) = ad := by
         rcases Da with _ | q
         ·exact ⟨none, fun _ => rfl, fun q e => by cases e⟩
         ·exact ⟨_, (fun e => by cases e), fun q' e => by injection e with e; subst e; rfl⟩
        have HAN := Hi had0
        have HAD := Hi had1
        have HDR := Hi (show ∀ W, wc.grownBy W none → CR W ⟨ad, Dn - a, Dc - a⟩ (f6 (xs.drop a)) from fun W g => by
         by_cases h0 : Dn = 0
         ·have : xs.drop a = [] := List.drop_of_length_le (by have := HXL.out; omega)
          rw [this]
          exact fun j u hu => by simp [f6] at hu
         ·obtain ⟨b, off, V, hDa, -⟩ := TLD.out.at_ 0 (by dsimp only; omega)
          dsimp only at hDa
          have e4 := HAD.out _ hDa
          have h5 := HCR.out
          rw [hDa] at h5
          refine cr_drop (c := Dc) (h5.grown g) HXL.out (by omega) ?_
          rw [← e4, add_lit])
        have HL5 := Hi (show (f6 (xs.take a)).length = a * 6 by rw [f6_len, List.length_take, HXL.out]; omega)
        have HL13 := Hi (show (f6 (xs.drop a)).length = (Dn - a) * 6 by rw [f6_len, List.length_drop, HXL.out])
        clear had0 had1 hbz
        refine takeLL (i := 1) (v := ?_) rfl (by kernel_rfl) (by kernel_rfl) (by kernel_rfl) (by kernel_rfl) (by kernel_rfl) (fun _ _ _ h => h) (Or.inl ⟨by rfl, ?_⟩) (by assumption) ?_
        rotate_left 1
        ·intro w hSw; obtain ⟨s3, t0, t1, t2, t3, t4, t5⟩ := hSw; first | (go_simp; done) | (go_simp; with_reducible rfl)
        try simp only [Act.put, lsA, lsB, lsC]
        refine takeLL (i := 2) (v := ?_) rfl (by kernel_rfl) (by kernel_rfl) (by kernel_rfl) (by kernel_rfl) (by kernel_rfl) (fun _ _ _ h => h) (Or.inl ⟨by rfl, ?_⟩) (by assumption) ?_
        rotate_left 1
        ·intro w hSw; obtain ⟨s3, t0, t1, t2, t3, t4, t5⟩ := hSw; first | (go_simp; done) | (go_simp; with_reducible rfl)
        try simp only [Act.put, lsA, lsB, lsC]
        refine takeLL (i := 3) (v := ?_) rfl (by kernel_rfl) (by kernel_rfl) (by kernel_rfl) (by kernel_rfl) (by kernel_rfl) (fun _ _ _ h => h) (Or.inl ⟨by rfl, ?_⟩) (by assumption) ?_
        rotate_left 1
        ·intro w hSw; obtain ⟨s3, t0, t1, t2, t3, t4, t5⟩ := hSw; first | (go_simp; done) | (go_simp; with_reducible rfl)
        try simp only [Act.put, lsA, lsB, lsC]
        refine takeLL (i := 4) (v := .slice Da a Dc) rfl (by kernel_rfl) (by kernel_rfl) (by kernel_rfl) (by kernel_rfl) (by kernel_rfl) (fun _ _ _ h => h) (Or.inl ⟨by rfl, ?_⟩) (by assumption) ?_
        ·intro w hSw; obtain ⟨s3, t0, t1, t2, t3, t4, t5⟩ := hSw
         rcases Da with _ | ⟨b, off, sp⟩
         ·first | (go_simp; done) | (go_simp; with_reducible rfl)
         ·have hz0 : (⟨b, off, sp⟩ : Addr).add (0 * 6) = ⟨b, off, sp⟩ := rfl
          first | (go_simp; done) | (go_simp; rw [hz0])
        try simp only [Act.put, lsA, lsB, lsC]
        refine takeLL (i := 6) (v := ?_) rfl (by kernel_rfl) (by kernel_rfl) (by kernel_rfl) (by kernel_rfl) (by kernel_rfl) (fun _ _ _ h => h) (Or.inl ⟨by rfl, ?_⟩) (by assumption) ?_
        rotate_left 1
        ·intro w hSw; obtain ⟨s3, t0, t1, t2, t3, t4, t5⟩ := hSw; first | (go_simp; done) | (go_simp; with_reducible rfl)
        try simp only [Act.put, lsA, lsB, lsC]
        refine takeLL (i := 9) (v := ?_) rfl (by kernel_rfl) (by kernel_rfl) (by kernel_rfl) (by kernel_rfl) (by kernel_rfl) (fun _ _ _ h => h) (Or.inl ⟨by rfl, ?_⟩) (by assumption) ?_
        rotate_left 1
        ·intro w hSw; obtain ⟨s3, t0, t1, t2, t3, t4, t5⟩ := hSw; first | (go_simp; done) | (go_simp; with_reducible rfl)
        try simp only [Act.put, lsA, lsB, lsC]
        refine takeLL (i := 10) (v := ?_) rfl (by kernel_rfl) (by kernel_rfl) (by kernel_rfl) (by kernel_rfl) (by kernel_rfl) (fun _ _ _ h => h) (Or.inl ⟨by rfl, ?_⟩) (by assumption) ?_
        rotate_left 1
        ·intro w hSw; obtain ⟨s3, t0, t1, t2, t3, t4, t5⟩ := hSw; first | (go_simp; done) | (go_simp; with_reducible rfl)
        try simp only [Act.put, lsA, lsB, lsC]
        refine takeLL (i := 11) (v := ?_) rfl (by kernel_rfl) (by kernel_rfl) (by kernel_rfl) (by kernel_rfl) (by kernel_rfl) (fun _ _ _ h => h) (Or.inl ⟨by rfl, ?_⟩) (by assumption) ?_
        rotate_left 1
        ·intro w hSw; obtain ⟨s3, t0, t1, t2, t3, t4, t5⟩ := hSw; first | (go_simp; done) | (go_simp; with_reducible rfl)
        try simp only [Act.put, lsA, lsB, lsC]
        refine takeLL (i := 12) (v := .slice ad (Dn - a) (Dc - a)) rfl (by kernel_rfl) (by kernel_rfl) (by kernel_rfl) (by kernel_rfl) (by kernel_rfl) (fun _ _ _ h => h) (Or.inl ⟨by rfl, ?_⟩) (by assumption) ?_
        ·intro w hSw; obtain ⟨s3, t0, t1, t2, t3, t4, t5⟩ := hSw
         rcases hDa : Da with _ | q
         ·have e4 := HAN.out hDa; subst hDa; subst e4; first | (go_simp; done) | (go_simp; with_reducible rfl)
         ·have e4 := HAD.out q hDa; subst hDa; rw [← e4]; first | (go_simp; done) | (go_simp; with_reducible rfl)
        try simp only [Act.put, lsA, lsB, lsC]
        refine wpAnyL_ready (rs := [0, 7]) (by kernel_rfl) (by simp) (consLL rfl (by rfl) (fun K hK => ?_) (consLL rfl (by rfl) (fun K hK => ?_) AllReadyL.nil))
        ·go_simp
         obtain ⟨B0, hB0⟩ : ∃ b, b = wd.heap.size := ⟨_, rfl⟩
         obtain ⟨p1, hp1⟩ : ∃ z, z = wd.alloc (Obj.cells #[] 28) := ⟨_, rfl⟩
         rw [← hp1, ← hB0]
         have gn : wd.grownBy p1 none := by subst hp1; exact grown_alloc _ _ _
         have R0 := Hi (show OR bz p1 28 6 ⟨some ⟨B0, 0, none⟩, 0, 0⟩ [] from by subst hp1; subst hB0; exact (or_lit0 wd).base_ (by have := GB.out.size; have := HBZ.out.2; omega))
         have L0 := Hi (show B0 < p1.heap.size from (R0.out.blk B0 rfl).2)
         have GB := Hi (grown_trans GB.out gn)
         have G := Hi (grown_trans G.out gn)
         clear gn hp1 hB0
         refine hK.out _ _ ?_ (fun hHeld => ?_)
         ·obtain ⟨u0, u1, u2, u3, u4, u5⟩ := (SY.out.grown G.out (by simp)).1
          exact ⟨(FX.out.grown G.out).1.2.2.2, u0, u1, u2, u3, u4, u5⟩
         clear hK K
         try simp only [Act.put, lsA, lsB, lsC]
         refine wpAnyL_ready (rs := [5, 7]) (by kernel_rfl) (by simp) (consLL rfl (by rfl) (fun K hK => ?_) (consLL rfl (by rfl) (fun K hK => ?_) AllReadyL.nil))
         ·have HC5 := Hi (cr_take (c' := Dc) (a := a) (HCR.out.grown G.out))
          have HZ5 := Hi (show bz ≤ p1.heap.size by have := GB.out.size; have := HBZ.out.2; omega)
          refine step_appV rfl (.tmp 79) (.tmp 83) 30 rfl (S := ⟨some ⟨B0, 0, none⟩, 0, 0⟩) (V := ⟨Da, a, Dc⟩) Tryz.underlying30 hI hz hsz hby (by rfl) (by omega) rfl rfl R0.out HZ5.out HL5.out HC5.out (f6_one _) (by dsimp only; omega) (by dsimp only; omega) ?_
          intro r p2 hrn hr gr hrb
          have cn : Chg [B0] p1 p2 := Chg.of gr (fun b hb => by injection hb with hb; subst hb; exact List.mem_singleton_self _)
          have R5 := Hi (show OR bz p2 28 6 r (f6 (xs.take a)) from hr)
          have HRN := Hi (show r.n = a by rw [hrn]; dsimp only; omega)
          have h0b := (R0.out.blk B0 rfl).1
          have GB := Hi (cn.grown GB.out (fun b hb => by rw [List.mem_singleton] at hb; have := HBZ.out.2; omega))
          have G := Hi (cn.grown G.out (fun b hb => by rw [List.mem_singleton] at hb; have := HBZ.out; omega))
          clear hrn hr gr hrb cn h0b HC5 HZ5
          obtain ⟨R5a, R5n, R5c⟩ := r
          dsimp only [Sl.v]
          refine hK.out _ _ ?_ (fun hHeld => ?_)
          ·obtain ⟨u0, u1, u2, u3, u4, u5⟩ := (SY.out.grown G.out (by simp)).1
           exact ⟨(FX.out.grown G.out).1.2.2.2, u0, u1, u2, u3, u4, u5⟩
          clear hK K
          try simp only [Act.put, lsA, lsB, lsC]
          refine wpAnyL_ready (rs := [7]) (by kernel_rfl) (by simp) (consLL rfl (by rfl) (fun K hK => ?_) AllReadyL.nil)
          go_simp
          obtain ⟨B7, hB7⟩ : ∃ b, b = p2.heap.size := ⟨_, rfl⟩
          obtain ⟨p3, hp3⟩ : ∃ z, z = p2.alloc (Obj.cells #[.int .i64 tst, .int .i64 tep, .int .i64 tsq, .int .i64 ttm, .int .i64 tkd, .slice Va Vn Vc] 28) := ⟨_, rfl⟩
          rw [← hp3, ← hB7]
          have gn : p2.grownBy p3 none := by subst hp3; exact grown_alloc _ _ _
          have R5 := Hi (R5.out.grown gn)
          have C7 := Hi (show OR bz p3 28 6 ⟨some ⟨B7, 0, none⟩, 1, 1⟩ (tcs ((⟨tst, tep, tsq, ttm, tkd, tvs⟩ : Tm.Tg), ⟨Va, Vn, Vc⟩)) from by subst hp3; subst hB7; exact (or_lit p2 ((⟨tst, tep, tsq, ttm, tkd, tvs⟩ : Tm.Tg), ⟨Va, Vn, Vc⟩)).base_ (by have := GB.out.size; have := HBZ.out.2; omega))
          have GB := Hi (grown_trans GB.out gn)
          have G := Hi (grown_trans G.out gn)
          clear gn hp3 hB7
          refine hK.out _ _ ?_ (fun hHeld => ?_)
          ·obtain ⟨u0, u1, u2, u3, u4, u5⟩ := (SY.out.grown G.out (by simp)).1
           exact ⟨(FX.out.grown G.out).1.2.2.2, u0, u1, u2, u3, u4, u5⟩
          clear hK K
          try simp only [Act.put, lsA, lsB, lsC]
          refine wpAnyL_ready (rs := [8]) (by kernel_rfl) (by simp) (consLL rfl (by rfl) (fun K hK => ?_) AllReadyL.nil)
          have HZ5 := Hi (show bz ≤ p3.heap.size by have := GB.out.size; have := HBZ.out.2; omega)
          have hrn0 := HRN.out
          dsimp only at hrn0
          refine step_appV rfl (.tmp 84) (.tmp 86) 30 rfl (S := ⟨R5a, R5n, R5c⟩) (V := ⟨some ⟨B7, 0, none⟩, 1, 1⟩) Tryz.underlying30 hI hz hsz hby (by rfl) (by omega) rfl rfl R5.out HZ5.out C7.out.len C7.out.cr (tcs_one _) (by dsimp only; omega) (by dsimp only; omega) ?_
          intro r p4 hrn hr gr hrb
          have cn : Chg (Sl.blk ⟨R5a, R5n, R5c⟩).toList p3 p4 := Chg.of gr (fun b hb => by simpa using hb)
          have R8 := Hi hr
          have HRN := Hi (show r.n = a + 1 by rw [hrn]; dsimp only; omega)
          have h5b := fun b (hb : b ∈ (Sl.blk ⟨R5a, R5n, R5c⟩).toList) => (R5.out.blk b (by simpa using hb)).1
          have GB := Hi (cn.grown GB.out (fun b hb => by have := h5b b hb; have := HBZ.out.2; omega))
          have G := Hi (cn.grown G.out (fun b hb => by have := h5b b hb; have := HBZ.out; omega))
          clear hrn hr gr hrb cn h5b HZ5 hrn0
          obtain ⟨R8a, R8n, R8c⟩ := r
          dsimp only [Sl.v]
          refine hK.out _ _ ?_ (fun hHeld => ?_)
          ·obtain ⟨u0, u1, u2, u3, u4, u5⟩ := (SY.out.grown G.out (by simp)).1
           exact ⟨(FX.out.grown G.out).1.2.2.2, u0, u1, u2, u3, u4, u5⟩
          clear hK K
          try simp only [Act.put, lsA, lsB, lsC]
          refine wpAnyL_ready (rs := [13]) (by kernel_rfl) (by simp) (consLL rfl (by rfl) (fun K hK => ?_) AllReadyL.nil)
          have HZ5 := Hi (show bz ≤ p4.heap.size by have := GB.out.size; have := HBZ.out.2; omega)
          have hrn0 := HRN.out
          dsimp only at hrn0
          have HCD := Hi (HDR.out _ G.out)
          refine step_appV rfl (.tmp 87) (.tmp 91) 30 rfl (S := ⟨R8a, R8n, R8c⟩) (V := ⟨ad, Dn - a, Dc - a⟩) Tryz.underlying30 hI hz hsz hby (by rfl) (by omega) rfl rfl R8.out HZ5.out HL13.out HCD.out (f6_one _) (by dsimp only; omega) (by dsimp only; omega) ?_
          intro r p5 hrn hr gr hrb
          have cn : Chg (Sl.blk ⟨R8a, R8n, R8c⟩).toList p4 p5 := Chg.of gr (fun b hb => by simpa using hb)
          have R13 := Hi hr
          have h5b := fun b (hb : b ∈ (Sl.blk ⟨R8a, R8n, R8c⟩).toList) => (R8.out.blk b (by simpa using hb)).1
          have GB := Hi (cn.grown GB.out (fun b hb => by have := h5b b hb; have := HBZ.out.2; omega))
          have G := Hi (cn.grown G.out (fun b hb => by have := h5b b hb; have := HBZ.out; omega))
          clear hrn hr gr hrb cn h5b HZ5 hrn0
          obtain ⟨R13a, R13n, R13c⟩ := r
          dsimp only [Sl.v]
          refine hK.out _ _ ?_ (fun hHeld => ?_)
          ·obtain ⟨u0, u1, u2, u3, u4, u5⟩ := (SY.out.grown G.out (by simp)).1
           exact ⟨(FX.out.grown G.out).1.2.2.2, u0, u1, u2, u3, u4, u5⟩
          clear hK K
          try simp only [Act.put, lsA, lsB, lsC]
          refine takeLL (i := 14) (v := ?_) rfl (by kernel_rfl) (by kernel_rfl) (by kernel_rfl) (by kernel_rfl) (by kernel_rfl) (fun _ _ _ h => h) (Or.inl ⟨by rfl, ?_⟩) (by assumption) ?_
          rotate_left 1
          ·intro w hSw; obtain ⟨s3, t0, t1, t2, t3, t4, t5⟩ := hSw; first | (go_simp; done) | (go_simp; with_reducible rfl)
          try simp only [Act.put, lsA, lsB, lsC]
          have TR13 := Hi (ins_row (L := L2 ++ (Sl.blk ⟨Oa, On, Oc⟩).toList) HXS.out HVI.out VID.out G.out R13.out HLB.out)
          obtain ⟨⟨e0, e1, e2, e3⟩, eF⟩ := FX.out.grown G.out
          have ef3 := eF 3
          clear eF
          refine wpAnyL_ready (rs := [15]) (by kernel_rfl) (by simp) (consZ rfl (fun K hK => ?_))
          go_simp
          have F15 := (FX.out.grown G.out).set3 (.slice R13a R13n R13c)
          have gs := chg_set p5 X 3 (.slice R13a R13n R13c)
          refine hK.out _ _ ?_
          clear hK K
          try simp only [Act.put, lsA, lsB, lsC]
          refine wpAnyL_done (by kernel_rfl) ?_ _
          go_wp2_with fail
          go_meet
          case rel => exact ⟨⟨R13a, R13n, R13c⟩, Hi F15, Hi (TR13.out.step gs (fun b hb => by rw [List.mem_singleton] at hb; subst hb; exact .inl (List.mem_append_left _ HL2.out.2.1)) (fun b hb => .inl hb)), Hi ((Chg.of0 G.out).trans gs)⟩
         ·go_simp
          obtain ⟨B7, hB7⟩ : ∃ b, b = p1.heap.size := ⟨_, rfl⟩
          obtain ⟨p2, hp2⟩ : ∃ z, z = p1.alloc (Obj.cells #[.int .i64 tst, .int .i64 tep, .int .i64 tsq, .int .i64 ttm, .int .i64 tkd, .slice Va Vn Vc] 28) := ⟨_, rfl⟩
          rw [← hp2, ← hB7]
          have gn : p1.grownBy p2 none := by subst hp2; exact grown_alloc _ _ _
          have R0 := Hi (R0.out.grown gn)
          have C7 := Hi (show OR bz p2 28 6 ⟨some ⟨B7, 0, none⟩, 1, 1⟩ (tcs ((⟨tst, tep, tsq, ttm, tkd, tvs⟩ : Tm.Tg), ⟨Va, Vn, Vc⟩)) from by subst hp2; subst hB7; exact (or_lit p1 ((⟨tst, tep, tsq, ttm, tkd, tvs⟩ : Tm.Tg), ⟨Va, Vn, Vc⟩)).base_ (by have := GB.out.size; have := HBZ.out.2; omega))
          have N07 := Hi (show B0 ≠ B7 by have := L0.out; omega)
          have GB := Hi (grown_trans GB.out gn)
          have G := Hi (grown_trans G.out gn)
          clear gn hp2 hB7
          refine hK.out _ _ ?_ (fun hHeld => ?_)
          ·obtain ⟨u0, u1, u2, u3, u4, u5⟩ := (SY.out.grown G.out (by simp)).1
           exact ⟨(FX.out.grown G.out).1.2.2.2, u0, u1, u2, u3, u4, u5⟩
          clear hK K
          try simp only [Act.put, lsA, lsB, lsC]
          refine wpAnyL_ready (rs := [5]) (by kernel_rfl) (by simp) (consLL rfl (by rfl) (fun K hK => ?_) AllReadyL.nil)
          have HC5 := Hi (cr_take (c' := Dc) (a := a) (HCR.out.grown G.out))
          have HZ5 := Hi (show bz ≤ p2.heap.size by have := GB.out.size; have := HBZ.out.2; omega)
          refine step_appV rfl (.tmp 79) (.tmp 83) 30 rfl (S := ⟨some ⟨B0, 0, none⟩, 0, 0⟩) (V := ⟨Da, a, Dc⟩) Tryz.underlying30 hI hz hsz hby (by rfl) (by omega) rfl rfl R0.out HZ5.out HL5.out HC5.out (f6_one _) (by dsimp only; omega) (by dsimp only; omega) ?_
          intro r p3 hrn hr gr hrb
          have cn : Chg [B0] p2 p3 := Chg.of gr (fun b hb => by injection hb with hb; subst hb; exact List.mem_singleton_self _)
          have R5 := Hi (show OR bz p3 28 6 r (f6 (xs.take a)) from hr)
          have HRN := Hi (show r.n = a by rw [hrn]; dsimp only; omega)
          have h0b := (R0.out.blk B0 rfl).1
          have C7 := Hi (C7.out.chg cn (fun b hb hm => by rw [List.mem_singleton] at hm; injection hb with hb; exact N07.out (by dsimp only at hb; omega)))
          have GB := Hi (cn.grown GB.out (fun b hb => by rw [List.mem_singleton] at hb; have := HBZ.out.2; omega))
          have G := Hi (cn.grown G.out (fun b hb => by rw [List.mem_singleton] at hb; have := HBZ.out; omega))
          clear hrn hr gr hrb cn h0b HC5 HZ5
          obtain ⟨R5a, R5n, R5c⟩ := r
          dsimp only [Sl.v]
          refine hK.out _ _ ?_ (fun hHeld => ?_)
          ·obtain ⟨u0, u1, u2, u3, u4, u5⟩ := (SY.out.grown G.out (by simp)).1
           exact ⟨(FX.out.grown G.out).1.2.2.2, u0, u1, u2, u3, u4, u5⟩
          clear hK K
          try simp only [Act.put, lsA, lsB, lsC]
          refine wpAnyL_ready (rs := [8]) (by kernel_rfl) (by simp) (consLL rfl (by rfl) (fun K hK => ?_) AllReadyL.nil)
          have HZ5 := Hi (show bz ≤ p3.heap.size by have := GB.out.size; have := HBZ.out.2; omega)
          have hrn0 := HRN.out
          dsimp only at hrn0
          refine step_appV rfl (.tmp 84) (.tmp 86) 30 rfl (S := ⟨R5a, R5n, R5c⟩) (V := ⟨some ⟨B7, 0, none⟩, 1, 1⟩) Tryz.underlying30 hI hz hsz hby (by rfl) (by omega) rfl rfl R5.out HZ5.out C7.out.len C7.out.cr (tcs_one _) (by dsimp only; omega) (by dsimp only; omega) ?_
          intro r p4 hrn hr gr hrb
          have cn : Chg (Sl.blk ⟨R5a, R5n, R5c⟩).toList p3 p4 := Chg.of gr (fun b hb => by simpa using hb)
          have R8 := Hi hr
          have HRN := Hi (show r.n = a + 1 by rw [hrn]; dsimp only; omega)
          have h5b := fun b (hb : b ∈ (Sl.blk ⟨R5a, R5n, R5c⟩).toList) => (R5.out.blk b (by simpa using hb)).1
          have GB := Hi (cn.grown GB.out (fun b hb => by have := h5b b hb; have := HBZ.out.2; omega))
          have G := Hi (cn.grown G.out (fun b hb => by have := h5b b hb; have := HBZ.out; omega))
          clear hrn hr gr hrb cn h5b HZ5 hrn0
          obtain ⟨R8a, R8n, R8c⟩ := r
          dsimp only [Sl.v]
          refine hK.out _ _ ?_ (fun hHeld => ?_)
          ·obtain ⟨u0, u1, u2, u3, u4, u5⟩ := (SY.out.grown G.out (by simp)).1
           exact ⟨(FX.out.grown G.out).1.2.2.2, u0, u1, u2, u3, u4, u5⟩
          clear hK K
          try simp only [Act.put, lsA, lsB, lsC]
          refine wpAnyL_ready (rs := [13]) (by kernel_rfl) (by simp) (consLL rfl (by rfl) (fun K hK => ?_) AllReadyL.nil)
          have HZ5 := Hi (show bz ≤ p4.heap.size by have := GB.out.size; have := HBZ.out.2; omega)
          have hrn0 := HRN.out
          dsimp only at hrn0
          have HCD := Hi (HDR.out _ G.out)
          refine step_appV rfl (.tmp 87) (.tmp 91) 30 rfl (S := ⟨R8a, R8n, R8c⟩) (V := ⟨ad, Dn - a, Dc - a⟩) Tryz.underlying30 hI hz hsz hby (by rfl) (by omega) rfl rfl R8.out HZ5.out HL13.out HCD.out (f6_one _) (by dsimp only; omega) (by dsimp only; omega) ?_
          intro r p5 hrn hr gr hrb
          have cn : Chg (Sl.blk ⟨R8a, R8n, R8c⟩).toList p4 p5 := Chg.of gr (fun b hb => by simpa using hb)
          have R13 := Hi hr
          have h5b := fun b (hb : b ∈ (Sl.blk ⟨R8a, R8n, R8c⟩).toList) => (R8.out.blk b (by simpa using hb)).1
          have GB := Hi (cn.grown GB.out (fun b hb => by have := h5b b hb; have := HBZ.out.2; omega))
          have G := Hi (cn.grown G.out (fun b hb => by have := h5b b hb; have := HBZ.out; omega))
          clear hrn hr gr hrb cn h5b HZ5 hrn0
          obtain ⟨R13a, R13n, R13c⟩ := r
          dsimp only [Sl.v]
          refine hK.out _ _ ?_ (fun hHeld => ?_)
          ·obtain ⟨u0, u1, u2, u3, u4, u5⟩ := (SY.out.grown G.out (by simp)).1
           exact ⟨(FX.out.grown G.out).1.2.2.2, u0, u1, u2, u3, u4, u5⟩
          clear hK K
          try simp only [Act.put, lsA, lsB, lsC]
          refine takeLL (i := 14) (v := ?_) rfl (by kernel_rfl) (by kernel_rfl) (by kernel_rfl) (by kernel_rfl) (by kernel_rfl) (fun _ _ _ h => h) (Or.inl ⟨by rfl, ?_⟩) (by assumption) ?_
          rotate_left 1
          ·intro w hSw; obtain ⟨s3, t0, t1, t2, t3, t4, t5⟩ := hSw; first | (go_simp; done) | (go_simp; with_reducible rfl)
          try simp only [Act.put, lsA, lsB, lsC]
          have TR13 := Hi (ins_row (L := L2 ++ (Sl.blk ⟨Oa, On, Oc⟩).toList) HXS.out HVI.out VID.out G.out R13.out HLB.out)
          obtain ⟨⟨e0, e1, e2, e3⟩, eF⟩ := FX.out.grown G.out
          have ef3 := eF 3
          clear eF
          refine wpAnyL_ready (rs := [15]) (by kernel_rfl) (by simp) (consZ rfl (fun K hK => ?_))
          go_simp
          have F15 := (FX.out.grown G.out).set3 (.slice R13a R13n R13c)
          have gs := chg_set p5 X 3 (.slice R13a R13n R13c)
          refine hK.out _ _ ?_
          clear hK K
          try simp only [Act.put, lsA, lsB, lsC]
          refine wpAnyL_done (by kernel_rfl) ?_ _
          go_wp2_with fail
          go_meet
          case rel => exact ⟨⟨R13a, R13n, R13c⟩, Hi F15, Hi (TR13.out.step gs (fun b hb => by rw [List.mem_singleton] at hb; subst hb; exact .inl (List.mem_append_left _ HL2.out.2.1)) (fun b hb => .inl hb)), Hi ((Chg.of0 G.out).trans gs)⟩
        ·go_simp
         obtain ⟨B7, hB7⟩ : ∃ b, b = wd.heap.size := ⟨_, rfl⟩
         obtain ⟨p1, hp1⟩ : ∃ z, z = wd.alloc (Obj.cells #[.int .i64 tst, .int .i64 tep, .int .i64 tsq, .int .i64 ttm, .int .i64 tkd, .slice Va Vn Vc] 28) := ⟨_, rfl⟩
         rw [← hp1, ← hB7]
         have gn : wd.grownBy p1 none := by subst hp1; exact grown_alloc _ _ _
         have C7 := Hi (show OR bz p1 28 6 ⟨some ⟨B7, 0, none⟩, 1, 1⟩ (tcs ((⟨tst, tep, tsq, ttm, tkd, tvs⟩ : Tm.Tg), ⟨Va, Vn, Vc⟩)) from by subst hp1; subst hB7; exact (or_lit wd ((⟨tst, tep, tsq, ttm, tkd, tvs⟩ : Tm.Tg), ⟨Va, Vn, Vc⟩)).base_ (by have := GB.out.size; have := HBZ.out.2; omega))
         have L7 := Hi (show B7 < p1.heap.size from (C7.out.blk B7 rfl).2)
         have GB := Hi (grown_trans GB.out gn)
         have G := Hi (grown_trans G.out gn)
         clear gn hp1 hB7
         refine hK.out _ _ ?_ (fun hHeld => ?_)
         ·obtain ⟨u0, u1, u2, u3, u4, u5⟩ := (SY.out.grown G.out (by simp)).1
          exact ⟨(FX.out.grown G.out).1.2.2.2, u0, u1, u2, u3, u4, u5⟩
         clear hK K
         try simp only [Act.put, lsA, lsB, lsC]
         refine wpAnyL_ready (rs := [0]) (by kernel_rfl) (by simp) (consLL rfl (by rfl) (fun K hK => ?_) AllReadyL.nil)
         go_simp
         obtain ⟨B0, hB0⟩ : ∃ b, b = p1.heap.size := ⟨_, rfl⟩
         obtain ⟨p2, hp2⟩ : ∃ z, z = p1.alloc (Obj.cells #[] 28) := ⟨_, rfl⟩
         rw [← hp2, ← hB0]
         have gn : p1.grownBy p2 none := by subst hp2; exact grown_alloc _ _ _
         have C7 := Hi (C7.out.grown gn)
         have R0 := Hi (show OR bz p2 28 6 ⟨some ⟨B0, 0, none⟩, 0, 0⟩ [] from by subst hp2; subst hB0; exact (or_lit0 p1).base_ (by have := GB.out.size; have := HBZ.out.2; omega))
         have N07 := Hi (show B0 ≠ B7 by have := L7.out; omega)
         have GB := Hi (grown_trans GB.out gn)
         have G := Hi (grown_trans G.out gn)
         clear gn hp2 hB0
         refine hK.out _ _ ?_ (fun hHeld => ?_)
         ·obtain ⟨u0, u1, u2, u3, u4, u5⟩ := (SY.out.grown G.out (by simp)).1
          exact ⟨(FX.out.grown G.out).1.2.2.2, u0, u1, u2, u3, u4, u5⟩
         clear hK K
         try simp only [Act.put, lsA, lsB, lsC]
         refine wpAnyL_ready (rs := [5]) (by kernel_rfl) (by simp) (consLL rfl (by rfl) (fun K hK => ?_) AllReadyL.nil)
         have HC5 := Hi (cr_take (c' := Dc) (a := a) (HCR.out.grown G.out))
         have HZ5 := Hi (show bz ≤ p2.heap.size by have := GB.out.size; have := HBZ.out.2; omega)
         refine step_appV rfl (.tmp 79) (.tmp 83) 30 rfl (S := ⟨some ⟨B0, 0, none⟩, 0, 0⟩) (V := ⟨Da, a, Dc⟩) Tryz.underlying30 hI hz hsz hby (by rfl) (by omega) rfl rfl R0.out HZ5.out HL5.out HC5.out (f6_one _) (by dsimp only; omega) (by dsimp only; omega) ?_
         intro r p3 hrn hr gr hrb
         have cn : Chg [B0] p2 p3 := Chg.of gr (fun b hb => by injection hb with hb; subst hb; exact List.mem_singleton_self _)
         have R5 := Hi (show OR bz p3 28 6 r (f6 (xs.take a)) from hr)
         have HRN := Hi (show r.n = a by rw [hrn]; dsimp only; omega)
         have h0b := (R0.out.blk B0 rfl).1
         have C7 := Hi (C7.out.chg cn (fun b hb hm => by rw [List.mem_singleton] at hm; injection hb with hb; exact N07.out (by dsimp only at hb; omega)))
         have GB := Hi (cn.grown GB.out (fun b hb => by rw [List.mem_singleton] at hb; have := HBZ.out.2; omega))
         have G := Hi (cn.grown G.out (fun b hb => by rw [List.mem_singleton] at hb; have := HBZ.out; omega))
         clear hrn hr gr hrb cn h0b HC5 HZ5
         obtain ⟨R5a, R5n, R5c⟩ := r
         dsimp only [Sl.v]
         refine hK.out _ _ ?_ (fun hHeld => ?_)
         ·obtain ⟨u0, u1, u2, u3, u4, u5⟩ := (SY.out.grown G.out (by simp)).1
          exact ⟨(FX.out.grown G.out).1.2.2.2, u0, u1, u2, u3, u4, u5⟩
         clear hK K
         try simp only [Act.put, lsA, lsB, lsC]
         refine wpAnyL_ready (rs := [8]) (by kernel_rfl) (by simp) (consLL rfl (by rfl) (fun K hK => ?_) AllReadyL.nil)
         have HZ5 := Hi (show bz ≤ p3.heap.size by have := GB.out.size; have := HBZ.out.2; omega)
         have hrn0 := HRN.out
         dsimp only at hrn0
         refine step_appV rfl (.tmp 84) (.tmp 86) 30 rfl (S := ⟨R5a, R5n, R5c⟩) (V := ⟨some ⟨B7, 0, none⟩, 1, 1⟩) Tryz.underlying30 hI hz hsz hby (by rfl) (by omega) rfl rfl R5.out HZ5.out C7.out.len C7.out.cr (tcs_one _) (by dsimp only; omega) (by dsimp only; omega) ?_
         intro r p4 hrn hr gr hrb
         have cn : Chg (Sl.blk ⟨R5a, R5n, R5c⟩).toList p3 p4 := Chg.of gr (fun b hb => by simpa using hb)
         have R8 := Hi hr
         have HRN := Hi (show r.n = a + 1 by rw [hrn]; dsimp only; omega)
         have h5b := fun b (hb : b ∈ (Sl.blk ⟨R5a, R5n, R5c⟩).toList) => (R5.out.blk b (by simpa using hb)).1
         have GB := Hi (cn.grown GB.out (fun b hb => by have := h5b b hb; have := HBZ.out.2; omega))
         have G := Hi (cn.grown G.out (fun b hb => by have := h5b b hb; have := HBZ.out; omega))
         clear hrn hr gr hrb cn h5b HZ5 hrn0
         obtain ⟨R8a, R8n, R8c⟩ := r
         dsimp only [Sl.v]
         refine hK.out _ _ ?_ (fun hHeld => ?_)
         ·obtain ⟨u0, u1, u2, u3, u4, u5⟩ := (SY.out.grown G.out (by simp)).1
          exact ⟨(FX.out.grown G.out).1.2.2.2, u0, u1, u2, u3, u4, u5⟩
         clear hK K
         try simp only [Act.put, lsA, lsB, lsC]
         refine wpAnyL_ready (rs := [13]) (by kernel_rfl) (by simp) (consLL rfl (by rfl) (fun K hK => ?_) AllReadyL.nil)
         have HZ5 := Hi (show bz ≤ p4.heap.size by have := GB.out.size; have := HBZ.out.2; omega)
         have hrn0 := HRN.out
         dsimp only at hrn0
         have HCD := Hi (HDR.out _ G.out)
         refine step_appV rfl (.tmp 87) (.tmp 91) 30 rfl (S := ⟨R8a, R8n, R8c⟩) (V := ⟨ad, Dn - a, Dc - a⟩) Tryz.underlying30 hI hz hsz hby (by rfl) (by omega) rfl rfl R8.out HZ5.out HL13.out HCD.out (f6_one _) (by dsimp only; omega) (by dsimp only; omega) ?_
         intro r p5 hrn hr gr hrb
         have cn : Chg (Sl.blk ⟨R8a, R8n, R8c⟩).toList p4 p5 := Chg.of gr (fun b hb => by simpa using hb)
         have R13 := Hi hr
         have h5b := fun b (hb : b ∈ (Sl.blk ⟨R8a, R8n, R8c⟩).toList) => (R8.out.blk b (by simpa using hb)).1
         have GB := Hi (cn.grown GB.out (fun b hb => by have := h5b b hb; have := HBZ.out.2; omega))
         have G := Hi (cn.grown G.out (fun b hb => by have := h5b b hb; have := HBZ.out; omega))
         clear hrn hr gr hrb cn h5b HZ5 hrn0
         obtain ⟨R13a, R13n, R13c⟩ := r
         dsimp only [Sl.v]
         refine hK.out _ _ ?_ (fun hHeld => ?_)
         ·obtain ⟨u0, u1, u2, u3, u4, u5⟩ := (SY.out.grown G.out (by simp)).1
          exact ⟨(FX.out.grown G.out).1.2.2.2, u0, u1, u2, u3, u4, u5⟩
         clear hK K
         try simp only [Act.put, lsA, lsB, lsC]
         refine takeLL (i := 14) (v := ?_) rfl (by kernel_rfl) (by kernel_rfl) (by kernel_rfl) (by kernel_rfl) (by kernel_rfl) (fun _ _ _ h => h) (Or.inl ⟨by rfl, ?_⟩) (by assumption) ?_
         rotate_left 1
         ·intro w hSw; obtain ⟨s3, t0, t1, t2, t3, t4, t5⟩ := hSw; first | (go_simp; done) | (go_simp; with_reducible rfl)
         try simp only [Act.put, lsA, lsB, lsC]
         have TR13 := Hi (ins_row (L := L2 ++ (Sl.blk ⟨Oa, On, Oc⟩).toList) HXS.out HVI.out VID.out G.out R13.out HLB.out)
         obtain ⟨⟨e0, e1, e2, e3⟩, eF⟩ := FX.out.grown G.out
         have ef3 := eF 3
         clear eF
         refine wpAnyL_ready (rs := [15]) (by kernel_rfl) (by simp) (consZ rfl (fun K hK => ?_))
         go_simp
         have F15 := (FX.out.grown G.out).set3 (.slice R13a R13n R13c)
         have gs := chg_set p5 X 3 (.slice R13a R13n R13c)
         refine hK.out _ _ ?_
         clear hK K
         try simp only [Act.put, lsA, lsB, lsC]
         refine wpAnyL_done (by kernel_rfl) ?_ _
         go_wp2_with fail
         go_meet
         case rel => exact ⟨⟨R13a, R13n, R13c⟩, Hi F15, Hi (TR13.out.step gs (fun b hb => by rw [List.mem_singleton] at hb; subst hb; exact .inl (List.mem_append_left _ HL2.out.2.1)) (fun b hb => .inl hb)), Hi ((Chg.of0 G.out).trans gs)⟩
       case rest =>
        obtain ⟨⟨Ra, Rn, Rc⟩, FXR, TLR, GX⟩ := hcut
        dsimp only [Sl.v] at FXR
        have FX := FXR
        have TOD := Hi (TOD.out.step GX.out (fun b hb hm => by rw [List.mem_singleton] at hm; have := (TOD.out.blk b hb).1; omega) (fun b hb => by rw [List.mem_singleton] at hb; subst hb; exact .inl (List.mem_append_left _ HL2.out.2.1)) (fun b hb => .inl hb))
        have GD := Hi (GX.out.grown GD.out (fun b hb => by rw [List.mem_singleton] at hb; have := HZX.out.2; omega))
        have FZ := Hi (FZ.out.step GX.out (fun hm => by rw [List.mem_singleton] at hm; omega))
        have hwd := Nat.le_trans hwd GX.out.size
        clear FXR GX TLD VID HCR HVI HXS HXL hDC hac hac2 had2 SY
        obtain ⟨nh, hnh⟩ : ∃ nh, nh = hc.take a ++ (⟨tst, tep, tsq, ttm, tkd, tvs⟩ : Tm.Tg) :: hc.drop a := ⟨_, rfl⟩
        have HNH := Hi (show nh.length ≤ 17 ∧ ∀ u ∈ nh, 0 ≤ u.sq ∧ u.sq ≤ 2147483648 from ⟨by
         have h1 := HDL.out
         rw [hnh, List.length_append, List.length_cons, List.length_take, List.length_drop]
         omega, fun u hu => by
         rw [hnh] at hu
         rcases List.mem_append.1 hu with hu | hu
         ·exact MI.out.oks u (List.mem_of_mem_take hu)
         ·rcases List.mem_cons.1 hu with rfl | hu
          ·exact Im.sq_le HT.out
          ·exact MI.out.oks u (List.mem_of_mem_drop hu)⟩)
        rw [← hnh] at TLR HST
        clear hnh
        have hos := MI.out.len.2
        have hn0 := MI.out.n0
        have hLb := fun b (hb : b ∈ L2 ++ (Sl.blk ⟨Oa, On, Oc⟩).toList) => show b < wc.heap.size from by
         rcases List.mem_append.1 hb with hb | hb
         ·have := HL3.out b hb; have := HZX.out.1; omega
         ·exact (TOD.out.blk b (by simpa using hb)).2
        have HG := Hi (give_any (X + 3) L2 ⟨Oa, On, Oc⟩ ⟨Ra, Rn, Rc⟩ st tep nxc nh os wc hwd hLb TOD.out TLR.out (by have := HNH.out.1; omega) (by omega) ⟨hn0.1, by omega⟩)
        unfold GiveE at HG
        have HGL := Hi (give_lens nh nxc)
        have HGM := Hi (rgive_mem nh nxc)
        unfold Im.settle at HST
        generalize Im.give nh nxc = gv at *
        obtain ⟨g1, gn, g3⟩ := gv
        dsimp only [ev, Sl.v] at HG HST HGL HGM
        obtain ⟨⟨c0, c1, c2, c3⟩, cF⟩ := FX.out
        clear hLb TLR
        go_wp2_with fail
        refine HG.out.mono ?_
        rintro e w6 ⟨⟨Pa, Pn, Pc⟩, ⟨Qa, Qn, Qc⟩, rfl, TO6, TL6, G6, PB⟩
        clear HG c0 c1 c2 c3 cF
        have FX6 := FX.out.step G6 (fun hm => by have := (TOD.out.blk X (by simpa using hm)).1; omega)
        have FZ6 := FZ.out.step G6 (fun hm => by have := (TOD.out.blk (X + 1 + 1) (by simpa using hm)).1; omega)
        have GD6 := G6.grown GD.out (fun b hb => by have := (TOD.out.blk b (by simpa using hb)).1; have := HZX.out.2; omega)
        have hw6 := Nat.le_trans hwd G6.size
        have TO6 := Hi TO6
        have TL6 := Hi TL6
        have FX6H := Hi FX6
        have FZ6H := Hi FZ6
        have GD6 := Hi GD6
        obtain ⟨⟨c0, c1, c2, c3⟩, cF⟩ := FX6
        have f0 := cF 0
        have f1 := cF 1
        have f2 := cF 2
        have f3 := cF 3
        clear cF FZ6 G6 PB FX FZ GD TOD hwd
        dsimp only [Sl.v] at c3 ⊢
        go_upto_region 14 with fail
        obtain ⟨w7, hw7⟩ : ∃ z, z = (((w6.setCell ⟨X, 0, none⟩ (.int .i64 st)).setCell ⟨X, 1, none⟩ (.int .i64 tep)).setCell ⟨X, 2, none⟩ (.int .i64 gn)).setCell ⟨X, 3, none⟩ (.slice Qa Qn Qc) := ⟨_, rfl⟩
        rw [← hw7]
        have gs : Chg [X] w6 w7 := by subst hw7; exact ((((Chg.refl [X] w6).set ⟨X, 0, none⟩ (.int .i64 st) (by simp)).set ⟨X, 1, none⟩ (.int .i64 tep) (by simp)).set ⟨X, 2, none⟩ (.int .i64 gn) (by simp)).set ⟨X, 3, none⟩ (.slice Qa Qn Qc) (by simp)
        have FX := Hi (show Four w7 X st tep gn (.slice Qa Qn Qc) by subst hw7; exact FX6H.out.all st tep gn (.slice Qa Qn Qc))
        have FZ := Hi (FZ6H.out.step gs (fun hm => by rw [List.mem_singleton] at hm; omega))
        have hXm : ∀ b ∈ [X], b ∈ L2 ++ (Sl.blk ⟨Pa, Pn, Pc⟩).toList ∨ w6.heap.size ≤ b := fun b hb => by rw [List.mem_singleton] at hb; subst hb; exact .inl (List.mem_append_left _ HL2.out.2.1)
        have TOD := Hi (TO6.out.step gs (fun b hb hm => by rw [List.mem_singleton] at hm; have := (TO6.out.blk b hb).1; omega) hXm (fun b hb => .inl hb))
        have TLD := Hi (TL6.out.step gs hXm (fun b hb => .inl hb))
        have GD := Hi (gs.grown GD6.out (fun b hb => by rw [List.mem_singleton] at hb; have := HZX.out.2; omega))
        have hwd := Nat.le_trans hw6 gs.size
        have hgl : g1.length = Qn := TLD.out.len
        have HGQ := Hi hgl
        clear hw7 gs hXm c0 c1 c2 c3 f0 f1 f2 f3 TO6 TL6 FX6H FZ6H GD6 hw6 hgl
        obtain ⟨⟨c0, c1, c2, c3⟩, cF⟩ := FX.out
        have hq17 : Qn ≤ 17 := by have h1 := HGL.out; have h2 := HNH.out.1; have h3 := HGQ.out; omega
        by_cases hgt : win < (Qn : Int)
        ·rw [if_pos (by have h3 := HGQ.out; omega)] at HST
         have hq0 : 0 < Qn := by omega
         have hq0' : (0 : Int) < (Qn : Int) := by omega
         obtain ⟨b, off, ⟨Wa, Wn, Wc⟩, hQa, -, -, hcc⟩ := TLD.out.at_ 0 hq0
         dsimp only at hQa
         subst hQa
         obtain ⟨d0, d1, d2, d3, d4, d5⟩ := six_of (o := off + 0 * 6) (fun j u hu => by rw [Nat.add_assoc]; exact hcc j u hu)
         rw [Nat.zero_mul, Nat.add_zero] at d2
         dsimp only at d2
         have hh0 : g1.headD Tm.zero = g1.getD 0 Tm.zero := by cases g1 <;> rfl
         rw [hh0] at HST
         obtain ⟨q, hq⟩ : ∃ q, q = (g1.getD 0 Tm.zero).sq := ⟨_, rfl⟩
         rw [← hq] at d2 HST
         have hqb : 0 ≤ q ∧ q ≤ 2147483648 := by
          have hlt : 0 < g1.length := by have := HGQ.out; omega
          have h1 := HNH.out.2 (g1.getD 0 Tm.zero) (HGM.out _ (by rw [List.getD_eq_getElem?_getD, List.getElem?_eq_getElem hlt]; exact List.getElem_mem _))
          rw [hq]; exact h1
         clear hcc hq hh0 d0 d1 d3 d4 d5
         have f2 := cF 2
         clear cF
         go_upto_region 16 with fail
         obtain ⟨w8, hw8⟩ : ∃ z, z = w7.setCell ⟨X, 2, none⟩ (.int .i64 q) := ⟨_, rfl⟩
         rw [← hw8]
         have gs : Chg [X] w7 w8 := by subst hw8; exact chg_set _ _ _ _
         have FXq := Hi (show Four w8 X st tep q (.slice (some ⟨b, off, none⟩) Qn Qc) by subst hw8; exact FX.out.set2 q)
         have FX := FXq
         have FZ := Hi (FZ.out.step gs (fun hm => by rw [List.mem_singleton] at hm; omega))
         have hXm : ∀ b ∈ [X], b ∈ L2 ++ (Sl.blk ⟨Pa, Pn, Pc⟩).toList ∨ w7.heap.size ≤ b := fun b hb => by rw [List.mem_singleton] at hb; subst hb; exact .inl (List.mem_append_left _ HL2.out.2.1)
         have TOD := Hi (TOD.out.step gs (fun b hb hm => by rw [List.mem_singleton] at hm; have := (TOD.out.blk b hb).1; omega) hXm (fun b hb => .inl hb))
         have TLD := Hi (TLD.out.step gs hXm (fun b hb => .inl hb))
         have GD := Hi (gs.grown GD.out (fun b hb => by rw [List.mem_singleton] at hb; have := HZX.out.2; omega))
         have hwd := Nat.le_trans hwd gs.size
         have hLb := fun x (hb : x ∈ L2 ++ (Sl.blk ⟨Pa, Pn, Pc⟩).toList) => show x < w8.heap.size from by
          rcases List.mem_append.1 hb with hb | hb
          ·have := HL3.out x hb; have := HZX.out.1; omega
          ·exact (TOD.out.blk x (by simpa using hb)).2
         clear hw8 gs hXm FXq c0 c1 c2 c3 d2 f2
         have HG := Hi (give_any (X + 3) L2 ⟨Pa, Pn, Pc⟩ ⟨some ⟨b, off, none⟩, Qn, Qc⟩ st tep q g1 (os ++ g3) w8 hwd hLb TOD.out TLD.out (by have := HGQ.out; omega) (by have h1 := HGL.out; have h2 := HNH.out.1; rw [List.length_append]; omega) ⟨hqb.1, by omega⟩)
         unfold GiveE at HG
         generalize Im.give g1 q = gv at *
         obtain ⟨k1, kn, k3⟩ := gv
         dsimp only [ev, Sl.v] at HG HST
         obtain ⟨⟨c0, c1, c2, c3⟩, cF⟩ := FX.out
         clear hLb TLD
         go_wp2_with fail
         refine HG.out.mono ?_
         rintro e w9 ⟨⟨Ea, En, Ec⟩, ⟨Ka, Kn, Kc⟩, rfl, TO6, TL6, G6, PB⟩
         clear HG c0 c1 c2 c3 cF
         have FX6 := FX.out.step G6 (fun hm => by have := (TOD.out.blk X (by simpa using hm)).1; omega)
         have FZ6 := FZ.out.step G6 (fun hm => by have := (TOD.out.blk (X + 1 + 1) (by simpa using hm)).1; omega)
         have GD6 := G6.grown GD.out (fun b hb => by have := (TOD.out.blk b (by simpa using hb)).1; have := HZX.out.2; omega)
         have TO6 := Hi TO6
         have TL6 := Hi TL6
         have FX6H := Hi FX6
         have FZ6H := Hi FZ6
         have GD6 := Hi GD6
         obtain ⟨⟨c0, c1, c2, c3⟩, cF⟩ := FX6
         have f0 := cF 0
         have f1 := cF 1
         have f2 := cF 2
         have f3 := cF 3
         clear cF FZ6 G6 PB FX FZ GD TOD hwd
         dsimp only [Sl.v] at c3 ⊢
         go_upto_region 17 with fail
         obtain ⟨wA, hwA⟩ : ∃ z, z = (((w9.setCell ⟨X, 0, none⟩ (.int .i64 st)).setCell ⟨X, 1, none⟩ (.int .i64 tep)).setCell ⟨X, 2, none⟩ (.int .i64 kn)).setCell ⟨X, 3, none⟩ (.slice Ka Kn Kc) := ⟨_, rfl⟩
         rw [← hwA]
         have gs : Chg [X] w9 wA := by subst hwA; exact ((((Chg.refl [X] w9).set ⟨X, 0, none⟩ (.int .i64 st) (by simp)).set ⟨X, 1, none⟩ (.int .i64 tep) (by simp)).set ⟨X, 2, none⟩ (.int .i64 kn) (by simp)).set ⟨X, 3, none⟩ (.slice Ka Kn Kc) (by simp)
         have FX := Hi (show Four wA X st tep kn (.slice Ka Kn Kc) by subst hwA; exact FX6H.out.all st tep kn (.slice Ka Kn Kc))
         have FZ := Hi (FZ6H.out.step gs (fun hm => by rw [List.mem_singleton] at hm; omega))
         have hXm : ∀ b ∈ [X], b ∈ L2 ++ (Sl.blk ⟨Ea, En, Ec⟩).toList ∨ w9.heap.size ≤ b := fun b hb => by rw [List.mem_singleton] at hb; subst hb; exact .inl (List.mem_append_left _ HL2.out.2.1)
         have TOD := Hi (TO6.out.step gs (fun b hb hm => by rw [List.mem_singleton] at hm; have := (TO6.out.blk b hb).1; omega) hXm (fun b hb => .inl hb))
         have TLD := Hi (TL6.out.step gs hXm (fun b hb => .inl hb))
         have GD := Hi (gs.grown GD6.out (fun b hb => by rw [List.mem_singleton] at hb; have := HZX.out.2; omega))
         clear hwA gs hXm c0 c1 c2 c3 f0 f1 f2 f3 TO6 TL6 FX6H FZ6H GD6
         obtain ⟨⟨c0, c1, c2, c3⟩, cF⟩ := FX.out
         have FIN := Hi (fun (wz : World) (gz : Chg [X + 1 + 1] wA wz) => show TakeE L (Im.take win ⟨st, ep, nx, held⟩ (⟨tst, tep, tsq, ttm, tkd, tvs⟩ : Tm.Tg)) w (.returned (.tuple #[ev st tep kn ⟨Ka, Kn, Kc⟩, Sl.v ⟨Ea, En, Ec⟩])) wz from by
          have hb2 : ∀ b ∈ [X + 1 + 1], b ∈ L2 ++ (Sl.blk ⟨Ea, En, Ec⟩).toList ∨ wA.heap.size ≤ b := fun b hb => by rw [List.mem_singleton] at hb; subst hb; exact .inl (List.mem_append_left _ HL2.out.2.2.2)
          rw [HST.out]
          refine ⟨⟨Ka, Kn, Kc⟩, ⟨Ea, En, Ec⟩, rfl, TLD.out.step gz hb2 (fun b hb => .inl (List.mem_append_left _ (HL2.out.1 b hb))), TL.to (TOD.out.step gz (fun b hb hm => by rw [List.mem_singleton] at hm; have := (TOD.out.blk b hb).1; omega) hb2 (fun b hb => .inl (List.mem_append_left _ (HL2.out.1 b hb)))) (fun b hb hm => by have h1 := (TOD.out.blk b hb).1; have h2 := HL3.out b (HL2.out.1 b hm); have := HZX.out.1; omega), gz.grown GD.out (fun b hb => by rw [List.mem_singleton] at hb; have := HZX.out.2; omega)⟩)
         obtain ⟨⟨z0, z1, z2, z3⟩, zF⟩ := FZ.out
         have y0 := zF 0
         have y1 := zF 1
         have y2 := zF 2
         have y3 := zF 3
         clear zF
         go_wp2_with fail
         try simp only [Exit.inBlock, Exit.then]
         refine bodyPost_ret (v := .tuple #[ev st tep kn ⟨Ka, Kn, Kc⟩, Sl.v ⟨Ea, En, Ec⟩]) ?hr rfl ?hE
         case hr =>
          rw [results_cell1 rfl]
          go_simp
          first | rfl | exact ⟨rfl, rfl⟩
         case hE =>
          exact FIN.out _ (((((Chg.refl _ wA).set ⟨X + 1 + 1, 0, none⟩ (.int .i64 st) (by simp)).set ⟨X + 1 + 1, 1, none⟩ (.int .i64 tep) (by simp)).set ⟨X + 1 + 1, 2, none⟩ (.int .i64 kn) (by simp)).set ⟨X + 1 + 1, 3, none⟩ (.slice Ka Kn Kc) (by simp))
        ·rw [if_neg (by have h3 := HGQ.out; omega)] at HST
         clear cF
         have FIN := Hi (fun (wz : World) (gz : Chg [X + 1 + 1] w7 wz) => show TakeE L (Im.take win ⟨st, ep, nx, held⟩ (⟨tst, tep, tsq, ttm, tkd, tvs⟩ : Tm.Tg)) w (.returned (.tuple #[ev st tep gn ⟨Qa, Qn, Qc⟩, Sl.v ⟨Pa, Pn, Pc⟩])) wz from by
          have hb2 : ∀ b ∈ [X + 1 + 1], b ∈ L2 ++ (Sl.blk ⟨Pa, Pn, Pc⟩).toList ∨ w7.heap.size ≤ b := fun b hb => by rw [List.mem_singleton] at hb; subst hb; exact .inl (List.mem_append_left _ HL2.out.2.2.2)
          rw [HST.out]
          refine ⟨⟨Qa, Qn, Qc⟩, ⟨Pa, Pn, Pc⟩, rfl, TLD.out.step gz hb2 (fun b hb => .inl (List.mem_append_left _ (HL2.out.1 b hb))), TL.to (TOD.out.step gz (fun b hb hm => by rw [List.mem_singleton] at hm; have := (TOD.out.blk b hb).1; omega) hb2 (fun b hb => .inl (List.mem_append_left _ (HL2.out.1 b hb)))) (fun b hb hm => by have h1 := (TOD.out.blk b hb).1; have h2 := HL3.out b (HL2.out.1 b hm); have := HZX.out.1; omega), gz.grown GD.out (fun b hb => by rw [List.mem_singleton] at hb; have := HZX.out.2; omega)⟩)
         obtain ⟨⟨z0, z1, z2, z3⟩, zF⟩ := FZ.out
         have y0 := zF 0
         have y1 := zF 1
         have y2 := zF 2
         have y3 := zF 3
         clear zF
         go_wp2_with fail
         try simp only [Exit.inBlock, Exit.then]
         refine bodyPost_ret (v := .tuple #[ev st tep gn ⟨Qa, Qn, Qc⟩, Sl.v ⟨Pa, Pn, Pc⟩]) ?hr rfl ?hE
         case hr =>
          rw [results_cell1 rfl]
          go_simp
          first | rfl | exact ⟨rfl, rfl⟩
         case hE =>
          exact FIN.out _ (((((Chg.refl _ w7).set ⟨X + 1 + 1, 0, none⟩ (.int .i64 st) (by simp)).set ⟨X + 1 + 1, 1, none⟩ (.int .i64 tep) (by simp)).set ⟨X + 1 + 1, 2, none⟩ (.int .i64 gn) (by simp)).set ⟨X + 1 + 1, 3, none⟩ (.slice Qa Qn Qc) (by simp))
end Go.Proofs.YticmoaebegahgaaGreatDoor.Iw
