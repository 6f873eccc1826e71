import Derived.Test.YticmoaebegahgaaGreatDoorRz
import Derived.Test.YticmoaebegahgaaGreatDoorRx
import Derived.Test.YticmoaebegahgaaGreatDoorRy
import Derived.Test.YticmoaebegahgaaGreatDoorQo
set_option linter.all false
namespace Go.Proofs.YticmoaebegahgaaGreatDoor.Iw
open Go.ChangeShapes Go.WideShapes Go.ChangeAt Go.RowKit
open Wr (IR RB iv ivs bv bvs grown_trans grown_refl grown_alloc ret_int ret_bool tv Ret ret_mk)
def Cs (S : Nat) (W : World) (P : World → Prop) : Prop := ∀ W', W.grownBy W' (some S) → P W'
theorem Cs.step {S : Nat} {W W' : World} {P : World → Prop} (h : Cs S W P) (g : W.grownBy W' (some S)) : Cs S W' P := fun W2 g2 => h W2 (grown_trans g g2)
theorem Cs.grown {S : Nat} {W W' : World} {P : World → Prop} (h : Cs S W P) (g : W.grownBy W' none) : Cs S W' P := h.step (Wr.grown_weak _ g)
theorem Cs.now {S : Nat} {W : World} {P : World → Prop} (h : Cs S W P) : P W := h W (grown_refl _ _)
structure La (w : World) (S : Nat) (W : World) : Prop where
 g : w.grownBy W none
 src : Wr.SrcOK W S
 hS : w.heap.size ≤ S
theorem La.step {w : World} {S : Nat} {W W' : World} (h : La w S W) (g : W.grownBy W' (some S)) (s : Wr.SrcOK W' S) : La w S W' := ⟨(chgS g).grown h.g (fun b hb => by rw [List.mem_singleton] at hb; rw [hb]; exact h.hS), s, h.hS⟩
theorem La.grown {w : World} {S : Nat} {W W' : World} (h : La w S W) (g : W.grownBy W' none) : La w S W' := h.step (Wr.grown_weak _ g) (h.src.grown g)
theorem La.lt {w : World} {S : Nat} {W : World} (h : La w S W) : S < W.heap.size := Wr.src_lt h.src
theorem La.cs {w : World} {S : Nat} {W : World} (h : La w S W) {P : World → Prop} (hp : ∀ W', w.grownBy W' none → P W') : Cs S W P := fun W' g => hp W' ((chgS g).grown h.g (fun b hb => by rw [List.mem_singleton] at hb; rw [hb]; exact h.hS))
def Bx (S : Nat) (W : World) (v : Value) : Prop := ∃ (B : Sl) (l : List UInt8), v = B.v ∧ B.fit ∧ B.n ≤ 20000 ∧ Cs S W (fun W => RB W B.a B.n l)
theorem Bx.step {S : Nat} {W W' : World} {v : Value} (h : Bx S W v) (g : W.grownBy W' (some S)) : Bx S W' v := by
 obtain ⟨B, l, h1, h2, h3, h4⟩ := h
 exact ⟨B, l, h1, h2, h3, h4.step g⟩
theorem Bx.grown {S : Nat} {W W' : World} {v : Value} (h : Bx S W v) (g : W.grownBy W' none) : Bx S W' v := h.step (Wr.grown_weak _ g)
theorem bx_or {S base : Nat} {W : World} {s : Sl} {l : List UInt8} (h : OR base W 5 1 s (bvs l)) (hb : S < base) (hn : s.n ≤ 20000) : Bx S W s.v :=
 ⟨s, l, rfl, h.fit, hn, fun W' g => or_rb2 (h.chg (chgS g) (fun b hb' hm => by rw [List.mem_singleton] at hm; have := (h.blk b hb').1; omega))⟩
def Kx (S : Nat) (W : World) (T E : Sl) (k : Ik) : Prop := Cs S W (fun W => KR W T E k) ∧ T.n ≤ 1000000 ∧ E.n ≤ 1000000 ∧ ∀ e ∈ k.es, e.held.length ≤ 1000000
theorem Kx.step {S : Nat} {W W' : World} {T E : Sl} {k : Ik} (h : Kx S W T E k) (g : W.grownBy W' (some S)) : Kx S W' T E k := ⟨h.1.step g, h.2⟩
theorem Kx.grown {S : Nat} {W W' : World} {T E : Sl} {k : Ik} (h : Kx S W T E k) (g : W.grownBy W' none) : Kx S W' T E k := h.step (Wr.grown_weak _ g)
theorem kx_ka {S : Nat} {W : World} {T E : Sl} {k : Ik} (h : KA W [S] T E k) (hT : T.n ≤ 1000000) (hE : k.es.length ≤ 1000000) (hH : ∀ e ∈ k.es, e.held.length ≤ 1000000) : Kx S W T E k :=
 ⟨fun W' g => (h.step (chgS g) (fun b hb => .inl hb) (fun b hb => .inl hb)).kr, hT, by have := h.es.len; omega, hH⟩
set_option maxRecDepth 100000 in
set_option maxHeartbeats 80000000 in
theorem answers_any (T E : Sl) (k : Ik) (t : Tm.Tg) (V : Sl) (bA : Option Addr) (bn bc : Nat) (bl : List UInt8) (window : Int) (A : Option Addr) (n c : Nat) (zs : List Int) (w : World) (hk : KR w T E k) (hV : VI w [] V t.vs) (hb : Wr.InB w bA bn bc bl) (hl : Wr.InRow w A n c zs) (ht : Wr.Tabled w) :
  Calls Tryz.prog 3 #[iv3 k.win T E, tv t V.v, .slice bA bn bc, .int .i64 window, .slice A n c] w (Ret (.bool true) w) := by
 have HK := Hi hk
 have HV := Hi hV
 have HB := Hi hb
 have HL := Hi hl
 have HTB := Hi ht
 clear hk hV hb hl ht
 obtain ⟨win, tl, es⟩ := k
 obtain ⟨tst, tep, tsq, ttm, tkd, tvs⟩ := t
 obtain ⟨Ta, Tn, Tc⟩ := T
 obtain ⟨Ea, En, Ec⟩ := E
 obtain ⟨Va, Vn, Vc⟩ := V
 have hEn : es.length = En := HK.out.es.len
 have HEN := Hi hEn
 clear hEn
 have hEm : En ≤ 9223372036854775807 := by have h1 := HK.out.es.fit.1; have h2 := HK.out.es.fit.2; dsimp only at h1 h2; omega
 dsimp only [iv3, tv, Sl.v]
 obtain ⟨X, hX⟩ : ∃ X, X = w.heap.size := ⟨_, rfl⟩
 obtain ⟨w1, hw1⟩ : ∃ w1, w1 = w.alloc (Obj.cells #[.int .i64 win, .slice Ta Tn Tc, .slice Ea En Ec] 25) := ⟨_, rfl⟩
 obtain ⟨w2, hw2⟩ : ∃ w2, w2 = w1.alloc (Wr.tcells ⟨tst, tep, tsq, ttm, tkd, tvs⟩ (.slice Va Vn Vc)) := ⟨_, rfl⟩
 have z1 : w1.heap.size = X + 1 := by subst hw1; subst hX; simp
 have z2 : w2.heap.size = X + 2 := by subst hw2; simp [z1]
 have g1 : w.grownBy w1 none := by subst hw1; exact grown_alloc _ _ _
 have g2 : w1.grownBy w2 none := by subst hw2; exact grown_alloc _ _ _
 have G := Hi (grown_trans g1 g2)
 have BX := Hi (show Tri w2 X (.int .i64 win) (.slice Ta Tn Tc) (.slice Ea En Ec) from (show Tri w1 X _ _ _ by subst hw1; subst hX; exact tri_made _ _ _ _ _).grown g2)
 have SY := Hi (show Wr.Six w2 (X + 1) ⟨tst, tep, tsq, ttm, tkd, tvs⟩ (.slice Va Vn Vc) by subst hw2; rw [← z1]; exact Wr.Six.made _ _ _)
 have HZX := Hi (show w2.heap.size = X + 2 ∧ w.heap.size = X from ⟨z2, hX.symm⟩)
 unfold Wr.tcells at hw2
 try dsimp only at hw2
 go_enter Tryz.func3, Tryz.ntmps3
 go_upto_region 1 with fail
 rw [← hw1, ← hw2]
 simp only [← hX]
 try simp only [z1]
 clear hX hw1 hw2 g1 g2 z1 z2
 have AWK := Hi (fun (W : World) (g : w.grownBy W none) => (awake_any W).mono (fun e w' h => show e = .returned (.bool true) ∧ w.grownBy w' none from ⟨h.1, grown_trans g h.2⟩))
 obtain ⟨⟨c0, c1, c2⟩, -⟩ := BX.out
 obtain ⟨⟨t0, t1, t2, t3, t4, t5⟩, -⟩ := SY.out
 dsimp only at t0 t1 t2 t3 t4 t5
 by_cases q1 : (500 : Int) < (Tn : Int)
 ·go_wp2_with fail
  refine (AWK.out _ G.out).mono ?_
  rintro e w8 ⟨rfl, g8⟩
  go_wp2
  go_ret
  exact ret_mk rfl g8
 by_cases q2 : (80 : Int) < (En : Int)
 ·go_wp2_with fail
  refine (AWK.out _ G.out).mono ?_
  rintro e w8 ⟨rfl, g8⟩
  go_wp2
  go_ret
  exact ret_mk rfl g8
 by_cases q3 : (60 : Int) < (Vn : Int)
 ·go_wp2_with fail
  refine (AWK.out _ G.out).mono ?_
  rintro e w8 ⟨rfl, g8⟩
  go_wp2
  go_ret
  exact ret_mk rfl g8
 by_cases q4 : (1000 : Int) < (bn : Int)
 ·go_wp2_with fail
  refine (AWK.out _ G.out).mono ?_
  rintro e w8 ⟨rfl, g8⟩
  go_wp2
  go_ret
  exact ret_mk rfl g8
 go_wp2_with fail
 clear c0 c1 c2 t0 t1 t2 t3 t4 t5
 go_loopw [70] (fun v wr => ∃ p : Nat, v = .int .i64 p ∧ p ≤ En ∧ Hid (w2.grownBy wr none) ∧ Hid (∀ j, j < p → (es.getD j wt0).held.length ≤ 30)) (fun v _ => En - (intOf v).toNat)
 case atStart => exact ⟨0, rfl, by omega, grown_refl _ _, fun j hj => absurd hj (by omega)⟩
 case round =>
  obtain ⟨p, rfl, hp, GR, HH⟩ := hrel
  obtain ⟨⟨c0, c1, c2⟩, -⟩ := BX.out.grown GR.out
  by_cases hlt : p < En
  ·have hlt' : (p : Int) < (En : Int) := by omega
   obtain ⟨b, off, ⟨Wa, Wn, Wc⟩, hDa, htr, hcc⟩ := (HK.out.grown (grown_trans G.out GR.out)).es.at_ p hlt
   dsimp only at hDa
   subst hDa
   obtain ⟨d0, d1, d2, d3⟩ := four_of (o := off + p * 4) (fun j u hu => by rw [Nat.add_assoc]; exact hcc j u hu)
   dsimp only [Sl.v] at d3
   have hwn : (es.getD p wt0).held.length = Wn := htr.len
   clear hcc d0 d1 d2 htr
   by_cases h30 : (30 : Int) < (Wn : Int)
   ·go_wp2_with fail
    refine (AWK.out _ (grown_trans G.out GR.out)).mono ?_
    rintro e w8 ⟨rfl, g8⟩
    go_wp2
    go_ret
    exact ret_mk rfl g8
   ·have HH2 := Hi (fun j (hj : j < p + 1) => show (es.getD j wt0).held.length ≤ 30 from by
     rcases Nat.lt_or_ge j p with e | e
     ·exact HH.out j e
     ·obtain rfl : j = p := by omega
      omega)
    clear hwn
    go_wp2
    go_roundw
    case rel => exact ⟨p + 1, by go_num, by omega, GR, HH2⟩
    case measure => simp [intOf]; omega
  ·obtain rfl : En = p := by omega
   have HKX := Hi (show ∀ e ∈ es, e.held.length ≤ 1000000 from fun e he => by
    obtain ⟨j, hj, rfl⟩ := List.mem_iff_getElem.1 he
    have h1 := HH.out j (by have := HEN.out; omega)
    rw [List.getD_eq_getElem?_getD, List.getElem?_eq_getElem hj] at h1
    have h2 : es[j].held.length ≤ 30 := h1
    omega)
   clear HH c0 c1 c2 hlt
   have GW := Hi (grown_trans G.out GR.out)
   go_wp2_with fail
   refine (Wr.new_any _ _ _ _ wr (show Wr.InRow wr A n c zs from HL.out.grown GW.out)).mono ?_
   rintro e w3 ⟨rfl, g3, s3, z3⟩
   obtain ⟨S, hS⟩ : ∃ S, S = wr.heap.size := ⟨_, rfl⟩
   rw [← hS] at s3 z3
   simp only [← hS]
   have LA := Hi (show La w S w3 from ⟨grown_trans GW.out g3, s3, by rw [hS]; exact GW.out.size⟩)
   have BX := Hi (BX.out.grown (grown_trans GR.out g3))
   have SY := Hi (SY.out.grown (grown_trans GR.out g3) (by simp))
   have HXS := Hi (show X + 1 < S ∧ w.heap.size = X by have h1 := GR.out.size; have h2 := HZX.out; omega)
   clear g3 s3 z3 hS GW GR G HL HZX
   go_wp2_with fail
   refine (stream_any S w3 LA.out.src).mono ?_
   rintro e w4 ⟨⟨ca, cn, cc⟩, o, kk, rfl, hkk, hst, hor, g4, s4⟩
   have hcn : cn ≤ 8000 := by have h1 := stream_len hst; have h2 := hor.len; rw [Wr.bvs_len] at h2; dsimp only at h2; omega
   have hol : (bvs o).length = cn * 1 := hor.len
   have BC := Hi (bx_or hor LA.out.lt (by dsimp only; omega))
   dsimp only [Sl.v] at BC
   have LA := Hi (LA.out.step g4 s4)
   have BX := Hi (BX.out.step (chgS g4) (fun hm => by rw [List.mem_singleton] at hm; have := HXS.out; omega))
   have SY := Hi (SY.out.grown g4 (fun e => by injection e with e; have := HXS.out; omega))
   have HOR := Hi hor
   obtain ⟨IB, hIB, hzB, hszB, hbyB⟩ := parts_b
   clear g4 s4 hst hkk hor
   obtain ⟨wl, hwl⟩ : ∃ z, z = w4.alloc (Obj.cells #[] 5) := ⟨_, rfl⟩
   obtain ⟨bq, hbq⟩ : ∃ b, b = w4.heap.size := ⟨_, rfl⟩
   have gl : w4.grownBy wl none := by subst hwl; exact grown_alloc _ _ _
   have R0 := Hi (show OR bq wl 5 1 ⟨some ⟨bq, 0, none⟩, 0, 0⟩ [] from by subst hwl; subst hbq; exact or_lit0b w4)
   have HCC := Hi (show CR wl ⟨ca, cn, cc⟩ (bvs o) from (HOR.out.grown gl).cr)
   have LAl := Hi (LA.out.grown gl)
   have HBQ := Hi (show bq ≤ wl.heap.size by rw [hbq]; exact gl.size)
   have HBW := Hi (show w4.heap.size = bq from hbq.symm)
   have GLL := Hi gl
   have hbl : (bvs bl).length = bn * 1 := by rw [Wr.bvs_len]; have := HB.out.1.1; omega
   clear gl
   rw [hwl, hbq] at R0 HBQ
   rw [hwl] at HCC
   go_wp2_with (first
    | (at_builtin
       refine wpList_appV rfl (.tmp 89) (.tmp 90) 22 rfl (S := ⟨some ⟨w4.heap.size, 0, none⟩, 0, 0⟩) (V := ⟨ca, cn, cc⟩) Tryz.underlying22 hIB hzB hszB hbyB (by rfl) (by omega) rfl rfl R0.out HBQ.out hol HCC.out (Wr.bvs_one _) (by dsimp only; omega) (by dsimp only; omega) ?_
       intro f w5 hfn hf gf hfb
       rw [← hwl, ← hbq] at gf
       rw [← hwl, ← hbq] at hfb
       rw [← hbq] at hf
       have cf : Chg [bq] wl w5 := Chg.of gf (fun b hb => by injection hb with hb; subst hb; exact List.mem_singleton_self _)
       have g45 : w4.grownBy w5 none := cf.grown GLL.out (fun b hb => by rw [List.mem_singleton] at hb; have := HBW.out; omega)
       have LA5 := Hi (LA.out.grown g45)
       have G45 := Hi g45
       have F5 := Hi (show OR bq w5 5 1 f (bvs o) from hf)
       have HQ5 := Hi (show bq ≤ w5.heap.size by have h1 := g45.size; have h2 := HBW.out; omega)
       have HC5 := Hi (show CR w5 ⟨bA, bn, bc⟩ (bvs bl) from crRB (HB.out.1.grown LA5.out.g))
       have HFN := Hi (show f.n = cn by rw [hfn]; dsimp only; omega)
       clear hfn hf gf hfb cf g45
       obtain ⟨fa, fn, fc⟩ := f
       dsimp only [Sl.v] at HFN ⊢)
    | (at_builtin
       refine wpList_appV rfl (.tmp 91) (.tmp 92) 22 rfl (S := ⟨fa, fn, fc⟩) (V := ⟨bA, bn, bc⟩) Tryz.underlying22 hIB hzB hszB hbyB (by rfl) (by omega) rfl rfl F5.out HQ5.out hbl HC5.out (Wr.bvs_one _) (by have := HFN.out; dsimp only; omega) (by have := HFN.out; dsimp only; omega) ?_
       intro r w6 hrn hr gr hrb
       have cr6 : Chg (Sl.blk ⟨fa, fn, fc⟩).toList w5 w6 := Chg.of gr (fun b hb => by simpa using hb)
       have g46 : w4.grownBy w6 none := cr6.grown G45.out (fun b hb => by have h1 := (F5.out.blk b (by simpa using hb)).1; have h2 := HBW.out; omega)
       have R6 := Hi (show OR bq w6 5 1 r (bvs (o ++ bl)) by rw [Wr.bvs_append]; exact hr)
       have HRN := Hi (show r.n ≤ 9000 by rw [hrn]; have := HFN.out; dsimp only at this ⊢; omega)
       have G46 := Hi g46
       clear hrn hr gr hrb cr6 g46
       obtain ⟨ra, rn, rc⟩ := r
       dsimp only [Sl.v] at HRN ⊢)
    | fail)
   obtain ⟨Y, hY⟩ : ∃ b, b = w6.heap.size := ⟨_, rfl⟩
   obtain ⟨w7, hw7⟩ : ∃ z, z = w6.alloc (Obj.cells #[.slice bA bn bc, .slice ca cn cc, .slice ra rn rc] 22) := ⟨_, rfl⟩
   have g7 : w6.grownBy w7 none := by subst hw7; exact grown_alloc _ _ _
   have g47 : w4.grownBy w7 none := grown_trans G46.out g7
   have LA7 := Hi (LA.out.grown g47)
   have BB7 := Hi (show Bx S w7 (.slice bA bn bc) from ⟨⟨bA, bn, bc⟩, bl, rfl, ⟨HB.out.2.1, HB.out.2.2⟩, by dsimp only; omega, LA7.out.cs (fun W' g => HB.out.1.grown g)⟩)
   have BC7 := Hi (BC.out.grown g47)
   have BR7 := Hi (show Bx S w7 (.slice ra rn rc) from (bx_or R6.out (by have h1 := LA.out.lt; have h2 := HBW.out; omega) (by have := HRN.out; dsimp only; omega)).grown g7)
   have ROW := Hi (show ∀ i, i < 3 → ∃ u, w7.cell? ⟨Y, i, none⟩ = some u ∧ Bx S w7 u from fun i hi => by
    obtain rfl | rfl | rfl : i = 0 ∨ i = 1 ∨ i = 2 := by omega
    ·exact ⟨_, by subst hw7; rw [hY]; exact World.cell?_alloc_new _ _ _ _, BB7.out⟩
    ·exact ⟨_, by subst hw7; rw [hY]; exact World.cell?_alloc_new _ _ _ _, BC7.out⟩
    ·exact ⟨_, by subst hw7; rw [hY]; exact World.cell?_alloc_new _ _ _ _, BR7.out⟩)
   have BX := Hi (BX.out.grown g47)
   have SY := Hi (SY.out.grown g47 (by simp))
   rw [← hw7]
   try simp only [← hY]
   clear hw7 hY g7 g47 BR7 R6 HRN G46 LA5 G45 F5 HQ5 HC5 HFN R0 HCC LAl HBQ HBW GLL hbl hwl hbq HOR hol BC LA
   go_loopw [96] (fun v wr => ∃ p : Nat, v = .int .i64 p ∧ p ≤ 3 ∧ Hid (w7.grownBy wr none)) (fun v _ => 3 - (intOf v).toNat)
   case atStart => exact ⟨0, rfl, by omega, grown_refl _ _⟩
   case round =>
    obtain ⟨p, rfl, hp, GR⟩ := hrel
    by_cases hlt : p < 3
    ·have hlt' : (p : Int) < 3 := by omega
     obtain ⟨u, hcu, hbx⟩ := ROW.out p hlt
     obtain ⟨⟨xa, xn, xc⟩, xl, rfl, hxf, hxn, hxs⟩ := hbx
     dsimp only [Sl.v] at hcu hxn hxs
     have hcu := GR.out.cell hcu (by simp)
     have RBX := Hi (fun (W : World) (g : w7.grownBy W none) => hxs W (Wr.grown_weak _ g))
     have FRA := Hi (frames_any xa xn xc xl wr (RBX.out _ GR.out) hxf.1 hxf.2 (by omega))
     go_wp2_with fail
     refine FRA.out.mono ?_
     rintro e wf ⟨⟨Fa, Fn, Fc⟩, ⟨Qa, Qn, Qc⟩, m, xs1, rfl, hx1, hsb1, hq1, gf, hm1⟩
     have SB1 := Hi (SR.of_sb hsb1)
     have Q1 := Hi (or_rb2 hq1)
     have GR := Hi (grown_trans GR.out gf)
     have FRB := Hi (rframes_any xa xn xc xl wf (RBX.out _ GR.out) hxf.1 hxf.2 (by omega))
     have HM1 := Hi hm1
     have HX1 := Hi hx1
     clear hsb1 hq1 gf FRA hcu hm1 hx1
     dsimp only [Sl.v]
     go_wp2_with fail
     refine FRB.out.mono ?_
     rintro e wg ⟨⟨Ha, Hn, Hc⟩, ⟨Pa, Pn, Pc⟩, m2, ys1, rfl, hy1, hsb2, hq2, gg, hm2⟩
     obtain rfl : m2 = m := hm2.trans HM1.out.symm
     have LE := Hi (lists_eq ⟨Fa, Fn, Fc⟩ ⟨Ha, Hn, Hc⟩ xs1 ys1 wg (SB1.out.grown gg) (SR.of_sb hsb2) (HX1.out.trans hy1.symm))
     have Q1 := Hi (Q1.out.grown gg)
     have Q2 := Hi (or_rb2 hq2)
     have GR := Hi (grown_trans GR.out gg)
     clear hsb2 hq2 gg FRB SB1 hy1 hm2 HM1 HX1
     dsimp only [Sl.v] at LE ⊢
     go_wp2_with fail
     refine LE.out.mono ?_
     rintro e wh ⟨rfl, gh⟩
     have GR := Hi (grown_trans GR.out gh)
     have cv1 := Wr.conv_str wh Qa Qn Qc _ (Q1.out.grown gh)
     have cv2 := Wr.conv_str wh Pa Pn Pc _ (Q2.out.grown gh)
     clear gh LE Q1 Q2
     go_wp2_with (first | (simp only [cv1]) | (simp only [cv2]) | fail)
     go_roundw
     case rel => exact ⟨p + 1, by go_num, by omega, GR⟩
     case measure => simp [intOf]; omega
    ·obtain rfl : p = 3 := by omega
     have LA := Hi (LA7.out.grown GR.out)
     have BX := Hi (BX.out.grown GR.out)
     have SY := Hi (SY.out.grown GR.out (by simp))
     have BB := Hi (BB7.out.grown GR.out)
     have BC := Hi (BC7.out.grown GR.out)
     clear GR ROW LA7 BB7 BC7
     go_wp2_with fail
     obtain ⟨qw, er, hqe⟩ : ∃ (qw er : Int), newF window = (⟨qw, [], []⟩, er) := by
      unfold newF
      split
      ·exact ⟨_, _, rfl⟩
      ·exact ⟨_, _, rfl⟩
     have N1 := Hi (new_nil window wr)
     have N2 := Hi (fun (W : World) => rnew_any window W)
     rw [hqe] at N1
     simp only [hqe] at N2
     clear hqe
     dsimp only [iv3, nilS, Sl.v] at N1 N2
     refine N1.out.mono ?_
     rintro e w8 ⟨rfl, g8⟩
     obtain ⟨B1, hB1⟩ : ∃ b, b = w8.heap.size := ⟨_, rfl⟩
     obtain ⟨w9, hw9⟩ : ∃ z, z = w8.alloc (Obj.cells #[.int .i64 qw, .slice none 0 0, .slice none 0 0] 25) := ⟨_, rfl⟩
     have g9 : w8.grownBy w9 none := by subst hw9; exact grown_alloc _ _ _
     have U1 := Hi (show Tri w9 B1 (.int .i64 qw) (.slice none 0 0) (.slice none 0 0) by subst hw9; subst hB1; exact tri_made _ _ _ _ _)
     have G9 := Hi (grown_trans g8 g9)
     go_wp2_with fail
     rw [← hw9]
     try simp only [← hB1]
     clear hw9 hB1 g8 g9 N1
     refine (N2.out w9).mono ?_
     rintro e w10 ⟨rfl, g10⟩
     obtain ⟨B2, hB2⟩ : ∃ b, b = w10.heap.size := ⟨_, rfl⟩
     obtain ⟨w11, hw11⟩ : ∃ z, z = w10.alloc (Obj.cells #[.int .i64 qw, .slice none 0 0, .slice none 0 0] 25) := ⟨_, rfl⟩
     have g11 : w10.grownBy w11 none := by subst hw11; exact grown_alloc _ _ _
     have U2 := Hi (show Tri w11 B2 (.int .i64 qw) (.slice none 0 0) (.slice none 0 0) by subst hw11; subst hB2; exact tri_made _ _ _ _ _)
     have G11 := Hi (grown_trans G9.out (grown_trans g10 g11))
     have U1 := Hi (U1.out.grown (grown_trans g10 g11))
     have LA := Hi (LA.out.grown G11.out)
     have BX := Hi (BX.out.grown G11.out)
     have SY := Hi (SY.out.grown G11.out (by simp))
     have BB := Hi (BB.out.grown G11.out)
     have BC := Hi (BC.out.grown G11.out)
     have SE := Hi (same_eq nilS nilS nilS nilS ⟨qw, [], []⟩ w11 (kr_nil _ _) (kr_nil _ _))
     dsimp only [iv3, nilS, Sl.v] at SE
     clear N2 g10 g11 G9 G11
     go_upto_region 21 with fail
     rw [← hw11]
     try simp only [← hB2]
     clear hw11 hB2
     obtain ⟨⟨c0, c1, c2⟩, -⟩ := U1.out
     obtain ⟨⟨d0, d1, d2⟩, -⟩ := U2.out
     go_wp2_with fail
     refine SE.out.mono ?_
     rintro e w12 ⟨rfl, g12⟩
     have LA := Hi (LA.out.grown g12)
     have BX := Hi (BX.out.grown g12)
     have SY := Hi (SY.out.grown g12 (by simp))
     have BB := Hi (BB.out.grown g12)
     have BC := Hi (BC.out.grown g12)
     clear SE g12 c0 c1 c2 d0 d1 d2 U1 U2
     go_wp2_with fail
     refine (state2_any S w12 LA.out.src).mono ?_
     rintro e w13 ⟨⟨sTa, sTn, sTc⟩, ⟨sEa, sEn, sEc⟩, ⟨swin, stl, ses⟩, rfl, hka, hko, -, -, g13, s13⟩
     have hok := Ik.ok_iff.1 hko
     have LA := Hi (LA.out.step g13 s13)
     have BX := Hi (BX.out.step (chgS g13) (fun hm => by rw [List.mem_singleton] at hm; have := HXS.out; omega))
     have SY := Hi (SY.out.grown g13 (fun e => by injection e with e; have := HXS.out; omega))
     have BB := Hi (BB.out.step g13)
     have BC := Hi (BC.out.step g13)
     have HKA := Hi hka
     have HKO := Hi hko
     have KS0 := Hi (kx_ka hka (by have h1 := hka.tl.1.1; have h2 := hok.2.1; dsimp only at h1 h2 ⊢; omega) (by have h1 : ses.length ≤ 64 := hok.2.2.2.len; dsimp only; omega) (fun x hx => by have h1 := (hok.2.2.2.all x hx).len; have h2 := hok.1; dsimp only at h1 h2; omega))
     clear hka hko hok g13 s13
     obtain ⟨B3, hB3⟩ : ∃ b, b = w13.heap.size := ⟨_, rfl⟩
     obtain ⟨w14, hw14⟩ : ∃ z, z = w13.alloc (Obj.cells #[.int .i64 swin, .slice sTa sTn sTc, .slice sEa sEn sEc] 25) := ⟨_, rfl⟩
     have g14 : w13.grownBy w14 none := by subst hw14; exact grown_alloc _ _ _
     have U3 := Hi (show Tri w14 B3 (.int .i64 swin) (.slice sTa sTn sTc) (.slice sEa sEn sEc) by subst hw14; subst hB3; exact tri_made _ _ _ _ _)
     have HB3 := Hi (show S < B3 by rw [hB3]; exact LA.out.lt)
     have LA := Hi (LA.out.grown g14)
     have BX := Hi (BX.out.grown g14)
     have SY := Hi (SY.out.grown g14 (by simp))
     have BB := Hi (BB.out.grown g14)
     have BC := Hi (BC.out.grown g14)
     have HKA := Hi (HKA.out.grown g14)
     have KS0 := Hi (KS0.out.grown g14)
     dsimp only [iv3, Sl.v]
     go_upto_region 24 with fail
     rw [← hw14]
     try simp only [← hB3]
     clear hw14 hB3 g14
     have gd := Wr.grown_drew w14 none
     refine wp_region_held_drew (S := fun w' => w'.cell? ⟨X, 0, none⟩ = some (.int .i64 win) ∧ w'.cell? ⟨X, 1, none⟩ = some (.slice Ta Tn Tc) ∧ w'.cell? ⟨X, 2, none⟩ = some (.slice Ea En Ec) ∧ w'.cell? ⟨B3, 0, none⟩ = some (.int .i64 swin) ∧ w'.cell? ⟨B3, 1, none⟩ = some (.slice sTa sTn sTc) ∧ w'.cell? ⟨B3, 2, none⟩ = some (.slice sEa sEn sEc)) (by kernel_rfl) ?_ (fun hHeld => ?_)
     ·exact ⟨(BX.out.grown gd).1.1, (BX.out.grown gd).1.2.1, (BX.out.grown gd).1.2.2, (U3.out.grown gd).1.1, (U3.out.grown gd).1.2.1, (U3.out.grown gd).1.2.2⟩
     try simp only [Act.put, lsA, lsB, lsC]
     have LA := Hi (LA.out.grown gd)
     have BX := Hi (BX.out.grown gd)
     have U3 := Hi (U3.out.grown gd)
     have SY := Hi (SY.out.grown gd (by simp))
     have BB := Hi (BB.out.grown gd)
     have BC := Hi (BC.out.grown gd)
     have HKA := Hi (HKA.out.grown gd)
     have KS0 := Hi (KS0.out.grown gd)
     clear gd
     generalize w14.drew = wd at *
     refine takeL (i := 0) (v := ?_) rfl (by kernel_rfl) (by kernel_rfl) (by kernel_rfl) (fun _ _ _ h => h) (Or.inl ⟨by rfl, ?_⟩) (by assumption) ?_
     rotate_left 1
     ·intro w hSw; obtain ⟨s0, s1, s2, s3, s4, s5⟩ := hSw; first | (go_simp; done) | (go_simp; with_reducible rfl)
     try simp only [Act.put, lsA, lsB, lsC]
     refine takeL (i := 1) (v := ?_) rfl (by kernel_rfl) (by kernel_rfl) (by kernel_rfl) (fun _ _ _ h => h) (Or.inl ⟨by rfl, ?_⟩) (by assumption) ?_
     rotate_left 1
     ·intro w hSw; obtain ⟨s0, s1, s2, s3, s4, s5⟩ := hSw; first | (go_simp; done) | (go_simp; with_reducible rfl)
     try simp only [Act.put, lsA, lsB, lsC]
     refine takeL (i := 2) (v := ?_) rfl (by kernel_rfl) (by kernel_rfl) (by kernel_rfl) (fun _ _ _ h => h) (Or.inl ⟨by rfl, ?_⟩) (by assumption) ?_
     rotate_left 1
     ·intro w hSw; obtain ⟨s0, s1, s2, s3, s4, s5⟩ := hSw; first | (go_simp; done) | (go_simp; with_reducible rfl)
     try simp only [Act.put, lsA, lsB, lsC]
     refine takeL (i := 3) (v := ?_) rfl (by kernel_rfl) (by kernel_rfl) (by kernel_rfl) (fun _ _ _ h => h) (Or.inl ⟨by rfl, ?_⟩) (by assumption) ?_
     rotate_left 1
     ·intro w hSw; obtain ⟨s0, s1, s2, s3, s4, s5⟩ := hSw; first | (go_simp; done) | (go_simp; with_reducible rfl)
     try simp only [Act.put, lsA, lsB, lsC]
     refine takeL (i := 7) (v := ?_) rfl (by kernel_rfl) (by kernel_rfl) (by kernel_rfl) (fun _ _ _ h => h) (Or.inl ⟨by rfl, ?_⟩) (by assumption) ?_
     rotate_left 1
     ·intro w hSw; obtain ⟨s0, s1, s2, s3, s4, s5⟩ := hSw; first | (go_simp; done) | (go_simp; with_reducible rfl)
     try simp only [Act.put, lsA, lsB, lsC]
     have OA := Hi (odd_any S ⟨sTa, sTn, sTc⟩ ⟨sEa, sEn, sEc⟩ ⟨swin, stl, ses⟩ wd LA.out.src HKA.out HKO.out)
     dsimp only [iv3, Sl.v] at OA
     refine wpAnyH_ready (rs := [4]) (by kernel_rfl) (by simp) (consL rfl (fun K hK => ?_) AllReadyH.nil)
     go_simp
     refine OA.out.mono ?_
     rintro e w15 ⟨⟨oTa, oTn, oTc⟩, ⟨oEa, oEn, oEc⟩, ⟨owin, otl, oes⟩, rfl, hka2, ho1, ho2, ho3, g15, s15⟩
     have BX := Hi (BX.out.step (chgS g15) (fun hm => by rw [List.mem_singleton] at hm; have := HXS.out; omega))
     have U3 := Hi (U3.out.step (chgS g15) (fun hm => by rw [List.mem_singleton] at hm; have := HB3.out; omega))
     have SY := Hi (SY.out.grown g15 (fun e => by injection e with e; have := HXS.out; omega))
     have LA := Hi (LA.out.step g15 s15)
     have BB := Hi (BB.out.step g15)
     have BC := Hi (BC.out.step g15)
     have KS0 := Hi (KS0.out.step g15)
     have KO0 := Hi (kx_ka hka2 (by dsimp only at ho1 ⊢; omega) (by dsimp only at ho2 ⊢; omega) (fun x hx => by have := ho3 x hx; omega))
     dsimp only [iv3, Sl.v]
     clear hka2 ho1 ho2 ho3 g15 s15 OA HKA
     refine hK.out _ _ ?_ (fun hHeld => ?_)
     ·exact ⟨BX.out.1.1, BX.out.1.2.1, BX.out.1.2.2, U3.out.1.1, U3.out.1.2.1, U3.out.1.2.2⟩
     clear hK K
     try simp only [Act.put, lsA, lsB, lsC]
     obtain ⟨Y2, hY2⟩ : ∃ b, b = w15.heap.size := ⟨_, rfl⟩
     obtain ⟨w16, hw16⟩ : ∃ z, z = w15.alloc (Obj.cells #[.int .i64 win, .slice Ta Tn Tc, .slice Ea En Ec, .int .i64 swin, .slice sTa sTn sTc, .slice sEa sEn sEc, .int .i64 owin, .slice oTa oTn oTc, .slice oEa oEn oEc] 25) := ⟨_, rfl⟩
     have g16 : w15.grownBy w16 none := by subst hw16; exact grown_alloc _ _ _
     have HSY := Hi (show S < Y2 by rw [hY2]; exact LA.out.lt)
     have BX := Hi (BX.out.grown g16)
     have U3 := Hi (U3.out.grown g16)
     have SY := Hi (SY.out.grown g16 (by simp))
     have LA := Hi (LA.out.grown g16)
     have BB := Hi (BB.out.grown g16)
     have BC := Hi (BC.out.grown g16)
     have KS0 := Hi (KS0.out.grown g16)
     have KO0 := Hi (KO0.out.grown g16)
     have KR0 := Hi (show Kx S w16 ⟨Ta, Tn, Tc⟩ ⟨Ea, En, Ec⟩ ⟨win, tl, es⟩ from ⟨LA.out.cs (fun W' g => HK.out.grown g), by dsimp only; omega, by dsimp only; omega, HKX.out⟩)
     have ROWK := Hi (show ∀ i, i < 3 → ∃ (T E : Sl) (k : Ik), w16.cell? ⟨Y2, i * 3 + 0, none⟩ = some (.int .i64 k.win) ∧ w16.cell? ⟨Y2, i * 3 + 1, none⟩ = some T.v ∧ w16.cell? ⟨Y2, i * 3 + 2, none⟩ = some E.v ∧ Kx S w16 T E k from fun i hi => by
      obtain rfl | rfl | rfl : i = 0 ∨ i = 1 ∨ i = 2 := by omega
      ·exact ⟨_, _, _, by subst hw16; rw [hY2]; exact World.cell?_alloc_new _ _ _ _, by subst hw16; rw [hY2]; exact World.cell?_alloc_new _ _ _ _, by subst hw16; rw [hY2]; exact World.cell?_alloc_new _ _ _ _, KR0.out⟩
      ·exact ⟨_, _, _, by subst hw16; rw [hY2]; exact World.cell?_alloc_new _ _ _ _, by subst hw16; rw [hY2]; exact World.cell?_alloc_new _ _ _ _, by subst hw16; rw [hY2]; exact World.cell?_alloc_new _ _ _ _, KS0.out⟩
      ·exact ⟨_, _, _, by subst hw16; rw [hY2]; exact World.cell?_alloc_new _ _ _ _, by subst hw16; rw [hY2]; exact World.cell?_alloc_new _ _ _ _, by subst hw16; rw [hY2]; exact World.cell?_alloc_new _ _ _ _, KO0.out⟩)
     refine wpAnyH_ready (rs := [5]) (by kernel_rfl) (by simp) (consL rfl (fun K hK => ?_) AllReadyH.nil)
     go_simp
     rw [← hw16]
     try simp only [← hY2]
     clear hw16 hY2 g16 KR0 KS0 KO0
     refine hK.out _ _ ?_ (fun hHeld => ?_)
     ·exact ⟨BX.out.1.1, BX.out.1.2.1, BX.out.1.2.2, U3.out.1.1, U3.out.1.2.1, U3.out.1.2.2⟩
     clear hK K
     try simp only [Act.put, lsA, lsB, lsC]
     refine takeL (i := 6) (v := ?_) rfl (by kernel_rfl) (by kernel_rfl) (by kernel_rfl) (fun _ _ _ h => h) (Or.inl ⟨by rfl, ?_⟩) (by assumption) ?_
     rotate_left 1
     ·intro w hSw; obtain ⟨s0, s1, s2, s3, s4, s5⟩ := hSw; first | (go_simp; done) | (go_simp; with_reducible rfl)
     try simp only [Act.put, lsA, lsB, lsC]
     refine wpAnyH_done (by kernel_rfl) ?_ _
     clear U3 BX
     go_wp2_with fail
     have HW16 := Hi (show w16.heap.size = w16.heap.size from rfl)
     go_loopw [157] (fun v wr => ∃ p : Nat, v = .int .i64 p ∧ p ≤ 3 ∧ Hid (w16.grownBy wr (some S)) ∧ Hid (Wr.SrcOK wr S)) (fun v _ => 3 - (intOf v).toNat)
     case atStart => exact ⟨0, rfl, by omega, grown_refl _ _, LA.out.src⟩
     case round =>
      obtain ⟨p, rfl, hp, GR, SR⟩ := hrel
      by_cases hlt : p < 3
      ·have hlt' : (p : Int) < 3 := by omega
       obtain ⟨⟨xTa, xTn, xTc⟩, ⟨xEa, xEn, xEc⟩, ⟨xwin, xtl, xes⟩, k0, k1, k2, hkx⟩ := ROWK.out p hlt
       have hne : ∀ o, (some Y2 = some S) → (o : Nat) = o → False := fun o e _ => by injection e with e; have := HSY.out; omega
       have k0 := GR.out.cell k0 (fun e => by injection e with e; dsimp only at e; have := HSY.out; omega)
       have k1 := GR.out.cell k1 (fun e => by injection e with e; dsimp only at e; have := HSY.out; omega)
       have k2 := GR.out.cell k2 (fun e => by injection e with e; dsimp only at e; have := HSY.out; omega)
       dsimp only [Sl.v] at k0 k1 k2
       rw [Nat.add_zero] at k0
       have KX := Hi (hkx.step GR.out)
       have LA := Hi (LA.out.step GR.out SR.out)
       have SY := Hi (SY.out.grown GR.out (fun e => by injection e with e; have := HXS.out; omega))
       have BB := Hi (BB.out.step GR.out)
       have BC := Hi (BC.out.step GR.out)
       clear hkx hne
       obtain ⟨B28, hB28⟩ : ∃ b, b = wr.heap.size := ⟨_, rfl⟩
       obtain ⟨w17, hw17⟩ : ∃ z, z = wr.alloc (Obj.cells #[.int .i64 xwin, .slice xTa xTn xTc, .slice xEa xEn xEc] 25) := ⟨_, rfl⟩
       have g17 : wr.grownBy w17 none := by subst hw17; exact grown_alloc _ _ _
       have U28 := Hi (show Tri w17 B28 (.int .i64 xwin) (.slice xTa xTn xTc) (.slice xEa xEn xEc) by subst hw17; subst hB28; exact tri_made _ _ _ _ _)
       have HB28 := Hi (show S < B28 by rw [hB28]; exact LA.out.lt)
       have GR := Hi (grown_trans GR.out (Wr.grown_weak (some S) g17))
       have KX := Hi (KX.out.grown g17)
       have LA := Hi (LA.out.grown g17)
       have SY := Hi (SY.out.grown g17 (by simp))
       have BB := Hi (BB.out.grown g17)
       have BC := Hi (BC.out.grown g17)
       go_upto_region 27 with fail
       rw [← hw17]
       try simp only [← hB28]
       clear hw17 hB28 g17 k0 k1 k2
       have gd := Wr.grown_drew w17 none
       refine wp_region_held_drew (S := fun w' => w'.cell? ⟨X + 1, 0, none⟩ = some (.int .i64 tst) ∧ w'.cell? ⟨X + 1, 1, none⟩ = some (.int .i64 tep) ∧ w'.cell? ⟨X + 1, 2, none⟩ = some (.int .i64 tsq) ∧ w'.cell? ⟨X + 1, 3, none⟩ = some (.int .i64 ttm) ∧ w'.cell? ⟨X + 1, 4, none⟩ = some (.int .i64 tkd) ∧ w'.cell? ⟨X + 1, 5, none⟩ = some (.slice Va Vn Vc)) (by kernel_rfl) ?_ (fun hHeld => ?_)
       ·obtain ⟨⟨t0, t1, t2, t3, t4, t5⟩, -⟩ := SY.out.grown gd (by simp)
        exact ⟨t0, t1, t2, t3, t4, t5⟩
       try simp only [Act.put, lsA, lsB, lsC]
       have GR := Hi (grown_trans GR.out (Wr.grown_weak (some S) gd))
       have U28 := Hi (U28.out.grown gd)
       have KX := Hi (KX.out.grown gd)
       have LA := Hi (LA.out.grown gd)
       have SY := Hi (SY.out.grown gd (by simp))
       have BB := Hi (BB.out.grown gd)
       have BC := Hi (BC.out.grown gd)
       clear gd
       generalize w17.drew = wd2 at *
       refine takeL (i := 0) (v := ?_) rfl (by kernel_rfl) (by kernel_rfl) (by kernel_rfl) (fun _ _ _ h => h) (Or.inl ⟨by rfl, ?_⟩) (by assumption) ?_
       rotate_left 1
       ·intro w hSw; obtain ⟨s0, s1, s2, s3, s4, s5⟩ := hSw; first | (go_simp; done) | (go_simp; with_reducible rfl)
       try simp only [Act.put, lsA, lsB, lsC]
       refine takeL (i := 1) (v := ?_) rfl (by kernel_rfl) (by kernel_rfl) (by kernel_rfl) (fun _ _ _ h => h) (Or.inl ⟨by rfl, ?_⟩) (by assumption) ?_
       rotate_left 1
       ·intro w hSw; obtain ⟨s0, s1, s2, s3, s4, s5⟩ := hSw; first | (go_simp; done) | (go_simp; with_reducible rfl)
       try simp only [Act.put, lsA, lsB, lsC]
       refine takeL (i := 2) (v := ?_) rfl (by kernel_rfl) (by kernel_rfl) (by kernel_rfl) (fun _ _ _ h => h) (Or.inl ⟨by rfl, ?_⟩) (by assumption) ?_
       rotate_left 1
       ·intro w hSw; obtain ⟨s0, s1, s2, s3, s4, s5⟩ := hSw; first | (go_simp; done) | (go_simp; with_reducible rfl)
       try simp only [Act.put, lsA, lsB, lsC]
       refine takeL (i := 7) (v := ?_) rfl (by kernel_rfl) (by kernel_rfl) (by kernel_rfl) (fun _ _ _ h => h) (Or.inl ⟨by rfl, ?_⟩) (by assumption) ?_
       rotate_left 1
       ·intro w hSw; obtain ⟨s0, s1, s2, s3, s4, s5⟩ := hSw; first | (go_simp; done) | (go_simp; with_reducible rfl)
       try simp only [Act.put, lsA, lsB, lsC]
       refine wpAnyH_ready (rs := [3]) (by kernel_rfl) (by simp) (consL rfl (fun K hK => ?_) AllReadyH.nil)
       go_simp
       refine (Wr.n_any S 4 wd2 LA.out.src (by omega) (by omega)).mono ?_
       rintro e w18 ⟨st, hst, rfl, g18, s18⟩
       have GR := Hi (grown_trans GR.out g18)
       have U28 := Hi (U28.out.step (chgS g18) (fun hm => by rw [List.mem_singleton] at hm; have := HB28.out; omega))
       have KX := Hi (KX.out.step g18)
       have LA := Hi (LA.out.step g18 s18)
       have SY := Hi (SY.out.grown g18 (fun e => by injection e with e; have := HXS.out; omega))
       have BB := Hi (BB.out.step g18)
       have BC := Hi (BC.out.step g18)
       clear g18 s18
       refine hK.out _ _ ?_ (fun hHeld => ?_)
       ·obtain ⟨⟨t0, t1, t2, t3, t4, t5⟩, -⟩ := SY.out
        exact ⟨t0, t1, t2, t3, t4, t5⟩
       clear hK K
       try simp only [Act.put, lsA, lsB, lsC]
       refine wpAnyH_ready (rs := [4]) (by kernel_rfl) (by simp) (consL rfl (fun K hK => ?_) AllReadyH.nil)
       go_simp
       refine (Wr.telegram_any S st w18 LA.out.src hst.1 (by omega)).mono ?_
       rintro e w19 ⟨⟨ust, uep, usq, utm, ukd, uvs⟩, UA, un, uc, rfl, g19, s19, hoi, htg⟩
       have VU := Hi (vi_own hoi (by have := htg.2.2; dsimp only at this ⊢; omega))
       have hS18 : S < w18.heap.size := LA.out.lt
       have VUC := Hi (show Cs S w19 (fun W => VI W [] ⟨UA, un, uc⟩ uvs) from fun W' g => by
        have v1 := (VU.out.less (L' := [S]) (fun b hb => by rw [List.mem_singleton] at hb; rw [hb]; exact List.mem_range.2 (by omega))).step (L' := []) (chgS g) (fun b hb => by cases hb)
        exact v1)
       have GR := Hi (grown_trans GR.out g19)
       have U28 := Hi (U28.out.step (chgS g19) (fun hm => by rw [List.mem_singleton] at hm; have := HB28.out; omega))
       have KX := Hi (KX.out.step g19)
       have LA := Hi (LA.out.step g19 s19)
       have SY := Hi (SY.out.grown g19 (fun e => by injection e with e; have := HXS.out; omega))
       have BB := Hi (BB.out.step g19)
       have BC := Hi (BC.out.step g19)
       dsimp only [tv]
       clear g19 s19 hoi htg VU hst hS18
       refine hK.out _ _ ?_ (fun hHeld => ?_)
       ·obtain ⟨⟨t0, t1, t2, t3, t4, t5⟩, -⟩ := SY.out
        exact ⟨t0, t1, t2, t3, t4, t5⟩
       clear hK K
       try simp only [Act.put, lsA, lsB, lsC]
       obtain ⟨Y3, hY3⟩ : ∃ b, b = w19.heap.size := ⟨_, rfl⟩
       obtain ⟨w20, hw20⟩ : ∃ z, z = w19.alloc (Obj.cells #[.int .i64 tst, .int .i64 tep, .int .i64 tsq, .int .i64 ttm, .int .i64 tkd, .slice Va Vn Vc, .int .i64 ust, .int .i64 uep, .int .i64 usq, .int .i64 utm, .int .i64 ukd, .slice UA un uc] 28) := ⟨_, rfl⟩
       have g20 : w19.grownBy w20 none := by subst hw20; exact grown_alloc _ _ _
       have GR := Hi (grown_trans GR.out (Wr.grown_weak (some S) g20))
       have U28 := Hi (U28.out.grown g20)
       have KX := Hi (KX.out.grown g20)
       have SY := Hi (SY.out.grown g20 (by simp))
       have LA := Hi (LA.out.grown g20)
       have BB := Hi (BB.out.grown g20)
       have BC := Hi (BC.out.grown g20)
       have VUC := Hi (VUC.out.grown g20)
       have VTC := Hi (show Cs S w20 (fun W => VI W [] ⟨Va, Vn, Vc⟩ tvs) from LA.out.cs (fun W' g => HV.out.grown g))
       have ROWT := Hi (show ∀ i, i < 2 → ∃ (t : Tm.Tg) (V : Sl), (w20.cell? ⟨Y3, i * 6 + 0, none⟩ = some (.int .i64 t.st) ∧ w20.cell? ⟨Y3, i * 6 + 1, none⟩ = some (.int .i64 t.ep) ∧ w20.cell? ⟨Y3, i * 6 + 2, none⟩ = some (.int .i64 t.sq) ∧ w20.cell? ⟨Y3, i * 6 + 3, none⟩ = some (.int .i64 t.tm) ∧ w20.cell? ⟨Y3, i * 6 + 4, none⟩ = some (.int .i64 t.kd) ∧ w20.cell? ⟨Y3, i * 6 + 5, none⟩ = some V.v) ∧ Cs S w20 (fun W => VI W [] V t.vs) from fun i hi => by
        obtain rfl | rfl : i = 0 ∨ i = 1 := by omega
        ·exact ⟨⟨tst, tep, tsq, ttm, tkd, tvs⟩, ⟨Va, Vn, Vc⟩, by subst hw20; rw [hY3]; exact ⟨World.cell?_alloc_new _ _ _ _, World.cell?_alloc_new _ _ _ _, World.cell?_alloc_new _ _ _ _, World.cell?_alloc_new _ _ _ _, World.cell?_alloc_new _ _ _ _, World.cell?_alloc_new _ _ _ _⟩, VTC.out⟩
        ·exact ⟨⟨ust, uep, usq, utm, ukd, uvs⟩, ⟨UA, un, uc⟩, by subst hw20; rw [hY3]; exact ⟨World.cell?_alloc_new _ _ _ _, World.cell?_alloc_new _ _ _ _, World.cell?_alloc_new _ _ _ _, World.cell?_alloc_new _ _ _ _, World.cell?_alloc_new _ _ _ _, World.cell?_alloc_new _ _ _ _⟩, VUC.out⟩)
       refine wpAnyH_ready (rs := [5]) (by kernel_rfl) (by simp) (consL rfl (fun K hK => ?_) AllReadyH.nil)
       go_simp
       rw [← hw20]
       try simp only [← hY3]
       clear hw20 hY3 g20 VUC VTC
       refine hK.out _ _ ?_ (fun hHeld => ?_)
       ·obtain ⟨⟨t0, t1, t2, t3, t4, t5⟩, -⟩ := SY.out
        exact ⟨t0, t1, t2, t3, t4, t5⟩
       clear hK K
       try simp only [Act.put, lsA, lsB, lsC]
       refine takeL (i := 6) (v := ?_) rfl (by kernel_rfl) (by kernel_rfl) (by kernel_rfl) (fun _ _ _ h => h) (Or.inl ⟨by rfl, ?_⟩) (by assumption) ?_
       rotate_left 1
       ·intro w hSw; obtain ⟨s0, s1, s2, s3, s4, s5⟩ := hSw; first | (go_simp; done) | (go_simp; with_reducible rfl)
       try simp only [Act.put, lsA, lsB, lsC]
       refine wpAnyH_done (by kernel_rfl) ?_ _
       clear SY
       go_wp2_with fail
       have KXN := Hi (fun (W : World) (g : w20.grownBy W none) => (KX.out.1.grown g).now)
       go_loopw [168] (fun v wr => ∃ j : Nat, v = .int .i64 j ∧ j ≤ 2 ∧ Hid (w20.grownBy wr none)) (fun v _ => 2 - (intOf v).toNat)
       case atStart => exact ⟨0, rfl, by omega, grown_refl _ _⟩
       case round =>
        obtain ⟨j, rfl, hj, GJ⟩ := hrel
        by_cases hjl : j < 2
        ·have hjl' : (j : Int) < 2 := by omega
         obtain ⟨⟨yst, yep, ysq, ytm, ykd, yvs⟩, ⟨ya, yn, yc⟩, ⟨m0, m1, m2, m3, m4, m5⟩, hvx⟩ := ROWT.out j hjl
         have m0 := GJ.out.cell m0 (by simp)
         have m1 := GJ.out.cell m1 (by simp)
         have m2 := GJ.out.cell m2 (by simp)
         have m3 := GJ.out.cell m3 (by simp)
         have m4 := GJ.out.cell m4 (by simp)
         have m5 := GJ.out.cell m5 (by simp)
         dsimp only [Sl.v] at m0 m1 m2 m3 m4 m5
         rw [Nat.add_zero] at m0
         have VYN := Hi (fun (W : World) (g : w20.grownBy W none) => (hvx.grown g).now)
         clear hvx
         obtain ⟨B30, hB30⟩ : ∃ b, b = wr.heap.size := ⟨_, rfl⟩
         obtain ⟨w21, hw21⟩ : ∃ z, z = wr.alloc (Obj.cells #[.int .i64 yst, .int .i64 yep, .int .i64 ysq, .int .i64 ytm, .int .i64 ykd, .slice ya yn yc] 28) := ⟨_, rfl⟩
         have g21 : wr.grownBy w21 none := by subst hw21; exact grown_alloc _ _ _
         have SY30 := Hi (show Wr.Six w21 B30 (⟨yst, yep, ysq, ytm, ykd, yvs⟩ : Tm.Tg) (.slice ya yn yc) by subst hw21; subst hB30; exact Wr.Six.made wr (⟨yst, yep, ysq, ytm, ykd, yvs⟩ : Tm.Tg) (.slice ya yn yc))
         have U28 := Hi (U28.out.grown (grown_trans GJ.out g21))
         have GJ := Hi (grown_trans GJ.out g21)
         go_upto_region 30 with fail
         rw [← hw21]
         try simp only [← hB30]
         clear hw21 hB30 g21 m0 m1 m2 m3 m4 m5
         obtain ⟨r, hr⟩ : ∃ r, r = accF ⟨xwin, xtl, xes⟩ ⟨yst, yep, ysq, ytm, ykd, yvs⟩ := ⟨_, rfl⟩
         have AC1 := Hi (accept_rd ⟨xTa, xTn, xTc⟩ ⟨xEa, xEn, xEc⟩ ⟨xwin, xtl, xes⟩ ⟨yst, yep, ysq, ytm, ykd, yvs⟩ ⟨ya, yn, yc⟩ w21 (KXN.out _ GJ.out) (VYN.out _ GJ.out) KX.out.2.1 KX.out.2.2.1 KX.out.2.2.2)
         have AC2 := Hi (fun (W : World) (g : w20.grownBy W none) => raccept_rd ⟨xTa, xTn, xTc⟩ ⟨xEa, xEn, xEc⟩ ⟨xwin, xtl, xes⟩ ⟨yst, yep, ysq, ytm, ykd, yvs⟩ ⟨ya, yn, yc⟩ W (KXN.out _ g) (VYN.out _ g))
         rw [← hr] at AC1
         simp only [← hr] at AC2
         clear hr
         obtain ⟨⟨rwin, rtl, res⟩, rts, rer⟩ := r
         dsimp only [iv3, tv, Sl.v] at AC1 AC2
         obtain ⟨⟨c0, c1, c2⟩, -⟩ := U28.out
         obtain ⟨⟨t0, t1, t2, t3, t4, t5⟩, -⟩ := SY30.out
         dsimp only at t0 t1 t2 t3 t4 t5
         go_wp2_with fail
         refine AC1.out.mono ?_
         rintro e w22 ⟨⟨aTa, aTn, aTc⟩, ⟨aEa, aEn, aEc⟩, ⟨aGa, aGn, aGc⟩, rfl, hk1, ht1, g22⟩
         dsimp only [iv3, Sl.v] at hk1 ht1 ⊢
         clear AC1
         obtain ⟨B31, hB31⟩ : ∃ b, b = w22.heap.size := ⟨_, rfl⟩
         obtain ⟨w23, hw23⟩ : ∃ z, z = w22.alloc (Obj.cells #[.int .i64 rwin, .slice aTa aTn aTc, .slice aEa aEn aEc] 25) := ⟨_, rfl⟩
         have g23 : w22.grownBy w23 none := by subst hw23; exact grown_alloc _ _ _
         have U31 := Hi (show Tri w23 B31 (.int .i64 rwin) (.slice aTa aTn aTc) (.slice aEa aEn aEc) by subst hw23; subst hB31; exact tri_made _ _ _ _ _)
         have HK1 := Hi (hk1.grown g23)
         have HT1 := Hi (ht1.grown g23)
         have gA := grown_trans g22 g23
         have GJ := Hi (grown_trans GJ.out gA)
         have U28 := Hi (U28.out.grown gA)
         have SY30 := Hi (SY30.out.grown gA (by simp))
         clear c0 c1 c2 t0 t1 t2 t3 t4 t5
         go_upto_region 31 with fail
         rw [← hw23]
         try simp only [← hB31]
         clear hw23 hB31 g23 g22 gA hk1 ht1
         have AC3 := Hi (AC2.out w23 GJ.out)
         clear AC2
         obtain ⟨⟨c0, c1, c2⟩, -⟩ := U28.out
         obtain ⟨⟨t0, t1, t2, t3, t4, t5⟩, -⟩ := SY30.out
         dsimp only at t0 t1 t2 t3 t4 t5
         go_wp2_with fail
         refine AC3.out.mono ?_
         rintro e w24 ⟨⟨bTa, bTn, bTc⟩, ⟨bEa, bEn, bEc⟩, ⟨bGa, bGn, bGc⟩, rfl, hk2, ht2, g24⟩
         dsimp only [iv3, Sl.v] at hk2 ht2 ⊢
         clear AC3
         obtain ⟨B34, hB34⟩ : ∃ b, b = w24.heap.size := ⟨_, rfl⟩
         obtain ⟨w25, hw25⟩ : ∃ z, z = w24.alloc (Obj.cells #[.int .i64 rwin, .slice bTa bTn bTc, .slice bEa bEn bEc] 25) := ⟨_, rfl⟩
         have g25 : w24.grownBy w25 none := by subst hw25; exact grown_alloc _ _ _
         have U34 := Hi (show Tri w25 B34 (.int .i64 rwin) (.slice bTa bTn bTc) (.slice bEa bEn bEc) by subst hw25; subst hB34; exact tri_made _ _ _ _ _)
         have gA := grown_trans g24 g25
         have U31 := Hi (U31.out.grown gA)
         have HK1 := Hi (HK1.out.grown gA)
         have HT1 := Hi (HT1.out.grown gA)
         have HK2 := Hi (hk2.grown g25)
         have HT2 := Hi (ht2.grown g25)
         have GJ := Hi (grown_trans GJ.out gA)
         have SE := Hi (same_eq ⟨aTa, aTn, aTc⟩ ⟨aEa, aEn, aEc⟩ ⟨bTa, bTn, bTc⟩ ⟨bEa, bEn, bEc⟩ ⟨rwin, rtl, res⟩ w25 HK1.out HK2.out)
         dsimp only [iv3, Sl.v] at SE
         go_upto_region 32 with fail
         rw [← hw25]
         try simp only [← hB34]
         clear hw25 hB34 g25 g24 gA hk2 ht2 HK1 HK2 U28 SY30 c0 c1 c2 t0 t1 t2 t3 t4 t5
         obtain ⟨⟨c0, c1, c2⟩, -⟩ := U31.out
         obtain ⟨⟨d0, d1, d2⟩, -⟩ := U34.out
         go_wp2_with fail
         refine SE.out.mono ?_
         rintro e w26 ⟨rfl, g26⟩
         have AL := Hi (alike_any ⟨aGa, aGn, aGc⟩ ⟨bGa, bGn, bGc⟩ rts rts w26 (HT1.out.grown g26) (HT2.out.grown g26))
         rw [alike_self] at AL
         dsimp only [Sl.v] at AL
         have GJ := Hi (grown_trans GJ.out g26)
         clear SE g26 c0 c1 c2 d0 d1 d2 U31 U34 HT1 HT2
         go_wp2_with fail
         refine AL.out.mono ?_
         rintro e w27 ⟨rfl, g27⟩
         have GJ := Hi (grown_trans GJ.out g27)
         clear AL g27
         go_wp2
         go_roundw
         case rel => exact ⟨j + 1, by go_num, by omega, GJ⟩
         case measure => simp [intOf]; omega
        ·have hjl' : ¬ ((j : Int) < 2) := by omega
         clear ROWT
         obtain ⟨Y4, hY4⟩ : ∃ b, b = wr.heap.size := ⟨_, rfl⟩
         obtain ⟨w28, hw28⟩ : ∃ z, z = wr.alloc (Obj.cells #[.slice bA bn bc, .slice ca cn cc] 22) := ⟨_, rfl⟩
         have g28 : wr.grownBy w28 none := by subst hw28; exact grown_alloc _ _ _
         have gB := grown_trans GJ.out g28
         have GR := Hi (grown_trans GR.out (Wr.grown_weak (some S) gB))
         have U28 := Hi (U28.out.grown gB)
         have KX := Hi (KX.out.grown gB)
         have LA2 := Hi (LA.out.grown gB)
         have BB2 := Hi (BB.out.grown gB)
         have BC2 := Hi (BC.out.grown gB)
         have ROWB := Hi (show ∀ i, i < 2 → ∃ u, w28.cell? ⟨Y4, i, none⟩ = some u ∧ Bx S w28 u from fun i hi => by
          obtain rfl | rfl : i = 0 ∨ i = 1 := by omega
          ·exact ⟨_, by subst hw28; rw [hY4]; exact World.cell?_alloc_new _ _ _ _, BB2.out⟩
          ·exact ⟨_, by subst hw28; rw [hY4]; exact World.cell?_alloc_new _ _ _ _, BC2.out⟩)
         go_wp2_with fail
         rw [← hw28]
         try simp only [← hY4]
         clear hw28 hY4 g28 gB GJ KXN BB2 BC2
         have KXN := Hi (fun (W : World) (g : w28.grownBy W none) => (KX.out.1.grown g).now)
         go_loopw [206] (fun v wr => ∃ j : Nat, v = .int .i64 j ∧ j ≤ 2 ∧ Hid (w28.grownBy wr none)) (fun v _ => 2 - (intOf v).toNat)
         case atStart => exact ⟨0, rfl, by omega, grown_refl _ _⟩
         case round =>
          obtain ⟨j, rfl, hj, GJ⟩ := hrel
          by_cases hjl : j < 2
          ·have hjl' : (j : Int) < 2 := by omega
           obtain ⟨u, hcu, hbx⟩ := ROWB.out j hjl
           obtain ⟨⟨ya, yn, yc⟩, yl, rfl, hyf, hyn, hys⟩ := hbx
           have hcu := GJ.out.cell hcu (by simp)
           dsimp only [Sl.v] at hcu hyn hys
           have VYN := Hi (fun (W : World) (g : w28.grownBy W none) => (hys.grown g).now)
           have U28 := Hi (U28.out.grown GJ.out)
           clear hys
           obtain ⟨r, hr⟩ : ∃ r, r = fdF ⟨xwin, xtl, xes⟩ yl := ⟨_, rfl⟩
           have AC1 := Hi (feed_rd ⟨xTa, xTn, xTc⟩ ⟨xEa, xEn, xEc⟩ ⟨xwin, xtl, xes⟩ ya yn yc yl wr (KXN.out _ GJ.out) (VYN.out _ GJ.out) hyf.1 hyf.2 (by omega) (HTB.out.grown (grown_trans LA2.out.g GJ.out)) KX.out.2.1 KX.out.2.2.1 KX.out.2.2.2)
           have AC2 := Hi (fun (W : World) (g : w28.grownBy W none) => rfeed_rd ⟨xTa, xTn, xTc⟩ ⟨xEa, xEn, xEc⟩ ⟨xwin, xtl, xes⟩ ya yn yc yl W (KXN.out _ g) (VYN.out _ g) hyf.1 hyf.2 (by omega))
           rw [← hr] at AC1
           simp only [← hr] at AC2
           clear hr
           obtain ⟨⟨rwin, rtl, res⟩, rts, rer⟩ := r
           dsimp only [iv3, tv, Sl.v] at AC1 AC2
           obtain ⟨⟨c0, c1, c2⟩, -⟩ := U28.out
           go_wp2_with fail
           refine AC1.out.mono ?_
           rintro e w22 ⟨⟨aTa, aTn, aTc⟩, ⟨aEa, aEn, aEc⟩, ⟨aGa, aGn, aGc⟩, rfl, hk1, ht1, g22⟩
           dsimp only [iv3, Sl.v] at hk1 ht1 ⊢
           clear AC1
           obtain ⟨B31, hB31⟩ : ∃ b, b = w22.heap.size := ⟨_, rfl⟩
           obtain ⟨w23, hw23⟩ : ∃ z, z = w22.alloc (Obj.cells #[.int .i64 rwin, .slice aTa aTn aTc, .slice aEa aEn aEc] 25) := ⟨_, rfl⟩
           have g23 : w22.grownBy w23 none := by subst hw23; exact grown_alloc _ _ _
           have U31 := Hi (show Tri w23 B31 (.int .i64 rwin) (.slice aTa aTn aTc) (.slice aEa aEn aEc) by subst hw23; subst hB31; exact tri_made _ _ _ _ _)
           have HK1 := Hi (hk1.grown g23)
           have HT1 := Hi (ht1.grown g23)
           have gA := grown_trans g22 g23
           have GJ := Hi (grown_trans GJ.out gA)
           have U28 := Hi (U28.out.grown gA)
           clear c0 c1 c2
           go_upto_region 39 with fail
           rw [← hw23]
           try simp only [← hB31]
           clear hw23 hB31 g23 g22 gA hk1 ht1
           have AC3 := Hi (AC2.out w23 GJ.out)
           clear AC2
           obtain ⟨⟨c0, c1, c2⟩, -⟩ := U28.out
           go_wp2_with fail
           refine AC3.out.mono ?_
           rintro e w24 ⟨⟨bTa, bTn, bTc⟩, ⟨bEa, bEn, bEc⟩, ⟨bGa, bGn, bGc⟩, rfl, hk2, ht2, g24⟩
           dsimp only [iv3, Sl.v] at hk2 ht2 ⊢
           clear AC3
           obtain ⟨B34, hB34⟩ : ∃ b, b = w24.heap.size := ⟨_, rfl⟩
           obtain ⟨w25, hw25⟩ : ∃ z, z = w24.alloc (Obj.cells #[.int .i64 rwin, .slice bTa bTn bTc, .slice bEa bEn bEc] 25) := ⟨_, rfl⟩
           have g25 : w24.grownBy w25 none := by subst hw25; exact grown_alloc _ _ _
           have U34 := Hi (show Tri w25 B34 (.int .i64 rwin) (.slice bTa bTn bTc) (.slice bEa bEn bEc) by subst hw25; subst hB34; exact tri_made _ _ _ _ _)
           have gA := grown_trans g24 g25
           have U31 := Hi (U31.out.grown gA)
           have HK1 := Hi (HK1.out.grown gA)
           have HT1 := Hi (HT1.out.grown gA)
           have HK2 := Hi (hk2.grown g25)
           have HT2 := Hi (ht2.grown g25)
           have GJ := Hi (grown_trans GJ.out gA)
           have SE := Hi (same_eq ⟨aTa, aTn, aTc⟩ ⟨aEa, aEn, aEc⟩ ⟨bTa, bTn, bTc⟩ ⟨bEa, bEn, bEc⟩ ⟨rwin, rtl, res⟩ w25 HK1.out HK2.out)
           dsimp only [iv3, Sl.v] at SE
           go_upto_region 40 with fail
           rw [← hw25]
           try simp only [← hB34]
           clear hw25 hB34 g25 g24 gA hk2 ht2 HK1 HK2 U28 c0 c1 c2
           obtain ⟨⟨c0, c1, c2⟩, -⟩ := U31.out
           obtain ⟨⟨d0, d1, d2⟩, -⟩ := U34.out
           go_wp2_with fail
           refine SE.out.mono ?_
           rintro e w26 ⟨rfl, g26⟩
           have AL := Hi (alike_any ⟨aGa, aGn, aGc⟩ ⟨bGa, bGn, bGc⟩ rts rts w26 (HT1.out.grown g26) (HT2.out.grown g26))
           rw [alike_self] at AL
           dsimp only [Sl.v] at AL
           have GJ := Hi (grown_trans GJ.out g26)
           clear SE g26 c0 c1 c2 d0 d1 d2 U31 U34 HT1 HT2
           go_wp2_with fail
           refine AL.out.mono ?_
           rintro e w27 ⟨rfl, g27⟩
           have GJ := Hi (grown_trans GJ.out g27)
           clear AL g27
           go_wp2
           go_roundw
           case rel => exact ⟨j + 1, by go_num, by omega, GJ⟩
           case measure => simp [intOf]; omega
          ·obtain rfl : j = 2 := by omega
           have GR := Hi (grown_trans GR.out (Wr.grown_weak (some S) GJ.out))
           have SR2 := Hi (LA2.out.src.grown GJ.out)
           clear ROWB
           go_wp2
           go_roundw
           case rel => exact ⟨p + 1, by go_num, by omega, GR, SR2⟩
           case measure => simp [intOf]; omega
      ·obtain rfl : p = 3 := by omega
       have LA := Hi (LA.out.step GR.out SR.out)
       go_wp2_with fail
       refine (AWK.out _ LA.out.g).mono ?_
       rintro e w8 ⟨rfl, g8⟩
       go_wp2
       go_ret
       exact ret_mk rfl g8
end Go.Proofs.YticmoaebegahgaaGreatDoor.Iw
