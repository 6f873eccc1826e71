/- The walk of IntakeStations. -/
import Derived.Test.YticmoaebegahgaaKa
import Derived.Deep.DeepCutAuto
import Derived.BigQuiet
namespace Go.Proofs.Yticmoaebegahgaa.Iw
open Go.ChangeShapes Go.WideShapes Go.ChangeAt Go.RowKit
open Wr (IR RB iv ivs bv bvs grown_trans grown_refl grown_alloc ret_int ret_bool tv Ret ret_mk)

theorem Chg.by1 {x : Nat} {w w' : World} (g : Chg [x] w w') : w.grownBy w' (some x) := ⟨g.os, g.tape, g.output, g.size, fun i hi hn => g.block i hi (by rw [List.mem_singleton]; intro e; subst e; exact hn rfl)⟩
theorem KS.kl {lo : Nat} {L : List Nat} {w : World} {T E : Sl} {k : Ik} (h : KS lo w T E k) (hL : ∀ b ∈ L, b < lo) : KL L w T E k :=
  KL.step (L := List.range lo) (M := []) h (Chg.refl _ _) (fun _ h => by cases h) (fun b hb => .inl (List.mem_range.2 (hL b hb)))
theorem TRS.to {lo l0 : Nat} {L : List Nat} {w : World} {s : Sl} {ts : List Tm.Tg} (h : TRS lo w s ts) (h0 : l0 ≤ lo) (hL : ∀ b ∈ L, b < lo) : TO l0 w L s ts :=
  TO.base_ (TO.step (M := []) h (Chg.refl _ _) (fun _ _ h => by cases h) (fun _ h => by cases h) (fun b hb => .inl (List.mem_range.2 (hL b hb)))) h0
theorem newF_ok {n : Int} (h : 0 ≤ n ∧ n ≤ 16) : newF n = (⟨n, [], []⟩, 0) := by unfold newF; rw [if_pos (Tm.upTo_iff.2 h)]
set_option maxRecDepth 100000 in
set_option maxHeartbeats 8000000 in
theorem stations_any (A : Option Addr) (n c : Nat) (zs : List Int) (wd : Int) (w : World) (hl : Wr.InRow w A n c zs) (hw : 0 ≤ wd ∧ wd ≤ 255) :
    Calls Try.prog 5 #[.slice A n c, .int .u8 wd] w (Ret (.bool true) w) := by
  have HL := Lib.hid hl
  have ht0 : 0 ≤ wd % 5 ∧ wd % 5 ≤ 4 := by omega
  have hc1 : IntKind.i64.wrap wd = wd := IntWalk.i64_in _ (by omega)
  have hc2 : IntKind.i64.wrap (wd % 5) = wd % 5 := IntWalk.i64_in _ (by omega)
  clear hl
  go_enter Try.func5, Try.ntmps5
  go_wp2_with fail
  refine (Wr.new_any _ _ _ _ w HL.out).mono ?_
  rintro e w1 ⟨rfl, g1, s1, z1⟩
  obtain ⟨S, hS⟩ : ∃ S, S = w.heap.size := ⟨_, rfl⟩
  simp only [← hS] at s1 z1 ⊢
  go_wp2_with fail
  try simp only [hc1, hc2]
  obtain ⟨win, hwin⟩ : ∃ x, x = wd % 5 := ⟨_, rfl⟩
  have HWIN := Lib.hid hwin
  simp only [← hwin] at ht0 ⊢
  clear hwin
  have HW := Lib.hid ht0
  clear HL
  refine (new_nil win w1).mono ?_
  rintro e w2 ⟨rfl, g2⟩
  rw [newF_ok ⟨ht0.1, by omega⟩]
  dsimp only [iv3, nilS, Sl.v]
  obtain ⟨sB, hsB⟩ : ∃ b, b = w2.heap.size := ⟨_, rfl⟩
  obtain ⟨w3, hw3⟩ : ∃ w3, w3 = w2.alloc (Obj.cells #[.int .i64 win, .slice none 0 0, .slice none 0 0] 29) := ⟨_, rfl⟩
  have g3 : w2.grownBy w3 none := by subst hw3; exact grown_alloc _ _ _
  have b3 : Tri w3 sB (.int .i64 win) (.slice none 0 0) (.slice none 0 0) := by subst hw3; subst hsB; exact tri_made _ _ _ _ _
  have z3 : w3.heap.size = sB + 1 := by subst hw3; subst hsB; simp
  have NW := Lib.hid (new_nil win w3)
  have ne1 : (0 : Int) ≠ 0 ∨ True := .inr trivial
  go_wp2_with fail
  try simp only [hc1, hc2]
  simp only [← HWIN.out]
  rw [← hw3]
  simp only [← hsB]
  clear hw hc1 hc2 HWIN
  refine NW.out.mono ?_
  rintro e w4 ⟨rfl, g4⟩
  rw [newF_ok ⟨ht0.1, by omega⟩]
  dsimp only [iv3, nilS, Sl.v]
  obtain ⟨tB, htB⟩ : ∃ b, b = w4.heap.size := ⟨_, rfl⟩
  obtain ⟨w5, hw5⟩ : ∃ w5, w5 = w4.alloc (Obj.cells #[.int .i64 win, .slice none 0 0, .slice none 0 0] 29) := ⟨_, rfl⟩
  have g5 : w4.grownBy w5 none := by subst hw5; exact grown_alloc _ _ _
  have b5 : Tri w5 tB (.int .i64 win) (.slice none 0 0) (.slice none 0 0) := by subst hw5; subst htB; exact tri_made _ _ _ _ _
  have z5 : w5.heap.size = tB + 1 := by subst hw5; subst htB; simp
  have hsz := g4.size
  have hsz2 := g2.size
  have hab : S < sB ∧ sB < tB := by omega
  have G := Lib.hid (show w.grownBy w5 none from grown_trans g1 (grown_trans g2 (grown_trans g3 (grown_trans g4 g5))))
  have ST := Lib.hid (show Sta w5.heap.size S sB tB win [] [] [] [] nilS nilS nilS nilS nilS nilS w5 from
    ⟨((s1.grown g2).grown g3).grown (grown_trans g4 g5), b3.grown (grown_trans g4 g5), b5, kl_nil _ _ _, kl_nil _ _ _, ⟨[], rfl, or_nil _ _ _ _, fun x hx => by cases hx⟩, ⟨[], rfl, or_nil _ _ _ _, fun x hx => by cases hx⟩, (fun x hx => by cases hx), Nat.le_refl _, ⟨hab.1, hab.2, by omega⟩, rfl, rfl⟩)
  have HSL := Lib.hid (show w.heap.size ≤ S by omega)
  have SW := Lib.hid (show Wr.SrcOK w5 S from ST.out.src)
  clear s1 z1 b3 b5 ne1 NW
  go_upto_region 7 with fail
  rw [← hw5]
  simp only [← htB]
  clear hw5 htB hsz hsz2 z3 z5 g5 g4 hsB hw3 g3 g2 g1 hS
  go_wp2_with fail
  refine (Wr.n_any S 20 w5 SW.out (by omega) (by omega)).mono ?_
  rintro e w6 ⟨cnt, hcnt, rfl, g6, s6⟩
  generalize hlo : w5.heap.size = lo at *
  have ST6 := Lib.hid (ST.out.src_ g6 s6)
  clear ST
  have G := Lib.hid (show w.grownBy w6 none from Wr.grown_off G.out g6 HSL.out)
  clear s6 g6 SW hlo
  obtain ⟨cn, rfl⟩ := Int.eq_ofNat_of_zero_le hcnt.1
  go_wp2_with fail
  go_loopw [10, 11, 12] (fun va vb i wr => ∃ (k : Nat) (l : List Tm.Tg) (Ts Es Tt Et A B : Sl), va = A.v ∧ vb = B.v ∧ i = .int .i64 k ∧ l.length + k ≤ 20 ∧ Hid (∀ t ∈ l, t.ok = true ∧ t.st ≤ 2) ∧ Hid (w.grownBy wr none) ∧ Hid (Sta lo S sB tB win (Im.run win [] l).1 (Im.run win [] (Im.ofSt 1 l)).1 (Im.ofSt 1 (Im.run win [] l).2) (Im.run win [] (Im.ofSt 1 l)).2 Ts Es Tt Et A B wr)) (fun _ _ i _ => (intOf i).toNat)
  case atStart => exact ⟨cn, [], nilS, nilS, nilS, nilS, nilS, nilS, rfl, rfl, rfl, by simp; omega, (fun t h => by cases h), G, ST6⟩
  case round =>
    clear G ST6 hcnt
    obtain ⟨k, l, ⟨Tsa, Tsn, Tsc⟩, ⟨Esa, Esn, Esc⟩, ⟨Tta, Ttn, Ttc⟩, ⟨Eta, Etn, Etc⟩, ⟨Aa, An, Ac⟩, ⟨Ba, Bn, Bc⟩, rfl, rfl, rfl, hk, HA, GR, STR⟩ := hrel
    dsimp only [Sl.v]
    by_cases hk0 : 0 < k
    · have SR := Lib.hid STR.out.src
      go_wp2_with fail
      refine (Wr.n_any S 3 wr SR.out (by omega) (by omega)).mono ?_
      rintro e w7 ⟨st, hst, rfl, g7, s7⟩
      have ST7 := Lib.hid (STR.out.src_ g7 s7)
      have G7 := Lib.hid (Wr.grown_off GR.out g7 HSL.out)
      have SR7 := Lib.hid s7
      clear g7 s7 SR STR GR
      go_wp2_with fail
      refine (Wr.telegram_in S st w7 SR7.out hst.1 (by omega)).mono ?_
      rintro e w8 ⟨t, Va, Vn, Vc, rfl, g8, s8, ho, hp⟩
      have ST8 := Lib.hid (ST7.out.src_ g8 s8)
      have G8 := Lib.hid (Wr.grown_off G7.out g8 HSL.out)
      have HV8 := Lib.hid (show VI w8 (LL lo ⟨Aa, An, Ac⟩ ⟨Ba, Bn, Bc⟩) ⟨Va, Vn, Vc⟩ t.vs from (vi_own ho (by have := hp.1.2.2; omega)).step (Chg.refl _ _) (fun b hb => .inl (List.mem_range.2 (by have := ST7.out.lt b hb; omega))))
      have HT := Lib.hid (show t.ok = true ∧ t.st ≤ 2 from ⟨hp.1.2.1, by have := hp.1.1; omega⟩)
      clear g8 s8 ho hp SR7 ST7 G7 hst
      obtain ⟨X, hX⟩ : ∃ X, X = w8.heap.size := ⟨_, rfl⟩
      obtain ⟨w9, hw9⟩ : ∃ w9, w9 = w8.alloc (Wr.tcells t (.slice Va Vn Vc)) := ⟨_, rfl⟩
      have z9 : w9.heap.size = X + 1 := by subst hw9; subst hX; simp
      have hXL : lo ≤ X := by rw [hX]; exact ST8.out.low
      have g9 : w8.grownBy w9 none := by subst hw9; exact grown_alloc _ _ _
      have SX9 := Lib.hid (show Wr.Six w9 X t (.slice Va Vn Vc) by subst hw9; subst hX; exact Wr.Six.made _ _ _)
      have LT8 := Lib.hid (show ∀ b ∈ LL lo ⟨Aa, An, Ac⟩ ⟨Ba, Bn, Bc⟩, b < X from fun b hb => by rw [hX]; exact ST8.out.lt b hb)
      have ST9 := Lib.hid (ST8.out.grown g9)
      have HV9 := Lib.hid (HV8.out.grown g9)
      have G9 := Lib.hid (grown_trans G8.out g9)
      unfold Wr.tcells at hw9
      try dsimp only at hw9
      dsimp only [tv]
      go_upto_region 11 with fail
      rw [← hw9]
      simp only [← hX]
      clear hw9 g9 ST8 HV8 G8 hX
      have FE := Lib.hid (few_run HW.out l [] (few_nil win) HA.out)
      have FF := Lib.hid (few_run HW.out (Im.ofSt 1 l) [] (few_nil win) (fun x hx => HA.out x (List.mem_filter.1 hx).1))
      have AC := Lib.hid (accept_pub ⟨Tsa, Tsn, Tsc⟩ ⟨Esa, Esn, Esc⟩ ⟨win, [], (Im.run win [] l).1⟩ t ⟨Va, Vn, Vc⟩ w9 ST9.out.ks.now HV9.out.free (by have := ST9.out.nil.1; omega) (by have h1 := ST9.out.ks.now.es.len; have h2 := FE.out.1.len; dsimp only at h1 ⊢; omega) (fun e he => by have h1 := (FE.out.1.1.all e he).len; have := HW.out; omega))
      rw [few_accF HW.out FE.out.1 HT.out.1] at AC
      obtain ⟨⟨s0, s1, s2⟩, sF⟩ := ST9.out.bs
      obtain ⟨⟨x0, x1, x2, x3, x4, x5⟩, -⟩ := SX9.out
      dsimp only [iv3, tv, Sl.v] at AC s0 s1 s2
      go_wp2_with fail
      refine AC.out.mono ?_
      rintro e w10 ⟨⟨Tpa, Tpn, Tpc⟩, ⟨Epa, Epn, Epc⟩, ⟨Ga, Gn, Gc⟩, rfl, hk10, hn10, hG10, g10⟩
      dsimp only at hk10 hn10 hG10
      dsimp only [iv3, Sl.v]
      have hLX : ∀ b ∈ LL lo ⟨Aa, An, Ac⟩ ⟨Ba, Bn, Bc⟩, b < w9.heap.size := fun b hb => by have := LT8.out b hb; omega
      have K10 := Lib.hid (KS.kl (L := LL lo ⟨Aa, An, Ac⟩ ⟨Ba, Bn, Bc⟩) hk10 hLX)
      have TG10 := Lib.hid (TRS.to (l0 := lo) (L := LL lo ⟨Aa, An, Ac⟩ ⟨Ba, Bn, Bc⟩) hG10 (by omega) hLX)
      have GB := Lib.hid (fun b (hb : Sl.blk ⟨Ga, Gn, Gc⟩ = some b) => (TO.blk hG10 b hb).1)
      have ST10 := Lib.hid (ST9.out.grown g10)
      have SX10 := Lib.hid (SX9.out.grown g10 (by simp))
      have HV10 := Lib.hid (HV9.out.grown g10)
      have G10 := Lib.hid (grown_trans G9.out g10)
      have HN10 := Lib.hid hn10
      clear hk10 hG10 hn10 ST9 SX9 HV9 G9 AC s0 s1 s2 sF x0 x1 x2 x3 x4 x5
      have hout := few_out HW.out FE.out.1 HT.out.1 HT.out.2
      generalize hex : (Im.acc win (Im.run win [] l).1 t).2 = outs at *
      generalize hee : (Im.acc win (Im.run win [] l).1 t).1 = es' at *
      have HEX := Lib.hid hex
      have HEE := Lib.hid hee
      have HOUT := Lib.hid hout
      clear hex hee hout
      have hgl : outs.length = Gn := TG10.out.len
      have hG5 : Gn ≤ 5 := by have := HOUT.out; omega
      obtain ⟨N, hN⟩ : ∃ N, N = w10.heap.size := ⟨_, rfl⟩
      obtain ⟨w11, hw11⟩ : ∃ w11, w11 = w10.alloc (Obj.cells #[.int .i64 win, .slice Tpa Tpn Tpc, .slice Epa Epn Epc] 29) := ⟨_, rfl⟩
      have g11 : w10.grownBy w11 none := by subst hw11; exact grown_alloc _ _ _
      have B11 := Lib.hid (show Tri w11 N (.int .i64 win) (.slice Tpa Tpn Tpc) (.slice Epa Epn Epc) by subst hw11; subst hN; exact tri_made _ _ _ _ _)
      have ST11 := Lib.hid (ST10.out.grown g11)
      have SX11 := Lib.hid (SX10.out.grown g11 (by simp))
      have HV11 := Lib.hid (HV10.out.grown g11)
      have K11 := Lib.hid (K10.out.grown g11)
      have TG11 := Lib.hid (TG10.out.grown g11)
      have G11 := Lib.hid (grown_trans G10.out g11)
      have hNs : N ≠ sB := by have h1 := ST10.out.ord; have h2 := ST10.out.low; omega
      have HZ11 := Lib.hid (show X < w11.heap.size by have := g10.size; have := g11.size; omega)
      go_upto_region 12 with fail
      rw [← hw11]
      simp only [← hN]
      clear hw11 hN g11 g10 ST10 SX10 HV10 K10 TG10 G10
      obtain ⟨⟨y0, y1, y2⟩, -⟩ := B11.out
      obtain ⟨⟨s0, s1, s2⟩, F⟩ := ST11.out.bs
      dsimp only [Sl.v] at s0 s1 s2
      have f0 := F 0
      have f1 := F 1
      have f2 := F 2
      clear F
      go_upto_region 15 with fail
      have gset : Chg [sB] w11 (((w11.setCell ⟨sB, 0, none⟩ (.int .i64 win)).setCell ⟨sB, 1, none⟩ (.slice Tpa Tpn Tpc)).setCell ⟨sB, 2, none⟩ (.slice Epa Epn Epc)) :=
        (((Chg.refl [sB] w11).set ⟨sB, 0, none⟩ (.int .i64 win) (by simp)).set ⟨sB, 1, none⟩ (.slice Tpa Tpn Tpc) (by simp)).set ⟨sB, 2, none⟩ (.slice Epa Epn Epc) (by simp)
      have hSs : sB < lo := by have := ST11.out.ord; omega
      have hGs : ∀ b, Sl.blk ⟨Ga, Gn, Gc⟩ = some b → b ∉ [sB] := fun b hb hm => by rw [List.mem_singleton] at hm; have h1 := GB.out b hb; omega
      have hM : ∀ b ∈ [sB], b ∈ LL lo ⟨Aa, An, Ac⟩ ⟨Ba, Bn, Bc⟩ ∨ w11.heap.size ≤ b := fun b hb => by rw [List.mem_singleton] at hb; subst hb; exact .inl (ll_lo hSs)
      have ST12 := Lib.hid (ST11.out.setS gset (((ST11.out.bs.set0 (.int .i64 win)).set1 (.slice Tpa Tpn Tpc)).set2 (.slice Epa Epn Epc)) (Es' := ⟨Epa, Epn, Epc⟩) (Ts' := ⟨Tpa, Tpn, Tpc⟩) K11.out HN10.out)
      have SX12 := Lib.hid (SX11.out.grown gset.by1 (by intro e; injection e with e; omega))
      have HV12 := Lib.hid (HV11.out.step ((Chg.refl _ w11).then gset hM) (fun b hb => .inl hb))
      have TG12 := Lib.hid (TG11.out.step gset hGs hM (fun b hb => .inl hb))
      have G12 := Lib.hid (gset.grown G11.out (fun b hb => by rw [List.mem_singleton] at hb; subst hb; have h1 := ST11.out.ord; have h2 := HSL.out; omega))
      have HZ12 := Lib.hid (Nat.lt_of_lt_of_le HZ11.out gset.size)
      clear gset y0 y1 y2 s0 s1 s2 f0 f1 f2 B11 ST11 SX11 HV11 K11 TG11 G11 HZ11 hGs hM
      generalize (((w11.setCell ⟨sB, 0, none⟩ (.int .i64 win)).setCell ⟨sB, 1, none⟩ (.slice Tpa Tpn Tpc)).setCell ⟨sB, 2, none⟩ (.slice Epa Epn Epc)) = w12 at *
      go_wp2_with fail
      go_loopw [10, 66] (fun va p wq => ∃ (q : Nat) (A : Sl), va = A.v ∧ p = .int .i64 q ∧ q ≤ Gn ∧ Hid (w.grownBy wq none) ∧ Hid (Sta lo S sB tB win es' (Im.run win [] (Im.ofSt 1 l)).1 (Im.ofSt 1 (Im.run win [] l).2 ++ Im.ofSt 1 (outs.take q)) (Im.run win [] (Im.ofSt 1 l)).2 ⟨Tpa, Tpn, Tpc⟩ ⟨Epa, Epn, Epc⟩ ⟨Tta, Ttn, Ttc⟩ ⟨Eta, Etn, Etc⟩ A ⟨Ba, Bn, Bc⟩ wq) ∧ Hid (TO lo wq (LL lo A ⟨Ba, Bn, Bc⟩) ⟨Ga, Gn, Gc⟩ outs) ∧ Hid (Wr.Six wq X t (.slice Va Vn Vc)) ∧ Hid (VI wq (LL lo A ⟨Ba, Bn, Bc⟩) ⟨Va, Vn, Vc⟩ t.vs) ∧ Hid (∀ b, A.blk = some b → b ≠ X) ∧ Hid (∀ b, A.blk = some b → Sl.blk ⟨Ga, Gn, Gc⟩ ≠ some b) ∧ X < wq.heap.size) (fun _ p _ => Gn - (intOf p).toNat)
      case atStart => exact ⟨0, ⟨Aa, An, Ac⟩, rfl, rfl, by omega, G12, Lib.hid (by have := ST12.out; simpa [Im.ofSt] using this), TG12, SX12, HV12, (fun b hb e => by have := LT8.out b (ll_a hb); omega), (fun b hb e => by have h1 := LT8.out b (ll_a hb); have h2 := GB.out b e; omega), HZ12.out⟩
      case round =>
        clear G12 ST12 TG12 SX12 HV12 HZ12
        have hBX : ∀ b, Sl.blk ⟨Ba, Bn, Bc⟩ = some b → b < X := fun b hb => LT8.out b (ll_b hb)
        have HBX := Lib.hid hBX
        clear hBX
        obtain ⟨q, ⟨Aa', An', Ac'⟩, rfl, rfl, hq, GQ, STQ, TGQ, SXQ, HVQ, HAX, HAG, hXQ⟩ := hrel
        dsimp only [Sl.v]
        by_cases hq2 : q < Gn
        · obtain ⟨gs, hgs, hgor, hgv, hgl2⟩ := TGQ.out.off
          dsimp only at hgl2
          rcases hgor.form with ⟨_, h0, _⟩ | ⟨g, hgA, hg1, hg2⟩
          · dsimp only at h0; omega
          dsimp only at hgA
          subst hgA
          have hxk : gs[q]? = some gs[q] := List.getElem?_eq_getElem (by omega)
          obtain ⟨d0, d1, d2, d3, d4, d5⟩ := six_of (o := q * 6) (OR.elem tcs_len hgor hxk)
          have HGV := Lib.hid (hgv gs[q] (List.getElem_mem _))
          have htk : outs.take (q + 1) = outs.take q ++ [gs[q].1] := by rw [← hgs, List.take_add_one, List.getElem?_map, hxk]; rfl
          have HTK := Lib.hid htk
          clear htk hgs hgor hgv hxk
          generalize gs[q] = y at *
          obtain ⟨y, ⟨Ya, Yn, Yc⟩⟩ := y
          dsimp only [Sl.v] at d0 d1 d2 d3 d4 d5 HTK HGV
          obtain ⟨Y, hY⟩ : ∃ Y, Y = wr.heap.size := ⟨_, rfl⟩
          obtain ⟨wy, hwy⟩ : ∃ wy, wy = wr.alloc (Obj.cells #[.int .i64 y.st, .int .i64 y.ep, .int .i64 y.sq, .int .i64 y.tm, .int .i64 y.kd, .slice Ya Yn Yc] 38) := ⟨_, rfl⟩
          have gy : wr.grownBy wy none := by subst hwy; exact grown_alloc _ _ _
          have SY := Lib.hid (show Wr.Six wy Y y (.slice Ya Yn Yc) by subst hwy; subst hY; exact Wr.Six.made _ _ _)
          have STY := Lib.hid (STQ.out.grown gy)
          have SXY := Lib.hid (SXQ.out.grown gy (by simp))
          have HVY := Lib.hid (HVQ.out.grown gy)
          have TGY := Lib.hid (TGQ.out.grown gy)
          have HGY := Lib.hid (HGV.out.grown gy)
          have GY := Lib.hid (grown_trans GQ.out gy)
          have hXy : X < wy.heap.size := Nat.lt_of_lt_of_le hXQ gy.size
          have hgy2 : g < wy.heap.size := Nat.lt_of_lt_of_le hg2 gy.size
          go_upto_region 18 with fail
          rw [← hwy]
          simp only [← hY]
          clear d0 d1 d2 d3 d4 d5 hwy hY gy STQ SXQ HVQ TGQ HGV GQ hg2
          obtain ⟨⟨e0, e1, e2, e3, e4, e5⟩, -⟩ := SY.out
          obtain ⟨yst, yep, ysq, ytm, ykd, yvs⟩ := y
          dsimp only at *
          by_cases hy1 : yst = 1
          · subst hy1
            have HOF := Lib.hid (show Im.ofSt 1 (outs.take (q + 1)) = Im.ofSt 1 (outs.take q) ++ [⟨1, yep, ysq, ytm, ykd, yvs⟩] by rw [HTK.out, ofSt_snoc, if_pos rfl])
            obtain ⟨wl, hwl⟩ : ∃ wl, wl = wy.alloc (Obj.cells #[.int .i64 1, .int .i64 yep, .int .i64 ysq, .int .i64 ytm, .int .i64 ykd, .slice Ya Yn Yc] 38) := ⟨_, rfl⟩
            have gl : wy.grownBy wl none := by subst hwl; exact grown_alloc _ _ _
            have OL := Lib.hid (show OR wy.heap.size wl 38 6 ⟨some ⟨wy.heap.size, 0, none⟩, 1, 1⟩ (tcs (⟨1, yep, ysq, ytm, ykd, yvs⟩, ⟨Ya, Yn, Yc⟩)) by subst hwl; exact or_lit wy (⟨1, yep, ysq, ytm, ykd, yvs⟩, ⟨Ya, Yn, Yc⟩))
            have STL := Lib.hid (STY.out.grown gl)
            have SXL := Lib.hid (SXY.out.grown gl (by simp))
            have HVL := Lib.hid (HVY.out.grown gl)
            have TGL := Lib.hid (TGY.out.grown gl)
            have HGL := Lib.hid (HGY.out.grown gl)
            have GL := Lib.hid (grown_trans GY.out gl)
            have hXl : X < wl.heap.size := Nat.lt_of_lt_of_le hXy gl.size
            have hgl3 : g < wl.heap.size := Nat.lt_of_lt_of_le hgy2 gl.size
            obtain ⟨us, hus, huor, huv, hul⟩ := STL.out.a.off
            have HUV := Lib.hid huv
            have HUS := Lib.hid hus
            have HUO := Lib.hid huor
            have hAn : An' ≤ 200 := by
              have h1 := congrArg List.length hus
              rw [List.length_map, List.length_append] at h1
              have h2 : (Im.ofSt 1 (Im.run win [] l).2).length ≤ (Im.run win [] l).2.length := List.length_filter_le _ _
              have h3 : (Im.ofSt 1 (outs.take q)).length ≤ (outs.take q).length := List.length_filter_le _ _
              have h4 := FE.out.2
              have h5 := HOUT.out
              rw [List.length_take] at h3
              dsimp only at hul
              omega
            have HB1 := Lib.hid (show (An' + 1) * 64 ≤ 140737488355328 by omega)
            have HB2 := Lib.hid (show An' + 1 ≤ 1000000000 by omega)
            have HLO := Lib.hid STL.out.low
            have HT1 := Lib.hid (show ∀ u ∈ tcs (⟨1, yep, ysq, ytm, ykd, yvs⟩, ⟨Ya, Yn, Yc⟩), u.oneCell' = true from tcs_one _)
            obtain ⟨I, hI, hz, hsz, hby⟩ := parts_t
            clear hus huor huv hul hAn gl STY SXY HVY TGY HGY GY
            rw [hwl] at HUO OL HLO
            dsimp only [tcs, Sl.v] at OL HT1
            go_wp2_with (first
              | (at_builtin
                 refine wpList_appK rfl _ _ 34 rfl (S := ⟨Aa', An', Ac'⟩) (V := ⟨some ⟨wy.heap.size, 0, none⟩, 1, 1⟩) Try.underlying34 hI hz hsz hby (by rfl) (by omega) rfl rfl HUO.out HLO.out OL.out HT1.out HB1.out HB2.out ?_
                 intro r w5 hrn hr hg5 hrb
                 clear hrn)
              | fail)
            rw [← hwl] at hg5 hrb
            have hr' : OR lo w5 38 6 r (f6 (us ++ [((⟨1, yep, ysq, ytm, ykd, yvs⟩, ⟨Ya, Yn, Yc⟩) : TV)])) := by
              have e : f6 (us ++ [((⟨1, yep, ysq, ytm, ykd, yvs⟩, ⟨Ya, Yn, Yc⟩) : TV)]) = f6 us ++ tcs (⟨1, yep, ysq, ytm, ykd, yvs⟩, ⟨Ya, Yn, Yc⟩) := by rw [f6, flat_app]; simp [f6]
              rw [e]; exact hr
            have gc : Chg (Sl.blk ⟨Aa', An', Ac'⟩).toList wl w5 := Chg.of hg5 (fun b hb => by simpa using hb)
            have hM : ∀ b ∈ (Sl.blk ⟨Aa', An', Ac'⟩).toList, b ∈ LL lo ⟨Aa', An', Ac'⟩ ⟨Ba, Bn, Bc⟩ ∨ wl.heap.size ≤ b := fun b hb => .inl (ll_a (by simpa using hb))
            have hL := ll_newA (lo := lo) (B := ⟨Ba, Bn, Bc⟩) hrb
            have S5 := Lib.hid (STL.out.appA HUS.out HUV.out (zs := [(⟨1, yep, ysq, ytm, ykd, yvs⟩, ⟨Ya, Yn, Yc⟩)]) (fun z hz => by rw [List.mem_singleton] at hz; subst hz; exact HGL.out) hr' hg5 hrb)
            have T5 := Lib.hid (TGL.out.step gc (fun b hb hm => HAG.out b (by simpa using hm) hb) hM hL)
            have X5 := Lib.hid (SXL.out.grown hg5 (fun e => HAX.out X e.symm rfl))
            have V5 := Lib.hid (HVL.out.step ((Chg.refl _ wl).then gc hM) hL)
            have G5 := Lib.hid (gc.grown GL.out (fun b hb => by have h1 := (STL.out.a.blk b (by simpa using hb)).1; have h2 := STL.out.ord; have h3 := HSL.out; omega))
            have A5 := Lib.hid (fun b (hb : r.blk = some b) => show b ≠ X from by
              rcases hrb b hb with e | e
              · exact HAX.out b e
              · omega)
            have B5 := Lib.hid (fun b (hb : r.blk = some b) => show Sl.blk ⟨some ⟨g, 0, none⟩, Gn, Gc⟩ ≠ some b from by
              rcases hrb b hb with e | e
              · exact HAG.out b e
              · intro e2; have e2 : some g = some b := e2; injection e2 with e2; omega)
            have hX5 : X < w5.heap.size := Nat.lt_of_lt_of_le hXl hg5.size
            have HOF2 := Lib.hid (show Im.ofSt 1 (Im.run win [] l).2 ++ Im.ofSt 1 (outs.take (q + 1)) = Im.ofSt 1 (Im.run win [] l).2 ++ Im.ofSt 1 (outs.take q) ++ [⟨1, yep, ysq, ytm, ykd, yvs⟩] by rw [HOF.out, List.append_assoc])
            clear hr hr' gc hM hL hg5 hrb hwl HUO OL HLO hI hz hsz hby STL TGL SXL HVL GL
            obtain ⟨ra, rn, rc⟩ := r
            dsimp only [Sl.v]
            go_wp2
            go_roundw
            case rel => exact ⟨q + 1, ⟨ra, rn, rc⟩, rfl, by go_num, by omega, G5, Lib.hid (by rw [HOF2.out]; exact S5.out), T5, X5, V5, A5, B5, hX5⟩
            case measure => simp [intOf]; omega
          · have HOF := Lib.hid (show Im.ofSt 1 (outs.take (q + 1)) = Im.ofSt 1 (outs.take q) by rw [HTK.out, ofSt_snoc, if_neg hy1])
            go_wp2
            go_roundw
            case rel => exact ⟨q + 1, ⟨Aa', An', Ac'⟩, rfl, by go_num, by omega, GY, Lib.hid (by rw [HOF.out]; exact STY.out), TGY, SXY, HVY, HAX, HAG, hXy⟩
            case measure => simp [intOf]; omega
        · obtain rfl : q = Gn := by omega
          have hft : outs.take q = outs := List.take_of_length_le (by omega)
          rw [hft] at STQ
          have E1 := Lib.hid (show (Im.run win [] (l ++ [t])).1 = es' by rw [run_snoc]; exact HEE.out)
          have E2 := Lib.hid (show Im.ofSt 1 (Im.run win [] (l ++ [t])).2 = Im.ofSt 1 (Im.run win [] l).2 ++ Im.ofSt 1 outs by rw [run_snoc, Im.ofSt_append, HEX.out])
          have HA2 := Lib.hid (show ∀ x ∈ l ++ [t], x.ok = true ∧ x.st ≤ 2 from fun x hx => by
            rcases List.mem_append.1 hx with hx | hx
            · exact HA.out x hx
            · rw [List.mem_singleton] at hx; subst hx; exact HT.out)
          clear hft HAG TGQ
          obtain ⟨⟨x0, x1, x2, x3, x4, x5⟩, -⟩ := SXQ.out
          by_cases ht1 : t.st = 1
          · have E3 := Lib.hid (show Im.ofSt 1 (l ++ [t]) = Im.ofSt 1 l ++ [t] by rw [ofSt_snoc, if_pos ht1])
            have E4 := Lib.hid (show Im.run win [] (Im.ofSt 1 (l ++ [t])) = ((Im.acc win (Im.run win [] (Im.ofSt 1 l)).1 t).1, (Im.run win [] (Im.ofSt 1 l)).2 ++ (Im.acc win (Im.run win [] (Im.ofSt 1 l)).1 t).2) by rw [E3.out, run_snoc])
            have AC2 := Lib.hid (accept_pub ⟨Tta, Ttn, Ttc⟩ ⟨Eta, Etn, Etc⟩ ⟨win, [], (Im.run win [] (Im.ofSt 1 l)).1⟩ t ⟨Va, Vn, Vc⟩ wr STQ.out.kt.now HVQ.out.free (by have := STQ.out.nil.2; omega) (by have h1 := STQ.out.kt.now.es.len; have h2 := FF.out.1.len; dsimp only at h1 ⊢; omega) (fun e he => by have h1 := (FF.out.1.1.all e he).len; have := HW.out; omega))
            rw [few_accF HW.out FF.out.1 HT.out.1] at AC2
            obtain ⟨⟨s0, s1, s2⟩, -⟩ := STQ.out.bt
            obtain ⟨tst, tep, tsq, ttm, tkd, tvs⟩ := t
            dsimp only at ht1 x0 x1 x2 x3 x4 x5
            subst ht1
            dsimp only [iv3, tv, Sl.v] at AC2 s0 s1 s2
            go_wp2_with fail
            refine AC2.out.mono ?_
            rintro e w13 ⟨⟨Uta, Utn, Utc⟩, ⟨Fta, Ftn, Ftc⟩, ⟨Ha, Hn, Hc⟩, rfl, hk13, hn13, hG13, g13⟩
            dsimp only at hk13 hn13 hG13
            dsimp only [iv3, Sl.v]
            have hLQ : ∀ b ∈ LL lo ⟨Aa', An', Ac'⟩ ⟨Ba, Bn, Bc⟩, b < wr.heap.size := STQ.out.lt
            have K13 := Lib.hid (KS.kl (L := LL lo ⟨Aa', An', Ac'⟩ ⟨Ba, Bn, Bc⟩) hk13 hLQ)
            have TG13 := Lib.hid (TRS.to (l0 := lo) (L := LL lo ⟨Aa', An', Ac'⟩ ⟨Ba, Bn, Bc⟩) hG13 STQ.out.low hLQ)
            have ST13 := Lib.hid (STQ.out.grown g13)
            have G13 := Lib.hid (grown_trans GQ.out g13)
            have HN13 := Lib.hid hn13
            have hout2 := few_out HW.out FF.out.1 HT.out.1 HT.out.2
            have HO2 := Lib.hid hout2
            clear hk13 hG13 hn13 STQ SXQ HVQ GQ AC2 s0 s1 s2 x0 x1 x2 x3 x4 x5 hout2
            obtain ⟨M, hM⟩ : ∃ M, M = w13.heap.size := ⟨_, rfl⟩
            obtain ⟨w14, hw14⟩ : ∃ w14, w14 = w13.alloc (Obj.cells #[.int .i64 win, .slice Uta Utn Utc, .slice Fta Ftn Ftc] 29) := ⟨_, rfl⟩
            have g14 : w13.grownBy w14 none := by subst hw14; exact grown_alloc _ _ _
            have B14 := Lib.hid (show Tri w14 M (.int .i64 win) (.slice Uta Utn Utc) (.slice Fta Ftn Ftc) by subst hw14; subst hM; exact tri_made _ _ _ _ _)
            have ST14 := Lib.hid (ST13.out.grown g14)
            have K14 := Lib.hid (K13.out.grown g14)
            have TG14 := Lib.hid (TG13.out.grown g14)
            have G14 := Lib.hid (grown_trans G13.out g14)
            have hMs : M ≠ tB := by have h1 := ST13.out.ord; have h2 := ST13.out.low; omega
            have HMB := Lib.hid (show ∀ b, Sl.blk ⟨Ba, Bn, Bc⟩ = some b → b ≠ M from fun b hb e => by have h1 := (ST13.out.b.blk b hb).2; omega)
            go_upto_region 23 with fail
            rw [← hw14]
            simp only [← hM]
            clear hw14 hM g14 g13 ST13 K13 TG13 G13
            go_upto_region 25 with fail
            obtain ⟨⟨y0, y1, y2⟩, -⟩ := B14.out
            have STD := Lib.hid (ST14.out.grown (Wr.grown_drew w14 none))
            have KD := Lib.hid (K14.out.grown (Wr.grown_drew w14 none))
            have TGD := Lib.hid (TG14.out.grown (Wr.grown_drew w14 none))
            have GD := Lib.hid (grown_trans G14.out (Wr.grown_drew w14 none))
            replace y0 : w14.drew.cell? ⟨M, 0, none⟩ = some (.int .i64 win) := y0
            replace y1 : w14.drew.cell? ⟨M, 1, none⟩ = some (.slice Uta Utn Utc) := y1
            replace y2 : w14.drew.cell? ⟨M, 2, none⟩ = some (.slice Fta Ftn Ftc) := y2
            obtain ⟨us, hus, huor, huv, hul⟩ := STD.out.b.off
            obtain ⟨vs, hvs, hvor, hvv, hvl⟩ := TGD.out.off
            have hBn : Bn ≤ 100 := by
              have h1 := congrArg List.length hus
              rw [List.length_map] at h1
              have h4 := FF.out.2
              have h5 : (Im.ofSt 1 l).length ≤ l.length := List.length_filter_le _ _
              dsimp only at hul
              omega
            have hHn : Hn ≤ 5 := by
              have h1 := congrArg List.length hvs
              rw [List.length_map] at h1
              have h4 := HO2.out
              dsimp only at hvl
              omega
            have HB1 := Lib.hid (show (Bn + Hn) * 64 ≤ 140737488355328 by omega)
            have HB2 := Lib.hid (show Bn + Hn ≤ 1000000000 by omega)
            have HUS := Lib.hid hus
            have HVS := Lib.hid hvs
            have HUV := Lib.hid huv
            have HVV := Lib.hid hvv
            have HUO := Lib.hid huor
            have HVO := Lib.hid hvor
            have HLO := Lib.hid STD.out.low
            have FD := Lib.hid STD.out.bt.2
            obtain ⟨I, hI, hz, hsz, hby⟩ := parts_t
            have hMt : ∀ b ∈ (Sl.blk ⟨Ba, Bn, Bc⟩).toList, b ∈ LL lo ⟨Aa', An', Ac'⟩ ⟨Ba, Bn, Bc⟩ := fun b hb => ll_b (by simpa using hb)
            have HME := Lib.hid (show M ∉ [tB] by simp; exact hMs)
            have HTBL := Lib.hid (show tB < lo ∧ w.heap.size ≤ tB from by have h1 := STD.out.ord; have h2 := HSL.out; omega)
            clear hus huor huv hul hvs hvor hvv hvl ST14 K14 TG14 G14 B14
            refine wp_region_held_drew (S := fun w' => w'.cell? ⟨M, 0, none⟩ = some (.int .i64 win) ∧ w'.cell? ⟨M, 1, none⟩ = some (.slice Uta Utn Utc) ∧ w'.cell? ⟨M, 2, none⟩ = some (.slice Fta Ftn Ftc)) (by kernel_rfl) ?_ (fun hHeld => ?_)
            · exact ⟨y0, y1, y2⟩
            try simp only [Act.put, List.setIfInBounds_toArray, List.set_cons_zero, List.set_cons_succ]
            generalize w14.drew = wd at *
            refine takeL (i := 0) (v := ?_) rfl (by kernel_rfl) (by kernel_rfl) (by kernel_rfl) (fun _ _ _ h => h) (Or.inl ⟨by rfl, ?_⟩) (by assumption) ?_
            rotate_left 1
            · intro w hSw; obtain ⟨s0, s1, s2⟩ := hSw; first | (go_simp; done) | (go_simp; with_reducible rfl)
            try simp only [Act.put, List.setIfInBounds_toArray, List.set_cons_zero, List.set_cons_succ]
            refine takeL (i := 1) (v := ?_) rfl (by kernel_rfl) (by kernel_rfl) (by kernel_rfl) (fun _ _ _ h => h) (Or.inl ⟨by rfl, ?_⟩) (by assumption) ?_
            rotate_left 1
            · intro w hSw; obtain ⟨s0, s1, s2⟩ := hSw; first | (go_simp; done) | (go_simp; with_reducible rfl)
            try simp only [Act.put, List.setIfInBounds_toArray, List.set_cons_zero, List.set_cons_succ]
            refine takeL (i := 2) (v := ?_) rfl (by kernel_rfl) (by kernel_rfl) (by kernel_rfl) (fun _ _ _ h => h) (Or.inl ⟨by rfl, ?_⟩) (by assumption) ?_
            rotate_left 1
            · intro w hSw; obtain ⟨s0, s1, s2⟩ := hSw; first | (go_simp; done) | (go_simp; with_reducible rfl)
            try simp only [Act.put, List.setIfInBounds_toArray, List.set_cons_zero, List.set_cons_succ]
            refine wpAnyH_ready (rs := [3]) (by kernel_rfl) (by simp) (consL rfl (fun K hK => ?_) AllReadyH.nil)
            refine step_appK rfl (.tmp 91) (.tmp 92) 34 rfl (S := ⟨Ba, Bn, Bc⟩) (V := ⟨Ha, Hn, Hc⟩) Try.underlying34 hI hz hsz hby (by rfl) (by omega) rfl rfl HUO.out HLO.out HVO.out (f6_one vs) HB1.out HB2.out ?_
            intro r w15 hrn hr hg5 hrb
            have hr2 : OR lo w15 38 6 r (f6 (us ++ vs)) := by rw [f6, flat_app]; exact hr
            have gc : Chg (Sl.blk ⟨Ba, Bn, Bc⟩).toList wd w15 := Chg.of hg5 (fun b hb => by simpa using hb)
            have hL := ll_newB (lo := lo) (A := ⟨Aa', An', Ac'⟩) hrb
            have S15 := Lib.hid (STD.out.appB HUS.out HUV.out HVV.out hr2 hg5 hrb)
            have K15 := Lib.hid (KD.out.step gc (fun b hb => .inl (hMt b hb)) hL)
            have G15 := Lib.hid (gc.grown GD.out (fun b hb => by have h1 := (STD.out.b.blk b (by simpa using hb)).1; have h2 := STD.out.ord; have h3 := HSL.out; omega))
            have hMB : M ∉ (Sl.blk ⟨Ba, Bn, Bc⟩).toList := fun hm => HMB.out M (by simpa using hm) rfl
            replace y0 := gc.cell y0 hMB
            replace y1 := gc.cell y1 hMB
            replace y2 := gc.cell y2 hMB
            have F15 := S15.out.bt.2
            have f0 := F15 0
            have f1 := F15 1
            have f2 := F15 2
            obtain ⟨⟨b0, b1, b2⟩, -⟩ := S15.out.bt
            dsimp only [Sl.v] at b0 b1 b2
            clear hr hr2 hg5 hrb hL gc F15 hrn
            refine hK.out _ _ ?_ (fun hHeld => ?_)
            · exact ⟨y0, y1, y2⟩
            clear hK K
            try simp only [Act.put, List.setIfInBounds_toArray, List.set_cons_zero, List.set_cons_succ]
            refine wpAnyH_ready (rs := [4]) (by kernel_rfl) (by simp) (consL rfl (fun K hK => ?_) AllReadyH.nil)
            go_simp
            have gset := (((Chg.refl [tB] w15).set ⟨tB, 0, none⟩ (.int .i64 win) (by simp)).set ⟨tB, 1, none⟩ (.slice Uta Utn Utc) (by simp)).set ⟨tB, 2, none⟩ (.slice Fta Ftn Ftc) (by simp)
            refine hK.out _ _ ?_ (fun hHeld => ?_)
            · exact ⟨gset.cell y0 HME.out, gset.cell y1 HME.out, gset.cell y2 HME.out⟩
            clear hK K
            try simp only [Act.put, List.setIfInBounds_toArray, List.set_cons_zero, List.set_cons_succ]
            have gset := (((Chg.refl [tB] w15).set ⟨tB, 0, none⟩ (.int .i64 win) (by simp)).set ⟨tB, 1, none⟩ (.slice Uta Utn Utc) (by simp)).set ⟨tB, 2, none⟩ (.slice Fta Ftn Ftc) (by simp)
            refine takeL (i := 5) (v := ?_) rfl (by kernel_rfl) (by kernel_rfl) (by kernel_rfl) (fun _ _ _ h => h) (Or.inl ⟨by rfl, ?_⟩) (by assumption) ?_
            rotate_left 1
            · intro w hSw; obtain ⟨s0, s1, s2⟩ := hSw; first | (go_simp; done) | (go_simp; with_reducible rfl)
            try simp only [Act.put, List.setIfInBounds_toArray, List.set_cons_zero, List.set_cons_succ]
            refine wpAnyH_done (by kernel_rfl) ?_ _
            have SF := Lib.hid (S15.out.setT gset (((S15.out.bt.set0 (.int .i64 win)).set1 (.slice Uta Utn Utc)).set2 (.slice Fta Ftn Ftc)) (Et' := ⟨Fta, Ftn, Ftc⟩) (Tt' := ⟨Uta, Utn, Utc⟩) K15.out HN13.out)
            rw [HVS.out] at SF
            have GF := Lib.hid (gset.grown G15.out (fun b hb => by rw [List.mem_singleton] at hb; subst hb; exact HTBL.out.2))
            clear gset b0 b1 b2 f0 f1 f2 y0 y1 y2 hHeld
            generalize (((w15.setCell ⟨tB, 0, none⟩ (.int .i64 win)).setCell ⟨tB, 1, none⟩ (.slice Uta Utn Utc)).setCell ⟨tB, 2, none⟩ (.slice Fta Ftn Ftc)) = wf at *
            obtain ⟨ra, rn, rc⟩ := r
            dsimp only [Sl.v]
            go_wp2
            go_roundw
            case rel => exact ⟨k - 1, l ++ [(⟨1, tep, tsq, ttm, tkd, tvs⟩ : Tm.Tg)], ⟨Tpa, Tpn, Tpc⟩, ⟨Epa, Epn, Epc⟩, ⟨Uta, Utn, Utc⟩, ⟨Fta, Ftn, Ftc⟩, ⟨Aa', An', Ac'⟩, ⟨ra, rn, rc⟩, rfl, rfl, by go_num, by simp; omega, HA2, GF, Lib.hid (by rw [E1.out, E2.out, E4.out]; exact SF.out)⟩
            case measure => simp [intOf]; omega
          · have E3 := Lib.hid (show Im.ofSt 1 (l ++ [t]) = Im.ofSt 1 l by rw [ofSt_snoc, if_neg ht1])
            go_wp2
            go_roundw
            case rel => exact ⟨k - 1, l ++ [t], ⟨Tpa, Tpn, Tpc⟩, ⟨Epa, Epn, Epc⟩, ⟨Tta, Ttn, Ttc⟩, ⟨Eta, Etn, Etc⟩, ⟨Aa', An', Ac'⟩, ⟨Ba, Bn, Bc⟩, rfl, rfl, by go_num, by simp; omega, HA2, GQ, Lib.hid (by rw [E1.out, E2.out, E3.out]; exact STQ.out)⟩
            case measure => simp [intOf]; omega
    · obtain rfl : k = 0 := by omega
      have FE := Lib.hid (Im.run_alone HW.out.1 1 l [] [] (few_nil win) (few_nil win) rfl HA.out)
      have AL := Lib.hid (show alikeF (Im.ofSt 1 (Im.run win [] l).2) (Im.run win [] (Im.ofSt 1 l)).2 = true by rw [FE.out]; exact alike_self _)
      have TA := Lib.hid STR.out.a.tr
      have TB := Lib.hid STR.out.b.tr
      have CA := Lib.hid (alike_any ⟨Aa, An, Ac⟩ ⟨Ba, Bn, Bc⟩ _ _ wr TA.out TB.out)
      rw [AL.out] at CA
      dsimp only [Sl.v] at CA
      clear STR TA TB AL FE
      go_wp2_with fail
      refine CA.out.mono ?_
      rintro e w7 ⟨rfl, g7⟩
      have G7 := Lib.hid (grown_trans GR.out g7)
      clear g7 GR CA
      go_wp2_with fail
      refine (awake_any w7).mono ?_
      rintro e w8 ⟨rfl, g8⟩
      have G8 := Lib.hid (grown_trans G7.out g8)
      go_wp2
      go_ret
      exact ret_mk rfl G8.out
end Go.Proofs.Yticmoaebegahgaa.Iw
