/- Contract of the reference's Accept, where there is room. -/
import Derived.Test.YticmoaebegahgaaKp
import Derived.Deep.CutBlock
namespace Go.Proofs.Yticmoaebegahgaa.Iw
open Go.ChangeShapes Go.WideShapes Go.ChangeAt Go.RowKit
open Wr (IR RB iv ivs bv bvs grown_trans grown_refl grown_alloc ret_int ret_bool tv Ret ret_mk)

def AccA (L : List Nat) (r : List Im.Wt × List Tm.Tg) (k : Ik) (w : World) (e : Ending) (w' : World) : Prop :=
  ∃ T' E' G : Sl, e = .returned (.tuple #[iv3 k.win T' E', G.v, .int .i64 0]) ∧ KA w' L T' E' ⟨k.win, k.tail, r.1⟩ ∧ TL w' L G r.2 ∧ w.grownBy w' none
theorem or_lit40 (w : World) : OR w.heap.size (w.alloc (Obj.cells #[] 61)) 61 4 ⟨some ⟨w.heap.size, 0, none⟩, 0, 0⟩ [] :=
  ⟨World.ownsRow_lit (base := w.heap.size) (e := 61) (size := 4) w #[] 0 (Nat.le_refl _) (by unfold maxLen; omega) (by simp)⟩
set_option maxRecDepth 100000 in
set_option maxHeartbeats 8000000 in
theorem raccept_ok (L : List Nat) (T E : Sl) (k : Ik) (t : Tm.Tg) (V : Sl) (w : World) (hL : ∀ b ∈ L, b < w.heap.size) (hk : KA w L T E k) (ho : k.ok = true) (hV : VI w L V t.vs) (ht : t.ok = true) (hr : k.es.length < 64) :
    Calls Try.prog 42 #[iv3 k.win T E, tv t V.v] w (AccA L (Im.acc k.win k.es t) k w) := by
  have HK := Lib.hid hk
  have HO := Lib.hid ho
  have HV := Lib.hid hV
  have HT := Lib.hid ht
  have HLL := Lib.hid hL
  have HOK := Lib.hid (Ik.ok_iff.1 ho)
  clear hk ho hV ht hL
  obtain ⟨win, tl, es⟩ := k
  obtain ⟨tst, tep, tsq, ttm, tkd, tvs⟩ := t
  obtain ⟨Ta, Tn, Tc⟩ := T
  obtain ⟨Ea, En, Ec⟩ := E
  obtain ⟨Va, Vn, Vc⟩ := V
  dsimp only at hr HOK
  have hEn : es.length = En := HK.out.es.len
  have HEN := Lib.hid hEn
  have hen : En < 64 := by omega
  dsimp only [iv3, tv, Sl.v]
  obtain ⟨X, hX⟩ : ∃ X, X = w.heap.size := ⟨_, rfl⟩
  obtain ⟨w1, hw1⟩ : ∃ w1, w1 = w.alloc (Obj.cells #[.int .i64 win, .slice Ta Tn Tc, .slice Ea En Ec] 29) := ⟨_, rfl⟩
  obtain ⟨w2, hw2⟩ : ∃ w2, w2 = w1.alloc (Wr.tcells ⟨tst, tep, tsq, ttm, tkd, tvs⟩ (.slice Va Vn Vc)) := ⟨_, rfl⟩
  obtain ⟨w3, hw3⟩ : ∃ w3, w3 = w2.alloc (Obj.cells #[.int .i64 0, .slice none 0 0, .slice none 0 0] 29) := ⟨_, rfl⟩
  have z1 : w1.heap.size = X + 1 := by subst hw1; subst hX; simp
  have z2 : w2.heap.size = X + 2 := by subst hw2; simp [z1]
  have z2' : w2.heap.size = X + 1 + 1 := z2
  have z3 : w3.heap.size = X + 3 := by subst hw3; simp [z2]
  have g1 : w.grownBy w1 none := by subst hw1; exact grown_alloc _ _ _
  have g2 : w1.grownBy w2 none := by subst hw2; exact grown_alloc _ _ _
  have g3 : w2.grownBy w3 none := by subst hw3; exact grown_alloc _ _ _
  have G := Lib.hid (grown_trans g1 (grown_trans g2 g3))
  have BX := Lib.hid (show Tri w3 X (.int .i64 win) (.slice Ta Tn Tc) (.slice Ea En Ec) from (show Tri w1 X _ _ _ by subst hw1; subst hX; exact tri_made _ _ _ _ _).grown (grown_trans g2 g3))
  have SY := Lib.hid (show Wr.Six w3 (X + 1) ⟨tst, tep, tsq, ttm, tkd, tvs⟩ (.slice Va Vn Vc) from (show Wr.Six w2 (X + 1) _ _ by subst hw2; rw [← z1]; exact Wr.Six.made _ _ _).grown g3 (by simp))
  have BZ := Lib.hid (show Tri w3 (X + 1 + 1) (.int .i64 0) (.slice none 0 0) (.slice none 0 0) by subst hw3; rw [← z2']; exact tri_made _ _ _ _ _)
  obtain ⟨L2, hL2⟩ : ∃ L2, L2 = X :: (X + 1) :: (X + 1 + 1) :: L := ⟨_, rfl⟩
  have HL2 := Lib.hid (show (∀ b ∈ L, b ∈ L2) ∧ X ∈ L2 ∧ X + 1 ∈ L2 ∧ X + 1 + 1 ∈ L2 by subst hL2; exact ⟨fun b hb => List.mem_cons_of_mem _ (List.mem_cons_of_mem _ (List.mem_cons_of_mem _ hb)), by simp, by simp, by simp⟩)
  have hnew : ∀ b ∈ L2, b ∈ L ∨ w.heap.size ≤ b := fun b hb => by
    subst hL2
    rcases List.mem_cons.1 hb with rfl | hb
    · right; omega
    · rcases List.mem_cons.1 hb with rfl | hb
      · right; omega
      · rcases List.mem_cons.1 hb with rfl | hb
        · right; omega
        · exact .inl hb
  have HL3 := Lib.hid (show ∀ b ∈ L2, b < X + 3 from fun b hb => by
    subst hL2
    rcases List.mem_cons.1 hb with rfl | hb
    · omega
    · rcases List.mem_cons.1 hb with rfl | hb
      · omega
      · rcases List.mem_cons.1 hb with rfl | hb
        · omega
        · have := HLL.out b hb; omega)
  have HK3 := Lib.hid (HK.out.step (M := []) (Chg.of0 G.out) (fun _ h => by cases h) hnew)
  have HV3 := Lib.hid (HV.out.step (L' := L2) (Chg.of0 G.out) hnew)
  have HZX := Lib.hid (show w3.heap.size = X + 3 ∧ w.heap.size = X from ⟨z3, hX.symm⟩)
  unfold Wr.tcells at hw2
  try dsimp only at hw2
  have HVD := Lib.hid (rvalid_ok ⟨Ta, Tn, Tc⟩ ⟨Ea, En, Ec⟩ ⟨win, tl, es⟩ w3 HK3.out.kr HO.out)
  dsimp only [iv3, Sl.v] at HVD
  go_enter Try.func42, Try.ntmps42
  go_upto_region 1 with fail
  rw [← hw1, ← hw2, ← hw3]
  simp only [← hX]
  try simp only [z1, z2']
  clear hX hw1 hw2 hw3 g1 g2 g3 z1 z2 z2' z3 hL2 hnew HK HV HLL hEn
  obtain ⟨⟨c0, c1, c2⟩, -⟩ := BX.out
  go_wp2_with fail
  refine HVD.out.mono ?_
  rintro e w4 ⟨rfl, g4⟩
  clear HVD c0 c1 c2
  obtain ⟨⟨t0, t1, t2, t3, t4, t5⟩, -⟩ := SY.out.grown g4 (by simp)
  dsimp only at t0 t1 t2 t3 t4 t5
  have HVT := Lib.hid (rvalid_at (t := ⟨tst, tep, tsq, ttm, tkd, tvs⟩) (V := ⟨Va, Vn, Vc⟩) (W := w4) ((HV3.out.grown g4).free) HT.out)
  dsimp only [tv, Sl.v] at HVT
  have G4 := Lib.hid g4
  clear g4
  go_wp2_with fail
  refine HVT.out.mono ?_
  rintro e w5 ⟨rfl, g5⟩
  clear HVT t0 t1 t2 t3 t4 t5
  have GW := Lib.hid (grown_trans G4.out g5)
  have G := Lib.hid (grown_trans G.out GW.out)
  have BX := Lib.hid (BX.out.grown GW.out)
  have SY := Lib.hid (SY.out.grown GW.out (by simp))
  have BZ := Lib.hid (BZ.out.grown GW.out)
  have HK3 := Lib.hid (HK3.out.grown GW.out)
  have HV3 := Lib.hid (HV3.out.grown GW.out)
  have HSZ := Lib.hid (show X + 3 ≤ w5.heap.size by have h1 := GW.out.size; have h2 := HZX.out.1; omega)
  clear g5 G4 GW
  go_upto_block 0 with fail
  go_cut [7] (fun v wd => ∃ a : Nat, v = .int .i64 a ∧ a ≤ En ∧ Hid (w5.grownBy wd none) ∧ Hid ((∀ j, j < a → (es.getD j wt0).st < tst) ∧ (a = es.length ∨ tst ≤ (es.getD a wt0).st)))
  case first =>
    go_wp2_with fail
    go_loopw [7] (fun v wr => ∃ a : Nat, v = .int .i64 a ∧ a ≤ En ∧ Hid (w5.grownBy wr none) ∧ Hid (∀ j, j < a → (es.getD j wt0).st < tst)) (fun v _ => En - (intOf v).toNat)
    case atStart => exact ⟨0, rfl, by omega, grown_refl _ _, fun j hj => absurd hj (by omega)⟩
    case round =>
      obtain ⟨a, rfl, ha, GR, LW⟩ := hrel
      obtain ⟨⟨c0, c1, c2⟩, -⟩ := BX.out.grown GR.out
      obtain ⟨⟨t0, t1, t2, t3, t4, t5⟩, -⟩ := SY.out.grown GR.out (by simp)
      dsimp only at t0 t1 t2 t3 t4 t5
      by_cases hlt : a < En
      · obtain ⟨b, off, ⟨Wa, Wn, Wc⟩, hDa, -, -, hcc⟩ := (HK3.out.grown GR.out).es.at_ a hlt
        dsimp only at hDa
        subst hDa
        obtain ⟨d0, d1, d2, d3⟩ := four_of (o := off + a * 4) (fun j u hu => by rw [Nat.add_assoc]; exact hcc j u hu)
        dsimp only at d0
        obtain ⟨y, hy⟩ : ∃ y, y = (es.getD a wt0).st := ⟨_, rfl⟩
        rw [← hy] at d0
        have HY := Lib.hid hy
        clear hy hcc d1 d2 d3
        have b1 : decide ((a : Int) < (En : Int)) = true := by simp; omega
        by_cases hq : y < tst
        · have b2 : decide (y < tst) = true := by simpa using hq
          have L2' := Lib.hid (fun j (hj : j < a + 1) => show (es.getD j wt0).st < tst from by
            rcases Nat.lt_or_ge j a with e | e
            · exact LW.out j e
            · obtain rfl : j = a := by omega
              rw [← HY.out]; exact hq)
          go_wp2_with fail
          go_quiet (fail)
          go_wp2
          go_roundw
          case rel => exact ⟨a + 1, by go_num, by omega, grown_trans GR.out (Wr.grown_drewN wr nq none), L2'⟩
          case measure => simp [intOf]; omega
        · have b2 : decide (y < tst) = false := by simpa using hq
          have LA := Lib.hid (show (∀ j, j < a → (es.getD j wt0).st < tst) ∧ (a = es.length ∨ tst ≤ (es.getD a wt0).st) from ⟨LW.out, .inr (by rw [← HY.out]; omega)⟩)
          go_wp2_with fail
          go_quiet (fail)
          go_wp2_with fail
          go_meet
          case rel => exact ⟨a, rfl, ha, grown_trans GR.out (Wr.grown_drewN wr nq none), LA⟩
      · have b1 : decide ((a : Int) < (En : Int)) = false := by simp; omega
        have LA := Lib.hid (show (∀ j, j < a → (es.getD j wt0).st < tst) ∧ (a = es.length ∨ tst ≤ (es.getD a wt0).st) from ⟨LW.out, .inl (by rw [HEN.out]; omega)⟩)
        go_wp2_with fail
        go_quiet (fail)
        go_wp2_with fail
        go_meet
        case rel => exact ⟨a, rfl, ha, grown_trans GR.out (Wr.grown_drewN wr nq none), LA⟩
  case rest =>
    obtain ⟨a, rfl, ha, GR, LA⟩ := hcut
    have G := Lib.hid (grown_trans G.out GR.out)
    have BX := Lib.hid (BX.out.grown GR.out)
    have SY := Lib.hid (SY.out.grown GR.out (by simp))
    have BZ := Lib.hid (BZ.out.grown GR.out)
    have HK3 := Lib.hid (HK3.out.grown GR.out)
    have HV3 := Lib.hid (HV3.out.grown GR.out)
    have HSZ := Lib.hid (Nat.le_trans HSZ.out GR.out.size)
    clear GR
    obtain ⟨⟨t0, t1, t2, t3, t4, t5⟩, -⟩ := SY.out
    dsimp only at t0 t1 t2 t3 t4 t5
    go_upto_region 10 with fail
    obtain ⟨B8, hB8⟩ : ∃ b, b = wc.heap.size := ⟨_, rfl⟩
    obtain ⟨w8, hw8⟩ : ∃ z, z = wc.alloc (Obj.cells #[.int .i64 tst, .int .i64 tep, .int .i64 0, .slice none 0 0] 61) := ⟨_, rfl⟩
    rw [← hw8]
    simp only [← hB8]
    have g8 : wc.grownBy w8 none := by subst hw8; exact grown_alloc _ _ _
    have F8 := Lib.hid (show Four w8 B8 tst tep 0 (.slice none 0 0) by subst hw8; subst hB8; exact four_made _ _ _ _ _ _)
    have HB8 := Lib.hid (show X + 3 ≤ B8 ∧ B8 < w8.heap.size by have h1 := HSZ.out; have h2 := F8.out.lt; omega)
    have hL4 : ∀ b ∈ B8 :: L2, b ∈ L2 ∨ wc.heap.size ≤ b := fun b hb => by
      rcases List.mem_cons.1 hb with e | hb
      · right; omega
      · exact .inl hb
    have HL4 := Lib.hid (show ∀ b ∈ B8 :: L2, b < B8 + 1 from fun b hb => by
      rcases List.mem_cons.1 hb with e | hb
      · omega
      · have h1 := HL3.out b hb; have h2 := HB8.out.1; omega)
    have HK4 := Lib.hid (HK3.out.step (M := []) (Chg.of0 g8) (fun _ h => by cases h) hL4)
    have HV4 := Lib.hid (HV3.out.step (L' := B8 :: L2) (Chg.of0 g8) hL4)
    have G := Lib.hid (grown_trans G.out g8)
    have BX := Lib.hid (BX.out.grown g8)
    have SY := Lib.hid (SY.out.grown g8 (by simp))
    have BZ := Lib.hid (BZ.out.grown g8)
    have PUT := Lib.hid (put_at (win := win) (full := decide (es.length = 64)) (t := (⟨tst, tep, tsq, ttm, tkd, tvs⟩ : Tm.Tg)) es a (by rw [HEN.out]; exact ha) LA.out.1 LA.out.2)
    clear hB8 hw8 g8 hL4 HK3 HV3 HSZ t0 t1 t2 t3 t4 t5
    go_cut [60] (fun v wd => v = .bool (decide (a < En ∧ (es.getD a wt0).st = tst)) ∧ Hid (w8.grownBy wd none))
    case first =>
      obtain ⟨⟨c0, c1, c2⟩, -⟩ := BX.out
      obtain ⟨⟨t0, t1, t2, t3, t4, t5⟩, -⟩ := SY.out
      dsimp only at t0 t1 t2 t3 t4 t5
      by_cases hlt : a < En
      · obtain ⟨b, off, ⟨Wa, Wn, Wc⟩, hDa, -, -, hcc⟩ := HK4.out.es.at_ a hlt
        dsimp only at hDa
        subst hDa
        obtain ⟨d0, d1, d2, d3⟩ := four_of (o := off + a * 4) (fun j u hu => by rw [Nat.add_assoc]; exact hcc j u hu)
        dsimp only at d0
        obtain ⟨y, hy⟩ : ∃ y, y = (es.getD a wt0).st := ⟨_, rfl⟩
        rw [← hy] at d0
        have HD := Lib.hid (show decide (a < En ∧ (es.getD a wt0).st = tst) = decide (y = tst) by rw [← hy]; simp [hlt])
        clear hy hcc d1 d2 d3
        have b1 : decide ((a : Int) < (En : Int)) = true := by simp; omega
        go_wp2_with fail
        go_quiet (fail)
        go_wp2
        go_meet
        case rel => exact ⟨by rw [HD.out]; first | rfl | (congr 1; simp [beq_eq_decide]; done) | (congr 1; rw [Bool.eq_iff_iff]; simp), Wr.grown_drewN w8 nq none⟩
      · have b1 : decide ((a : Int) < (En : Int)) = false := by simp; omega
        have HD := Lib.hid (show decide (a < En ∧ (es.getD a wt0).st = tst) = false by simp; omega)
        go_wp2_with fail
        go_quiet (fail)
        go_wp2
        go_meet
        case rel => exact ⟨by rw [HD.out], Wr.grown_drewN w8 nq none⟩
    case rest =>
      obtain ⟨rfl, GR⟩ := hcut
      have G := Lib.hid (grown_trans G.out GR.out)
      have BX := Lib.hid (BX.out.grown GR.out)
      have SY := Lib.hid (SY.out.grown GR.out (by simp))
      have BZ := Lib.hid (BZ.out.grown GR.out)
      have F8 := Lib.hid (F8.out.grown GR.out)
      have HK4 := Lib.hid (HK4.out.grown GR.out)
      have HV4 := Lib.hid (HV4.out.grown GR.out)
      have HB8 := Lib.hid (show X + 3 ≤ B8 ∧ B8 < wc.heap.size from ⟨HB8.out.1, Nat.lt_of_lt_of_le HB8.out.2 GR.out.size⟩)
      clear GR
      go_upto_if 60 with fail
      go_cut [9] (fun v wd => ∃ (bh : Nat) (x : Im.Wt) (H : Sl), v = .int .i64 bh ∧ bh ≤ En ∧ Hid (Four wd B8 x.st x.ep x.nx H.v) ∧ Hid (TL wd (B8 :: L2) H x.held) ∧ Hid (Im.WOk win x) ∧ Hid (Im.acc win es (⟨tst, tep, tsq, ttm, tkd, tvs⟩ : Tm.Tg) = (es.take a ++ (Im.take win x (⟨tst, tep, tsq, ttm, tkd, tvs⟩ : Tm.Tg)).1 :: es.drop bh, (Im.take win x (⟨tst, tep, tsq, ttm, tkd, tvs⟩ : Tm.Tg)).2)) ∧ Hid (Chg [B8] wc wd))
      case first =>
        obtain ⟨⟨c0, c1, c2⟩, -⟩ := BX.out
        obtain ⟨⟨e0, e1, e2, e3⟩, eF⟩ := F8.out
        have f0 := eF 0
        have f1 := eF 1
        have f2 := eF 2
        have f3 := eF 3
        clear eF
        by_cases hf : a < En ∧ (es.getD a wt0).st = tst
        · rw [decide_eq_true hf]
          obtain ⟨b, off, ⟨Wa, Wn, Wc⟩, hDa, hbL, hTW, hcc⟩ := HK4.out.es.at_ a hf.1
          dsimp only at hDa
          subst hDa
          obtain ⟨d0, d1, d2, d3⟩ := four_of (o := off + a * 4) (fun j u hu => by rw [Nat.add_assoc]; exact hcc j u hu)
          have hxm : es.getD a wt0 ∈ es := by
            have hlt : a < es.length := by rw [HEN.out]; exact hf.1
            rw [List.getD_eq_getElem?_getD, List.getElem?_eq_getElem hlt]; exact List.getElem_mem _
          have PA := Lib.hid (PUT.out.1 (by rw [HEN.out]; exact hf.1) hf.2)
          have HTW := Lib.hid hTW
          have WX := Lib.hid (HOK.out.2.2.2.all _ hxm)
          have hlt := hf.1
          have hlt' : (a : Int) < (En : Int) := by omega
          have hbB : b ≠ B8 := fun e => hbL (by rw [e]; exact List.mem_cons_self)
          clear hf hcc hTW hxm hbL
          generalize es.getD a wt0 = x at *
          obtain ⟨xst, xep, xnx, xhe⟩ := x
          dsimp only [Sl.v] at d0 d1 d2 d3 HTW
          go_wp2
          go_meet
          case rel => exact ⟨a + 1, ⟨xst, xep, xnx, xhe⟩, ⟨Wa, Wn, Wc⟩, by go_num, by omega, Lib.hid (F8.out.all xst xep xnx (.slice Wa Wn Wc)), Lib.hid (HTW.out.step (((((Chg.refl [B8] wc).set ⟨B8, 0, none⟩ (.int .i64 xst) (by simp)).set ⟨B8, 1, none⟩ (.int .i64 xep) (by simp)).set ⟨B8, 2, none⟩ (.int .i64 xnx) (by simp)).set ⟨B8, 3, none⟩ (.slice Wa Wn Wc) (by simp)) (fun b hb => .inl (by rw [List.mem_singleton] at hb; rw [hb]; exact List.mem_cons_self)) (fun b hb => .inl hb)), WX, Lib.hid (by unfold Im.acc; exact PA.out), Lib.hid (((((Chg.refl [B8] wc).set ⟨B8, 0, none⟩ (.int .i64 xst) (by simp)).set ⟨B8, 1, none⟩ (.int .i64 xep) (by simp)).set ⟨B8, 2, none⟩ (.int .i64 xnx) (by simp)).set ⟨B8, 3, none⟩ (.slice Wa Wn Wc) (by simp))⟩
        · rw [decide_eq_false hf]
          have PA := Lib.hid (PUT.out.2 (by
            by_cases h : a = es.length
            · exact .inl h
            · exact .inr (fun e => hf ⟨by have := HEN.out; omega, e⟩)) (by simp; omega))
          have h64 : ((En : Int) == 64) = false := by simp; omega
          clear hf
          go_wp2
          go_meet
          case rel => exact ⟨a, Im.new (⟨tst, tep, tsq, ttm, tkd, tvs⟩ : Tm.Tg), nilS, rfl, ha, F8, Lib.hid (TL.nil _ _ _ _ (by omega)), Lib.hid (Im.new_ok HOK.out.1.1 HT.out), Lib.hid (by unfold Im.acc; exact PA.out), Lib.hid (Chg.refl _ _)⟩
      case rest =>
        obtain ⟨bh, x, ⟨Ha, Hn, Hc⟩, rfl, hbh, F8, TLH, WX, ACC, GX⟩ := hcut
        have G := Lib.hid (GX.out.grown G.out (fun b hb => by rw [List.mem_singleton] at hb; have h1 := HB8.out.1; have h2 := HZX.out.2; omega))
        have BX := Lib.hid (BX.out.step GX.out (fun hm => by rw [List.mem_singleton] at hm; have h1 := HB8.out.1; omega))
        have SY := Lib.hid (SY.out.grown (Chg.one GX.out) (fun e => by have e := Option.some.inj e; have h1 := HB8.out.1; omega))
        have BZ := Lib.hid (BZ.out.step GX.out (fun hm => by rw [List.mem_singleton] at hm; have h1 := HB8.out.1; omega))
        have hM8 : ∀ b ∈ [B8], b ∈ B8 :: L2 := fun b hb => by rw [List.mem_singleton] at hb; rw [hb]; exact List.mem_cons_self
        have HK4 := Lib.hid (HK4.out.step GX.out (fun b hb => .inl (hM8 b hb)) (fun b hb => .inl hb))
        have HV4 := Lib.hid (HV4.out.step ((Chg.refl (B8 :: L2) _).then GX.out (fun b hb => .inl (hM8 b hb))) (fun b hb => .inl hb))
        have HS8 := Lib.hid (show B8 < wc.heap.size from F8.out.lt)
        clear GX hM8 HB8
        have TK := Lib.hid (rtake_any (B8 :: L2) win x (⟨tst, tep, tsq, ttm, tkd, tvs⟩ : Tm.Tg) ⟨Ha, Hn, Hc⟩ ⟨Va, Vn, Vc⟩ wc (fun b hb => by have := HL4.out b hb; have := HS8.out; omega) TLH.out HV4.out WX.out HT.out HOK.out.1)
        unfold TakeE at TK
        generalize Im.take win x (⟨tst, tep, tsq, ttm, tkd, tvs⟩ : Tm.Tg) = tk at *
        obtain ⟨⟨yst, yep, ynx, yhe⟩, gv⟩ := tk
        obtain ⟨xst, xep, xnx, xhe⟩ := x
        dsimp only [ev, tv, Sl.v] at TK F8 ACC
        obtain ⟨⟨e0, e1, e2, e3⟩, -⟩ := F8.out
        obtain ⟨⟨c0, c1, c2⟩, -⟩ := BX.out
        obtain ⟨⟨t0, t1, t2, t3, t4, t5⟩, -⟩ := SY.out
        dsimp only at t0 t1 t2 t3 t4 t5
        go_wp2_with fail
        refine TK.out.mono ?_
        rintro e wk ⟨⟨Ya, Yn, Yc⟩, ⟨Oa, On, Oc⟩, rfl, TLY, TLO, gk⟩
        clear TK e0 e1 e2 e3 c0 c1 c2 t0 t1 t2 t3 t4 t5 F8 TLH SY HV4
        dsimp only [Sl.v]
        have TLY := Lib.hid TLY
        have TLO := Lib.hid TLO
        obtain ⟨B10, hB10⟩ : ∃ b, b = wk.heap.size := ⟨_, rfl⟩
        obtain ⟨wl, hwl⟩ : ∃ z, z = wk.alloc (Obj.cells #[.int .i64 yst, .int .i64 yep, .int .i64 ynx, .slice Ya Yn Yc] 61) := ⟨_, rfl⟩
        have gl : wk.grownBy wl none := by subst hwl; exact grown_alloc _ _ _
        have F10 := Lib.hid (show Four wl B10 yst yep ynx (.slice Ya Yn Yc) by subst hwl; subst hB10; exact four_made _ _ _ _ _ _)
        have GL := Lib.hid (grown_trans gk gl)
        have G := Lib.hid (grown_trans G.out GL.out)
        have BX := Lib.hid (BX.out.grown GL.out)
        have BZ := Lib.hid (BZ.out.grown GL.out)
        have HK4 := Lib.hid (HK4.out.grown GL.out)
        have TLY := Lib.hid (TLY.out.grown gl)
        have TLO := Lib.hid (TLO.out.grown gl)
        have HS8 := Lib.hid (show B8 < wl.heap.size from Nat.lt_of_lt_of_le HS8.out GL.out.size)
        clear gk
        go_upto_region 15 with fail
        rw [← hwl]
        try simp only [← hB10]
        clear hwl hB10 gl GL
        obtain ⟨ys, hys, hcr, hyv, hyl⟩ := HK4.out.es.list
        dsimp only at hys hyl
        have HYS := Lib.hid hys
        have HCR := Lib.hid hcr
        have HYV := Lib.hid hyv
        have HYL := Lib.hid hyl
        obtain ⟨I, hI, hz, hsz, hby⟩ := parts_w
        have hEC : En ≤ Ec := HK4.out.es.fit.1
        have hac : a ≤ Ec := Nat.le_trans ha hEC
        have hac2 : ¬ Ec < a := by omega
        have hbc2 : ¬ En < bh := by omega
        clear hys hcr hyv hyl
        go_cut [12] (fun v wx => ∃ (B12 : Nat) (R : Sl), v = .pointer (some ⟨B12, 0, none⟩) ∧ Hid (Tri wx B12 (.int .i64 win) (.slice Ta Tn Tc) R.v) ∧ Hid (EL wx (B8 :: L2) R (es.take a ++ (⟨yst, yep, ynx, yhe⟩ : Im.Wt) :: es.drop bh)) ∧ Hid (wl.grownBy wx none))
        case first =>
          have gd := Wr.grown_drew wl none
          refine wp_region_held_drew (S := fun w' => w'.cell? ⟨X, 0, none⟩ = some (.int .i64 win) ∧ w'.cell? ⟨X, 1, none⟩ = some (.slice Ta Tn Tc) ∧ w'.cell? ⟨X, 2, none⟩ = some (.slice Ea En Ec) ∧ w'.cell? ⟨B10, 0, none⟩ = some (.int .i64 yst) ∧ w'.cell? ⟨B10, 1, none⟩ = some (.int .i64 yep) ∧ w'.cell? ⟨B10, 2, none⟩ = some (.int .i64 ynx) ∧ w'.cell? ⟨B10, 3, none⟩ = some (.slice Ya Yn Yc)) (by kernel_rfl) ?_ (fun hHeld => ?_)
          · exact ⟨(BX.out.grown gd).1.1, (BX.out.grown gd).1.2.1, (BX.out.grown gd).1.2.2, (F10.out.grown gd).1.1, (F10.out.grown gd).1.2.1, (F10.out.grown gd).1.2.2.1, (F10.out.grown gd).1.2.2.2⟩
          try simp only [Act.put, List.setIfInBounds_toArray, List.set_cons_zero, List.set_cons_succ]
          have G2 := Lib.hid gd
          clear gd
          generalize wl.drew = wd at *
          obtain ⟨bz, hbz⟩ : ∃ b, b = wd.heap.size := ⟨_, rfl⟩
          have GB := Lib.hid (show wd.grownBy wd none from grown_refl _ _)
          have HBZ := Lib.hid (show wl.heap.size ≤ bz ∧ bz = wd.heap.size from ⟨by have := G2.out.size; omega, hbz⟩)
          have HLB := Lib.hid (show ∀ b ∈ B8 :: L2, b < bz from fun b hb => by
            have h1 := HBZ.out.1; have h2 := HL4.out b hb; have h3 := HS8.out; omega)
          obtain ⟨ad, had0, had1⟩ : ∃ ad : Option Addr, (Ea = none → ad = none) ∧ ∀ q, Ea = some q → (if Ec = bh then (some q : Option Addr) else some (q.add (bh * 4))) = ad := by
            rcases Ea with _ | q
            · exact ⟨none, fun _ => rfl, fun q e => by cases e⟩
            · exact ⟨_, (fun e => by cases e), fun q' e => by injection e with e; subst e; rfl⟩
          have HAN := Lib.hid had0
          have HAD := Lib.hid had1
          have HDR := Lib.hid (show ∀ W, wl.grownBy W none → CR W ⟨ad, En - bh, Ec - bh⟩ (f4 (ys.drop bh)) from fun W g => by
            by_cases h0 : En = 0
            · have : ys.drop bh = [] := List.drop_of_length_le (by have := HYL.out; omega)
              rw [this]
              exact fun j u hu => by simp [f4] at hu
            · obtain ⟨b, off, V, hDa, -⟩ := HK4.out.es.at_ 0 (by dsimp only; omega)
              dsimp only at hDa
              have e4 := HAD.out _ hDa
              have h5 := HCR.out
              rw [hDa] at h5
              refine cr4_drop (c := Ec) (h5.grown g) HYL.out (by omega) ?_
              rw [← e4, add_lit])
          have HL5 := Lib.hid (show (f4 (ys.take a)).length = a * 4 by rw [f4_len, List.length_take, HYL.out]; omega)
          have HL13 := Lib.hid (show (f4 (ys.drop bh)).length = (En - bh) * 4 by rw [f4_len, List.length_drop, HYL.out])
          clear had0 had1 hbz
          refine takeL (i := 0) (v := ?_) rfl (by kernel_rfl) (by kernel_rfl) (by kernel_rfl) (fun _ _ _ h => h) (Or.inl ⟨by rfl, ?_⟩) (by assumption) ?_
          rotate_left 1
          · intro w hSw; obtain ⟨s0, s1, s2, q0, q1, q2, q3⟩ := hSw; first | (go_simp; done) | (go_simp; with_reducible rfl)
          try simp only [Act.put, List.setIfInBounds_toArray, List.set_cons_zero, List.set_cons_succ]
          refine takeL (i := 1) (v := ?_) rfl (by kernel_rfl) (by kernel_rfl) (by kernel_rfl) (fun _ _ _ h => h) (Or.inl ⟨by rfl, ?_⟩) (by assumption) ?_
          rotate_left 1
          · intro w hSw; obtain ⟨s0, s1, s2, q0, q1, q2, q3⟩ := hSw; first | (go_simp; done) | (go_simp; with_reducible rfl)
          try simp only [Act.put, List.setIfInBounds_toArray, List.set_cons_zero, List.set_cons_succ]
          refine takeL (i := 2) (v := ?_) rfl (by kernel_rfl) (by kernel_rfl) (by kernel_rfl) (fun _ _ _ h => h) (Or.inl ⟨by rfl, ?_⟩) (by assumption) ?_
          rotate_left 1
          · intro w hSw; obtain ⟨s0, s1, s2, q0, q1, q2, q3⟩ := hSw; first | (go_simp; done) | (go_simp; with_reducible rfl)
          try simp only [Act.put, List.setIfInBounds_toArray, List.set_cons_zero, List.set_cons_succ]
          refine takeL (i := 3) (v := ?_) rfl (by kernel_rfl) (by kernel_rfl) (by kernel_rfl) (fun _ _ _ h => h) (Or.inl ⟨by rfl, ?_⟩) (by assumption) ?_
          rotate_left 1
          · intro w hSw; obtain ⟨s0, s1, s2, q0, q1, q2, q3⟩ := hSw; first | (go_simp; done) | (go_simp; with_reducible rfl)
          try simp only [Act.put, List.setIfInBounds_toArray, List.set_cons_zero, List.set_cons_succ]
          refine takeL (i := 5) (v := ?_) rfl (by kernel_rfl) (by kernel_rfl) (by kernel_rfl) (fun _ _ _ h => h) (Or.inl ⟨by rfl, ?_⟩) (by assumption) ?_
          rotate_left 1
          · intro w hSw; obtain ⟨s0, s1, s2, q0, q1, q2, q3⟩ := hSw; first | (go_simp; done) | (go_simp; with_reducible rfl)
          try simp only [Act.put, List.setIfInBounds_toArray, List.set_cons_zero, List.set_cons_succ]
          refine takeL (i := 6) (v := ?_) rfl (by kernel_rfl) (by kernel_rfl) (by kernel_rfl) (fun _ _ _ h => h) (Or.inl ⟨by rfl, ?_⟩) (by assumption) ?_
          rotate_left 1
          · intro w hSw; obtain ⟨s0, s1, s2, q0, q1, q2, q3⟩ := hSw; first | (go_simp; done) | (go_simp; with_reducible rfl)
          try simp only [Act.put, List.setIfInBounds_toArray, List.set_cons_zero, List.set_cons_succ]
          refine takeL (i := 7) (v := ?_) rfl (by kernel_rfl) (by kernel_rfl) (by kernel_rfl) (fun _ _ _ h => h) (Or.inl ⟨by rfl, ?_⟩) (by assumption) ?_
          rotate_left 1
          · intro w hSw; obtain ⟨s0, s1, s2, q0, q1, q2, q3⟩ := hSw; first | (go_simp; done) | (go_simp; with_reducible rfl)
          try simp only [Act.put, List.setIfInBounds_toArray, List.set_cons_zero, List.set_cons_succ]
          refine takeL (i := 8) (v := .slice Ea a Ec) rfl (by kernel_rfl) (by kernel_rfl) (by kernel_rfl) (fun _ _ _ h => h) (Or.inl ⟨by rfl, ?_⟩) (by assumption) ?_
          · intro w hSw; obtain ⟨s0, s1, s2, q0, q1, q2, q3⟩ := hSw
            rcases Ea with _ | ⟨b, off, sp⟩
            · first | (go_simp; done) | (go_simp; with_reducible rfl)
            · have hz0 : (⟨b, off, sp⟩ : Addr).add (0 * 4) = ⟨b, off, sp⟩ := rfl
              first | (go_simp; done) | (go_simp; rw [hz0])
          try simp only [Act.put, List.setIfInBounds_toArray, List.set_cons_zero, List.set_cons_succ]
          refine takeL (i := 10) (v := ?_) rfl (by kernel_rfl) (by kernel_rfl) (by kernel_rfl) (fun _ _ _ h => h) (Or.inl ⟨by rfl, ?_⟩) (by assumption) ?_
          rotate_left 1
          · intro w hSw; obtain ⟨s0, s1, s2, q0, q1, q2, q3⟩ := hSw; first | (go_simp; done) | (go_simp; with_reducible rfl)
          try simp only [Act.put, List.setIfInBounds_toArray, List.set_cons_zero, List.set_cons_succ]
          refine takeL (i := 13) (v := ?_) rfl (by kernel_rfl) (by kernel_rfl) (by kernel_rfl) (fun _ _ _ h => h) (Or.inl ⟨by rfl, ?_⟩) (by assumption) ?_
          rotate_left 1
          · intro w hSw; obtain ⟨s0, s1, s2, q0, q1, q2, q3⟩ := hSw; first | (go_simp; done) | (go_simp; with_reducible rfl)
          try simp only [Act.put, List.setIfInBounds_toArray, List.set_cons_zero, List.set_cons_succ]
          refine takeL (i := 14) (v := ?_) rfl (by kernel_rfl) (by kernel_rfl) (by kernel_rfl) (fun _ _ _ h => h) (Or.inl ⟨by rfl, ?_⟩) (by assumption) ?_
          rotate_left 1
          · intro w hSw; obtain ⟨s0, s1, s2, q0, q1, q2, q3⟩ := hSw; first | (go_simp; done) | (go_simp; with_reducible rfl)
          try simp only [Act.put, List.setIfInBounds_toArray, List.set_cons_zero, List.set_cons_succ]
          refine takeL (i := 15) (v := ?_) rfl (by kernel_rfl) (by kernel_rfl) (by kernel_rfl) (fun _ _ _ h => h) (Or.inl ⟨by rfl, ?_⟩) (by assumption) ?_
          rotate_left 1
          · intro w hSw; obtain ⟨s0, s1, s2, q0, q1, q2, q3⟩ := hSw; first | (go_simp; done) | (go_simp; with_reducible rfl)
          try simp only [Act.put, List.setIfInBounds_toArray, List.set_cons_zero, List.set_cons_succ]
          refine takeL (i := 16) (v := .slice ad (En - bh) (Ec - bh)) rfl (by kernel_rfl) (by kernel_rfl) (by kernel_rfl) (fun _ _ _ h => h) (Or.inl ⟨by rfl, ?_⟩) (by assumption) ?_
          · intro w hSw; obtain ⟨s0, s1, s2, q0, q1, q2, q3⟩ := hSw
            rcases hEa : Ea with _ | q
            · have e4 := HAN.out hEa; subst hEa; subst e4; first | (go_simp; done) | (go_simp; with_reducible rfl)
            · have e4 := HAD.out q hEa; subst hEa; rw [← e4]; first | (go_simp; done) | (go_simp; with_reducible rfl)
          try simp only [Act.put, List.setIfInBounds_toArray, List.set_cons_zero, List.set_cons_succ]
          refine wpAnyH_ready (rs := [4, 11, 19]) (by kernel_rfl) (by simp) (consL rfl (fun K hK => ?_) (consL rfl (fun K hK => ?_) (consL rfl (fun K hK => ?_) AllReadyH.nil)))
          · go_simp
            obtain ⟨B4, hB4⟩ : ∃ b, b = wd.heap.size := ⟨_, rfl⟩
            obtain ⟨p1, hp1⟩ : ∃ z, z = wd.alloc (Obj.cells #[] 61) := ⟨_, rfl⟩
            rw [← hp1, ← hB4]
            have gn : wd.grownBy p1 none := by subst hp1; exact grown_alloc _ _ _
            have R4 := Lib.hid (show OR bz p1 61 4 ⟨some ⟨B4, 0, none⟩, 0, 0⟩ [] from by subst hp1; subst hB4; exact (or_lit40 wd).base_ (by have := GB.out.size; have := HBZ.out.2; omega))
            have L4 := Lib.hid (show B4 < p1.heap.size from (R4.out.blk B4 rfl).2)
            have GB := Lib.hid (grown_trans GB.out gn)
            have G2 := Lib.hid (grown_trans G2.out gn)
            clear gn hp1 hB4
            refine hK.out _ _ ?_ (fun hHeld => ?_)
            · exact ⟨(BX.out.grown G2.out).1.1, (BX.out.grown G2.out).1.2.1, (BX.out.grown G2.out).1.2.2, (F10.out.grown G2.out).1.1, (F10.out.grown G2.out).1.2.1, (F10.out.grown G2.out).1.2.2.1, (F10.out.grown G2.out).1.2.2.2⟩
            clear hK K
            try simp only [Act.put, List.setIfInBounds_toArray, List.set_cons_zero, List.set_cons_succ]
            refine wpAnyH_ready (rs := [9, 11, 19]) (by kernel_rfl) (by simp) (consL rfl (fun K hK => ?_) (consL rfl (fun K hK => ?_) (consL rfl (fun K hK => ?_) AllReadyH.nil)))
            · have HC5 := Lib.hid (cr4_take (c' := Ec) (a := a) (HCR.out.grown G2.out))
              have HZ5 := Lib.hid (show bz ≤ p1.heap.size by have := GB.out.size; have := HBZ.out.2; omega)
              refine step_appV rfl (.tmp 85) (.tmp 89) 27 rfl (S := ⟨some ⟨B4, 0, none⟩, 0, 0⟩) (V := ⟨Ea, a, Ec⟩) Try.underlying27 hI hz hsz hby (by rfl) (by omega) rfl rfl R4.out HZ5.out HL5.out HC5.out (f4_one _) (by dsimp only; omega) (by dsimp only; omega) ?_
              intro r p2 hrn hr gr hrb
              have cn : Chg (Sl.blk ⟨some ⟨B4, 0, none⟩, 0, 0⟩).toList p1 p2 := Chg.of gr (fun b hb => by simpa using hb)
              have h5b := fun b (hb : b ∈ (Sl.blk ⟨some ⟨B4, 0, none⟩, 0, 0⟩).toList) => (R4.out.blk b (by simpa using hb)).1
              have R9 := Lib.hid (show OR bz p2 61 4 r (f4 (ys.take a)) from hr)
              have HRN := Lib.hid (show r.n = a by rw [hrn]; dsimp only; omega)
              have GB := Lib.hid (cn.grown GB.out (fun b hb => by have := h5b b hb; have := HBZ.out.2; omega))
              have G2 := Lib.hid (cn.grown G2.out (fun b hb => by have := h5b b hb; have := HBZ.out.1; omega))
              clear hrn hr gr hrb cn h5b HZ5
              obtain ⟨R9a, R9n, R9c⟩ := r
              dsimp only [Sl.v]
              refine hK.out _ _ ?_ (fun hHeld => ?_)
              · exact ⟨(BX.out.grown G2.out).1.1, (BX.out.grown G2.out).1.2.1, (BX.out.grown G2.out).1.2.2, (F10.out.grown G2.out).1.1, (F10.out.grown G2.out).1.2.1, (F10.out.grown G2.out).1.2.2.1, (F10.out.grown G2.out).1.2.2.2⟩
              clear hK K
              try simp only [Act.put, List.setIfInBounds_toArray, List.set_cons_zero, List.set_cons_succ]
              refine wpAnyH_ready (rs := [11, 19]) (by kernel_rfl) (by simp) (consL rfl (fun K hK => ?_) (consL rfl (fun K hK => ?_) AllReadyH.nil))
              · go_simp
                obtain ⟨B11, hB11⟩ : ∃ b, b = p2.heap.size := ⟨_, rfl⟩
                obtain ⟨p3, hp3⟩ : ∃ z, z = p2.alloc (Obj.cells #[.int .i64 yst, .int .i64 yep, .int .i64 ynx, .slice Ya Yn Yc] 61) := ⟨_, rfl⟩
                rw [← hp3, ← hB11]
                have gn : p2.grownBy p3 none := by subst hp3; exact grown_alloc _ _ _
                have R9 := Lib.hid (R9.out.grown gn)
                have C11 := Lib.hid (show OR bz p3 61 4 ⟨some ⟨B11, 0, none⟩, 1, 1⟩ (ecs (⟨yst, yep, ynx, yhe⟩, ⟨Ya, Yn, Yc⟩)) from by subst hp3; subst hB11; exact (or_lit4 p2 (⟨yst, yep, ynx, yhe⟩, ⟨Ya, Yn, Yc⟩)).base_ (by have := GB.out.size; have := HBZ.out.2; omega))
                have GB := Lib.hid (grown_trans GB.out gn)
                have G2 := Lib.hid (grown_trans G2.out gn)
                clear gn hp3 hB11
                refine hK.out _ _ ?_ (fun hHeld => ?_)
                · exact ⟨(BX.out.grown G2.out).1.1, (BX.out.grown G2.out).1.2.1, (BX.out.grown G2.out).1.2.2, (F10.out.grown G2.out).1.1, (F10.out.grown G2.out).1.2.1, (F10.out.grown G2.out).1.2.2.1, (F10.out.grown G2.out).1.2.2.2⟩
                clear hK K
                try simp only [Act.put, List.setIfInBounds_toArray, List.set_cons_zero, List.set_cons_succ]
                refine wpAnyH_ready (rs := [12, 19]) (by kernel_rfl) (by simp) (consL rfl (fun K hK => ?_) (consL rfl (fun K hK => ?_) AllReadyH.nil))
                · have HZ5 := Lib.hid (show bz ≤ p3.heap.size by have := GB.out.size; have := HBZ.out.2; omega)
                  have hrn0 := HRN.out
                  dsimp only at hrn0
                  refine step_appV rfl (.tmp 90) (.tmp 92) 27 rfl (S := ⟨R9a, R9n, R9c⟩) (V := ⟨some ⟨B11, 0, none⟩, 1, 1⟩) Try.underlying27 hI hz hsz hby (by rfl) (by omega) rfl rfl R9.out HZ5.out C11.out.len C11.out.cr (ecs_one _) (by dsimp only; omega) (by dsimp only; omega) ?_
                  intro r p4 hrn hr gr hrb
                  have cn : Chg (Sl.blk ⟨R9a, R9n, R9c⟩).toList p3 p4 := Chg.of gr (fun b hb => by simpa using hb)
                  have h5b := fun b (hb : b ∈ (Sl.blk ⟨R9a, R9n, R9c⟩).toList) => (R9.out.blk b (by simpa using hb)).1
                  have R12 := Lib.hid (show OR bz p4 61 4 r (f4 (ys.take a) ++ ecs (⟨yst, yep, ynx, yhe⟩, ⟨Ya, Yn, Yc⟩)) from hr)
                  have HRN := Lib.hid (show r.n = a + 1 by rw [hrn]; dsimp only; omega)
                  have GB := Lib.hid (cn.grown GB.out (fun b hb => by have := h5b b hb; have := HBZ.out.2; omega))
                  have G2 := Lib.hid (cn.grown G2.out (fun b hb => by have := h5b b hb; have := HBZ.out.1; omega))
                  clear hrn hr gr hrb cn h5b HZ5 hrn0
                  obtain ⟨R12a, R12n, R12c⟩ := r
                  dsimp only [Sl.v]
                  refine hK.out _ _ ?_ (fun hHeld => ?_)
                  · exact ⟨(BX.out.grown G2.out).1.1, (BX.out.grown G2.out).1.2.1, (BX.out.grown G2.out).1.2.2, (F10.out.grown G2.out).1.1, (F10.out.grown G2.out).1.2.1, (F10.out.grown G2.out).1.2.2.1, (F10.out.grown G2.out).1.2.2.2⟩
                  clear hK K
                  try simp only [Act.put, List.setIfInBounds_toArray, List.set_cons_zero, List.set_cons_succ]
                  refine wpAnyH_ready (rs := [17, 19]) (by kernel_rfl) (by simp) (consL rfl (fun K hK => ?_) (consL rfl (fun K hK => ?_) AllReadyH.nil))
                  · have HCD := Lib.hid (HDR.out _ G2.out)
                    have HZ5 := Lib.hid (show bz ≤ p4.heap.size by have := GB.out.size; have := HBZ.out.2; omega)
                    have hrn0 := HRN.out
                    dsimp only at hrn0
                    refine step_appV rfl (.tmp 93) (.tmp 97) 27 rfl (S := ⟨R12a, R12n, R12c⟩) (V := ⟨ad, En - bh, Ec - bh⟩) Try.underlying27 hI hz hsz hby (by rfl) (by omega) rfl rfl R12.out HZ5.out HL13.out HCD.out (f4_one _) (by dsimp only; omega) (by dsimp only; omega) ?_
                    intro r p5 hrn hr gr hrb
                    have cn : Chg (Sl.blk ⟨R12a, R12n, R12c⟩).toList p4 p5 := Chg.of gr (fun b hb => by simpa using hb)
                    have h5b := fun b (hb : b ∈ (Sl.blk ⟨R12a, R12n, R12c⟩).toList) => (R12.out.blk b (by simpa using hb)).1
                    have R17 := Lib.hid (show OR bz p5 61 4 r (f4 (ys.take a) ++ ecs (⟨yst, yep, ynx, yhe⟩, ⟨Ya, Yn, Yc⟩) ++ f4 (ys.drop bh)) from hr)
                    have HRN := Lib.hid (show r.n = a + 1 + (En - bh) by rw [hrn]; dsimp only; omega)
                    have GB := Lib.hid (cn.grown GB.out (fun b hb => by have := h5b b hb; have := HBZ.out.2; omega))
                    have G2 := Lib.hid (cn.grown G2.out (fun b hb => by have := h5b b hb; have := HBZ.out.1; omega))
                    clear hrn hr gr hrb cn h5b HZ5 hrn0
                    obtain ⟨R17a, R17n, R17c⟩ := r
                    dsimp only [Sl.v]
                    refine hK.out _ _ ?_ (fun hHeld => ?_)
                    · exact ⟨(BX.out.grown G2.out).1.1, (BX.out.grown G2.out).1.2.1, (BX.out.grown G2.out).1.2.2, (F10.out.grown G2.out).1.1, (F10.out.grown G2.out).1.2.1, (F10.out.grown G2.out).1.2.2.1, (F10.out.grown G2.out).1.2.2.2⟩
                    clear hK K
                    try simp only [Act.put, List.setIfInBounds_toArray, List.set_cons_zero, List.set_cons_succ]
                    refine takeL (i := 18) (v := ?_) rfl (by kernel_rfl) (by kernel_rfl) (by kernel_rfl) (fun _ _ _ h => h) (Or.inl ⟨by rfl, ?_⟩) (by assumption) ?_
                    rotate_left 1
                    · intro w hSw; obtain ⟨s0, s1, s2, q0, q1, q2, q3⟩ := hSw; first | (go_simp; done) | (go_simp; with_reducible rfl)
                    try simp only [Act.put, List.setIfInBounds_toArray, List.set_cons_zero, List.set_cons_succ]
                    refine wpAnyH_ready (rs := [19]) (by kernel_rfl) (by simp) (consL rfl (fun K hK => ?_) AllReadyH.nil)
                    go_simp
                    obtain ⟨B12, hB12⟩ : ∃ b, b = p5.heap.size := ⟨_, rfl⟩
                    obtain ⟨p6, hp6⟩ : ∃ z, z = p5.alloc (Obj.cells #[.int .i64 0, .slice none 0 0, .slice none 0 0] 29) := ⟨_, rfl⟩
                    rw [← hp6, ← hB12]
                    have gn : p5.grownBy p6 none := by subst hp6; exact grown_alloc _ _ _
                    have BT := Lib.hid (show Tri p6 B12 (.int .i64 0) (.slice none 0 0) (.slice none 0 0) by subst hp6; subst hB12; exact tri_made _ _ _ _ _)
                    have LT := Lib.hid (show B12 < p6.heap.size from BT.out.lt)
                    have LB := Lib.hid (show bz ≤ B12 by have := GB.out.size; have := HBZ.out.2; omega)
                    have NR := Lib.hid (show ∀ b, Sl.blk ⟨R17a, R17n, R17c⟩ = some b → b ≠ B12 from fun b hb => by have := (R17.out.blk b hb).2; omega)
                    have R17 := Lib.hid (R17.out.grown gn)
                    have GB := Lib.hid (grown_trans GB.out gn)
                    have G2 := Lib.hid (grown_trans G2.out gn)
                    clear gn hp6 hB12
                    refine hK.out _ _ ?_ (fun hHeld => ?_)
                    · exact ⟨(BX.out.grown G2.out).1.1, (BX.out.grown G2.out).1.2.1, (BX.out.grown G2.out).1.2.2, (F10.out.grown G2.out).1.1, (F10.out.grown G2.out).1.2.1, (F10.out.grown G2.out).1.2.2.1, (F10.out.grown G2.out).1.2.2.2⟩
                    clear hK K
                    try simp only [Act.put, List.setIfInBounds_toArray, List.set_cons_zero, List.set_cons_succ]
                    have hLX : ∀ b ∈ B12 :: B8 :: L2, b ∈ B8 :: L2 ∨ wl.heap.size ≤ b := fun b hb => by
                      rcases List.mem_cons.1 hb with e | hb
                      · right; have h1 := LB.out; have h2 := HBZ.out.1; omega
                      · exact .inl hb
                    have EL17 := Lib.hid (ins_row4 (L := B12 :: B8 :: L2) HYS.out (fun y hy => (HYV.out y hy).step (M := []) (Chg.refl _ _) (fun _ h => by cases h) hLX) (TLY.out.step (M := []) (Chg.refl _ _) (fun _ h => by cases h) hLX) G2.out R17.out (fun b hb hm => by
                      rcases List.mem_cons.1 hm with e | hm
                      · exact NR.out b hb e
                      · have h1 := (R17.out.blk b hb).1; have h2 := HLB.out b hm; omega))
                    clear hLX
                    obtain ⟨⟨m0, m1, m2⟩, mf⟩ := BT.out
                    have f0 := mf 0
                    have f1 := mf 1
                    have f2 := mf 2
                    clear mf
                    refine wpAnyH_ready (rs := [20]) (by kernel_rfl) (by simp) (consL rfl (fun K hK => ?_) AllReadyH.nil)
                    go_simp
                    have gs : Chg [B12] p6 (((p6.setCell ⟨B12, 0, none⟩ (.int .i64 win)).setCell ⟨B12, 1, none⟩ (.slice Ta Tn Tc)).setCell ⟨B12, 2, none⟩ (.slice R17a R17n R17c)) := (((Chg.refl [B12] p6).set ⟨B12, 0, none⟩ (.int .i64 win) (by simp)).set ⟨B12, 1, none⟩ (.slice Ta Tn Tc) (by simp)).set ⟨B12, 2, none⟩ (.slice R17a R17n R17c) (by simp)
                    have G2 := Lib.hid (gs.grown G2.out (fun b hb => by rw [List.mem_singleton] at hb; have h1 := LB.out; have h2 := HBZ.out.1; omega))
                    have BT2 := Lib.hid (((BT.out.set0 (.int .i64 win)).set1 (.slice Ta Tn Tc)).set2 (.slice R17a R17n R17c))
                    have EL2 := Lib.hid (EL17.out.step (L' := B8 :: L2) gs (fun b hb => .inl (by rw [List.mem_singleton] at hb; rw [hb]; exact List.mem_cons_self)) (fun b hb => .inl (List.mem_cons_of_mem _ hb)))
                    clear m0 m1 m2 f0 f1 f2 gs
                    refine hK.out _ _ ?_ (fun hHeld => ?_)
                    · exact ⟨(BX.out.grown G2.out).1.1, (BX.out.grown G2.out).1.2.1, (BX.out.grown G2.out).1.2.2, (F10.out.grown G2.out).1.1, (F10.out.grown G2.out).1.2.1, (F10.out.grown G2.out).1.2.2.1, (F10.out.grown G2.out).1.2.2.2⟩
                    clear hK K
                    try simp only [Act.put, List.setIfInBounds_toArray, List.set_cons_zero, List.set_cons_succ]
                    refine wpAnyH_done (by kernel_rfl) ?_ _
                    go_wp2_with fail
                    go_meet
                    case rel => exact ⟨B12, ⟨R17a, R17n, R17c⟩, rfl, BT2, EL2, G2⟩
                  · go_simp
                    obtain ⟨B12, hB12⟩ : ∃ b, b = p4.heap.size := ⟨_, rfl⟩
                    obtain ⟨p5, hp5⟩ : ∃ z, z = p4.alloc (Obj.cells #[.int .i64 0, .slice none 0 0, .slice none 0 0] 29) := ⟨_, rfl⟩
                    rw [← hp5, ← hB12]
                    have gn : p4.grownBy p5 none := by subst hp5; exact grown_alloc _ _ _
                    have BT := Lib.hid (show Tri p5 B12 (.int .i64 0) (.slice none 0 0) (.slice none 0 0) by subst hp5; subst hB12; exact tri_made _ _ _ _ _)
                    have LT := Lib.hid (show B12 < p5.heap.size from BT.out.lt)
                    have LB := Lib.hid (show bz ≤ B12 by have := GB.out.size; have := HBZ.out.2; omega)
                    have NR := Lib.hid (show ∀ b, Sl.blk ⟨R12a, R12n, R12c⟩ = some b → b ≠ B12 from fun b hb => by have := (R12.out.blk b hb).2; omega)
                    have R12 := Lib.hid (R12.out.grown gn)
                    have GB := Lib.hid (grown_trans GB.out gn)
                    have G2 := Lib.hid (grown_trans G2.out gn)
                    clear gn hp5 hB12
                    refine hK.out _ _ ?_ (fun hHeld => ?_)
                    · exact ⟨(BX.out.grown G2.out).1.1, (BX.out.grown G2.out).1.2.1, (BX.out.grown G2.out).1.2.2, (F10.out.grown G2.out).1.1, (F10.out.grown G2.out).1.2.1, (F10.out.grown G2.out).1.2.2.1, (F10.out.grown G2.out).1.2.2.2⟩
                    clear hK K
                    try simp only [Act.put, List.setIfInBounds_toArray, List.set_cons_zero, List.set_cons_succ]
                    refine wpAnyH_ready (rs := [17]) (by kernel_rfl) (by simp) (consL rfl (fun K hK => ?_) AllReadyH.nil)
                    have HCD := Lib.hid (HDR.out _ G2.out)
                    have HZ5 := Lib.hid (show bz ≤ p5.heap.size by have := GB.out.size; have := HBZ.out.2; omega)
                    have hrn0 := HRN.out
                    dsimp only at hrn0
                    refine step_appV rfl (.tmp 93) (.tmp 97) 27 rfl (S := ⟨R12a, R12n, R12c⟩) (V := ⟨ad, En - bh, Ec - bh⟩) Try.underlying27 hI hz hsz hby (by rfl) (by omega) rfl rfl R12.out HZ5.out HL13.out HCD.out (f4_one _) (by dsimp only; omega) (by dsimp only; omega) ?_
                    intro r p6 hrn hr gr hrb
                    have cn : Chg (Sl.blk ⟨R12a, R12n, R12c⟩).toList p5 p6 := Chg.of gr (fun b hb => by simpa using hb)
                    have h5b := fun b (hb : b ∈ (Sl.blk ⟨R12a, R12n, R12c⟩).toList) => (R12.out.blk b (by simpa using hb)).1
                    have BT := Lib.hid (BT.out.step cn (fun hm => NR.out _ (by simpa using hm) rfl))
                    have R17 := Lib.hid (show OR bz p6 61 4 r (f4 (ys.take a) ++ ecs (⟨yst, yep, ynx, yhe⟩, ⟨Ya, Yn, Yc⟩) ++ f4 (ys.drop bh)) from hr)
                    have HRN := Lib.hid (show r.n = a + 1 + (En - bh) by rw [hrn]; dsimp only; omega)
                    have NR := Lib.hid (show ∀ b, r.blk = some b → b ≠ B12 from fun b hb => by
                      rcases hrb b hb with e | e
                      · exact NR.out b e
                      · have := LT.out; omega)
                    have LT := Lib.hid (show B12 < p6.heap.size from BT.out.lt)
                    have GB := Lib.hid (cn.grown GB.out (fun b hb => by have := h5b b hb; have := HBZ.out.2; omega))
                    have G2 := Lib.hid (cn.grown G2.out (fun b hb => by have := h5b b hb; have := HBZ.out.1; omega))
                    clear hrn hr gr hrb cn h5b HZ5 hrn0
                    obtain ⟨R17a, R17n, R17c⟩ := r
                    dsimp only [Sl.v]
                    refine hK.out _ _ ?_ (fun hHeld => ?_)
                    · exact ⟨(BX.out.grown G2.out).1.1, (BX.out.grown G2.out).1.2.1, (BX.out.grown G2.out).1.2.2, (F10.out.grown G2.out).1.1, (F10.out.grown G2.out).1.2.1, (F10.out.grown G2.out).1.2.2.1, (F10.out.grown G2.out).1.2.2.2⟩
                    clear hK K
                    try simp only [Act.put, List.setIfInBounds_toArray, List.set_cons_zero, List.set_cons_succ]
                    refine takeL (i := 18) (v := ?_) rfl (by kernel_rfl) (by kernel_rfl) (by kernel_rfl) (fun _ _ _ h => h) (Or.inl ⟨by rfl, ?_⟩) (by assumption) ?_
                    rotate_left 1
                    · intro w hSw; obtain ⟨s0, s1, s2, q0, q1, q2, q3⟩ := hSw; first | (go_simp; done) | (go_simp; with_reducible rfl)
                    try simp only [Act.put, List.setIfInBounds_toArray, List.set_cons_zero, List.set_cons_succ]
                    have hLX : ∀ b ∈ B12 :: B8 :: L2, b ∈ B8 :: L2 ∨ wl.heap.size ≤ b := fun b hb => by
                      rcases List.mem_cons.1 hb with e | hb
                      · right; have h1 := LB.out; have h2 := HBZ.out.1; omega
                      · exact .inl hb
                    have EL17 := Lib.hid (ins_row4 (L := B12 :: B8 :: L2) HYS.out (fun y hy => (HYV.out y hy).step (M := []) (Chg.refl _ _) (fun _ h => by cases h) hLX) (TLY.out.step (M := []) (Chg.refl _ _) (fun _ h => by cases h) hLX) G2.out R17.out (fun b hb hm => by
                      rcases List.mem_cons.1 hm with e | hm
                      · exact NR.out b hb e
                      · have h1 := (R17.out.blk b hb).1; have h2 := HLB.out b hm; omega))
                    clear hLX
                    obtain ⟨⟨m0, m1, m2⟩, mf⟩ := BT.out
                    have f0 := mf 0
                    have f1 := mf 1
                    have f2 := mf 2
                    clear mf
                    refine wpAnyH_ready (rs := [20]) (by kernel_rfl) (by simp) (consL rfl (fun K hK => ?_) AllReadyH.nil)
                    go_simp
                    have gs : Chg [B12] p6 (((p6.setCell ⟨B12, 0, none⟩ (.int .i64 win)).setCell ⟨B12, 1, none⟩ (.slice Ta Tn Tc)).setCell ⟨B12, 2, none⟩ (.slice R17a R17n R17c)) := (((Chg.refl [B12] p6).set ⟨B12, 0, none⟩ (.int .i64 win) (by simp)).set ⟨B12, 1, none⟩ (.slice Ta Tn Tc) (by simp)).set ⟨B12, 2, none⟩ (.slice R17a R17n R17c) (by simp)
                    have G2 := Lib.hid (gs.grown G2.out (fun b hb => by rw [List.mem_singleton] at hb; have h1 := LB.out; have h2 := HBZ.out.1; omega))
                    have BT2 := Lib.hid (((BT.out.set0 (.int .i64 win)).set1 (.slice Ta Tn Tc)).set2 (.slice R17a R17n R17c))
                    have EL2 := Lib.hid (EL17.out.step (L' := B8 :: L2) gs (fun b hb => .inl (by rw [List.mem_singleton] at hb; rw [hb]; exact List.mem_cons_self)) (fun b hb => .inl (List.mem_cons_of_mem _ hb)))
                    clear m0 m1 m2 f0 f1 f2 gs
                    refine hK.out _ _ ?_ (fun hHeld => ?_)
                    · exact ⟨(BX.out.grown G2.out).1.1, (BX.out.grown G2.out).1.2.1, (BX.out.grown G2.out).1.2.2, (F10.out.grown G2.out).1.1, (F10.out.grown G2.out).1.2.1, (F10.out.grown G2.out).1.2.2.1, (F10.out.grown G2.out).1.2.2.2⟩
                    clear hK K
                    try simp only [Act.put, List.setIfInBounds_toArray, List.set_cons_zero, List.set_cons_succ]
                    refine wpAnyH_done (by kernel_rfl) ?_ _
                    go_wp2_with fail
                    go_meet
                    case rel => exact ⟨B12, ⟨R17a, R17n, R17c⟩, rfl, BT2, EL2, G2⟩
                · go_simp
                  obtain ⟨B12, hB12⟩ : ∃ b, b = p3.heap.size := ⟨_, rfl⟩
                  obtain ⟨p4, hp4⟩ : ∃ z, z = p3.alloc (Obj.cells #[.int .i64 0, .slice none 0 0, .slice none 0 0] 29) := ⟨_, rfl⟩
                  rw [← hp4, ← hB12]
                  have gn : p3.grownBy p4 none := by subst hp4; exact grown_alloc _ _ _
                  have BT := Lib.hid (show Tri p4 B12 (.int .i64 0) (.slice none 0 0) (.slice none 0 0) by subst hp4; subst hB12; exact tri_made _ _ _ _ _)
                  have LT := Lib.hid (show B12 < p4.heap.size from BT.out.lt)
                  have LB := Lib.hid (show bz ≤ B12 by have := GB.out.size; have := HBZ.out.2; omega)
                  have NR := Lib.hid (show ∀ b, Sl.blk ⟨R9a, R9n, R9c⟩ = some b → b ≠ B12 from fun b hb => by have := (R9.out.blk b hb).2; omega)
                  have R9 := Lib.hid (R9.out.grown gn)
                  have C11 := Lib.hid (C11.out.grown gn)
                  have GB := Lib.hid (grown_trans GB.out gn)
                  have G2 := Lib.hid (grown_trans G2.out gn)
                  clear gn hp4 hB12
                  refine hK.out _ _ ?_ (fun hHeld => ?_)
                  · exact ⟨(BX.out.grown G2.out).1.1, (BX.out.grown G2.out).1.2.1, (BX.out.grown G2.out).1.2.2, (F10.out.grown G2.out).1.1, (F10.out.grown G2.out).1.2.1, (F10.out.grown G2.out).1.2.2.1, (F10.out.grown G2.out).1.2.2.2⟩
                  clear hK K
                  try simp only [Act.put, List.setIfInBounds_toArray, List.set_cons_zero, List.set_cons_succ]
                  refine wpAnyH_ready (rs := [12]) (by kernel_rfl) (by simp) (consL rfl (fun K hK => ?_) AllReadyH.nil)
                  have HZ5 := Lib.hid (show bz ≤ p4.heap.size by have := GB.out.size; have := HBZ.out.2; omega)
                  have hrn0 := HRN.out
                  dsimp only at hrn0
                  refine step_appV rfl (.tmp 90) (.tmp 92) 27 rfl (S := ⟨R9a, R9n, R9c⟩) (V := ⟨some ⟨B11, 0, none⟩, 1, 1⟩) Try.underlying27 hI hz hsz hby (by rfl) (by omega) rfl rfl R9.out HZ5.out C11.out.len C11.out.cr (ecs_one _) (by dsimp only; omega) (by dsimp only; omega) ?_
                  intro r p5 hrn hr gr hrb
                  have cn : Chg (Sl.blk ⟨R9a, R9n, R9c⟩).toList p4 p5 := Chg.of gr (fun b hb => by simpa using hb)
                  have h5b := fun b (hb : b ∈ (Sl.blk ⟨R9a, R9n, R9c⟩).toList) => (R9.out.blk b (by simpa using hb)).1
                  have BT := Lib.hid (BT.out.step cn (fun hm => NR.out _ (by simpa using hm) rfl))
                  have R12 := Lib.hid (show OR bz p5 61 4 r (f4 (ys.take a) ++ ecs (⟨yst, yep, ynx, yhe⟩, ⟨Ya, Yn, Yc⟩)) from hr)
                  have HRN := Lib.hid (show r.n = a + 1 by rw [hrn]; dsimp only; omega)
                  have NR := Lib.hid (show ∀ b, r.blk = some b → b ≠ B12 from fun b hb => by
                    rcases hrb b hb with e | e
                    · exact NR.out b e
                    · have := LT.out; omega)
                  have LT := Lib.hid (show B12 < p5.heap.size from BT.out.lt)
                  have GB := Lib.hid (cn.grown GB.out (fun b hb => by have := h5b b hb; have := HBZ.out.2; omega))
                  have G2 := Lib.hid (cn.grown G2.out (fun b hb => by have := h5b b hb; have := HBZ.out.1; omega))
                  clear hrn hr gr hrb cn h5b HZ5 hrn0
                  obtain ⟨R12a, R12n, R12c⟩ := r
                  dsimp only [Sl.v]
                  refine hK.out _ _ ?_ (fun hHeld => ?_)
                  · exact ⟨(BX.out.grown G2.out).1.1, (BX.out.grown G2.out).1.2.1, (BX.out.grown G2.out).1.2.2, (F10.out.grown G2.out).1.1, (F10.out.grown G2.out).1.2.1, (F10.out.grown G2.out).1.2.2.1, (F10.out.grown G2.out).1.2.2.2⟩
                  clear hK K
                  try simp only [Act.put, List.setIfInBounds_toArray, List.set_cons_zero, List.set_cons_succ]
                  refine wpAnyH_ready (rs := [17]) (by kernel_rfl) (by simp) (consL rfl (fun K hK => ?_) AllReadyH.nil)
                  have HCD := Lib.hid (HDR.out _ G2.out)
                  have HZ5 := Lib.hid (show bz ≤ p5.heap.size by have := GB.out.size; have := HBZ.out.2; omega)
                  have hrn0 := HRN.out
                  dsimp only at hrn0
                  refine step_appV rfl (.tmp 93) (.tmp 97) 27 rfl (S := ⟨R12a, R12n, R12c⟩) (V := ⟨ad, En - bh, Ec - bh⟩) Try.underlying27 hI hz hsz hby (by rfl) (by omega) rfl rfl R12.out HZ5.out HL13.out HCD.out (f4_one _) (by dsimp only; omega) (by dsimp only; omega) ?_
                  intro r p6 hrn hr gr hrb
                  have cn : Chg (Sl.blk ⟨R12a, R12n, R12c⟩).toList p5 p6 := Chg.of gr (fun b hb => by simpa using hb)
                  have h5b := fun b (hb : b ∈ (Sl.blk ⟨R12a, R12n, R12c⟩).toList) => (R12.out.blk b (by simpa using hb)).1
                  have BT := Lib.hid (BT.out.step cn (fun hm => NR.out _ (by simpa using hm) rfl))
                  have R17 := Lib.hid (show OR bz p6 61 4 r (f4 (ys.take a) ++ ecs (⟨yst, yep, ynx, yhe⟩, ⟨Ya, Yn, Yc⟩) ++ f4 (ys.drop bh)) from hr)
                  have HRN := Lib.hid (show r.n = a + 1 + (En - bh) by rw [hrn]; dsimp only; omega)
                  have NR := Lib.hid (show ∀ b, r.blk = some b → b ≠ B12 from fun b hb => by
                    rcases hrb b hb with e | e
                    · exact NR.out b e
                    · have := LT.out; omega)
                  have LT := Lib.hid (show B12 < p6.heap.size from BT.out.lt)
                  have GB := Lib.hid (cn.grown GB.out (fun b hb => by have := h5b b hb; have := HBZ.out.2; omega))
                  have G2 := Lib.hid (cn.grown G2.out (fun b hb => by have := h5b b hb; have := HBZ.out.1; omega))
                  clear hrn hr gr hrb cn h5b HZ5 hrn0
                  obtain ⟨R17a, R17n, R17c⟩ := r
                  dsimp only [Sl.v]
                  refine hK.out _ _ ?_ (fun hHeld => ?_)
                  · exact ⟨(BX.out.grown G2.out).1.1, (BX.out.grown G2.out).1.2.1, (BX.out.grown G2.out).1.2.2, (F10.out.grown G2.out).1.1, (F10.out.grown G2.out).1.2.1, (F10.out.grown G2.out).1.2.2.1, (F10.out.grown G2.out).1.2.2.2⟩
                  clear hK K
                  try simp only [Act.put, List.setIfInBounds_toArray, List.set_cons_zero, List.set_cons_succ]
                  refine takeL (i := 18) (v := ?_) rfl (by kernel_rfl) (by kernel_rfl) (by kernel_rfl) (fun _ _ _ h => h) (Or.inl ⟨by rfl, ?_⟩) (by assumption) ?_
                  rotate_left 1
                  · intro w hSw; obtain ⟨s0, s1, s2, q0, q1, q2, q3⟩ := hSw; first | (go_simp; done) | (go_simp; with_reducible rfl)
                  try simp only [Act.put, List.setIfInBounds_toArray, List.set_cons_zero, List.set_cons_succ]
                  have hLX : ∀ b ∈ B12 :: B8 :: L2, b ∈ B8 :: L2 ∨ wl.heap.size ≤ b := fun b hb => by
                    rcases List.mem_cons.1 hb with e | hb
                    · right; have h1 := LB.out; have h2 := HBZ.out.1; omega
                    · exact .inl hb
                  have EL17 := Lib.hid (ins_row4 (L := B12 :: B8 :: L2) HYS.out (fun y hy => (HYV.out y hy).step (M := []) (Chg.refl _ _) (fun _ h => by cases h) hLX) (TLY.out.step (M := []) (Chg.refl _ _) (fun _ h => by cases h) hLX) G2.out R17.out (fun b hb hm => by
                    rcases List.mem_cons.1 hm with e | hm
                    · exact NR.out b hb e
                    · have h1 := (R17.out.blk b hb).1; have h2 := HLB.out b hm; omega))
                  clear hLX
                  obtain ⟨⟨m0, m1, m2⟩, mf⟩ := BT.out
                  have f0 := mf 0
                  have f1 := mf 1
                  have f2 := mf 2
                  clear mf
                  refine wpAnyH_ready (rs := [20]) (by kernel_rfl) (by simp) (consL rfl (fun K hK => ?_) AllReadyH.nil)
                  go_simp
                  have gs : Chg [B12] p6 (((p6.setCell ⟨B12, 0, none⟩ (.int .i64 win)).setCell ⟨B12, 1, none⟩ (.slice Ta Tn Tc)).setCell ⟨B12, 2, none⟩ (.slice R17a R17n R17c)) := (((Chg.refl [B12] p6).set ⟨B12, 0, none⟩ (.int .i64 win) (by simp)).set ⟨B12, 1, none⟩ (.slice Ta Tn Tc) (by simp)).set ⟨B12, 2, none⟩ (.slice R17a R17n R17c) (by simp)
                  have G2 := Lib.hid (gs.grown G2.out (fun b hb => by rw [List.mem_singleton] at hb; have h1 := LB.out; have h2 := HBZ.out.1; omega))
                  have BT2 := Lib.hid (((BT.out.set0 (.int .i64 win)).set1 (.slice Ta Tn Tc)).set2 (.slice R17a R17n R17c))
                  have EL2 := Lib.hid (EL17.out.step (L' := B8 :: L2) gs (fun b hb => .inl (by rw [List.mem_singleton] at hb; rw [hb]; exact List.mem_cons_self)) (fun b hb => .inl (List.mem_cons_of_mem _ hb)))
                  clear m0 m1 m2 f0 f1 f2 gs
                  refine hK.out _ _ ?_ (fun hHeld => ?_)
                  · exact ⟨(BX.out.grown G2.out).1.1, (BX.out.grown G2.out).1.2.1, (BX.out.grown G2.out).1.2.2, (F10.out.grown G2.out).1.1, (F10.out.grown G2.out).1.2.1, (F10.out.grown G2.out).1.2.2.1, (F10.out.grown G2.out).1.2.2.2⟩
                  clear hK K
                  try simp only [Act.put, List.setIfInBounds_toArray, List.set_cons_zero, List.set_cons_succ]
                  refine wpAnyH_done (by kernel_rfl) ?_ _
                  go_wp2_with fail
                  go_meet
                  case rel => exact ⟨B12, ⟨R17a, R17n, R17c⟩, rfl, BT2, EL2, G2⟩
              · go_simp
                obtain ⟨B12, hB12⟩ : ∃ b, b = p2.heap.size := ⟨_, rfl⟩
                obtain ⟨p3, hp3⟩ : ∃ z, z = p2.alloc (Obj.cells #[.int .i64 0, .slice none 0 0, .slice none 0 0] 29) := ⟨_, rfl⟩
                rw [← hp3, ← hB12]
                have gn : p2.grownBy p3 none := by subst hp3; exact grown_alloc _ _ _
                have BT := Lib.hid (show Tri p3 B12 (.int .i64 0) (.slice none 0 0) (.slice none 0 0) by subst hp3; subst hB12; exact tri_made _ _ _ _ _)
                have LT := Lib.hid (show B12 < p3.heap.size from BT.out.lt)
                have LB := Lib.hid (show bz ≤ B12 by have := GB.out.size; have := HBZ.out.2; omega)
                have NR := Lib.hid (show ∀ b, Sl.blk ⟨R9a, R9n, R9c⟩ = some b → b ≠ B12 from fun b hb => by have := (R9.out.blk b hb).2; omega)
                have R9 := Lib.hid (R9.out.grown gn)
                have GB := Lib.hid (grown_trans GB.out gn)
                have G2 := Lib.hid (grown_trans G2.out gn)
                clear gn hp3 hB12
                refine hK.out _ _ ?_ (fun hHeld => ?_)
                · exact ⟨(BX.out.grown G2.out).1.1, (BX.out.grown G2.out).1.2.1, (BX.out.grown G2.out).1.2.2, (F10.out.grown G2.out).1.1, (F10.out.grown G2.out).1.2.1, (F10.out.grown G2.out).1.2.2.1, (F10.out.grown G2.out).1.2.2.2⟩
                clear hK K
                try simp only [Act.put, List.setIfInBounds_toArray, List.set_cons_zero, List.set_cons_succ]
                refine wpAnyH_ready (rs := [11]) (by kernel_rfl) (by simp) (consL rfl (fun K hK => ?_) AllReadyH.nil)
                go_simp
                obtain ⟨B11, hB11⟩ : ∃ b, b = p3.heap.size := ⟨_, rfl⟩
                obtain ⟨p4, hp4⟩ : ∃ z, z = p3.alloc (Obj.cells #[.int .i64 yst, .int .i64 yep, .int .i64 ynx, .slice Ya Yn Yc] 61) := ⟨_, rfl⟩
                rw [← hp4, ← hB11]
                have gn : p3.grownBy p4 none := by subst hp4; exact grown_alloc _ _ _
                have R9 := Lib.hid (R9.out.grown gn)
                have BT := Lib.hid (BT.out.grown gn)
                have C11 := Lib.hid (show OR bz p4 61 4 ⟨some ⟨B11, 0, none⟩, 1, 1⟩ (ecs (⟨yst, yep, ynx, yhe⟩, ⟨Ya, Yn, Yc⟩)) from by subst hp4; subst hB11; exact (or_lit4 p3 (⟨yst, yep, ynx, yhe⟩, ⟨Ya, Yn, Yc⟩)).base_ (by have := GB.out.size; have := HBZ.out.2; omega))
                have LT := Lib.hid (show B12 < p4.heap.size from BT.out.lt)
                have GB := Lib.hid (grown_trans GB.out gn)
                have G2 := Lib.hid (grown_trans G2.out gn)
                clear gn hp4 hB11
                refine hK.out _ _ ?_ (fun hHeld => ?_)
                · exact ⟨(BX.out.grown G2.out).1.1, (BX.out.grown G2.out).1.2.1, (BX.out.grown G2.out).1.2.2, (F10.out.grown G2.out).1.1, (F10.out.grown G2.out).1.2.1, (F10.out.grown G2.out).1.2.2.1, (F10.out.grown G2.out).1.2.2.2⟩
                clear hK K
                try simp only [Act.put, List.setIfInBounds_toArray, List.set_cons_zero, List.set_cons_succ]
                refine wpAnyH_ready (rs := [12]) (by kernel_rfl) (by simp) (consL rfl (fun K hK => ?_) AllReadyH.nil)
                have HZ5 := Lib.hid (show bz ≤ p4.heap.size by have := GB.out.size; have := HBZ.out.2; omega)
                have hrn0 := HRN.out
                dsimp only at hrn0
                refine step_appV rfl (.tmp 90) (.tmp 92) 27 rfl (S := ⟨R9a, R9n, R9c⟩) (V := ⟨some ⟨B11, 0, none⟩, 1, 1⟩) Try.underlying27 hI hz hsz hby (by rfl) (by omega) rfl rfl R9.out HZ5.out C11.out.len C11.out.cr (ecs_one _) (by dsimp only; omega) (by dsimp only; omega) ?_
                intro r p5 hrn hr gr hrb
                have cn : Chg (Sl.blk ⟨R9a, R9n, R9c⟩).toList p4 p5 := Chg.of gr (fun b hb => by simpa using hb)
                have h5b := fun b (hb : b ∈ (Sl.blk ⟨R9a, R9n, R9c⟩).toList) => (R9.out.blk b (by simpa using hb)).1
                have BT := Lib.hid (BT.out.step cn (fun hm => NR.out _ (by simpa using hm) rfl))
                have R12 := Lib.hid (show OR bz p5 61 4 r (f4 (ys.take a) ++ ecs (⟨yst, yep, ynx, yhe⟩, ⟨Ya, Yn, Yc⟩)) from hr)
                have HRN := Lib.hid (show r.n = a + 1 by rw [hrn]; dsimp only; omega)
                have NR := Lib.hid (show ∀ b, r.blk = some b → b ≠ B12 from fun b hb => by
                  rcases hrb b hb with e | e
                  · exact NR.out b e
                  · have := LT.out; omega)
                have LT := Lib.hid (show B12 < p5.heap.size from BT.out.lt)
                have GB := Lib.hid (cn.grown GB.out (fun b hb => by have := h5b b hb; have := HBZ.out.2; omega))
                have G2 := Lib.hid (cn.grown G2.out (fun b hb => by have := h5b b hb; have := HBZ.out.1; omega))
                clear hrn hr gr hrb cn h5b HZ5 hrn0
                obtain ⟨R12a, R12n, R12c⟩ := r
                dsimp only [Sl.v]
                refine hK.out _ _ ?_ (fun hHeld => ?_)
                · exact ⟨(BX.out.grown G2.out).1.1, (BX.out.grown G2.out).1.2.1, (BX.out.grown G2.out).1.2.2, (F10.out.grown G2.out).1.1, (F10.out.grown G2.out).1.2.1, (F10.out.grown G2.out).1.2.2.1, (F10.out.grown G2.out).1.2.2.2⟩
                clear hK K
                try simp only [Act.put, List.setIfInBounds_toArray, List.set_cons_zero, List.set_cons_succ]
                refine wpAnyH_ready (rs := [17]) (by kernel_rfl) (by simp) (consL rfl (fun K hK => ?_) AllReadyH.nil)
                have HCD := Lib.hid (HDR.out _ G2.out)
                have HZ5 := Lib.hid (show bz ≤ p5.heap.size by have := GB.out.size; have := HBZ.out.2; omega)
                have hrn0 := HRN.out
                dsimp only at hrn0
                refine step_appV rfl (.tmp 93) (.tmp 97) 27 rfl (S := ⟨R12a, R12n, R12c⟩) (V := ⟨ad, En - bh, Ec - bh⟩) Try.underlying27 hI hz hsz hby (by rfl) (by omega) rfl rfl R12.out HZ5.out HL13.out HCD.out (f4_one _) (by dsimp only; omega) (by dsimp only; omega) ?_
                intro r p6 hrn hr gr hrb
                have cn : Chg (Sl.blk ⟨R12a, R12n, R12c⟩).toList p5 p6 := Chg.of gr (fun b hb => by simpa using hb)
                have h5b := fun b (hb : b ∈ (Sl.blk ⟨R12a, R12n, R12c⟩).toList) => (R12.out.blk b (by simpa using hb)).1
                have BT := Lib.hid (BT.out.step cn (fun hm => NR.out _ (by simpa using hm) rfl))
                have R17 := Lib.hid (show OR bz p6 61 4 r (f4 (ys.take a) ++ ecs (⟨yst, yep, ynx, yhe⟩, ⟨Ya, Yn, Yc⟩) ++ f4 (ys.drop bh)) from hr)
                have HRN := Lib.hid (show r.n = a + 1 + (En - bh) by rw [hrn]; dsimp only; omega)
                have NR := Lib.hid (show ∀ b, r.blk = some b → b ≠ B12 from fun b hb => by
                  rcases hrb b hb with e | e
                  · exact NR.out b e
                  · have := LT.out; omega)
                have LT := Lib.hid (show B12 < p6.heap.size from BT.out.lt)
                have GB := Lib.hid (cn.grown GB.out (fun b hb => by have := h5b b hb; have := HBZ.out.2; omega))
                have G2 := Lib.hid (cn.grown G2.out (fun b hb => by have := h5b b hb; have := HBZ.out.1; omega))
                clear hrn hr gr hrb cn h5b HZ5 hrn0
                obtain ⟨R17a, R17n, R17c⟩ := r
                dsimp only [Sl.v]
                refine hK.out _ _ ?_ (fun hHeld => ?_)
                · exact ⟨(BX.out.grown G2.out).1.1, (BX.out.grown G2.out).1.2.1, (BX.out.grown G2.out).1.2.2, (F10.out.grown G2.out).1.1, (F10.out.grown G2.out).1.2.1, (F10.out.grown G2.out).1.2.2.1, (F10.out.grown G2.out).1.2.2.2⟩
                clear hK K
                try simp only [Act.put, List.setIfInBounds_toArray, List.set_cons_zero, List.set_cons_succ]
                refine takeL (i := 18) (v := ?_) rfl (by kernel_rfl) (by kernel_rfl) (by kernel_rfl) (fun _ _ _ h => h) (Or.inl ⟨by rfl, ?_⟩) (by assumption) ?_
                rotate_left 1
                · intro w hSw; obtain ⟨s0, s1, s2, q0, q1, q2, q3⟩ := hSw; first | (go_simp; done) | (go_simp; with_reducible rfl)
                try simp only [Act.put, List.setIfInBounds_toArray, List.set_cons_zero, List.set_cons_succ]
                have hLX : ∀ b ∈ B12 :: B8 :: L2, b ∈ B8 :: L2 ∨ wl.heap.size ≤ b := fun b hb => by
                  rcases List.mem_cons.1 hb with e | hb
                  · right; have h1 := LB.out; have h2 := HBZ.out.1; omega
                  · exact .inl hb
                have EL17 := Lib.hid (ins_row4 (L := B12 :: B8 :: L2) HYS.out (fun y hy => (HYV.out y hy).step (M := []) (Chg.refl _ _) (fun _ h => by cases h) hLX) (TLY.out.step (M := []) (Chg.refl _ _) (fun _ h => by cases h) hLX) G2.out R17.out (fun b hb hm => by
                  rcases List.mem_cons.1 hm with e | hm
                  · exact NR.out b hb e
                  · have h1 := (R17.out.blk b hb).1; have h2 := HLB.out b hm; omega))
                clear hLX
                obtain ⟨⟨m0, m1, m2⟩, mf⟩ := BT.out
                have f0 := mf 0
                have f1 := mf 1
                have f2 := mf 2
                clear mf
                refine wpAnyH_ready (rs := [20]) (by kernel_rfl) (by simp) (consL rfl (fun K hK => ?_) AllReadyH.nil)
                go_simp
                have gs : Chg [B12] p6 (((p6.setCell ⟨B12, 0, none⟩ (.int .i64 win)).setCell ⟨B12, 1, none⟩ (.slice Ta Tn Tc)).setCell ⟨B12, 2, none⟩ (.slice R17a R17n R17c)) := (((Chg.refl [B12] p6).set ⟨B12, 0, none⟩ (.int .i64 win) (by simp)).set ⟨B12, 1, none⟩ (.slice Ta Tn Tc) (by simp)).set ⟨B12, 2, none⟩ (.slice R17a R17n R17c) (by simp)
                have G2 := Lib.hid (gs.grown G2.out (fun b hb => by rw [List.mem_singleton] at hb; have h1 := LB.out; have h2 := HBZ.out.1; omega))
                have BT2 := Lib.hid (((BT.out.set0 (.int .i64 win)).set1 (.slice Ta Tn Tc)).set2 (.slice R17a R17n R17c))
                have EL2 := Lib.hid (EL17.out.step (L' := B8 :: L2) gs (fun b hb => .inl (by rw [List.mem_singleton] at hb; rw [hb]; exact List.mem_cons_self)) (fun b hb => .inl (List.mem_cons_of_mem _ hb)))
                clear m0 m1 m2 f0 f1 f2 gs
                refine hK.out _ _ ?_ (fun hHeld => ?_)
                · exact ⟨(BX.out.grown G2.out).1.1, (BX.out.grown G2.out).1.2.1, (BX.out.grown G2.out).1.2.2, (F10.out.grown G2.out).1.1, (F10.out.grown G2.out).1.2.1, (F10.out.grown G2.out).1.2.2.1, (F10.out.grown G2.out).1.2.2.2⟩
                clear hK K
                try simp only [Act.put, List.setIfInBounds_toArray, List.set_cons_zero, List.set_cons_succ]
                refine wpAnyH_done (by kernel_rfl) ?_ _
                go_wp2_with fail
                go_meet
                case rel => exact ⟨B12, ⟨R17a, R17n, R17c⟩, rfl, BT2, EL2, G2⟩
            · go_simp
              obtain ⟨B11, hB11⟩ : ∃ b, b = p1.heap.size := ⟨_, rfl⟩
              obtain ⟨p2, hp2⟩ : ∃ z, z = p1.alloc (Obj.cells #[.int .i64 yst, .int .i64 yep, .int .i64 ynx, .slice Ya Yn Yc] 61) := ⟨_, rfl⟩
              rw [← hp2, ← hB11]
              have gn : p1.grownBy p2 none := by subst hp2; exact grown_alloc _ _ _
              have R4 := Lib.hid (R4.out.grown gn)
              have C11 := Lib.hid (show OR bz p2 61 4 ⟨some ⟨B11, 0, none⟩, 1, 1⟩ (ecs (⟨yst, yep, ynx, yhe⟩, ⟨Ya, Yn, Yc⟩)) from by subst hp2; subst hB11; exact (or_lit4 p1 (⟨yst, yep, ynx, yhe⟩, ⟨Ya, Yn, Yc⟩)).base_ (by have := GB.out.size; have := HBZ.out.2; omega))
              have N4 := Lib.hid (show B4 ≠ B11 by have := L4.out; omega)
              have GB := Lib.hid (grown_trans GB.out gn)
              have G2 := Lib.hid (grown_trans G2.out gn)
              clear gn hp2 hB11
              refine hK.out _ _ ?_ (fun hHeld => ?_)
              · exact ⟨(BX.out.grown G2.out).1.1, (BX.out.grown G2.out).1.2.1, (BX.out.grown G2.out).1.2.2, (F10.out.grown G2.out).1.1, (F10.out.grown G2.out).1.2.1, (F10.out.grown G2.out).1.2.2.1, (F10.out.grown G2.out).1.2.2.2⟩
              clear hK K
              try simp only [Act.put, List.setIfInBounds_toArray, List.set_cons_zero, List.set_cons_succ]
              refine wpAnyH_ready (rs := [9, 19]) (by kernel_rfl) (by simp) (consL rfl (fun K hK => ?_) (consL rfl (fun K hK => ?_) AllReadyH.nil))
              · have HC5 := Lib.hid (cr4_take (c' := Ec) (a := a) (HCR.out.grown G2.out))
                have HZ5 := Lib.hid (show bz ≤ p2.heap.size by have := GB.out.size; have := HBZ.out.2; omega)
                refine step_appV rfl (.tmp 85) (.tmp 89) 27 rfl (S := ⟨some ⟨B4, 0, none⟩, 0, 0⟩) (V := ⟨Ea, a, Ec⟩) Try.underlying27 hI hz hsz hby (by rfl) (by omega) rfl rfl R4.out HZ5.out HL5.out HC5.out (f4_one _) (by dsimp only; omega) (by dsimp only; omega) ?_
                intro r p3 hrn hr gr hrb
                have cn : Chg (Sl.blk ⟨some ⟨B4, 0, none⟩, 0, 0⟩).toList p2 p3 := Chg.of gr (fun b hb => by simpa using hb)
                have h5b := fun b (hb : b ∈ (Sl.blk ⟨some ⟨B4, 0, none⟩, 0, 0⟩).toList) => (R4.out.blk b (by simpa using hb)).1
                have C11 := Lib.hid (C11.out.chg cn (fun b hb hm => by
                  have e1 : b = B4 := by simpa [Sl.blk] using hm
                  have e2 : B11 = b := by simpa [Sl.blk] using hb
                  exact N4.out (by omega)))
                have R9 := Lib.hid (show OR bz p3 61 4 r (f4 (ys.take a)) from hr)
                have HRN := Lib.hid (show r.n = a by rw [hrn]; dsimp only; omega)
                have GB := Lib.hid (cn.grown GB.out (fun b hb => by have := h5b b hb; have := HBZ.out.2; omega))
                have G2 := Lib.hid (cn.grown G2.out (fun b hb => by have := h5b b hb; have := HBZ.out.1; omega))
                clear hrn hr gr hrb cn h5b HZ5
                obtain ⟨R9a, R9n, R9c⟩ := r
                dsimp only [Sl.v]
                refine hK.out _ _ ?_ (fun hHeld => ?_)
                · exact ⟨(BX.out.grown G2.out).1.1, (BX.out.grown G2.out).1.2.1, (BX.out.grown G2.out).1.2.2, (F10.out.grown G2.out).1.1, (F10.out.grown G2.out).1.2.1, (F10.out.grown G2.out).1.2.2.1, (F10.out.grown G2.out).1.2.2.2⟩
                clear hK K
                try simp only [Act.put, List.setIfInBounds_toArray, List.set_cons_zero, List.set_cons_succ]
                refine wpAnyH_ready (rs := [12, 19]) (by kernel_rfl) (by simp) (consL rfl (fun K hK => ?_) (consL rfl (fun K hK => ?_) AllReadyH.nil))
                · have HZ5 := Lib.hid (show bz ≤ p3.heap.size by have := GB.out.size; have := HBZ.out.2; omega)
                  have hrn0 := HRN.out
                  dsimp only at hrn0
                  refine step_appV rfl (.tmp 90) (.tmp 92) 27 rfl (S := ⟨R9a, R9n, R9c⟩) (V := ⟨some ⟨B11, 0, none⟩, 1, 1⟩) Try.underlying27 hI hz hsz hby (by rfl) (by omega) rfl rfl R9.out HZ5.out C11.out.len C11.out.cr (ecs_one _) (by dsimp only; omega) (by dsimp only; omega) ?_
                  intro r p4 hrn hr gr hrb
                  have cn : Chg (Sl.blk ⟨R9a, R9n, R9c⟩).toList p3 p4 := Chg.of gr (fun b hb => by simpa using hb)
                  have h5b := fun b (hb : b ∈ (Sl.blk ⟨R9a, R9n, R9c⟩).toList) => (R9.out.blk b (by simpa using hb)).1
                  have R12 := Lib.hid (show OR bz p4 61 4 r (f4 (ys.take a) ++ ecs (⟨yst, yep, ynx, yhe⟩, ⟨Ya, Yn, Yc⟩)) from hr)
                  have HRN := Lib.hid (show r.n = a + 1 by rw [hrn]; dsimp only; omega)
                  have GB := Lib.hid (cn.grown GB.out (fun b hb => by have := h5b b hb; have := HBZ.out.2; omega))
                  have G2 := Lib.hid (cn.grown G2.out (fun b hb => by have := h5b b hb; have := HBZ.out.1; omega))
                  clear hrn hr gr hrb cn h5b HZ5 hrn0
                  obtain ⟨R12a, R12n, R12c⟩ := r
                  dsimp only [Sl.v]
                  refine hK.out _ _ ?_ (fun hHeld => ?_)
                  · exact ⟨(BX.out.grown G2.out).1.1, (BX.out.grown G2.out).1.2.1, (BX.out.grown G2.out).1.2.2, (F10.out.grown G2.out).1.1, (F10.out.grown G2.out).1.2.1, (F10.out.grown G2.out).1.2.2.1, (F10.out.grown G2.out).1.2.2.2⟩
                  clear hK K
                  try simp only [Act.put, List.setIfInBounds_toArray, List.set_cons_zero, List.set_cons_succ]
                  refine wpAnyH_ready (rs := [17, 19]) (by kernel_rfl) (by simp) (consL rfl (fun K hK => ?_) (consL rfl (fun K hK => ?_) AllReadyH.nil))
                  · have HCD := Lib.hid (HDR.out _ G2.out)
                    have HZ5 := Lib.hid (show bz ≤ p4.heap.size by have := GB.out.size; have := HBZ.out.2; omega)
                    have hrn0 := HRN.out
                    dsimp only at hrn0
                    refine step_appV rfl (.tmp 93) (.tmp 97) 27 rfl (S := ⟨R12a, R12n, R12c⟩) (V := ⟨ad, En - bh, Ec - bh⟩) Try.underlying27 hI hz hsz hby (by rfl) (by omega) rfl rfl R12.out HZ5.out HL13.out HCD.out (f4_one _) (by dsimp only; omega) (by dsimp only; omega) ?_
                    intro r p5 hrn hr gr hrb
                    have cn : Chg (Sl.blk ⟨R12a, R12n, R12c⟩).toList p4 p5 := Chg.of gr (fun b hb => by simpa using hb)
                    have h5b := fun b (hb : b ∈ (Sl.blk ⟨R12a, R12n, R12c⟩).toList) => (R12.out.blk b (by simpa using hb)).1
                    have R17 := Lib.hid (show OR bz p5 61 4 r (f4 (ys.take a) ++ ecs (⟨yst, yep, ynx, yhe⟩, ⟨Ya, Yn, Yc⟩) ++ f4 (ys.drop bh)) from hr)
                    have HRN := Lib.hid (show r.n = a + 1 + (En - bh) by rw [hrn]; dsimp only; omega)
                    have GB := Lib.hid (cn.grown GB.out (fun b hb => by have := h5b b hb; have := HBZ.out.2; omega))
                    have G2 := Lib.hid (cn.grown G2.out (fun b hb => by have := h5b b hb; have := HBZ.out.1; omega))
                    clear hrn hr gr hrb cn h5b HZ5 hrn0
                    obtain ⟨R17a, R17n, R17c⟩ := r
                    dsimp only [Sl.v]
                    refine hK.out _ _ ?_ (fun hHeld => ?_)
                    · exact ⟨(BX.out.grown G2.out).1.1, (BX.out.grown G2.out).1.2.1, (BX.out.grown G2.out).1.2.2, (F10.out.grown G2.out).1.1, (F10.out.grown G2.out).1.2.1, (F10.out.grown G2.out).1.2.2.1, (F10.out.grown G2.out).1.2.2.2⟩
                    clear hK K
                    try simp only [Act.put, List.setIfInBounds_toArray, List.set_cons_zero, List.set_cons_succ]
                    refine takeL (i := 18) (v := ?_) rfl (by kernel_rfl) (by kernel_rfl) (by kernel_rfl) (fun _ _ _ h => h) (Or.inl ⟨by rfl, ?_⟩) (by assumption) ?_
                    rotate_left 1
                    · intro w hSw; obtain ⟨s0, s1, s2, q0, q1, q2, q3⟩ := hSw; first | (go_simp; done) | (go_simp; with_reducible rfl)
                    try simp only [Act.put, List.setIfInBounds_toArray, List.set_cons_zero, List.set_cons_succ]
                    refine wpAnyH_ready (rs := [19]) (by kernel_rfl) (by simp) (consL rfl (fun K hK => ?_) AllReadyH.nil)
                    go_simp
                    obtain ⟨B12, hB12⟩ : ∃ b, b = p5.heap.size := ⟨_, rfl⟩
                    obtain ⟨p6, hp6⟩ : ∃ z, z = p5.alloc (Obj.cells #[.int .i64 0, .slice none 0 0, .slice none 0 0] 29) := ⟨_, rfl⟩
                    rw [← hp6, ← hB12]
                    have gn : p5.grownBy p6 none := by subst hp6; exact grown_alloc _ _ _
                    have BT := Lib.hid (show Tri p6 B12 (.int .i64 0) (.slice none 0 0) (.slice none 0 0) by subst hp6; subst hB12; exact tri_made _ _ _ _ _)
                    have LT := Lib.hid (show B12 < p6.heap.size from BT.out.lt)
                    have LB := Lib.hid (show bz ≤ B12 by have := GB.out.size; have := HBZ.out.2; omega)
                    have NR := Lib.hid (show ∀ b, Sl.blk ⟨R17a, R17n, R17c⟩ = some b → b ≠ B12 from fun b hb => by have := (R17.out.blk b hb).2; omega)
                    have R17 := Lib.hid (R17.out.grown gn)
                    have GB := Lib.hid (grown_trans GB.out gn)
                    have G2 := Lib.hid (grown_trans G2.out gn)
                    clear gn hp6 hB12
                    refine hK.out _ _ ?_ (fun hHeld => ?_)
                    · exact ⟨(BX.out.grown G2.out).1.1, (BX.out.grown G2.out).1.2.1, (BX.out.grown G2.out).1.2.2, (F10.out.grown G2.out).1.1, (F10.out.grown G2.out).1.2.1, (F10.out.grown G2.out).1.2.2.1, (F10.out.grown G2.out).1.2.2.2⟩
                    clear hK K
                    try simp only [Act.put, List.setIfInBounds_toArray, List.set_cons_zero, List.set_cons_succ]
                    have hLX : ∀ b ∈ B12 :: B8 :: L2, b ∈ B8 :: L2 ∨ wl.heap.size ≤ b := fun b hb => by
                      rcases List.mem_cons.1 hb with e | hb
                      · right; have h1 := LB.out; have h2 := HBZ.out.1; omega
                      · exact .inl hb
                    have EL17 := Lib.hid (ins_row4 (L := B12 :: B8 :: L2) HYS.out (fun y hy => (HYV.out y hy).step (M := []) (Chg.refl _ _) (fun _ h => by cases h) hLX) (TLY.out.step (M := []) (Chg.refl _ _) (fun _ h => by cases h) hLX) G2.out R17.out (fun b hb hm => by
                      rcases List.mem_cons.1 hm with e | hm
                      · exact NR.out b hb e
                      · have h1 := (R17.out.blk b hb).1; have h2 := HLB.out b hm; omega))
                    clear hLX
                    obtain ⟨⟨m0, m1, m2⟩, mf⟩ := BT.out
                    have f0 := mf 0
                    have f1 := mf 1
                    have f2 := mf 2
                    clear mf
                    refine wpAnyH_ready (rs := [20]) (by kernel_rfl) (by simp) (consL rfl (fun K hK => ?_) AllReadyH.nil)
                    go_simp
                    have gs : Chg [B12] p6 (((p6.setCell ⟨B12, 0, none⟩ (.int .i64 win)).setCell ⟨B12, 1, none⟩ (.slice Ta Tn Tc)).setCell ⟨B12, 2, none⟩ (.slice R17a R17n R17c)) := (((Chg.refl [B12] p6).set ⟨B12, 0, none⟩ (.int .i64 win) (by simp)).set ⟨B12, 1, none⟩ (.slice Ta Tn Tc) (by simp)).set ⟨B12, 2, none⟩ (.slice R17a R17n R17c) (by simp)
                    have G2 := Lib.hid (gs.grown G2.out (fun b hb => by rw [List.mem_singleton] at hb; have h1 := LB.out; have h2 := HBZ.out.1; omega))
                    have BT2 := Lib.hid (((BT.out.set0 (.int .i64 win)).set1 (.slice Ta Tn Tc)).set2 (.slice R17a R17n R17c))
                    have EL2 := Lib.hid (EL17.out.step (L' := B8 :: L2) gs (fun b hb => .inl (by rw [List.mem_singleton] at hb; rw [hb]; exact List.mem_cons_self)) (fun b hb => .inl (List.mem_cons_of_mem _ hb)))
                    clear m0 m1 m2 f0 f1 f2 gs
                    refine hK.out _ _ ?_ (fun hHeld => ?_)
                    · exact ⟨(BX.out.grown G2.out).1.1, (BX.out.grown G2.out).1.2.1, (BX.out.grown G2.out).1.2.2, (F10.out.grown G2.out).1.1, (F10.out.grown G2.out).1.2.1, (F10.out.grown G2.out).1.2.2.1, (F10.out.grown G2.out).1.2.2.2⟩
                    clear hK K
                    try simp only [Act.put, List.setIfInBounds_toArray, List.set_cons_zero, List.set_cons_succ]
                    refine wpAnyH_done (by kernel_rfl) ?_ _
                    go_wp2_with fail
                    go_meet
                    case rel => exact ⟨B12, ⟨R17a, R17n, R17c⟩, rfl, BT2, EL2, G2⟩
                  · go_simp
                    obtain ⟨B12, hB12⟩ : ∃ b, b = p4.heap.size := ⟨_, rfl⟩
                    obtain ⟨p5, hp5⟩ : ∃ z, z = p4.alloc (Obj.cells #[.int .i64 0, .slice none 0 0, .slice none 0 0] 29) := ⟨_, rfl⟩
                    rw [← hp5, ← hB12]
                    have gn : p4.grownBy p5 none := by subst hp5; exact grown_alloc _ _ _
                    have BT := Lib.hid (show Tri p5 B12 (.int .i64 0) (.slice none 0 0) (.slice none 0 0) by subst hp5; subst hB12; exact tri_made _ _ _ _ _)
                    have LT := Lib.hid (show B12 < p5.heap.size from BT.out.lt)
                    have LB := Lib.hid (show bz ≤ B12 by have := GB.out.size; have := HBZ.out.2; omega)
                    have NR := Lib.hid (show ∀ b, Sl.blk ⟨R12a, R12n, R12c⟩ = some b → b ≠ B12 from fun b hb => by have := (R12.out.blk b hb).2; omega)
                    have R12 := Lib.hid (R12.out.grown gn)
                    have GB := Lib.hid (grown_trans GB.out gn)
                    have G2 := Lib.hid (grown_trans G2.out gn)
                    clear gn hp5 hB12
                    refine hK.out _ _ ?_ (fun hHeld => ?_)
                    · exact ⟨(BX.out.grown G2.out).1.1, (BX.out.grown G2.out).1.2.1, (BX.out.grown G2.out).1.2.2, (F10.out.grown G2.out).1.1, (F10.out.grown G2.out).1.2.1, (F10.out.grown G2.out).1.2.2.1, (F10.out.grown G2.out).1.2.2.2⟩
                    clear hK K
                    try simp only [Act.put, List.setIfInBounds_toArray, List.set_cons_zero, List.set_cons_succ]
                    refine wpAnyH_ready (rs := [17]) (by kernel_rfl) (by simp) (consL rfl (fun K hK => ?_) AllReadyH.nil)
                    have HCD := Lib.hid (HDR.out _ G2.out)
                    have HZ5 := Lib.hid (show bz ≤ p5.heap.size by have := GB.out.size; have := HBZ.out.2; omega)
                    have hrn0 := HRN.out
                    dsimp only at hrn0
                    refine step_appV rfl (.tmp 93) (.tmp 97) 27 rfl (S := ⟨R12a, R12n, R12c⟩) (V := ⟨ad, En - bh, Ec - bh⟩) Try.underlying27 hI hz hsz hby (by rfl) (by omega) rfl rfl R12.out HZ5.out HL13.out HCD.out (f4_one _) (by dsimp only; omega) (by dsimp only; omega) ?_
                    intro r p6 hrn hr gr hrb
                    have cn : Chg (Sl.blk ⟨R12a, R12n, R12c⟩).toList p5 p6 := Chg.of gr (fun b hb => by simpa using hb)
                    have h5b := fun b (hb : b ∈ (Sl.blk ⟨R12a, R12n, R12c⟩).toList) => (R12.out.blk b (by simpa using hb)).1
                    have BT := Lib.hid (BT.out.step cn (fun hm => NR.out _ (by simpa using hm) rfl))
                    have R17 := Lib.hid (show OR bz p6 61 4 r (f4 (ys.take a) ++ ecs (⟨yst, yep, ynx, yhe⟩, ⟨Ya, Yn, Yc⟩) ++ f4 (ys.drop bh)) from hr)
                    have HRN := Lib.hid (show r.n = a + 1 + (En - bh) by rw [hrn]; dsimp only; omega)
                    have NR := Lib.hid (show ∀ b, r.blk = some b → b ≠ B12 from fun b hb => by
                      rcases hrb b hb with e | e
                      · exact NR.out b e
                      · have := LT.out; omega)
                    have LT := Lib.hid (show B12 < p6.heap.size from BT.out.lt)
                    have GB := Lib.hid (cn.grown GB.out (fun b hb => by have := h5b b hb; have := HBZ.out.2; omega))
                    have G2 := Lib.hid (cn.grown G2.out (fun b hb => by have := h5b b hb; have := HBZ.out.1; omega))
                    clear hrn hr gr hrb cn h5b HZ5 hrn0
                    obtain ⟨R17a, R17n, R17c⟩ := r
                    dsimp only [Sl.v]
                    refine hK.out _ _ ?_ (fun hHeld => ?_)
                    · exact ⟨(BX.out.grown G2.out).1.1, (BX.out.grown G2.out).1.2.1, (BX.out.grown G2.out).1.2.2, (F10.out.grown G2.out).1.1, (F10.out.grown G2.out).1.2.1, (F10.out.grown G2.out).1.2.2.1, (F10.out.grown G2.out).1.2.2.2⟩
                    clear hK K
                    try simp only [Act.put, List.setIfInBounds_toArray, List.set_cons_zero, List.set_cons_succ]
                    refine takeL (i := 18) (v := ?_) rfl (by kernel_rfl) (by kernel_rfl) (by kernel_rfl) (fun _ _ _ h => h) (Or.inl ⟨by rfl, ?_⟩) (by assumption) ?_
                    rotate_left 1
                    · intro w hSw; obtain ⟨s0, s1, s2, q0, q1, q2, q3⟩ := hSw; first | (go_simp; done) | (go_simp; with_reducible rfl)
                    try simp only [Act.put, List.setIfInBounds_toArray, List.set_cons_zero, List.set_cons_succ]
                    have hLX : ∀ b ∈ B12 :: B8 :: L2, b ∈ B8 :: L2 ∨ wl.heap.size ≤ b := fun b hb => by
                      rcases List.mem_cons.1 hb with e | hb
                      · right; have h1 := LB.out; have h2 := HBZ.out.1; omega
                      · exact .inl hb
                    have EL17 := Lib.hid (ins_row4 (L := B12 :: B8 :: L2) HYS.out (fun y hy => (HYV.out y hy).step (M := []) (Chg.refl _ _) (fun _ h => by cases h) hLX) (TLY.out.step (M := []) (Chg.refl _ _) (fun _ h => by cases h) hLX) G2.out R17.out (fun b hb hm => by
                      rcases List.mem_cons.1 hm with e | hm
                      · exact NR.out b hb e
                      · have h1 := (R17.out.blk b hb).1; have h2 := HLB.out b hm; omega))
                    clear hLX
                    obtain ⟨⟨m0, m1, m2⟩, mf⟩ := BT.out
                    have f0 := mf 0
                    have f1 := mf 1
                    have f2 := mf 2
                    clear mf
                    refine wpAnyH_ready (rs := [20]) (by kernel_rfl) (by simp) (consL rfl (fun K hK => ?_) AllReadyH.nil)
                    go_simp
                    have gs : Chg [B12] p6 (((p6.setCell ⟨B12, 0, none⟩ (.int .i64 win)).setCell ⟨B12, 1, none⟩ (.slice Ta Tn Tc)).setCell ⟨B12, 2, none⟩ (.slice R17a R17n R17c)) := (((Chg.refl [B12] p6).set ⟨B12, 0, none⟩ (.int .i64 win) (by simp)).set ⟨B12, 1, none⟩ (.slice Ta Tn Tc) (by simp)).set ⟨B12, 2, none⟩ (.slice R17a R17n R17c) (by simp)
                    have G2 := Lib.hid (gs.grown G2.out (fun b hb => by rw [List.mem_singleton] at hb; have h1 := LB.out; have h2 := HBZ.out.1; omega))
                    have BT2 := Lib.hid (((BT.out.set0 (.int .i64 win)).set1 (.slice Ta Tn Tc)).set2 (.slice R17a R17n R17c))
                    have EL2 := Lib.hid (EL17.out.step (L' := B8 :: L2) gs (fun b hb => .inl (by rw [List.mem_singleton] at hb; rw [hb]; exact List.mem_cons_self)) (fun b hb => .inl (List.mem_cons_of_mem _ hb)))
                    clear m0 m1 m2 f0 f1 f2 gs
                    refine hK.out _ _ ?_ (fun hHeld => ?_)
                    · exact ⟨(BX.out.grown G2.out).1.1, (BX.out.grown G2.out).1.2.1, (BX.out.grown G2.out).1.2.2, (F10.out.grown G2.out).1.1, (F10.out.grown G2.out).1.2.1, (F10.out.grown G2.out).1.2.2.1, (F10.out.grown G2.out).1.2.2.2⟩
                    clear hK K
                    try simp only [Act.put, List.setIfInBounds_toArray, List.set_cons_zero, List.set_cons_succ]
                    refine wpAnyH_done (by kernel_rfl) ?_ _
                    go_wp2_with fail
                    go_meet
                    case rel => exact ⟨B12, ⟨R17a, R17n, R17c⟩, rfl, BT2, EL2, G2⟩
                · go_simp
                  obtain ⟨B12, hB12⟩ : ∃ b, b = p3.heap.size := ⟨_, rfl⟩
                  obtain ⟨p4, hp4⟩ : ∃ z, z = p3.alloc (Obj.cells #[.int .i64 0, .slice none 0 0, .slice none 0 0] 29) := ⟨_, rfl⟩
                  rw [← hp4, ← hB12]
                  have gn : p3.grownBy p4 none := by subst hp4; exact grown_alloc _ _ _
                  have BT := Lib.hid (show Tri p4 B12 (.int .i64 0) (.slice none 0 0) (.slice none 0 0) by subst hp4; subst hB12; exact tri_made _ _ _ _ _)
                  have LT := Lib.hid (show B12 < p4.heap.size from BT.out.lt)
                  have LB := Lib.hid (show bz ≤ B12 by have := GB.out.size; have := HBZ.out.2; omega)
                  have NR := Lib.hid (show ∀ b, Sl.blk ⟨R9a, R9n, R9c⟩ = some b → b ≠ B12 from fun b hb => by have := (R9.out.blk b hb).2; omega)
                  have R9 := Lib.hid (R9.out.grown gn)
                  have C11 := Lib.hid (C11.out.grown gn)
                  have GB := Lib.hid (grown_trans GB.out gn)
                  have G2 := Lib.hid (grown_trans G2.out gn)
                  clear gn hp4 hB12
                  refine hK.out _ _ ?_ (fun hHeld => ?_)
                  · exact ⟨(BX.out.grown G2.out).1.1, (BX.out.grown G2.out).1.2.1, (BX.out.grown G2.out).1.2.2, (F10.out.grown G2.out).1.1, (F10.out.grown G2.out).1.2.1, (F10.out.grown G2.out).1.2.2.1, (F10.out.grown G2.out).1.2.2.2⟩
                  clear hK K
                  try simp only [Act.put, List.setIfInBounds_toArray, List.set_cons_zero, List.set_cons_succ]
                  refine wpAnyH_ready (rs := [12]) (by kernel_rfl) (by simp) (consL rfl (fun K hK => ?_) AllReadyH.nil)
                  have HZ5 := Lib.hid (show bz ≤ p4.heap.size by have := GB.out.size; have := HBZ.out.2; omega)
                  have hrn0 := HRN.out
                  dsimp only at hrn0
                  refine step_appV rfl (.tmp 90) (.tmp 92) 27 rfl (S := ⟨R9a, R9n, R9c⟩) (V := ⟨some ⟨B11, 0, none⟩, 1, 1⟩) Try.underlying27 hI hz hsz hby (by rfl) (by omega) rfl rfl R9.out HZ5.out C11.out.len C11.out.cr (ecs_one _) (by dsimp only; omega) (by dsimp only; omega) ?_
                  intro r p5 hrn hr gr hrb
                  have cn : Chg (Sl.blk ⟨R9a, R9n, R9c⟩).toList p4 p5 := Chg.of gr (fun b hb => by simpa using hb)
                  have h5b := fun b (hb : b ∈ (Sl.blk ⟨R9a, R9n, R9c⟩).toList) => (R9.out.blk b (by simpa using hb)).1
                  have BT := Lib.hid (BT.out.step cn (fun hm => NR.out _ (by simpa using hm) rfl))
                  have R12 := Lib.hid (show OR bz p5 61 4 r (f4 (ys.take a) ++ ecs (⟨yst, yep, ynx, yhe⟩, ⟨Ya, Yn, Yc⟩)) from hr)
                  have HRN := Lib.hid (show r.n = a + 1 by rw [hrn]; dsimp only; omega)
                  have NR := Lib.hid (show ∀ b, r.blk = some b → b ≠ B12 from fun b hb => by
                    rcases hrb b hb with e | e
                    · exact NR.out b e
                    · have := LT.out; omega)
                  have LT := Lib.hid (show B12 < p5.heap.size from BT.out.lt)
                  have GB := Lib.hid (cn.grown GB.out (fun b hb => by have := h5b b hb; have := HBZ.out.2; omega))
                  have G2 := Lib.hid (cn.grown G2.out (fun b hb => by have := h5b b hb; have := HBZ.out.1; omega))
                  clear hrn hr gr hrb cn h5b HZ5 hrn0
                  obtain ⟨R12a, R12n, R12c⟩ := r
                  dsimp only [Sl.v]
                  refine hK.out _ _ ?_ (fun hHeld => ?_)
                  · exact ⟨(BX.out.grown G2.out).1.1, (BX.out.grown G2.out).1.2.1, (BX.out.grown G2.out).1.2.2, (F10.out.grown G2.out).1.1, (F10.out.grown G2.out).1.2.1, (F10.out.grown G2.out).1.2.2.1, (F10.out.grown G2.out).1.2.2.2⟩
                  clear hK K
                  try simp only [Act.put, List.setIfInBounds_toArray, List.set_cons_zero, List.set_cons_succ]
                  refine wpAnyH_ready (rs := [17]) (by kernel_rfl) (by simp) (consL rfl (fun K hK => ?_) AllReadyH.nil)
                  have HCD := Lib.hid (HDR.out _ G2.out)
                  have HZ5 := Lib.hid (show bz ≤ p5.heap.size by have := GB.out.size; have := HBZ.out.2; omega)
                  have hrn0 := HRN.out
                  dsimp only at hrn0
                  refine step_appV rfl (.tmp 93) (.tmp 97) 27 rfl (S := ⟨R12a, R12n, R12c⟩) (V := ⟨ad, En - bh, Ec - bh⟩) Try.underlying27 hI hz hsz hby (by rfl) (by omega) rfl rfl R12.out HZ5.out HL13.out HCD.out (f4_one _) (by dsimp only; omega) (by dsimp only; omega) ?_
                  intro r p6 hrn hr gr hrb
                  have cn : Chg (Sl.blk ⟨R12a, R12n, R12c⟩).toList p5 p6 := Chg.of gr (fun b hb => by simpa using hb)
                  have h5b := fun b (hb : b ∈ (Sl.blk ⟨R12a, R12n, R12c⟩).toList) => (R12.out.blk b (by simpa using hb)).1
                  have BT := Lib.hid (BT.out.step cn (fun hm => NR.out _ (by simpa using hm) rfl))
                  have R17 := Lib.hid (show OR bz p6 61 4 r (f4 (ys.take a) ++ ecs (⟨yst, yep, ynx, yhe⟩, ⟨Ya, Yn, Yc⟩) ++ f4 (ys.drop bh)) from hr)
                  have HRN := Lib.hid (show r.n = a + 1 + (En - bh) by rw [hrn]; dsimp only; omega)
                  have NR := Lib.hid (show ∀ b, r.blk = some b → b ≠ B12 from fun b hb => by
                    rcases hrb b hb with e | e
                    · exact NR.out b e
                    · have := LT.out; omega)
                  have LT := Lib.hid (show B12 < p6.heap.size from BT.out.lt)
                  have GB := Lib.hid (cn.grown GB.out (fun b hb => by have := h5b b hb; have := HBZ.out.2; omega))
                  have G2 := Lib.hid (cn.grown G2.out (fun b hb => by have := h5b b hb; have := HBZ.out.1; omega))
                  clear hrn hr gr hrb cn h5b HZ5 hrn0
                  obtain ⟨R17a, R17n, R17c⟩ := r
                  dsimp only [Sl.v]
                  refine hK.out _ _ ?_ (fun hHeld => ?_)
                  · exact ⟨(BX.out.grown G2.out).1.1, (BX.out.grown G2.out).1.2.1, (BX.out.grown G2.out).1.2.2, (F10.out.grown G2.out).1.1, (F10.out.grown G2.out).1.2.1, (F10.out.grown G2.out).1.2.2.1, (F10.out.grown G2.out).1.2.2.2⟩
                  clear hK K
                  try simp only [Act.put, List.setIfInBounds_toArray, List.set_cons_zero, List.set_cons_succ]
                  refine takeL (i := 18) (v := ?_) rfl (by kernel_rfl) (by kernel_rfl) (by kernel_rfl) (fun _ _ _ h => h) (Or.inl ⟨by rfl, ?_⟩) (by assumption) ?_
                  rotate_left 1
                  · intro w hSw; obtain ⟨s0, s1, s2, q0, q1, q2, q3⟩ := hSw; first | (go_simp; done) | (go_simp; with_reducible rfl)
                  try simp only [Act.put, List.setIfInBounds_toArray, List.set_cons_zero, List.set_cons_succ]
                  have hLX : ∀ b ∈ B12 :: B8 :: L2, b ∈ B8 :: L2 ∨ wl.heap.size ≤ b := fun b hb => by
                    rcases List.mem_cons.1 hb with e | hb
                    · right; have h1 := LB.out; have h2 := HBZ.out.1; omega
                    · exact .inl hb
                  have EL17 := Lib.hid (ins_row4 (L := B12 :: B8 :: L2) HYS.out (fun y hy => (HYV.out y hy).step (M := []) (Chg.refl _ _) (fun _ h => by cases h) hLX) (TLY.out.step (M := []) (Chg.refl _ _) (fun _ h => by cases h) hLX) G2.out R17.out (fun b hb hm => by
                    rcases List.mem_cons.1 hm with e | hm
                    · exact NR.out b hb e
                    · have h1 := (R17.out.blk b hb).1; have h2 := HLB.out b hm; omega))
                  clear hLX
                  obtain ⟨⟨m0, m1, m2⟩, mf⟩ := BT.out
                  have f0 := mf 0
                  have f1 := mf 1
                  have f2 := mf 2
                  clear mf
                  refine wpAnyH_ready (rs := [20]) (by kernel_rfl) (by simp) (consL rfl (fun K hK => ?_) AllReadyH.nil)
                  go_simp
                  have gs : Chg [B12] p6 (((p6.setCell ⟨B12, 0, none⟩ (.int .i64 win)).setCell ⟨B12, 1, none⟩ (.slice Ta Tn Tc)).setCell ⟨B12, 2, none⟩ (.slice R17a R17n R17c)) := (((Chg.refl [B12] p6).set ⟨B12, 0, none⟩ (.int .i64 win) (by simp)).set ⟨B12, 1, none⟩ (.slice Ta Tn Tc) (by simp)).set ⟨B12, 2, none⟩ (.slice R17a R17n R17c) (by simp)
                  have G2 := Lib.hid (gs.grown G2.out (fun b hb => by rw [List.mem_singleton] at hb; have h1 := LB.out; have h2 := HBZ.out.1; omega))
                  have BT2 := Lib.hid (((BT.out.set0 (.int .i64 win)).set1 (.slice Ta Tn Tc)).set2 (.slice R17a R17n R17c))
                  have EL2 := Lib.hid (EL17.out.step (L' := B8 :: L2) gs (fun b hb => .inl (by rw [List.mem_singleton] at hb; rw [hb]; exact List.mem_cons_self)) (fun b hb => .inl (List.mem_cons_of_mem _ hb)))
                  clear m0 m1 m2 f0 f1 f2 gs
                  refine hK.out _ _ ?_ (fun hHeld => ?_)
                  · exact ⟨(BX.out.grown G2.out).1.1, (BX.out.grown G2.out).1.2.1, (BX.out.grown G2.out).1.2.2, (F10.out.grown G2.out).1.1, (F10.out.grown G2.out).1.2.1, (F10.out.grown G2.out).1.2.2.1, (F10.out.grown G2.out).1.2.2.2⟩
                  clear hK K
                  try simp only [Act.put, List.setIfInBounds_toArray, List.set_cons_zero, List.set_cons_succ]
                  refine wpAnyH_done (by kernel_rfl) ?_ _
                  go_wp2_with fail
                  go_meet
                  case rel => exact ⟨B12, ⟨R17a, R17n, R17c⟩, rfl, BT2, EL2, G2⟩
              · go_simp
                obtain ⟨B12, hB12⟩ : ∃ b, b = p2.heap.size := ⟨_, rfl⟩
                obtain ⟨p3, hp3⟩ : ∃ z, z = p2.alloc (Obj.cells #[.int .i64 0, .slice none 0 0, .slice none 0 0] 29) := ⟨_, rfl⟩
                rw [← hp3, ← hB12]
                have gn : p2.grownBy p3 none := by subst hp3; exact grown_alloc _ _ _
                have BT := Lib.hid (show Tri p3 B12 (.int .i64 0) (.slice none 0 0) (.slice none 0 0) by subst hp3; subst hB12; exact tri_made _ _ _ _ _)
                have LT := Lib.hid (show B12 < p3.heap.size from BT.out.lt)
                have LB := Lib.hid (show bz ≤ B12 by have := GB.out.size; have := HBZ.out.2; omega)
                have NR := Lib.hid (show ∀ b, Sl.blk ⟨some ⟨B4, 0, none⟩, 0, 0⟩ = some b → b ≠ B12 from fun b hb => by have := (R4.out.blk b hb).2; omega)
                have R4 := Lib.hid (R4.out.grown gn)
                have C11 := Lib.hid (C11.out.grown gn)
                have GB := Lib.hid (grown_trans GB.out gn)
                have G2 := Lib.hid (grown_trans G2.out gn)
                clear gn hp3 hB12
                refine hK.out _ _ ?_ (fun hHeld => ?_)
                · exact ⟨(BX.out.grown G2.out).1.1, (BX.out.grown G2.out).1.2.1, (BX.out.grown G2.out).1.2.2, (F10.out.grown G2.out).1.1, (F10.out.grown G2.out).1.2.1, (F10.out.grown G2.out).1.2.2.1, (F10.out.grown G2.out).1.2.2.2⟩
                clear hK K
                try simp only [Act.put, List.setIfInBounds_toArray, List.set_cons_zero, List.set_cons_succ]
                refine wpAnyH_ready (rs := [9]) (by kernel_rfl) (by simp) (consL rfl (fun K hK => ?_) AllReadyH.nil)
                have HC5 := Lib.hid (cr4_take (c' := Ec) (a := a) (HCR.out.grown G2.out))
                have HZ5 := Lib.hid (show bz ≤ p3.heap.size by have := GB.out.size; have := HBZ.out.2; omega)
                refine step_appV rfl (.tmp 85) (.tmp 89) 27 rfl (S := ⟨some ⟨B4, 0, none⟩, 0, 0⟩) (V := ⟨Ea, a, Ec⟩) Try.underlying27 hI hz hsz hby (by rfl) (by omega) rfl rfl R4.out HZ5.out HL5.out HC5.out (f4_one _) (by dsimp only; omega) (by dsimp only; omega) ?_
                intro r p4 hrn hr gr hrb
                have cn : Chg (Sl.blk ⟨some ⟨B4, 0, none⟩, 0, 0⟩).toList p3 p4 := Chg.of gr (fun b hb => by simpa using hb)
                have h5b := fun b (hb : b ∈ (Sl.blk ⟨some ⟨B4, 0, none⟩, 0, 0⟩).toList) => (R4.out.blk b (by simpa using hb)).1
                have C11 := Lib.hid (C11.out.chg cn (fun b hb hm => by
                  have e1 : b = B4 := by simpa [Sl.blk] using hm
                  have e2 : B11 = b := by simpa [Sl.blk] using hb
                  exact N4.out (by omega)))
                have BT := Lib.hid (BT.out.step cn (fun hm => NR.out _ (by simpa using hm) rfl))
                have R9 := Lib.hid (show OR bz p4 61 4 r (f4 (ys.take a)) from hr)
                have HRN := Lib.hid (show r.n = a by rw [hrn]; dsimp only; omega)
                have NR := Lib.hid (show ∀ b, r.blk = some b → b ≠ B12 from fun b hb => by
                  rcases hrb b hb with e | e
                  · exact NR.out b e
                  · have := LT.out; omega)
                have LT := Lib.hid (show B12 < p4.heap.size from BT.out.lt)
                have GB := Lib.hid (cn.grown GB.out (fun b hb => by have := h5b b hb; have := HBZ.out.2; omega))
                have G2 := Lib.hid (cn.grown G2.out (fun b hb => by have := h5b b hb; have := HBZ.out.1; omega))
                clear hrn hr gr hrb cn h5b HZ5
                obtain ⟨R9a, R9n, R9c⟩ := r
                dsimp only [Sl.v]
                refine hK.out _ _ ?_ (fun hHeld => ?_)
                · exact ⟨(BX.out.grown G2.out).1.1, (BX.out.grown G2.out).1.2.1, (BX.out.grown G2.out).1.2.2, (F10.out.grown G2.out).1.1, (F10.out.grown G2.out).1.2.1, (F10.out.grown G2.out).1.2.2.1, (F10.out.grown G2.out).1.2.2.2⟩
                clear hK K
                try simp only [Act.put, List.setIfInBounds_toArray, List.set_cons_zero, List.set_cons_succ]
                refine wpAnyH_ready (rs := [12]) (by kernel_rfl) (by simp) (consL rfl (fun K hK => ?_) AllReadyH.nil)
                have HZ5 := Lib.hid (show bz ≤ p4.heap.size by have := GB.out.size; have := HBZ.out.2; omega)
                have hrn0 := HRN.out
                dsimp only at hrn0
                refine step_appV rfl (.tmp 90) (.tmp 92) 27 rfl (S := ⟨R9a, R9n, R9c⟩) (V := ⟨some ⟨B11, 0, none⟩, 1, 1⟩) Try.underlying27 hI hz hsz hby (by rfl) (by omega) rfl rfl R9.out HZ5.out C11.out.len C11.out.cr (ecs_one _) (by dsimp only; omega) (by dsimp only; omega) ?_
                intro r p5 hrn hr gr hrb
                have cn : Chg (Sl.blk ⟨R9a, R9n, R9c⟩).toList p4 p5 := Chg.of gr (fun b hb => by simpa using hb)
                have h5b := fun b (hb : b ∈ (Sl.blk ⟨R9a, R9n, R9c⟩).toList) => (R9.out.blk b (by simpa using hb)).1
                have BT := Lib.hid (BT.out.step cn (fun hm => NR.out _ (by simpa using hm) rfl))
                have R12 := Lib.hid (show OR bz p5 61 4 r (f4 (ys.take a) ++ ecs (⟨yst, yep, ynx, yhe⟩, ⟨Ya, Yn, Yc⟩)) from hr)
                have HRN := Lib.hid (show r.n = a + 1 by rw [hrn]; dsimp only; omega)
                have NR := Lib.hid (show ∀ b, r.blk = some b → b ≠ B12 from fun b hb => by
                  rcases hrb b hb with e | e
                  · exact NR.out b e
                  · have := LT.out; omega)
                have LT := Lib.hid (show B12 < p5.heap.size from BT.out.lt)
                have GB := Lib.hid (cn.grown GB.out (fun b hb => by have := h5b b hb; have := HBZ.out.2; omega))
                have G2 := Lib.hid (cn.grown G2.out (fun b hb => by have := h5b b hb; have := HBZ.out.1; omega))
                clear hrn hr gr hrb cn h5b HZ5 hrn0
                obtain ⟨R12a, R12n, R12c⟩ := r
                dsimp only [Sl.v]
                refine hK.out _ _ ?_ (fun hHeld => ?_)
                · exact ⟨(BX.out.grown G2.out).1.1, (BX.out.grown G2.out).1.2.1, (BX.out.grown G2.out).1.2.2, (F10.out.grown G2.out).1.1, (F10.out.grown G2.out).1.2.1, (F10.out.grown G2.out).1.2.2.1, (F10.out.grown G2.out).1.2.2.2⟩
                clear hK K
                try simp only [Act.put, List.setIfInBounds_toArray, List.set_cons_zero, List.set_cons_succ]
                refine wpAnyH_ready (rs := [17]) (by kernel_rfl) (by simp) (consL rfl (fun K hK => ?_) AllReadyH.nil)
                have HCD := Lib.hid (HDR.out _ G2.out)
                have HZ5 := Lib.hid (show bz ≤ p5.heap.size by have := GB.out.size; have := HBZ.out.2; omega)
                have hrn0 := HRN.out
                dsimp only at hrn0
                refine step_appV rfl (.tmp 93) (.tmp 97) 27 rfl (S := ⟨R12a, R12n, R12c⟩) (V := ⟨ad, En - bh, Ec - bh⟩) Try.underlying27 hI hz hsz hby (by rfl) (by omega) rfl rfl R12.out HZ5.out HL13.out HCD.out (f4_one _) (by dsimp only; omega) (by dsimp only; omega) ?_
                intro r p6 hrn hr gr hrb
                have cn : Chg (Sl.blk ⟨R12a, R12n, R12c⟩).toList p5 p6 := Chg.of gr (fun b hb => by simpa using hb)
                have h5b := fun b (hb : b ∈ (Sl.blk ⟨R12a, R12n, R12c⟩).toList) => (R12.out.blk b (by simpa using hb)).1
                have BT := Lib.hid (BT.out.step cn (fun hm => NR.out _ (by simpa using hm) rfl))
                have R17 := Lib.hid (show OR bz p6 61 4 r (f4 (ys.take a) ++ ecs (⟨yst, yep, ynx, yhe⟩, ⟨Ya, Yn, Yc⟩) ++ f4 (ys.drop bh)) from hr)
                have HRN := Lib.hid (show r.n = a + 1 + (En - bh) by rw [hrn]; dsimp only; omega)
                have NR := Lib.hid (show ∀ b, r.blk = some b → b ≠ B12 from fun b hb => by
                  rcases hrb b hb with e | e
                  · exact NR.out b e
                  · have := LT.out; omega)
                have LT := Lib.hid (show B12 < p6.heap.size from BT.out.lt)
                have GB := Lib.hid (cn.grown GB.out (fun b hb => by have := h5b b hb; have := HBZ.out.2; omega))
                have G2 := Lib.hid (cn.grown G2.out (fun b hb => by have := h5b b hb; have := HBZ.out.1; omega))
                clear hrn hr gr hrb cn h5b HZ5 hrn0
                obtain ⟨R17a, R17n, R17c⟩ := r
                dsimp only [Sl.v]
                refine hK.out _ _ ?_ (fun hHeld => ?_)
                · exact ⟨(BX.out.grown G2.out).1.1, (BX.out.grown G2.out).1.2.1, (BX.out.grown G2.out).1.2.2, (F10.out.grown G2.out).1.1, (F10.out.grown G2.out).1.2.1, (F10.out.grown G2.out).1.2.2.1, (F10.out.grown G2.out).1.2.2.2⟩
                clear hK K
                try simp only [Act.put, List.setIfInBounds_toArray, List.set_cons_zero, List.set_cons_succ]
                refine takeL (i := 18) (v := ?_) rfl (by kernel_rfl) (by kernel_rfl) (by kernel_rfl) (fun _ _ _ h => h) (Or.inl ⟨by rfl, ?_⟩) (by assumption) ?_
                rotate_left 1
                · intro w hSw; obtain ⟨s0, s1, s2, q0, q1, q2, q3⟩ := hSw; first | (go_simp; done) | (go_simp; with_reducible rfl)
                try simp only [Act.put, List.setIfInBounds_toArray, List.set_cons_zero, List.set_cons_succ]
                have hLX : ∀ b ∈ B12 :: B8 :: L2, b ∈ B8 :: L2 ∨ wl.heap.size ≤ b := fun b hb => by
                  rcases List.mem_cons.1 hb with e | hb
                  · right; have h1 := LB.out; have h2 := HBZ.out.1; omega
                  · exact .inl hb
                have EL17 := Lib.hid (ins_row4 (L := B12 :: B8 :: L2) HYS.out (fun y hy => (HYV.out y hy).step (M := []) (Chg.refl _ _) (fun _ h => by cases h) hLX) (TLY.out.step (M := []) (Chg.refl _ _) (fun _ h => by cases h) hLX) G2.out R17.out (fun b hb hm => by
                  rcases List.mem_cons.1 hm with e | hm
                  · exact NR.out b hb e
                  · have h1 := (R17.out.blk b hb).1; have h2 := HLB.out b hm; omega))
                clear hLX
                obtain ⟨⟨m0, m1, m2⟩, mf⟩ := BT.out
                have f0 := mf 0
                have f1 := mf 1
                have f2 := mf 2
                clear mf
                refine wpAnyH_ready (rs := [20]) (by kernel_rfl) (by simp) (consL rfl (fun K hK => ?_) AllReadyH.nil)
                go_simp
                have gs : Chg [B12] p6 (((p6.setCell ⟨B12, 0, none⟩ (.int .i64 win)).setCell ⟨B12, 1, none⟩ (.slice Ta Tn Tc)).setCell ⟨B12, 2, none⟩ (.slice R17a R17n R17c)) := (((Chg.refl [B12] p6).set ⟨B12, 0, none⟩ (.int .i64 win) (by simp)).set ⟨B12, 1, none⟩ (.slice Ta Tn Tc) (by simp)).set ⟨B12, 2, none⟩ (.slice R17a R17n R17c) (by simp)
                have G2 := Lib.hid (gs.grown G2.out (fun b hb => by rw [List.mem_singleton] at hb; have h1 := LB.out; have h2 := HBZ.out.1; omega))
                have BT2 := Lib.hid (((BT.out.set0 (.int .i64 win)).set1 (.slice Ta Tn Tc)).set2 (.slice R17a R17n R17c))
                have EL2 := Lib.hid (EL17.out.step (L' := B8 :: L2) gs (fun b hb => .inl (by rw [List.mem_singleton] at hb; rw [hb]; exact List.mem_cons_self)) (fun b hb => .inl (List.mem_cons_of_mem _ hb)))
                clear m0 m1 m2 f0 f1 f2 gs
                refine hK.out _ _ ?_ (fun hHeld => ?_)
                · exact ⟨(BX.out.grown G2.out).1.1, (BX.out.grown G2.out).1.2.1, (BX.out.grown G2.out).1.2.2, (F10.out.grown G2.out).1.1, (F10.out.grown G2.out).1.2.1, (F10.out.grown G2.out).1.2.2.1, (F10.out.grown G2.out).1.2.2.2⟩
                clear hK K
                try simp only [Act.put, List.setIfInBounds_toArray, List.set_cons_zero, List.set_cons_succ]
                refine wpAnyH_done (by kernel_rfl) ?_ _
                go_wp2_with fail
                go_meet
                case rel => exact ⟨B12, ⟨R17a, R17n, R17c⟩, rfl, BT2, EL2, G2⟩
            · go_simp
              obtain ⟨B12, hB12⟩ : ∃ b, b = p1.heap.size := ⟨_, rfl⟩
              obtain ⟨p2, hp2⟩ : ∃ z, z = p1.alloc (Obj.cells #[.int .i64 0, .slice none 0 0, .slice none 0 0] 29) := ⟨_, rfl⟩
              rw [← hp2, ← hB12]
              have gn : p1.grownBy p2 none := by subst hp2; exact grown_alloc _ _ _
              have BT := Lib.hid (show Tri p2 B12 (.int .i64 0) (.slice none 0 0) (.slice none 0 0) by subst hp2; subst hB12; exact tri_made _ _ _ _ _)
              have LT := Lib.hid (show B12 < p2.heap.size from BT.out.lt)
              have LB := Lib.hid (show bz ≤ B12 by have := GB.out.size; have := HBZ.out.2; omega)
              have NR := Lib.hid (show ∀ b, Sl.blk ⟨some ⟨B4, 0, none⟩, 0, 0⟩ = some b → b ≠ B12 from fun b hb => by have := (R4.out.blk b hb).2; omega)
              have R4 := Lib.hid (R4.out.grown gn)
              have L4 := Lib.hid (show B4 < p2.heap.size from (R4.out.blk B4 rfl).2)
              have GB := Lib.hid (grown_trans GB.out gn)
              have G2 := Lib.hid (grown_trans G2.out gn)
              clear gn hp2 hB12
              refine hK.out _ _ ?_ (fun hHeld => ?_)
              · exact ⟨(BX.out.grown G2.out).1.1, (BX.out.grown G2.out).1.2.1, (BX.out.grown G2.out).1.2.2, (F10.out.grown G2.out).1.1, (F10.out.grown G2.out).1.2.1, (F10.out.grown G2.out).1.2.2.1, (F10.out.grown G2.out).1.2.2.2⟩
              clear hK K
              try simp only [Act.put, List.setIfInBounds_toArray, List.set_cons_zero, List.set_cons_succ]
              refine wpAnyH_ready (rs := [9, 11]) (by kernel_rfl) (by simp) (consL rfl (fun K hK => ?_) (consL rfl (fun K hK => ?_) AllReadyH.nil))
              · have HC5 := Lib.hid (cr4_take (c' := Ec) (a := a) (HCR.out.grown G2.out))
                have HZ5 := Lib.hid (show bz ≤ p2.heap.size by have := GB.out.size; have := HBZ.out.2; omega)
                refine step_appV rfl (.tmp 85) (.tmp 89) 27 rfl (S := ⟨some ⟨B4, 0, none⟩, 0, 0⟩) (V := ⟨Ea, a, Ec⟩) Try.underlying27 hI hz hsz hby (by rfl) (by omega) rfl rfl R4.out HZ5.out HL5.out HC5.out (f4_one _) (by dsimp only; omega) (by dsimp only; omega) ?_
                intro r p3 hrn hr gr hrb
                have cn : Chg (Sl.blk ⟨some ⟨B4, 0, none⟩, 0, 0⟩).toList p2 p3 := Chg.of gr (fun b hb => by simpa using hb)
                have h5b := fun b (hb : b ∈ (Sl.blk ⟨some ⟨B4, 0, none⟩, 0, 0⟩).toList) => (R4.out.blk b (by simpa using hb)).1
                have BT := Lib.hid (BT.out.step cn (fun hm => NR.out _ (by simpa using hm) rfl))
                have R9 := Lib.hid (show OR bz p3 61 4 r (f4 (ys.take a)) from hr)
                have HRN := Lib.hid (show r.n = a by rw [hrn]; dsimp only; omega)
                have NR := Lib.hid (show ∀ b, r.blk = some b → b ≠ B12 from fun b hb => by
                  rcases hrb b hb with e | e
                  · exact NR.out b e
                  · have := LT.out; omega)
                have LT := Lib.hid (show B12 < p3.heap.size from BT.out.lt)
                have GB := Lib.hid (cn.grown GB.out (fun b hb => by have := h5b b hb; have := HBZ.out.2; omega))
                have G2 := Lib.hid (cn.grown G2.out (fun b hb => by have := h5b b hb; have := HBZ.out.1; omega))
                clear hrn hr gr hrb cn h5b HZ5
                obtain ⟨R9a, R9n, R9c⟩ := r
                dsimp only [Sl.v]
                refine hK.out _ _ ?_ (fun hHeld => ?_)
                · exact ⟨(BX.out.grown G2.out).1.1, (BX.out.grown G2.out).1.2.1, (BX.out.grown G2.out).1.2.2, (F10.out.grown G2.out).1.1, (F10.out.grown G2.out).1.2.1, (F10.out.grown G2.out).1.2.2.1, (F10.out.grown G2.out).1.2.2.2⟩
                clear hK K
                try simp only [Act.put, List.setIfInBounds_toArray, List.set_cons_zero, List.set_cons_succ]
                refine wpAnyH_ready (rs := [11]) (by kernel_rfl) (by simp) (consL rfl (fun K hK => ?_) AllReadyH.nil)
                go_simp
                obtain ⟨B11, hB11⟩ : ∃ b, b = p3.heap.size := ⟨_, rfl⟩
                obtain ⟨p4, hp4⟩ : ∃ z, z = p3.alloc (Obj.cells #[.int .i64 yst, .int .i64 yep, .int .i64 ynx, .slice Ya Yn Yc] 61) := ⟨_, rfl⟩
                rw [← hp4, ← hB11]
                have gn : p3.grownBy p4 none := by subst hp4; exact grown_alloc _ _ _
                have R9 := Lib.hid (R9.out.grown gn)
                have BT := Lib.hid (BT.out.grown gn)
                have C11 := Lib.hid (show OR bz p4 61 4 ⟨some ⟨B11, 0, none⟩, 1, 1⟩ (ecs (⟨yst, yep, ynx, yhe⟩, ⟨Ya, Yn, Yc⟩)) from by subst hp4; subst hB11; exact (or_lit4 p3 (⟨yst, yep, ynx, yhe⟩, ⟨Ya, Yn, Yc⟩)).base_ (by have := GB.out.size; have := HBZ.out.2; omega))
                have LT := Lib.hid (show B12 < p4.heap.size from BT.out.lt)
                have GB := Lib.hid (grown_trans GB.out gn)
                have G2 := Lib.hid (grown_trans G2.out gn)
                clear gn hp4 hB11
                refine hK.out _ _ ?_ (fun hHeld => ?_)
                · exact ⟨(BX.out.grown G2.out).1.1, (BX.out.grown G2.out).1.2.1, (BX.out.grown G2.out).1.2.2, (F10.out.grown G2.out).1.1, (F10.out.grown G2.out).1.2.1, (F10.out.grown G2.out).1.2.2.1, (F10.out.grown G2.out).1.2.2.2⟩
                clear hK K
                try simp only [Act.put, List.setIfInBounds_toArray, List.set_cons_zero, List.set_cons_succ]
                refine wpAnyH_ready (rs := [12]) (by kernel_rfl) (by simp) (consL rfl (fun K hK => ?_) AllReadyH.nil)
                have HZ5 := Lib.hid (show bz ≤ p4.heap.size by have := GB.out.size; have := HBZ.out.2; omega)
                have hrn0 := HRN.out
                dsimp only at hrn0
                refine step_appV rfl (.tmp 90) (.tmp 92) 27 rfl (S := ⟨R9a, R9n, R9c⟩) (V := ⟨some ⟨B11, 0, none⟩, 1, 1⟩) Try.underlying27 hI hz hsz hby (by rfl) (by omega) rfl rfl R9.out HZ5.out C11.out.len C11.out.cr (ecs_one _) (by dsimp only; omega) (by dsimp only; omega) ?_
                intro r p5 hrn hr gr hrb
                have cn : Chg (Sl.blk ⟨R9a, R9n, R9c⟩).toList p4 p5 := Chg.of gr (fun b hb => by simpa using hb)
                have h5b := fun b (hb : b ∈ (Sl.blk ⟨R9a, R9n, R9c⟩).toList) => (R9.out.blk b (by simpa using hb)).1
                have BT := Lib.hid (BT.out.step cn (fun hm => NR.out _ (by simpa using hm) rfl))
                have R12 := Lib.hid (show OR bz p5 61 4 r (f4 (ys.take a) ++ ecs (⟨yst, yep, ynx, yhe⟩, ⟨Ya, Yn, Yc⟩)) from hr)
                have HRN := Lib.hid (show r.n = a + 1 by rw [hrn]; dsimp only; omega)
                have NR := Lib.hid (show ∀ b, r.blk = some b → b ≠ B12 from fun b hb => by
                  rcases hrb b hb with e | e
                  · exact NR.out b e
                  · have := LT.out; omega)
                have LT := Lib.hid (show B12 < p5.heap.size from BT.out.lt)
                have GB := Lib.hid (cn.grown GB.out (fun b hb => by have := h5b b hb; have := HBZ.out.2; omega))
                have G2 := Lib.hid (cn.grown G2.out (fun b hb => by have := h5b b hb; have := HBZ.out.1; omega))
                clear hrn hr gr hrb cn h5b HZ5 hrn0
                obtain ⟨R12a, R12n, R12c⟩ := r
                dsimp only [Sl.v]
                refine hK.out _ _ ?_ (fun hHeld => ?_)
                · exact ⟨(BX.out.grown G2.out).1.1, (BX.out.grown G2.out).1.2.1, (BX.out.grown G2.out).1.2.2, (F10.out.grown G2.out).1.1, (F10.out.grown G2.out).1.2.1, (F10.out.grown G2.out).1.2.2.1, (F10.out.grown G2.out).1.2.2.2⟩
                clear hK K
                try simp only [Act.put, List.setIfInBounds_toArray, List.set_cons_zero, List.set_cons_succ]
                refine wpAnyH_ready (rs := [17]) (by kernel_rfl) (by simp) (consL rfl (fun K hK => ?_) AllReadyH.nil)
                have HCD := Lib.hid (HDR.out _ G2.out)
                have HZ5 := Lib.hid (show bz ≤ p5.heap.size by have := GB.out.size; have := HBZ.out.2; omega)
                have hrn0 := HRN.out
                dsimp only at hrn0
                refine step_appV rfl (.tmp 93) (.tmp 97) 27 rfl (S := ⟨R12a, R12n, R12c⟩) (V := ⟨ad, En - bh, Ec - bh⟩) Try.underlying27 hI hz hsz hby (by rfl) (by omega) rfl rfl R12.out HZ5.out HL13.out HCD.out (f4_one _) (by dsimp only; omega) (by dsimp only; omega) ?_
                intro r p6 hrn hr gr hrb
                have cn : Chg (Sl.blk ⟨R12a, R12n, R12c⟩).toList p5 p6 := Chg.of gr (fun b hb => by simpa using hb)
                have h5b := fun b (hb : b ∈ (Sl.blk ⟨R12a, R12n, R12c⟩).toList) => (R12.out.blk b (by simpa using hb)).1
                have BT := Lib.hid (BT.out.step cn (fun hm => NR.out _ (by simpa using hm) rfl))
                have R17 := Lib.hid (show OR bz p6 61 4 r (f4 (ys.take a) ++ ecs (⟨yst, yep, ynx, yhe⟩, ⟨Ya, Yn, Yc⟩) ++ f4 (ys.drop bh)) from hr)
                have HRN := Lib.hid (show r.n = a + 1 + (En - bh) by rw [hrn]; dsimp only; omega)
                have NR := Lib.hid (show ∀ b, r.blk = some b → b ≠ B12 from fun b hb => by
                  rcases hrb b hb with e | e
                  · exact NR.out b e
                  · have := LT.out; omega)
                have LT := Lib.hid (show B12 < p6.heap.size from BT.out.lt)
                have GB := Lib.hid (cn.grown GB.out (fun b hb => by have := h5b b hb; have := HBZ.out.2; omega))
                have G2 := Lib.hid (cn.grown G2.out (fun b hb => by have := h5b b hb; have := HBZ.out.1; omega))
                clear hrn hr gr hrb cn h5b HZ5 hrn0
                obtain ⟨R17a, R17n, R17c⟩ := r
                dsimp only [Sl.v]
                refine hK.out _ _ ?_ (fun hHeld => ?_)
                · exact ⟨(BX.out.grown G2.out).1.1, (BX.out.grown G2.out).1.2.1, (BX.out.grown G2.out).1.2.2, (F10.out.grown G2.out).1.1, (F10.out.grown G2.out).1.2.1, (F10.out.grown G2.out).1.2.2.1, (F10.out.grown G2.out).1.2.2.2⟩
                clear hK K
                try simp only [Act.put, List.setIfInBounds_toArray, List.set_cons_zero, List.set_cons_succ]
                refine takeL (i := 18) (v := ?_) rfl (by kernel_rfl) (by kernel_rfl) (by kernel_rfl) (fun _ _ _ h => h) (Or.inl ⟨by rfl, ?_⟩) (by assumption) ?_
                rotate_left 1
                · intro w hSw; obtain ⟨s0, s1, s2, q0, q1, q2, q3⟩ := hSw; first | (go_simp; done) | (go_simp; with_reducible rfl)
                try simp only [Act.put, List.setIfInBounds_toArray, List.set_cons_zero, List.set_cons_succ]
                have hLX : ∀ b ∈ B12 :: B8 :: L2, b ∈ B8 :: L2 ∨ wl.heap.size ≤ b := fun b hb => by
                  rcases List.mem_cons.1 hb with e | hb
                  · right; have h1 := LB.out; have h2 := HBZ.out.1; omega
                  · exact .inl hb
                have EL17 := Lib.hid (ins_row4 (L := B12 :: B8 :: L2) HYS.out (fun y hy => (HYV.out y hy).step (M := []) (Chg.refl _ _) (fun _ h => by cases h) hLX) (TLY.out.step (M := []) (Chg.refl _ _) (fun _ h => by cases h) hLX) G2.out R17.out (fun b hb hm => by
                  rcases List.mem_cons.1 hm with e | hm
                  · exact NR.out b hb e
                  · have h1 := (R17.out.blk b hb).1; have h2 := HLB.out b hm; omega))
                clear hLX
                obtain ⟨⟨m0, m1, m2⟩, mf⟩ := BT.out
                have f0 := mf 0
                have f1 := mf 1
                have f2 := mf 2
                clear mf
                refine wpAnyH_ready (rs := [20]) (by kernel_rfl) (by simp) (consL rfl (fun K hK => ?_) AllReadyH.nil)
                go_simp
                have gs : Chg [B12] p6 (((p6.setCell ⟨B12, 0, none⟩ (.int .i64 win)).setCell ⟨B12, 1, none⟩ (.slice Ta Tn Tc)).setCell ⟨B12, 2, none⟩ (.slice R17a R17n R17c)) := (((Chg.refl [B12] p6).set ⟨B12, 0, none⟩ (.int .i64 win) (by simp)).set ⟨B12, 1, none⟩ (.slice Ta Tn Tc) (by simp)).set ⟨B12, 2, none⟩ (.slice R17a R17n R17c) (by simp)
                have G2 := Lib.hid (gs.grown G2.out (fun b hb => by rw [List.mem_singleton] at hb; have h1 := LB.out; have h2 := HBZ.out.1; omega))
                have BT2 := Lib.hid (((BT.out.set0 (.int .i64 win)).set1 (.slice Ta Tn Tc)).set2 (.slice R17a R17n R17c))
                have EL2 := Lib.hid (EL17.out.step (L' := B8 :: L2) gs (fun b hb => .inl (by rw [List.mem_singleton] at hb; rw [hb]; exact List.mem_cons_self)) (fun b hb => .inl (List.mem_cons_of_mem _ hb)))
                clear m0 m1 m2 f0 f1 f2 gs
                refine hK.out _ _ ?_ (fun hHeld => ?_)
                · exact ⟨(BX.out.grown G2.out).1.1, (BX.out.grown G2.out).1.2.1, (BX.out.grown G2.out).1.2.2, (F10.out.grown G2.out).1.1, (F10.out.grown G2.out).1.2.1, (F10.out.grown G2.out).1.2.2.1, (F10.out.grown G2.out).1.2.2.2⟩
                clear hK K
                try simp only [Act.put, List.setIfInBounds_toArray, List.set_cons_zero, List.set_cons_succ]
                refine wpAnyH_done (by kernel_rfl) ?_ _
                go_wp2_with fail
                go_meet
                case rel => exact ⟨B12, ⟨R17a, R17n, R17c⟩, rfl, BT2, EL2, G2⟩
              · go_simp
                obtain ⟨B11, hB11⟩ : ∃ b, b = p2.heap.size := ⟨_, rfl⟩
                obtain ⟨p3, hp3⟩ : ∃ z, z = p2.alloc (Obj.cells #[.int .i64 yst, .int .i64 yep, .int .i64 ynx, .slice Ya Yn Yc] 61) := ⟨_, rfl⟩
                rw [← hp3, ← hB11]
                have gn : p2.grownBy p3 none := by subst hp3; exact grown_alloc _ _ _
                have R4 := Lib.hid (R4.out.grown gn)
                have BT := Lib.hid (BT.out.grown gn)
                have C11 := Lib.hid (show OR bz p3 61 4 ⟨some ⟨B11, 0, none⟩, 1, 1⟩ (ecs (⟨yst, yep, ynx, yhe⟩, ⟨Ya, Yn, Yc⟩)) from by subst hp3; subst hB11; exact (or_lit4 p2 (⟨yst, yep, ynx, yhe⟩, ⟨Ya, Yn, Yc⟩)).base_ (by have := GB.out.size; have := HBZ.out.2; omega))
                have N4 := Lib.hid (show B4 ≠ B11 by have := L4.out; omega)
                have LT := Lib.hid (show B12 < p3.heap.size from BT.out.lt)
                have GB := Lib.hid (grown_trans GB.out gn)
                have G2 := Lib.hid (grown_trans G2.out gn)
                clear gn hp3 hB11
                refine hK.out _ _ ?_ (fun hHeld => ?_)
                · exact ⟨(BX.out.grown G2.out).1.1, (BX.out.grown G2.out).1.2.1, (BX.out.grown G2.out).1.2.2, (F10.out.grown G2.out).1.1, (F10.out.grown G2.out).1.2.1, (F10.out.grown G2.out).1.2.2.1, (F10.out.grown G2.out).1.2.2.2⟩
                clear hK K
                try simp only [Act.put, List.setIfInBounds_toArray, List.set_cons_zero, List.set_cons_succ]
                refine wpAnyH_ready (rs := [9]) (by kernel_rfl) (by simp) (consL rfl (fun K hK => ?_) AllReadyH.nil)
                have HC5 := Lib.hid (cr4_take (c' := Ec) (a := a) (HCR.out.grown G2.out))
                have HZ5 := Lib.hid (show bz ≤ p3.heap.size by have := GB.out.size; have := HBZ.out.2; omega)
                refine step_appV rfl (.tmp 85) (.tmp 89) 27 rfl (S := ⟨some ⟨B4, 0, none⟩, 0, 0⟩) (V := ⟨Ea, a, Ec⟩) Try.underlying27 hI hz hsz hby (by rfl) (by omega) rfl rfl R4.out HZ5.out HL5.out HC5.out (f4_one _) (by dsimp only; omega) (by dsimp only; omega) ?_
                intro r p4 hrn hr gr hrb
                have cn : Chg (Sl.blk ⟨some ⟨B4, 0, none⟩, 0, 0⟩).toList p3 p4 := Chg.of gr (fun b hb => by simpa using hb)
                have h5b := fun b (hb : b ∈ (Sl.blk ⟨some ⟨B4, 0, none⟩, 0, 0⟩).toList) => (R4.out.blk b (by simpa using hb)).1
                have C11 := Lib.hid (C11.out.chg cn (fun b hb hm => by
                  have e1 : b = B4 := by simpa [Sl.blk] using hm
                  have e2 : B11 = b := by simpa [Sl.blk] using hb
                  exact N4.out (by omega)))
                have BT := Lib.hid (BT.out.step cn (fun hm => NR.out _ (by simpa using hm) rfl))
                have R9 := Lib.hid (show OR bz p4 61 4 r (f4 (ys.take a)) from hr)
                have HRN := Lib.hid (show r.n = a by rw [hrn]; dsimp only; omega)
                have NR := Lib.hid (show ∀ b, r.blk = some b → b ≠ B12 from fun b hb => by
                  rcases hrb b hb with e | e
                  · exact NR.out b e
                  · have := LT.out; omega)
                have LT := Lib.hid (show B12 < p4.heap.size from BT.out.lt)
                have GB := Lib.hid (cn.grown GB.out (fun b hb => by have := h5b b hb; have := HBZ.out.2; omega))
                have G2 := Lib.hid (cn.grown G2.out (fun b hb => by have := h5b b hb; have := HBZ.out.1; omega))
                clear hrn hr gr hrb cn h5b HZ5
                obtain ⟨R9a, R9n, R9c⟩ := r
                dsimp only [Sl.v]
                refine hK.out _ _ ?_ (fun hHeld => ?_)
                · exact ⟨(BX.out.grown G2.out).1.1, (BX.out.grown G2.out).1.2.1, (BX.out.grown G2.out).1.2.2, (F10.out.grown G2.out).1.1, (F10.out.grown G2.out).1.2.1, (F10.out.grown G2.out).1.2.2.1, (F10.out.grown G2.out).1.2.2.2⟩
                clear hK K
                try simp only [Act.put, List.setIfInBounds_toArray, List.set_cons_zero, List.set_cons_succ]
                refine wpAnyH_ready (rs := [12]) (by kernel_rfl) (by simp) (consL rfl (fun K hK => ?_) AllReadyH.nil)
                have HZ5 := Lib.hid (show bz ≤ p4.heap.size by have := GB.out.size; have := HBZ.out.2; omega)
                have hrn0 := HRN.out
                dsimp only at hrn0
                refine step_appV rfl (.tmp 90) (.tmp 92) 27 rfl (S := ⟨R9a, R9n, R9c⟩) (V := ⟨some ⟨B11, 0, none⟩, 1, 1⟩) Try.underlying27 hI hz hsz hby (by rfl) (by omega) rfl rfl R9.out HZ5.out C11.out.len C11.out.cr (ecs_one _) (by dsimp only; omega) (by dsimp only; omega) ?_
                intro r p5 hrn hr gr hrb
                have cn : Chg (Sl.blk ⟨R9a, R9n, R9c⟩).toList p4 p5 := Chg.of gr (fun b hb => by simpa using hb)
                have h5b := fun b (hb : b ∈ (Sl.blk ⟨R9a, R9n, R9c⟩).toList) => (R9.out.blk b (by simpa using hb)).1
                have BT := Lib.hid (BT.out.step cn (fun hm => NR.out _ (by simpa using hm) rfl))
                have R12 := Lib.hid (show OR bz p5 61 4 r (f4 (ys.take a) ++ ecs (⟨yst, yep, ynx, yhe⟩, ⟨Ya, Yn, Yc⟩)) from hr)
                have HRN := Lib.hid (show r.n = a + 1 by rw [hrn]; dsimp only; omega)
                have NR := Lib.hid (show ∀ b, r.blk = some b → b ≠ B12 from fun b hb => by
                  rcases hrb b hb with e | e
                  · exact NR.out b e
                  · have := LT.out; omega)
                have LT := Lib.hid (show B12 < p5.heap.size from BT.out.lt)
                have GB := Lib.hid (cn.grown GB.out (fun b hb => by have := h5b b hb; have := HBZ.out.2; omega))
                have G2 := Lib.hid (cn.grown G2.out (fun b hb => by have := h5b b hb; have := HBZ.out.1; omega))
                clear hrn hr gr hrb cn h5b HZ5 hrn0
                obtain ⟨R12a, R12n, R12c⟩ := r
                dsimp only [Sl.v]
                refine hK.out _ _ ?_ (fun hHeld => ?_)
                · exact ⟨(BX.out.grown G2.out).1.1, (BX.out.grown G2.out).1.2.1, (BX.out.grown G2.out).1.2.2, (F10.out.grown G2.out).1.1, (F10.out.grown G2.out).1.2.1, (F10.out.grown G2.out).1.2.2.1, (F10.out.grown G2.out).1.2.2.2⟩
                clear hK K
                try simp only [Act.put, List.setIfInBounds_toArray, List.set_cons_zero, List.set_cons_succ]
                refine wpAnyH_ready (rs := [17]) (by kernel_rfl) (by simp) (consL rfl (fun K hK => ?_) AllReadyH.nil)
                have HCD := Lib.hid (HDR.out _ G2.out)
                have HZ5 := Lib.hid (show bz ≤ p5.heap.size by have := GB.out.size; have := HBZ.out.2; omega)
                have hrn0 := HRN.out
                dsimp only at hrn0
                refine step_appV rfl (.tmp 93) (.tmp 97) 27 rfl (S := ⟨R12a, R12n, R12c⟩) (V := ⟨ad, En - bh, Ec - bh⟩) Try.underlying27 hI hz hsz hby (by rfl) (by omega) rfl rfl R12.out HZ5.out HL13.out HCD.out (f4_one _) (by dsimp only; omega) (by dsimp only; omega) ?_
                intro r p6 hrn hr gr hrb
                have cn : Chg (Sl.blk ⟨R12a, R12n, R12c⟩).toList p5 p6 := Chg.of gr (fun b hb => by simpa using hb)
                have h5b := fun b (hb : b ∈ (Sl.blk ⟨R12a, R12n, R12c⟩).toList) => (R12.out.blk b (by simpa using hb)).1
                have BT := Lib.hid (BT.out.step cn (fun hm => NR.out _ (by simpa using hm) rfl))
                have R17 := Lib.hid (show OR bz p6 61 4 r (f4 (ys.take a) ++ ecs (⟨yst, yep, ynx, yhe⟩, ⟨Ya, Yn, Yc⟩) ++ f4 (ys.drop bh)) from hr)
                have HRN := Lib.hid (show r.n = a + 1 + (En - bh) by rw [hrn]; dsimp only; omega)
                have NR := Lib.hid (show ∀ b, r.blk = some b → b ≠ B12 from fun b hb => by
                  rcases hrb b hb with e | e
                  · exact NR.out b e
                  · have := LT.out; omega)
                have LT := Lib.hid (show B12 < p6.heap.size from BT.out.lt)
                have GB := Lib.hid (cn.grown GB.out (fun b hb => by have := h5b b hb; have := HBZ.out.2; omega))
                have G2 := Lib.hid (cn.grown G2.out (fun b hb => by have := h5b b hb; have := HBZ.out.1; omega))
                clear hrn hr gr hrb cn h5b HZ5 hrn0
                obtain ⟨R17a, R17n, R17c⟩ := r
                dsimp only [Sl.v]
                refine hK.out _ _ ?_ (fun hHeld => ?_)
                · exact ⟨(BX.out.grown G2.out).1.1, (BX.out.grown G2.out).1.2.1, (BX.out.grown G2.out).1.2.2, (F10.out.grown G2.out).1.1, (F10.out.grown G2.out).1.2.1, (F10.out.grown G2.out).1.2.2.1, (F10.out.grown G2.out).1.2.2.2⟩
                clear hK K
                try simp only [Act.put, List.setIfInBounds_toArray, List.set_cons_zero, List.set_cons_succ]
                refine takeL (i := 18) (v := ?_) rfl (by kernel_rfl) (by kernel_rfl) (by kernel_rfl) (fun _ _ _ h => h) (Or.inl ⟨by rfl, ?_⟩) (by assumption) ?_
                rotate_left 1
                · intro w hSw; obtain ⟨s0, s1, s2, q0, q1, q2, q3⟩ := hSw; first | (go_simp; done) | (go_simp; with_reducible rfl)
                try simp only [Act.put, List.setIfInBounds_toArray, List.set_cons_zero, List.set_cons_succ]
                have hLX : ∀ b ∈ B12 :: B8 :: L2, b ∈ B8 :: L2 ∨ wl.heap.size ≤ b := fun b hb => by
                  rcases List.mem_cons.1 hb with e | hb
                  · right; have h1 := LB.out; have h2 := HBZ.out.1; omega
                  · exact .inl hb
                have EL17 := Lib.hid (ins_row4 (L := B12 :: B8 :: L2) HYS.out (fun y hy => (HYV.out y hy).step (M := []) (Chg.refl _ _) (fun _ h => by cases h) hLX) (TLY.out.step (M := []) (Chg.refl _ _) (fun _ h => by cases h) hLX) G2.out R17.out (fun b hb hm => by
                  rcases List.mem_cons.1 hm with e | hm
                  · exact NR.out b hb e
                  · have h1 := (R17.out.blk b hb).1; have h2 := HLB.out b hm; omega))
                clear hLX
                obtain ⟨⟨m0, m1, m2⟩, mf⟩ := BT.out
                have f0 := mf 0
                have f1 := mf 1
                have f2 := mf 2
                clear mf
                refine wpAnyH_ready (rs := [20]) (by kernel_rfl) (by simp) (consL rfl (fun K hK => ?_) AllReadyH.nil)
                go_simp
                have gs : Chg [B12] p6 (((p6.setCell ⟨B12, 0, none⟩ (.int .i64 win)).setCell ⟨B12, 1, none⟩ (.slice Ta Tn Tc)).setCell ⟨B12, 2, none⟩ (.slice R17a R17n R17c)) := (((Chg.refl [B12] p6).set ⟨B12, 0, none⟩ (.int .i64 win) (by simp)).set ⟨B12, 1, none⟩ (.slice Ta Tn Tc) (by simp)).set ⟨B12, 2, none⟩ (.slice R17a R17n R17c) (by simp)
                have G2 := Lib.hid (gs.grown G2.out (fun b hb => by rw [List.mem_singleton] at hb; have h1 := LB.out; have h2 := HBZ.out.1; omega))
                have BT2 := Lib.hid (((BT.out.set0 (.int .i64 win)).set1 (.slice Ta Tn Tc)).set2 (.slice R17a R17n R17c))
                have EL2 := Lib.hid (EL17.out.step (L' := B8 :: L2) gs (fun b hb => .inl (by rw [List.mem_singleton] at hb; rw [hb]; exact List.mem_cons_self)) (fun b hb => .inl (List.mem_cons_of_mem _ hb)))
                clear m0 m1 m2 f0 f1 f2 gs
                refine hK.out _ _ ?_ (fun hHeld => ?_)
                · exact ⟨(BX.out.grown G2.out).1.1, (BX.out.grown G2.out).1.2.1, (BX.out.grown G2.out).1.2.2, (F10.out.grown G2.out).1.1, (F10.out.grown G2.out).1.2.1, (F10.out.grown G2.out).1.2.2.1, (F10.out.grown G2.out).1.2.2.2⟩
                clear hK K
                try simp only [Act.put, List.setIfInBounds_toArray, List.set_cons_zero, List.set_cons_succ]
                refine wpAnyH_done (by kernel_rfl) ?_ _
                go_wp2_with fail
                go_meet
                case rel => exact ⟨B12, ⟨R17a, R17n, R17c⟩, rfl, BT2, EL2, G2⟩
          · go_simp
            obtain ⟨B11, hB11⟩ : ∃ b, b = wd.heap.size := ⟨_, rfl⟩
            obtain ⟨p1, hp1⟩ : ∃ z, z = wd.alloc (Obj.cells #[.int .i64 yst, .int .i64 yep, .int .i64 ynx, .slice Ya Yn Yc] 61) := ⟨_, rfl⟩
            rw [← hp1, ← hB11]
            have gn : wd.grownBy p1 none := by subst hp1; exact grown_alloc _ _ _
            have C11 := Lib.hid (show OR bz p1 61 4 ⟨some ⟨B11, 0, none⟩, 1, 1⟩ (ecs (⟨yst, yep, ynx, yhe⟩, ⟨Ya, Yn, Yc⟩)) from by subst hp1; subst hB11; exact (or_lit4 wd (⟨yst, yep, ynx, yhe⟩, ⟨Ya, Yn, Yc⟩)).base_ (by have := GB.out.size; have := HBZ.out.2; omega))
            have L11 := Lib.hid (show B11 < p1.heap.size from (C11.out.blk B11 rfl).2)
            have GB := Lib.hid (grown_trans GB.out gn)
            have G2 := Lib.hid (grown_trans G2.out gn)
            clear gn hp1 hB11
            refine hK.out _ _ ?_ (fun hHeld => ?_)
            · exact ⟨(BX.out.grown G2.out).1.1, (BX.out.grown G2.out).1.2.1, (BX.out.grown G2.out).1.2.2, (F10.out.grown G2.out).1.1, (F10.out.grown G2.out).1.2.1, (F10.out.grown G2.out).1.2.2.1, (F10.out.grown G2.out).1.2.2.2⟩
            clear hK K
            try simp only [Act.put, List.setIfInBounds_toArray, List.set_cons_zero, List.set_cons_succ]
            refine wpAnyH_ready (rs := [4, 19]) (by kernel_rfl) (by simp) (consL rfl (fun K hK => ?_) (consL rfl (fun K hK => ?_) AllReadyH.nil))
            · go_simp
              obtain ⟨B4, hB4⟩ : ∃ b, b = p1.heap.size := ⟨_, rfl⟩
              obtain ⟨p2, hp2⟩ : ∃ z, z = p1.alloc (Obj.cells #[] 61) := ⟨_, rfl⟩
              rw [← hp2, ← hB4]
              have gn : p1.grownBy p2 none := by subst hp2; exact grown_alloc _ _ _
              have C11 := Lib.hid (C11.out.grown gn)
              have R4 := Lib.hid (show OR bz p2 61 4 ⟨some ⟨B4, 0, none⟩, 0, 0⟩ [] from by subst hp2; subst hB4; exact (or_lit40 p1).base_ (by have := GB.out.size; have := HBZ.out.2; omega))
              have N4 := Lib.hid (show B4 ≠ B11 by have := L11.out; omega)
              have GB := Lib.hid (grown_trans GB.out gn)
              have G2 := Lib.hid (grown_trans G2.out gn)
              clear gn hp2 hB4
              refine hK.out _ _ ?_ (fun hHeld => ?_)
              · exact ⟨(BX.out.grown G2.out).1.1, (BX.out.grown G2.out).1.2.1, (BX.out.grown G2.out).1.2.2, (F10.out.grown G2.out).1.1, (F10.out.grown G2.out).1.2.1, (F10.out.grown G2.out).1.2.2.1, (F10.out.grown G2.out).1.2.2.2⟩
              clear hK K
              try simp only [Act.put, List.setIfInBounds_toArray, List.set_cons_zero, List.set_cons_succ]
              refine wpAnyH_ready (rs := [9, 19]) (by kernel_rfl) (by simp) (consL rfl (fun K hK => ?_) (consL rfl (fun K hK => ?_) AllReadyH.nil))
              · have HC5 := Lib.hid (cr4_take (c' := Ec) (a := a) (HCR.out.grown G2.out))
                have HZ5 := Lib.hid (show bz ≤ p2.heap.size by have := GB.out.size; have := HBZ.out.2; omega)
                refine step_appV rfl (.tmp 85) (.tmp 89) 27 rfl (S := ⟨some ⟨B4, 0, none⟩, 0, 0⟩) (V := ⟨Ea, a, Ec⟩) Try.underlying27 hI hz hsz hby (by rfl) (by omega) rfl rfl R4.out HZ5.out HL5.out HC5.out (f4_one _) (by dsimp only; omega) (by dsimp only; omega) ?_
                intro r p3 hrn hr gr hrb
                have cn : Chg (Sl.blk ⟨some ⟨B4, 0, none⟩, 0, 0⟩).toList p2 p3 := Chg.of gr (fun b hb => by simpa using hb)
                have h5b := fun b (hb : b ∈ (Sl.blk ⟨some ⟨B4, 0, none⟩, 0, 0⟩).toList) => (R4.out.blk b (by simpa using hb)).1
                have C11 := Lib.hid (C11.out.chg cn (fun b hb hm => by
                  have e1 : b = B4 := by simpa [Sl.blk] using hm
                  have e2 : B11 = b := by simpa [Sl.blk] using hb
                  exact N4.out (by omega)))
                have R9 := Lib.hid (show OR bz p3 61 4 r (f4 (ys.take a)) from hr)
                have HRN := Lib.hid (show r.n = a by rw [hrn]; dsimp only; omega)
                have GB := Lib.hid (cn.grown GB.out (fun b hb => by have := h5b b hb; have := HBZ.out.2; omega))
                have G2 := Lib.hid (cn.grown G2.out (fun b hb => by have := h5b b hb; have := HBZ.out.1; omega))
                clear hrn hr gr hrb cn h5b HZ5
                obtain ⟨R9a, R9n, R9c⟩ := r
                dsimp only [Sl.v]
                refine hK.out _ _ ?_ (fun hHeld => ?_)
                · exact ⟨(BX.out.grown G2.out).1.1, (BX.out.grown G2.out).1.2.1, (BX.out.grown G2.out).1.2.2, (F10.out.grown G2.out).1.1, (F10.out.grown G2.out).1.2.1, (F10.out.grown G2.out).1.2.2.1, (F10.out.grown G2.out).1.2.2.2⟩
                clear hK K
                try simp only [Act.put, List.setIfInBounds_toArray, List.set_cons_zero, List.set_cons_succ]
                refine wpAnyH_ready (rs := [12, 19]) (by kernel_rfl) (by simp) (consL rfl (fun K hK => ?_) (consL rfl (fun K hK => ?_) AllReadyH.nil))
                · have HZ5 := Lib.hid (show bz ≤ p3.heap.size by have := GB.out.size; have := HBZ.out.2; omega)
                  have hrn0 := HRN.out
                  dsimp only at hrn0
                  refine step_appV rfl (.tmp 90) (.tmp 92) 27 rfl (S := ⟨R9a, R9n, R9c⟩) (V := ⟨some ⟨B11, 0, none⟩, 1, 1⟩) Try.underlying27 hI hz hsz hby (by rfl) (by omega) rfl rfl R9.out HZ5.out C11.out.len C11.out.cr (ecs_one _) (by dsimp only; omega) (by dsimp only; omega) ?_
                  intro r p4 hrn hr gr hrb
                  have cn : Chg (Sl.blk ⟨R9a, R9n, R9c⟩).toList p3 p4 := Chg.of gr (fun b hb => by simpa using hb)
                  have h5b := fun b (hb : b ∈ (Sl.blk ⟨R9a, R9n, R9c⟩).toList) => (R9.out.blk b (by simpa using hb)).1
                  have R12 := Lib.hid (show OR bz p4 61 4 r (f4 (ys.take a) ++ ecs (⟨yst, yep, ynx, yhe⟩, ⟨Ya, Yn, Yc⟩)) from hr)
                  have HRN := Lib.hid (show r.n = a + 1 by rw [hrn]; dsimp only; omega)
                  have GB := Lib.hid (cn.grown GB.out (fun b hb => by have := h5b b hb; have := HBZ.out.2; omega))
                  have G2 := Lib.hid (cn.grown G2.out (fun b hb => by have := h5b b hb; have := HBZ.out.1; omega))
                  clear hrn hr gr hrb cn h5b HZ5 hrn0
                  obtain ⟨R12a, R12n, R12c⟩ := r
                  dsimp only [Sl.v]
                  refine hK.out _ _ ?_ (fun hHeld => ?_)
                  · exact ⟨(BX.out.grown G2.out).1.1, (BX.out.grown G2.out).1.2.1, (BX.out.grown G2.out).1.2.2, (F10.out.grown G2.out).1.1, (F10.out.grown G2.out).1.2.1, (F10.out.grown G2.out).1.2.2.1, (F10.out.grown G2.out).1.2.2.2⟩
                  clear hK K
                  try simp only [Act.put, List.setIfInBounds_toArray, List.set_cons_zero, List.set_cons_succ]
                  refine wpAnyH_ready (rs := [17, 19]) (by kernel_rfl) (by simp) (consL rfl (fun K hK => ?_) (consL rfl (fun K hK => ?_) AllReadyH.nil))
                  · have HCD := Lib.hid (HDR.out _ G2.out)
                    have HZ5 := Lib.hid (show bz ≤ p4.heap.size by have := GB.out.size; have := HBZ.out.2; omega)
                    have hrn0 := HRN.out
                    dsimp only at hrn0
                    refine step_appV rfl (.tmp 93) (.tmp 97) 27 rfl (S := ⟨R12a, R12n, R12c⟩) (V := ⟨ad, En - bh, Ec - bh⟩) Try.underlying27 hI hz hsz hby (by rfl) (by omega) rfl rfl R12.out HZ5.out HL13.out HCD.out (f4_one _) (by dsimp only; omega) (by dsimp only; omega) ?_
                    intro r p5 hrn hr gr hrb
                    have cn : Chg (Sl.blk ⟨R12a, R12n, R12c⟩).toList p4 p5 := Chg.of gr (fun b hb => by simpa using hb)
                    have h5b := fun b (hb : b ∈ (Sl.blk ⟨R12a, R12n, R12c⟩).toList) => (R12.out.blk b (by simpa using hb)).1
                    have R17 := Lib.hid (show OR bz p5 61 4 r (f4 (ys.take a) ++ ecs (⟨yst, yep, ynx, yhe⟩, ⟨Ya, Yn, Yc⟩) ++ f4 (ys.drop bh)) from hr)
                    have HRN := Lib.hid (show r.n = a + 1 + (En - bh) by rw [hrn]; dsimp only; omega)
                    have GB := Lib.hid (cn.grown GB.out (fun b hb => by have := h5b b hb; have := HBZ.out.2; omega))
                    have G2 := Lib.hid (cn.grown G2.out (fun b hb => by have := h5b b hb; have := HBZ.out.1; omega))
                    clear hrn hr gr hrb cn h5b HZ5 hrn0
                    obtain ⟨R17a, R17n, R17c⟩ := r
                    dsimp only [Sl.v]
                    refine hK.out _ _ ?_ (fun hHeld => ?_)
                    · exact ⟨(BX.out.grown G2.out).1.1, (BX.out.grown G2.out).1.2.1, (BX.out.grown G2.out).1.2.2, (F10.out.grown G2.out).1.1, (F10.out.grown G2.out).1.2.1, (F10.out.grown G2.out).1.2.2.1, (F10.out.grown G2.out).1.2.2.2⟩
                    clear hK K
                    try simp only [Act.put, List.setIfInBounds_toArray, List.set_cons_zero, List.set_cons_succ]
                    refine takeL (i := 18) (v := ?_) rfl (by kernel_rfl) (by kernel_rfl) (by kernel_rfl) (fun _ _ _ h => h) (Or.inl ⟨by rfl, ?_⟩) (by assumption) ?_
                    rotate_left 1
                    · intro w hSw; obtain ⟨s0, s1, s2, q0, q1, q2, q3⟩ := hSw; first | (go_simp; done) | (go_simp; with_reducible rfl)
                    try simp only [Act.put, List.setIfInBounds_toArray, List.set_cons_zero, List.set_cons_succ]
                    refine wpAnyH_ready (rs := [19]) (by kernel_rfl) (by simp) (consL rfl (fun K hK => ?_) AllReadyH.nil)
                    go_simp
                    obtain ⟨B12, hB12⟩ : ∃ b, b = p5.heap.size := ⟨_, rfl⟩
                    obtain ⟨p6, hp6⟩ : ∃ z, z = p5.alloc (Obj.cells #[.int .i64 0, .slice none 0 0, .slice none 0 0] 29) := ⟨_, rfl⟩
                    rw [← hp6, ← hB12]
                    have gn : p5.grownBy p6 none := by subst hp6; exact grown_alloc _ _ _
                    have BT := Lib.hid (show Tri p6 B12 (.int .i64 0) (.slice none 0 0) (.slice none 0 0) by subst hp6; subst hB12; exact tri_made _ _ _ _ _)
                    have LT := Lib.hid (show B12 < p6.heap.size from BT.out.lt)
                    have LB := Lib.hid (show bz ≤ B12 by have := GB.out.size; have := HBZ.out.2; omega)
                    have NR := Lib.hid (show ∀ b, Sl.blk ⟨R17a, R17n, R17c⟩ = some b → b ≠ B12 from fun b hb => by have := (R17.out.blk b hb).2; omega)
                    have R17 := Lib.hid (R17.out.grown gn)
                    have GB := Lib.hid (grown_trans GB.out gn)
                    have G2 := Lib.hid (grown_trans G2.out gn)
                    clear gn hp6 hB12
                    refine hK.out _ _ ?_ (fun hHeld => ?_)
                    · exact ⟨(BX.out.grown G2.out).1.1, (BX.out.grown G2.out).1.2.1, (BX.out.grown G2.out).1.2.2, (F10.out.grown G2.out).1.1, (F10.out.grown G2.out).1.2.1, (F10.out.grown G2.out).1.2.2.1, (F10.out.grown G2.out).1.2.2.2⟩
                    clear hK K
                    try simp only [Act.put, List.setIfInBounds_toArray, List.set_cons_zero, List.set_cons_succ]
                    have hLX : ∀ b ∈ B12 :: B8 :: L2, b ∈ B8 :: L2 ∨ wl.heap.size ≤ b := fun b hb => by
                      rcases List.mem_cons.1 hb with e | hb
                      · right; have h1 := LB.out; have h2 := HBZ.out.1; omega
                      · exact .inl hb
                    have EL17 := Lib.hid (ins_row4 (L := B12 :: B8 :: L2) HYS.out (fun y hy => (HYV.out y hy).step (M := []) (Chg.refl _ _) (fun _ h => by cases h) hLX) (TLY.out.step (M := []) (Chg.refl _ _) (fun _ h => by cases h) hLX) G2.out R17.out (fun b hb hm => by
                      rcases List.mem_cons.1 hm with e | hm
                      · exact NR.out b hb e
                      · have h1 := (R17.out.blk b hb).1; have h2 := HLB.out b hm; omega))
                    clear hLX
                    obtain ⟨⟨m0, m1, m2⟩, mf⟩ := BT.out
                    have f0 := mf 0
                    have f1 := mf 1
                    have f2 := mf 2
                    clear mf
                    refine wpAnyH_ready (rs := [20]) (by kernel_rfl) (by simp) (consL rfl (fun K hK => ?_) AllReadyH.nil)
                    go_simp
                    have gs : Chg [B12] p6 (((p6.setCell ⟨B12, 0, none⟩ (.int .i64 win)).setCell ⟨B12, 1, none⟩ (.slice Ta Tn Tc)).setCell ⟨B12, 2, none⟩ (.slice R17a R17n R17c)) := (((Chg.refl [B12] p6).set ⟨B12, 0, none⟩ (.int .i64 win) (by simp)).set ⟨B12, 1, none⟩ (.slice Ta Tn Tc) (by simp)).set ⟨B12, 2, none⟩ (.slice R17a R17n R17c) (by simp)
                    have G2 := Lib.hid (gs.grown G2.out (fun b hb => by rw [List.mem_singleton] at hb; have h1 := LB.out; have h2 := HBZ.out.1; omega))
                    have BT2 := Lib.hid (((BT.out.set0 (.int .i64 win)).set1 (.slice Ta Tn Tc)).set2 (.slice R17a R17n R17c))
                    have EL2 := Lib.hid (EL17.out.step (L' := B8 :: L2) gs (fun b hb => .inl (by rw [List.mem_singleton] at hb; rw [hb]; exact List.mem_cons_self)) (fun b hb => .inl (List.mem_cons_of_mem _ hb)))
                    clear m0 m1 m2 f0 f1 f2 gs
                    refine hK.out _ _ ?_ (fun hHeld => ?_)
                    · exact ⟨(BX.out.grown G2.out).1.1, (BX.out.grown G2.out).1.2.1, (BX.out.grown G2.out).1.2.2, (F10.out.grown G2.out).1.1, (F10.out.grown G2.out).1.2.1, (F10.out.grown G2.out).1.2.2.1, (F10.out.grown G2.out).1.2.2.2⟩
                    clear hK K
                    try simp only [Act.put, List.setIfInBounds_toArray, List.set_cons_zero, List.set_cons_succ]
                    refine wpAnyH_done (by kernel_rfl) ?_ _
                    go_wp2_with fail
                    go_meet
                    case rel => exact ⟨B12, ⟨R17a, R17n, R17c⟩, rfl, BT2, EL2, G2⟩
                  · go_simp
                    obtain ⟨B12, hB12⟩ : ∃ b, b = p4.heap.size := ⟨_, rfl⟩
                    obtain ⟨p5, hp5⟩ : ∃ z, z = p4.alloc (Obj.cells #[.int .i64 0, .slice none 0 0, .slice none 0 0] 29) := ⟨_, rfl⟩
                    rw [← hp5, ← hB12]
                    have gn : p4.grownBy p5 none := by subst hp5; exact grown_alloc _ _ _
                    have BT := Lib.hid (show Tri p5 B12 (.int .i64 0) (.slice none 0 0) (.slice none 0 0) by subst hp5; subst hB12; exact tri_made _ _ _ _ _)
                    have LT := Lib.hid (show B12 < p5.heap.size from BT.out.lt)
                    have LB := Lib.hid (show bz ≤ B12 by have := GB.out.size; have := HBZ.out.2; omega)
                    have NR := Lib.hid (show ∀ b, Sl.blk ⟨R12a, R12n, R12c⟩ = some b → b ≠ B12 from fun b hb => by have := (R12.out.blk b hb).2; omega)
                    have R12 := Lib.hid (R12.out.grown gn)
                    have GB := Lib.hid (grown_trans GB.out gn)
                    have G2 := Lib.hid (grown_trans G2.out gn)
                    clear gn hp5 hB12
                    refine hK.out _ _ ?_ (fun hHeld => ?_)
                    · exact ⟨(BX.out.grown G2.out).1.1, (BX.out.grown G2.out).1.2.1, (BX.out.grown G2.out).1.2.2, (F10.out.grown G2.out).1.1, (F10.out.grown G2.out).1.2.1, (F10.out.grown G2.out).1.2.2.1, (F10.out.grown G2.out).1.2.2.2⟩
                    clear hK K
                    try simp only [Act.put, List.setIfInBounds_toArray, List.set_cons_zero, List.set_cons_succ]
                    refine wpAnyH_ready (rs := [17]) (by kernel_rfl) (by simp) (consL rfl (fun K hK => ?_) AllReadyH.nil)
                    have HCD := Lib.hid (HDR.out _ G2.out)
                    have HZ5 := Lib.hid (show bz ≤ p5.heap.size by have := GB.out.size; have := HBZ.out.2; omega)
                    have hrn0 := HRN.out
                    dsimp only at hrn0
                    refine step_appV rfl (.tmp 93) (.tmp 97) 27 rfl (S := ⟨R12a, R12n, R12c⟩) (V := ⟨ad, En - bh, Ec - bh⟩) Try.underlying27 hI hz hsz hby (by rfl) (by omega) rfl rfl R12.out HZ5.out HL13.out HCD.out (f4_one _) (by dsimp only; omega) (by dsimp only; omega) ?_
                    intro r p6 hrn hr gr hrb
                    have cn : Chg (Sl.blk ⟨R12a, R12n, R12c⟩).toList p5 p6 := Chg.of gr (fun b hb => by simpa using hb)
                    have h5b := fun b (hb : b ∈ (Sl.blk ⟨R12a, R12n, R12c⟩).toList) => (R12.out.blk b (by simpa using hb)).1
                    have BT := Lib.hid (BT.out.step cn (fun hm => NR.out _ (by simpa using hm) rfl))
                    have R17 := Lib.hid (show OR bz p6 61 4 r (f4 (ys.take a) ++ ecs (⟨yst, yep, ynx, yhe⟩, ⟨Ya, Yn, Yc⟩) ++ f4 (ys.drop bh)) from hr)
                    have HRN := Lib.hid (show r.n = a + 1 + (En - bh) by rw [hrn]; dsimp only; omega)
                    have NR := Lib.hid (show ∀ b, r.blk = some b → b ≠ B12 from fun b hb => by
                      rcases hrb b hb with e | e
                      · exact NR.out b e
                      · have := LT.out; omega)
                    have LT := Lib.hid (show B12 < p6.heap.size from BT.out.lt)
                    have GB := Lib.hid (cn.grown GB.out (fun b hb => by have := h5b b hb; have := HBZ.out.2; omega))
                    have G2 := Lib.hid (cn.grown G2.out (fun b hb => by have := h5b b hb; have := HBZ.out.1; omega))
                    clear hrn hr gr hrb cn h5b HZ5 hrn0
                    obtain ⟨R17a, R17n, R17c⟩ := r
                    dsimp only [Sl.v]
                    refine hK.out _ _ ?_ (fun hHeld => ?_)
                    · exact ⟨(BX.out.grown G2.out).1.1, (BX.out.grown G2.out).1.2.1, (BX.out.grown G2.out).1.2.2, (F10.out.grown G2.out).1.1, (F10.out.grown G2.out).1.2.1, (F10.out.grown G2.out).1.2.2.1, (F10.out.grown G2.out).1.2.2.2⟩
                    clear hK K
                    try simp only [Act.put, List.setIfInBounds_toArray, List.set_cons_zero, List.set_cons_succ]
                    refine takeL (i := 18) (v := ?_) rfl (by kernel_rfl) (by kernel_rfl) (by kernel_rfl) (fun _ _ _ h => h) (Or.inl ⟨by rfl, ?_⟩) (by assumption) ?_
                    rotate_left 1
                    · intro w hSw; obtain ⟨s0, s1, s2, q0, q1, q2, q3⟩ := hSw; first | (go_simp; done) | (go_simp; with_reducible rfl)
                    try simp only [Act.put, List.setIfInBounds_toArray, List.set_cons_zero, List.set_cons_succ]
                    have hLX : ∀ b ∈ B12 :: B8 :: L2, b ∈ B8 :: L2 ∨ wl.heap.size ≤ b := fun b hb => by
                      rcases List.mem_cons.1 hb with e | hb
                      · right; have h1 := LB.out; have h2 := HBZ.out.1; omega
                      · exact .inl hb
                    have EL17 := Lib.hid (ins_row4 (L := B12 :: B8 :: L2) HYS.out (fun y hy => (HYV.out y hy).step (M := []) (Chg.refl _ _) (fun _ h => by cases h) hLX) (TLY.out.step (M := []) (Chg.refl _ _) (fun _ h => by cases h) hLX) G2.out R17.out (fun b hb hm => by
                      rcases List.mem_cons.1 hm with e | hm
                      · exact NR.out b hb e
                      · have h1 := (R17.out.blk b hb).1; have h2 := HLB.out b hm; omega))
                    clear hLX
                    obtain ⟨⟨m0, m1, m2⟩, mf⟩ := BT.out
                    have f0 := mf 0
                    have f1 := mf 1
                    have f2 := mf 2
                    clear mf
                    refine wpAnyH_ready (rs := [20]) (by kernel_rfl) (by simp) (consL rfl (fun K hK => ?_) AllReadyH.nil)
                    go_simp
                    have gs : Chg [B12] p6 (((p6.setCell ⟨B12, 0, none⟩ (.int .i64 win)).setCell ⟨B12, 1, none⟩ (.slice Ta Tn Tc)).setCell ⟨B12, 2, none⟩ (.slice R17a R17n R17c)) := (((Chg.refl [B12] p6).set ⟨B12, 0, none⟩ (.int .i64 win) (by simp)).set ⟨B12, 1, none⟩ (.slice Ta Tn Tc) (by simp)).set ⟨B12, 2, none⟩ (.slice R17a R17n R17c) (by simp)
                    have G2 := Lib.hid (gs.grown G2.out (fun b hb => by rw [List.mem_singleton] at hb; have h1 := LB.out; have h2 := HBZ.out.1; omega))
                    have BT2 := Lib.hid (((BT.out.set0 (.int .i64 win)).set1 (.slice Ta Tn Tc)).set2 (.slice R17a R17n R17c))
                    have EL2 := Lib.hid (EL17.out.step (L' := B8 :: L2) gs (fun b hb => .inl (by rw [List.mem_singleton] at hb; rw [hb]; exact List.mem_cons_self)) (fun b hb => .inl (List.mem_cons_of_mem _ hb)))
                    clear m0 m1 m2 f0 f1 f2 gs
                    refine hK.out _ _ ?_ (fun hHeld => ?_)
                    · exact ⟨(BX.out.grown G2.out).1.1, (BX.out.grown G2.out).1.2.1, (BX.out.grown G2.out).1.2.2, (F10.out.grown G2.out).1.1, (F10.out.grown G2.out).1.2.1, (F10.out.grown G2.out).1.2.2.1, (F10.out.grown G2.out).1.2.2.2⟩
                    clear hK K
                    try simp only [Act.put, List.setIfInBounds_toArray, List.set_cons_zero, List.set_cons_succ]
                    refine wpAnyH_done (by kernel_rfl) ?_ _
                    go_wp2_with fail
                    go_meet
                    case rel => exact ⟨B12, ⟨R17a, R17n, R17c⟩, rfl, BT2, EL2, G2⟩
                · go_simp
                  obtain ⟨B12, hB12⟩ : ∃ b, b = p3.heap.size := ⟨_, rfl⟩
                  obtain ⟨p4, hp4⟩ : ∃ z, z = p3.alloc (Obj.cells #[.int .i64 0, .slice none 0 0, .slice none 0 0] 29) := ⟨_, rfl⟩
                  rw [← hp4, ← hB12]
                  have gn : p3.grownBy p4 none := by subst hp4; exact grown_alloc _ _ _
                  have BT := Lib.hid (show Tri p4 B12 (.int .i64 0) (.slice none 0 0) (.slice none 0 0) by subst hp4; subst hB12; exact tri_made _ _ _ _ _)
                  have LT := Lib.hid (show B12 < p4.heap.size from BT.out.lt)
                  have LB := Lib.hid (show bz ≤ B12 by have := GB.out.size; have := HBZ.out.2; omega)
                  have NR := Lib.hid (show ∀ b, Sl.blk ⟨R9a, R9n, R9c⟩ = some b → b ≠ B12 from fun b hb => by have := (R9.out.blk b hb).2; omega)
                  have R9 := Lib.hid (R9.out.grown gn)
                  have C11 := Lib.hid (C11.out.grown gn)
                  have GB := Lib.hid (grown_trans GB.out gn)
                  have G2 := Lib.hid (grown_trans G2.out gn)
                  clear gn hp4 hB12
                  refine hK.out _ _ ?_ (fun hHeld => ?_)
                  · exact ⟨(BX.out.grown G2.out).1.1, (BX.out.grown G2.out).1.2.1, (BX.out.grown G2.out).1.2.2, (F10.out.grown G2.out).1.1, (F10.out.grown G2.out).1.2.1, (F10.out.grown G2.out).1.2.2.1, (F10.out.grown G2.out).1.2.2.2⟩
                  clear hK K
                  try simp only [Act.put, List.setIfInBounds_toArray, List.set_cons_zero, List.set_cons_succ]
                  refine wpAnyH_ready (rs := [12]) (by kernel_rfl) (by simp) (consL rfl (fun K hK => ?_) AllReadyH.nil)
                  have HZ5 := Lib.hid (show bz ≤ p4.heap.size by have := GB.out.size; have := HBZ.out.2; omega)
                  have hrn0 := HRN.out
                  dsimp only at hrn0
                  refine step_appV rfl (.tmp 90) (.tmp 92) 27 rfl (S := ⟨R9a, R9n, R9c⟩) (V := ⟨some ⟨B11, 0, none⟩, 1, 1⟩) Try.underlying27 hI hz hsz hby (by rfl) (by omega) rfl rfl R9.out HZ5.out C11.out.len C11.out.cr (ecs_one _) (by dsimp only; omega) (by dsimp only; omega) ?_
                  intro r p5 hrn hr gr hrb
                  have cn : Chg (Sl.blk ⟨R9a, R9n, R9c⟩).toList p4 p5 := Chg.of gr (fun b hb => by simpa using hb)
                  have h5b := fun b (hb : b ∈ (Sl.blk ⟨R9a, R9n, R9c⟩).toList) => (R9.out.blk b (by simpa using hb)).1
                  have BT := Lib.hid (BT.out.step cn (fun hm => NR.out _ (by simpa using hm) rfl))
                  have R12 := Lib.hid (show OR bz p5 61 4 r (f4 (ys.take a) ++ ecs (⟨yst, yep, ynx, yhe⟩, ⟨Ya, Yn, Yc⟩)) from hr)
                  have HRN := Lib.hid (show r.n = a + 1 by rw [hrn]; dsimp only; omega)
                  have NR := Lib.hid (show ∀ b, r.blk = some b → b ≠ B12 from fun b hb => by
                    rcases hrb b hb with e | e
                    · exact NR.out b e
                    · have := LT.out; omega)
                  have LT := Lib.hid (show B12 < p5.heap.size from BT.out.lt)
                  have GB := Lib.hid (cn.grown GB.out (fun b hb => by have := h5b b hb; have := HBZ.out.2; omega))
                  have G2 := Lib.hid (cn.grown G2.out (fun b hb => by have := h5b b hb; have := HBZ.out.1; omega))
                  clear hrn hr gr hrb cn h5b HZ5 hrn0
                  obtain ⟨R12a, R12n, R12c⟩ := r
                  dsimp only [Sl.v]
                  refine hK.out _ _ ?_ (fun hHeld => ?_)
                  · exact ⟨(BX.out.grown G2.out).1.1, (BX.out.grown G2.out).1.2.1, (BX.out.grown G2.out).1.2.2, (F10.out.grown G2.out).1.1, (F10.out.grown G2.out).1.2.1, (F10.out.grown G2.out).1.2.2.1, (F10.out.grown G2.out).1.2.2.2⟩
                  clear hK K
                  try simp only [Act.put, List.setIfInBounds_toArray, List.set_cons_zero, List.set_cons_succ]
                  refine wpAnyH_ready (rs := [17]) (by kernel_rfl) (by simp) (consL rfl (fun K hK => ?_) AllReadyH.nil)
                  have HCD := Lib.hid (HDR.out _ G2.out)
                  have HZ5 := Lib.hid (show bz ≤ p5.heap.size by have := GB.out.size; have := HBZ.out.2; omega)
                  have hrn0 := HRN.out
                  dsimp only at hrn0
                  refine step_appV rfl (.tmp 93) (.tmp 97) 27 rfl (S := ⟨R12a, R12n, R12c⟩) (V := ⟨ad, En - bh, Ec - bh⟩) Try.underlying27 hI hz hsz hby (by rfl) (by omega) rfl rfl R12.out HZ5.out HL13.out HCD.out (f4_one _) (by dsimp only; omega) (by dsimp only; omega) ?_
                  intro r p6 hrn hr gr hrb
                  have cn : Chg (Sl.blk ⟨R12a, R12n, R12c⟩).toList p5 p6 := Chg.of gr (fun b hb => by simpa using hb)
                  have h5b := fun b (hb : b ∈ (Sl.blk ⟨R12a, R12n, R12c⟩).toList) => (R12.out.blk b (by simpa using hb)).1
                  have BT := Lib.hid (BT.out.step cn (fun hm => NR.out _ (by simpa using hm) rfl))
                  have R17 := Lib.hid (show OR bz p6 61 4 r (f4 (ys.take a) ++ ecs (⟨yst, yep, ynx, yhe⟩, ⟨Ya, Yn, Yc⟩) ++ f4 (ys.drop bh)) from hr)
                  have HRN := Lib.hid (show r.n = a + 1 + (En - bh) by rw [hrn]; dsimp only; omega)
                  have NR := Lib.hid (show ∀ b, r.blk = some b → b ≠ B12 from fun b hb => by
                    rcases hrb b hb with e | e
                    · exact NR.out b e
                    · have := LT.out; omega)
                  have LT := Lib.hid (show B12 < p6.heap.size from BT.out.lt)
                  have GB := Lib.hid (cn.grown GB.out (fun b hb => by have := h5b b hb; have := HBZ.out.2; omega))
                  have G2 := Lib.hid (cn.grown G2.out (fun b hb => by have := h5b b hb; have := HBZ.out.1; omega))
                  clear hrn hr gr hrb cn h5b HZ5 hrn0
                  obtain ⟨R17a, R17n, R17c⟩ := r
                  dsimp only [Sl.v]
                  refine hK.out _ _ ?_ (fun hHeld => ?_)
                  · exact ⟨(BX.out.grown G2.out).1.1, (BX.out.grown G2.out).1.2.1, (BX.out.grown G2.out).1.2.2, (F10.out.grown G2.out).1.1, (F10.out.grown G2.out).1.2.1, (F10.out.grown G2.out).1.2.2.1, (F10.out.grown G2.out).1.2.2.2⟩
                  clear hK K
                  try simp only [Act.put, List.setIfInBounds_toArray, List.set_cons_zero, List.set_cons_succ]
                  refine takeL (i := 18) (v := ?_) rfl (by kernel_rfl) (by kernel_rfl) (by kernel_rfl) (fun _ _ _ h => h) (Or.inl ⟨by rfl, ?_⟩) (by assumption) ?_
                  rotate_left 1
                  · intro w hSw; obtain ⟨s0, s1, s2, q0, q1, q2, q3⟩ := hSw; first | (go_simp; done) | (go_simp; with_reducible rfl)
                  try simp only [Act.put, List.setIfInBounds_toArray, List.set_cons_zero, List.set_cons_succ]
                  have hLX : ∀ b ∈ B12 :: B8 :: L2, b ∈ B8 :: L2 ∨ wl.heap.size ≤ b := fun b hb => by
                    rcases List.mem_cons.1 hb with e | hb
                    · right; have h1 := LB.out; have h2 := HBZ.out.1; omega
                    · exact .inl hb
                  have EL17 := Lib.hid (ins_row4 (L := B12 :: B8 :: L2) HYS.out (fun y hy => (HYV.out y hy).step (M := []) (Chg.refl _ _) (fun _ h => by cases h) hLX) (TLY.out.step (M := []) (Chg.refl _ _) (fun _ h => by cases h) hLX) G2.out R17.out (fun b hb hm => by
                    rcases List.mem_cons.1 hm with e | hm
                    · exact NR.out b hb e
                    · have h1 := (R17.out.blk b hb).1; have h2 := HLB.out b hm; omega))
                  clear hLX
                  obtain ⟨⟨m0, m1, m2⟩, mf⟩ := BT.out
                  have f0 := mf 0
                  have f1 := mf 1
                  have f2 := mf 2
                  clear mf
                  refine wpAnyH_ready (rs := [20]) (by kernel_rfl) (by simp) (consL rfl (fun K hK => ?_) AllReadyH.nil)
                  go_simp
                  have gs : Chg [B12] p6 (((p6.setCell ⟨B12, 0, none⟩ (.int .i64 win)).setCell ⟨B12, 1, none⟩ (.slice Ta Tn Tc)).setCell ⟨B12, 2, none⟩ (.slice R17a R17n R17c)) := (((Chg.refl [B12] p6).set ⟨B12, 0, none⟩ (.int .i64 win) (by simp)).set ⟨B12, 1, none⟩ (.slice Ta Tn Tc) (by simp)).set ⟨B12, 2, none⟩ (.slice R17a R17n R17c) (by simp)
                  have G2 := Lib.hid (gs.grown G2.out (fun b hb => by rw [List.mem_singleton] at hb; have h1 := LB.out; have h2 := HBZ.out.1; omega))
                  have BT2 := Lib.hid (((BT.out.set0 (.int .i64 win)).set1 (.slice Ta Tn Tc)).set2 (.slice R17a R17n R17c))
                  have EL2 := Lib.hid (EL17.out.step (L' := B8 :: L2) gs (fun b hb => .inl (by rw [List.mem_singleton] at hb; rw [hb]; exact List.mem_cons_self)) (fun b hb => .inl (List.mem_cons_of_mem _ hb)))
                  clear m0 m1 m2 f0 f1 f2 gs
                  refine hK.out _ _ ?_ (fun hHeld => ?_)
                  · exact ⟨(BX.out.grown G2.out).1.1, (BX.out.grown G2.out).1.2.1, (BX.out.grown G2.out).1.2.2, (F10.out.grown G2.out).1.1, (F10.out.grown G2.out).1.2.1, (F10.out.grown G2.out).1.2.2.1, (F10.out.grown G2.out).1.2.2.2⟩
                  clear hK K
                  try simp only [Act.put, List.setIfInBounds_toArray, List.set_cons_zero, List.set_cons_succ]
                  refine wpAnyH_done (by kernel_rfl) ?_ _
                  go_wp2_with fail
                  go_meet
                  case rel => exact ⟨B12, ⟨R17a, R17n, R17c⟩, rfl, BT2, EL2, G2⟩
              · go_simp
                obtain ⟨B12, hB12⟩ : ∃ b, b = p2.heap.size := ⟨_, rfl⟩
                obtain ⟨p3, hp3⟩ : ∃ z, z = p2.alloc (Obj.cells #[.int .i64 0, .slice none 0 0, .slice none 0 0] 29) := ⟨_, rfl⟩
                rw [← hp3, ← hB12]
                have gn : p2.grownBy p3 none := by subst hp3; exact grown_alloc _ _ _
                have BT := Lib.hid (show Tri p3 B12 (.int .i64 0) (.slice none 0 0) (.slice none 0 0) by subst hp3; subst hB12; exact tri_made _ _ _ _ _)
                have LT := Lib.hid (show B12 < p3.heap.size from BT.out.lt)
                have LB := Lib.hid (show bz ≤ B12 by have := GB.out.size; have := HBZ.out.2; omega)
                have NR := Lib.hid (show ∀ b, Sl.blk ⟨some ⟨B4, 0, none⟩, 0, 0⟩ = some b → b ≠ B12 from fun b hb => by have := (R4.out.blk b hb).2; omega)
                have R4 := Lib.hid (R4.out.grown gn)
                have C11 := Lib.hid (C11.out.grown gn)
                have GB := Lib.hid (grown_trans GB.out gn)
                have G2 := Lib.hid (grown_trans G2.out gn)
                clear gn hp3 hB12
                refine hK.out _ _ ?_ (fun hHeld => ?_)
                · exact ⟨(BX.out.grown G2.out).1.1, (BX.out.grown G2.out).1.2.1, (BX.out.grown G2.out).1.2.2, (F10.out.grown G2.out).1.1, (F10.out.grown G2.out).1.2.1, (F10.out.grown G2.out).1.2.2.1, (F10.out.grown G2.out).1.2.2.2⟩
                clear hK K
                try simp only [Act.put, List.setIfInBounds_toArray, List.set_cons_zero, List.set_cons_succ]
                refine wpAnyH_ready (rs := [9]) (by kernel_rfl) (by simp) (consL rfl (fun K hK => ?_) AllReadyH.nil)
                have HC5 := Lib.hid (cr4_take (c' := Ec) (a := a) (HCR.out.grown G2.out))
                have HZ5 := Lib.hid (show bz ≤ p3.heap.size by have := GB.out.size; have := HBZ.out.2; omega)
                refine step_appV rfl (.tmp 85) (.tmp 89) 27 rfl (S := ⟨some ⟨B4, 0, none⟩, 0, 0⟩) (V := ⟨Ea, a, Ec⟩) Try.underlying27 hI hz hsz hby (by rfl) (by omega) rfl rfl R4.out HZ5.out HL5.out HC5.out (f4_one _) (by dsimp only; omega) (by dsimp only; omega) ?_
                intro r p4 hrn hr gr hrb
                have cn : Chg (Sl.blk ⟨some ⟨B4, 0, none⟩, 0, 0⟩).toList p3 p4 := Chg.of gr (fun b hb => by simpa using hb)
                have h5b := fun b (hb : b ∈ (Sl.blk ⟨some ⟨B4, 0, none⟩, 0, 0⟩).toList) => (R4.out.blk b (by simpa using hb)).1
                have C11 := Lib.hid (C11.out.chg cn (fun b hb hm => by
                  have e1 : b = B4 := by simpa [Sl.blk] using hm
                  have e2 : B11 = b := by simpa [Sl.blk] using hb
                  exact N4.out (by omega)))
                have BT := Lib.hid (BT.out.step cn (fun hm => NR.out _ (by simpa using hm) rfl))
                have R9 := Lib.hid (show OR bz p4 61 4 r (f4 (ys.take a)) from hr)
                have HRN := Lib.hid (show r.n = a by rw [hrn]; dsimp only; omega)
                have NR := Lib.hid (show ∀ b, r.blk = some b → b ≠ B12 from fun b hb => by
                  rcases hrb b hb with e | e
                  · exact NR.out b e
                  · have := LT.out; omega)
                have LT := Lib.hid (show B12 < p4.heap.size from BT.out.lt)
                have GB := Lib.hid (cn.grown GB.out (fun b hb => by have := h5b b hb; have := HBZ.out.2; omega))
                have G2 := Lib.hid (cn.grown G2.out (fun b hb => by have := h5b b hb; have := HBZ.out.1; omega))
                clear hrn hr gr hrb cn h5b HZ5
                obtain ⟨R9a, R9n, R9c⟩ := r
                dsimp only [Sl.v]
                refine hK.out _ _ ?_ (fun hHeld => ?_)
                · exact ⟨(BX.out.grown G2.out).1.1, (BX.out.grown G2.out).1.2.1, (BX.out.grown G2.out).1.2.2, (F10.out.grown G2.out).1.1, (F10.out.grown G2.out).1.2.1, (F10.out.grown G2.out).1.2.2.1, (F10.out.grown G2.out).1.2.2.2⟩
                clear hK K
                try simp only [Act.put, List.setIfInBounds_toArray, List.set_cons_zero, List.set_cons_succ]
                refine wpAnyH_ready (rs := [12]) (by kernel_rfl) (by simp) (consL rfl (fun K hK => ?_) AllReadyH.nil)
                have HZ5 := Lib.hid (show bz ≤ p4.heap.size by have := GB.out.size; have := HBZ.out.2; omega)
                have hrn0 := HRN.out
                dsimp only at hrn0
                refine step_appV rfl (.tmp 90) (.tmp 92) 27 rfl (S := ⟨R9a, R9n, R9c⟩) (V := ⟨some ⟨B11, 0, none⟩, 1, 1⟩) Try.underlying27 hI hz hsz hby (by rfl) (by omega) rfl rfl R9.out HZ5.out C11.out.len C11.out.cr (ecs_one _) (by dsimp only; omega) (by dsimp only; omega) ?_
                intro r p5 hrn hr gr hrb
                have cn : Chg (Sl.blk ⟨R9a, R9n, R9c⟩).toList p4 p5 := Chg.of gr (fun b hb => by simpa using hb)
                have h5b := fun b (hb : b ∈ (Sl.blk ⟨R9a, R9n, R9c⟩).toList) => (R9.out.blk b (by simpa using hb)).1
                have BT := Lib.hid (BT.out.step cn (fun hm => NR.out _ (by simpa using hm) rfl))
                have R12 := Lib.hid (show OR bz p5 61 4 r (f4 (ys.take a) ++ ecs (⟨yst, yep, ynx, yhe⟩, ⟨Ya, Yn, Yc⟩)) from hr)
                have HRN := Lib.hid (show r.n = a + 1 by rw [hrn]; dsimp only; omega)
                have NR := Lib.hid (show ∀ b, r.blk = some b → b ≠ B12 from fun b hb => by
                  rcases hrb b hb with e | e
                  · exact NR.out b e
                  · have := LT.out; omega)
                have LT := Lib.hid (show B12 < p5.heap.size from BT.out.lt)
                have GB := Lib.hid (cn.grown GB.out (fun b hb => by have := h5b b hb; have := HBZ.out.2; omega))
                have G2 := Lib.hid (cn.grown G2.out (fun b hb => by have := h5b b hb; have := HBZ.out.1; omega))
                clear hrn hr gr hrb cn h5b HZ5 hrn0
                obtain ⟨R12a, R12n, R12c⟩ := r
                dsimp only [Sl.v]
                refine hK.out _ _ ?_ (fun hHeld => ?_)
                · exact ⟨(BX.out.grown G2.out).1.1, (BX.out.grown G2.out).1.2.1, (BX.out.grown G2.out).1.2.2, (F10.out.grown G2.out).1.1, (F10.out.grown G2.out).1.2.1, (F10.out.grown G2.out).1.2.2.1, (F10.out.grown G2.out).1.2.2.2⟩
                clear hK K
                try simp only [Act.put, List.setIfInBounds_toArray, List.set_cons_zero, List.set_cons_succ]
                refine wpAnyH_ready (rs := [17]) (by kernel_rfl) (by simp) (consL rfl (fun K hK => ?_) AllReadyH.nil)
                have HCD := Lib.hid (HDR.out _ G2.out)
                have HZ5 := Lib.hid (show bz ≤ p5.heap.size by have := GB.out.size; have := HBZ.out.2; omega)
                have hrn0 := HRN.out
                dsimp only at hrn0
                refine step_appV rfl (.tmp 93) (.tmp 97) 27 rfl (S := ⟨R12a, R12n, R12c⟩) (V := ⟨ad, En - bh, Ec - bh⟩) Try.underlying27 hI hz hsz hby (by rfl) (by omega) rfl rfl R12.out HZ5.out HL13.out HCD.out (f4_one _) (by dsimp only; omega) (by dsimp only; omega) ?_
                intro r p6 hrn hr gr hrb
                have cn : Chg (Sl.blk ⟨R12a, R12n, R12c⟩).toList p5 p6 := Chg.of gr (fun b hb => by simpa using hb)
                have h5b := fun b (hb : b ∈ (Sl.blk ⟨R12a, R12n, R12c⟩).toList) => (R12.out.blk b (by simpa using hb)).1
                have BT := Lib.hid (BT.out.step cn (fun hm => NR.out _ (by simpa using hm) rfl))
                have R17 := Lib.hid (show OR bz p6 61 4 r (f4 (ys.take a) ++ ecs (⟨yst, yep, ynx, yhe⟩, ⟨Ya, Yn, Yc⟩) ++ f4 (ys.drop bh)) from hr)
                have HRN := Lib.hid (show r.n = a + 1 + (En - bh) by rw [hrn]; dsimp only; omega)
                have NR := Lib.hid (show ∀ b, r.blk = some b → b ≠ B12 from fun b hb => by
                  rcases hrb b hb with e | e
                  · exact NR.out b e
                  · have := LT.out; omega)
                have LT := Lib.hid (show B12 < p6.heap.size from BT.out.lt)
                have GB := Lib.hid (cn.grown GB.out (fun b hb => by have := h5b b hb; have := HBZ.out.2; omega))
                have G2 := Lib.hid (cn.grown G2.out (fun b hb => by have := h5b b hb; have := HBZ.out.1; omega))
                clear hrn hr gr hrb cn h5b HZ5 hrn0
                obtain ⟨R17a, R17n, R17c⟩ := r
                dsimp only [Sl.v]
                refine hK.out _ _ ?_ (fun hHeld => ?_)
                · exact ⟨(BX.out.grown G2.out).1.1, (BX.out.grown G2.out).1.2.1, (BX.out.grown G2.out).1.2.2, (F10.out.grown G2.out).1.1, (F10.out.grown G2.out).1.2.1, (F10.out.grown G2.out).1.2.2.1, (F10.out.grown G2.out).1.2.2.2⟩
                clear hK K
                try simp only [Act.put, List.setIfInBounds_toArray, List.set_cons_zero, List.set_cons_succ]
                refine takeL (i := 18) (v := ?_) rfl (by kernel_rfl) (by kernel_rfl) (by kernel_rfl) (fun _ _ _ h => h) (Or.inl ⟨by rfl, ?_⟩) (by assumption) ?_
                rotate_left 1
                · intro w hSw; obtain ⟨s0, s1, s2, q0, q1, q2, q3⟩ := hSw; first | (go_simp; done) | (go_simp; with_reducible rfl)
                try simp only [Act.put, List.setIfInBounds_toArray, List.set_cons_zero, List.set_cons_succ]
                have hLX : ∀ b ∈ B12 :: B8 :: L2, b ∈ B8 :: L2 ∨ wl.heap.size ≤ b := fun b hb => by
                  rcases List.mem_cons.1 hb with e | hb
                  · right; have h1 := LB.out; have h2 := HBZ.out.1; omega
                  · exact .inl hb
                have EL17 := Lib.hid (ins_row4 (L := B12 :: B8 :: L2) HYS.out (fun y hy => (HYV.out y hy).step (M := []) (Chg.refl _ _) (fun _ h => by cases h) hLX) (TLY.out.step (M := []) (Chg.refl _ _) (fun _ h => by cases h) hLX) G2.out R17.out (fun b hb hm => by
                  rcases List.mem_cons.1 hm with e | hm
                  · exact NR.out b hb e
                  · have h1 := (R17.out.blk b hb).1; have h2 := HLB.out b hm; omega))
                clear hLX
                obtain ⟨⟨m0, m1, m2⟩, mf⟩ := BT.out
                have f0 := mf 0
                have f1 := mf 1
                have f2 := mf 2
                clear mf
                refine wpAnyH_ready (rs := [20]) (by kernel_rfl) (by simp) (consL rfl (fun K hK => ?_) AllReadyH.nil)
                go_simp
                have gs : Chg [B12] p6 (((p6.setCell ⟨B12, 0, none⟩ (.int .i64 win)).setCell ⟨B12, 1, none⟩ (.slice Ta Tn Tc)).setCell ⟨B12, 2, none⟩ (.slice R17a R17n R17c)) := (((Chg.refl [B12] p6).set ⟨B12, 0, none⟩ (.int .i64 win) (by simp)).set ⟨B12, 1, none⟩ (.slice Ta Tn Tc) (by simp)).set ⟨B12, 2, none⟩ (.slice R17a R17n R17c) (by simp)
                have G2 := Lib.hid (gs.grown G2.out (fun b hb => by rw [List.mem_singleton] at hb; have h1 := LB.out; have h2 := HBZ.out.1; omega))
                have BT2 := Lib.hid (((BT.out.set0 (.int .i64 win)).set1 (.slice Ta Tn Tc)).set2 (.slice R17a R17n R17c))
                have EL2 := Lib.hid (EL17.out.step (L' := B8 :: L2) gs (fun b hb => .inl (by rw [List.mem_singleton] at hb; rw [hb]; exact List.mem_cons_self)) (fun b hb => .inl (List.mem_cons_of_mem _ hb)))
                clear m0 m1 m2 f0 f1 f2 gs
                refine hK.out _ _ ?_ (fun hHeld => ?_)
                · exact ⟨(BX.out.grown G2.out).1.1, (BX.out.grown G2.out).1.2.1, (BX.out.grown G2.out).1.2.2, (F10.out.grown G2.out).1.1, (F10.out.grown G2.out).1.2.1, (F10.out.grown G2.out).1.2.2.1, (F10.out.grown G2.out).1.2.2.2⟩
                clear hK K
                try simp only [Act.put, List.setIfInBounds_toArray, List.set_cons_zero, List.set_cons_succ]
                refine wpAnyH_done (by kernel_rfl) ?_ _
                go_wp2_with fail
                go_meet
                case rel => exact ⟨B12, ⟨R17a, R17n, R17c⟩, rfl, BT2, EL2, G2⟩
            · go_simp
              obtain ⟨B12, hB12⟩ : ∃ b, b = p1.heap.size := ⟨_, rfl⟩
              obtain ⟨p2, hp2⟩ : ∃ z, z = p1.alloc (Obj.cells #[.int .i64 0, .slice none 0 0, .slice none 0 0] 29) := ⟨_, rfl⟩
              rw [← hp2, ← hB12]
              have gn : p1.grownBy p2 none := by subst hp2; exact grown_alloc _ _ _
              have BT := Lib.hid (show Tri p2 B12 (.int .i64 0) (.slice none 0 0) (.slice none 0 0) by subst hp2; subst hB12; exact tri_made _ _ _ _ _)
              have LT := Lib.hid (show B12 < p2.heap.size from BT.out.lt)
              have LB := Lib.hid (show bz ≤ B12 by have := GB.out.size; have := HBZ.out.2; omega)
              have C11 := Lib.hid (C11.out.grown gn)
              have L11 := Lib.hid (show B11 < p2.heap.size from (C11.out.blk B11 rfl).2)
              have GB := Lib.hid (grown_trans GB.out gn)
              have G2 := Lib.hid (grown_trans G2.out gn)
              clear gn hp2 hB12
              refine hK.out _ _ ?_ (fun hHeld => ?_)
              · exact ⟨(BX.out.grown G2.out).1.1, (BX.out.grown G2.out).1.2.1, (BX.out.grown G2.out).1.2.2, (F10.out.grown G2.out).1.1, (F10.out.grown G2.out).1.2.1, (F10.out.grown G2.out).1.2.2.1, (F10.out.grown G2.out).1.2.2.2⟩
              clear hK K
              try simp only [Act.put, List.setIfInBounds_toArray, List.set_cons_zero, List.set_cons_succ]
              refine wpAnyH_ready (rs := [4]) (by kernel_rfl) (by simp) (consL rfl (fun K hK => ?_) AllReadyH.nil)
              go_simp
              obtain ⟨B4, hB4⟩ : ∃ b, b = p2.heap.size := ⟨_, rfl⟩
              obtain ⟨p3, hp3⟩ : ∃ z, z = p2.alloc (Obj.cells #[] 61) := ⟨_, rfl⟩
              rw [← hp3, ← hB4]
              have gn : p2.grownBy p3 none := by subst hp3; exact grown_alloc _ _ _
              have C11 := Lib.hid (C11.out.grown gn)
              have BT := Lib.hid (BT.out.grown gn)
              have R4 := Lib.hid (show OR bz p3 61 4 ⟨some ⟨B4, 0, none⟩, 0, 0⟩ [] from by subst hp3; subst hB4; exact (or_lit40 p2).base_ (by have := GB.out.size; have := HBZ.out.2; omega))
              have N4 := Lib.hid (show B4 ≠ B11 by have := L11.out; omega)
              have NR := Lib.hid (show ∀ b, Sl.blk ⟨some ⟨B4, 0, none⟩, 0, 0⟩ = some b → b ≠ B12 from fun b hb => by
                have e2 : B4 = b := by simpa [Sl.blk] using hb
                have := LT.out; omega)
              have LT := Lib.hid (show B12 < p3.heap.size from BT.out.lt)
              have GB := Lib.hid (grown_trans GB.out gn)
              have G2 := Lib.hid (grown_trans G2.out gn)
              clear gn hp3 hB4
              refine hK.out _ _ ?_ (fun hHeld => ?_)
              · exact ⟨(BX.out.grown G2.out).1.1, (BX.out.grown G2.out).1.2.1, (BX.out.grown G2.out).1.2.2, (F10.out.grown G2.out).1.1, (F10.out.grown G2.out).1.2.1, (F10.out.grown G2.out).1.2.2.1, (F10.out.grown G2.out).1.2.2.2⟩
              clear hK K
              try simp only [Act.put, List.setIfInBounds_toArray, List.set_cons_zero, List.set_cons_succ]
              refine wpAnyH_ready (rs := [9]) (by kernel_rfl) (by simp) (consL rfl (fun K hK => ?_) AllReadyH.nil)
              have HC5 := Lib.hid (cr4_take (c' := Ec) (a := a) (HCR.out.grown G2.out))
              have HZ5 := Lib.hid (show bz ≤ p3.heap.size by have := GB.out.size; have := HBZ.out.2; omega)
              refine step_appV rfl (.tmp 85) (.tmp 89) 27 rfl (S := ⟨some ⟨B4, 0, none⟩, 0, 0⟩) (V := ⟨Ea, a, Ec⟩) Try.underlying27 hI hz hsz hby (by rfl) (by omega) rfl rfl R4.out HZ5.out HL5.out HC5.out (f4_one _) (by dsimp only; omega) (by dsimp only; omega) ?_
              intro r p4 hrn hr gr hrb
              have cn : Chg (Sl.blk ⟨some ⟨B4, 0, none⟩, 0, 0⟩).toList p3 p4 := Chg.of gr (fun b hb => by simpa using hb)
              have h5b := fun b (hb : b ∈ (Sl.blk ⟨some ⟨B4, 0, none⟩, 0, 0⟩).toList) => (R4.out.blk b (by simpa using hb)).1
              have C11 := Lib.hid (C11.out.chg cn (fun b hb hm => by
                have e1 : b = B4 := by simpa [Sl.blk] using hm
                have e2 : B11 = b := by simpa [Sl.blk] using hb
                exact N4.out (by omega)))
              have BT := Lib.hid (BT.out.step cn (fun hm => NR.out _ (by simpa using hm) rfl))
              have R9 := Lib.hid (show OR bz p4 61 4 r (f4 (ys.take a)) from hr)
              have HRN := Lib.hid (show r.n = a by rw [hrn]; dsimp only; omega)
              have NR := Lib.hid (show ∀ b, r.blk = some b → b ≠ B12 from fun b hb => by
                rcases hrb b hb with e | e
                · exact NR.out b e
                · have := LT.out; omega)
              have LT := Lib.hid (show B12 < p4.heap.size from BT.out.lt)
              have GB := Lib.hid (cn.grown GB.out (fun b hb => by have := h5b b hb; have := HBZ.out.2; omega))
              have G2 := Lib.hid (cn.grown G2.out (fun b hb => by have := h5b b hb; have := HBZ.out.1; omega))
              clear hrn hr gr hrb cn h5b HZ5
              obtain ⟨R9a, R9n, R9c⟩ := r
              dsimp only [Sl.v]
              refine hK.out _ _ ?_ (fun hHeld => ?_)
              · exact ⟨(BX.out.grown G2.out).1.1, (BX.out.grown G2.out).1.2.1, (BX.out.grown G2.out).1.2.2, (F10.out.grown G2.out).1.1, (F10.out.grown G2.out).1.2.1, (F10.out.grown G2.out).1.2.2.1, (F10.out.grown G2.out).1.2.2.2⟩
              clear hK K
              try simp only [Act.put, List.setIfInBounds_toArray, List.set_cons_zero, List.set_cons_succ]
              refine wpAnyH_ready (rs := [12]) (by kernel_rfl) (by simp) (consL rfl (fun K hK => ?_) AllReadyH.nil)
              have HZ5 := Lib.hid (show bz ≤ p4.heap.size by have := GB.out.size; have := HBZ.out.2; omega)
              have hrn0 := HRN.out
              dsimp only at hrn0
              refine step_appV rfl (.tmp 90) (.tmp 92) 27 rfl (S := ⟨R9a, R9n, R9c⟩) (V := ⟨some ⟨B11, 0, none⟩, 1, 1⟩) Try.underlying27 hI hz hsz hby (by rfl) (by omega) rfl rfl R9.out HZ5.out C11.out.len C11.out.cr (ecs_one _) (by dsimp only; omega) (by dsimp only; omega) ?_
              intro r p5 hrn hr gr hrb
              have cn : Chg (Sl.blk ⟨R9a, R9n, R9c⟩).toList p4 p5 := Chg.of gr (fun b hb => by simpa using hb)
              have h5b := fun b (hb : b ∈ (Sl.blk ⟨R9a, R9n, R9c⟩).toList) => (R9.out.blk b (by simpa using hb)).1
              have BT := Lib.hid (BT.out.step cn (fun hm => NR.out _ (by simpa using hm) rfl))
              have R12 := Lib.hid (show OR bz p5 61 4 r (f4 (ys.take a) ++ ecs (⟨yst, yep, ynx, yhe⟩, ⟨Ya, Yn, Yc⟩)) from hr)
              have HRN := Lib.hid (show r.n = a + 1 by rw [hrn]; dsimp only; omega)
              have NR := Lib.hid (show ∀ b, r.blk = some b → b ≠ B12 from fun b hb => by
                rcases hrb b hb with e | e
                · exact NR.out b e
                · have := LT.out; omega)
              have LT := Lib.hid (show B12 < p5.heap.size from BT.out.lt)
              have GB := Lib.hid (cn.grown GB.out (fun b hb => by have := h5b b hb; have := HBZ.out.2; omega))
              have G2 := Lib.hid (cn.grown G2.out (fun b hb => by have := h5b b hb; have := HBZ.out.1; omega))
              clear hrn hr gr hrb cn h5b HZ5 hrn0
              obtain ⟨R12a, R12n, R12c⟩ := r
              dsimp only [Sl.v]
              refine hK.out _ _ ?_ (fun hHeld => ?_)
              · exact ⟨(BX.out.grown G2.out).1.1, (BX.out.grown G2.out).1.2.1, (BX.out.grown G2.out).1.2.2, (F10.out.grown G2.out).1.1, (F10.out.grown G2.out).1.2.1, (F10.out.grown G2.out).1.2.2.1, (F10.out.grown G2.out).1.2.2.2⟩
              clear hK K
              try simp only [Act.put, List.setIfInBounds_toArray, List.set_cons_zero, List.set_cons_succ]
              refine wpAnyH_ready (rs := [17]) (by kernel_rfl) (by simp) (consL rfl (fun K hK => ?_) AllReadyH.nil)
              have HCD := Lib.hid (HDR.out _ G2.out)
              have HZ5 := Lib.hid (show bz ≤ p5.heap.size by have := GB.out.size; have := HBZ.out.2; omega)
              have hrn0 := HRN.out
              dsimp only at hrn0
              refine step_appV rfl (.tmp 93) (.tmp 97) 27 rfl (S := ⟨R12a, R12n, R12c⟩) (V := ⟨ad, En - bh, Ec - bh⟩) Try.underlying27 hI hz hsz hby (by rfl) (by omega) rfl rfl R12.out HZ5.out HL13.out HCD.out (f4_one _) (by dsimp only; omega) (by dsimp only; omega) ?_
              intro r p6 hrn hr gr hrb
              have cn : Chg (Sl.blk ⟨R12a, R12n, R12c⟩).toList p5 p6 := Chg.of gr (fun b hb => by simpa using hb)
              have h5b := fun b (hb : b ∈ (Sl.blk ⟨R12a, R12n, R12c⟩).toList) => (R12.out.blk b (by simpa using hb)).1
              have BT := Lib.hid (BT.out.step cn (fun hm => NR.out _ (by simpa using hm) rfl))
              have R17 := Lib.hid (show OR bz p6 61 4 r (f4 (ys.take a) ++ ecs (⟨yst, yep, ynx, yhe⟩, ⟨Ya, Yn, Yc⟩) ++ f4 (ys.drop bh)) from hr)
              have HRN := Lib.hid (show r.n = a + 1 + (En - bh) by rw [hrn]; dsimp only; omega)
              have NR := Lib.hid (show ∀ b, r.blk = some b → b ≠ B12 from fun b hb => by
                rcases hrb b hb with e | e
                · exact NR.out b e
                · have := LT.out; omega)
              have LT := Lib.hid (show B12 < p6.heap.size from BT.out.lt)
              have GB := Lib.hid (cn.grown GB.out (fun b hb => by have := h5b b hb; have := HBZ.out.2; omega))
              have G2 := Lib.hid (cn.grown G2.out (fun b hb => by have := h5b b hb; have := HBZ.out.1; omega))
              clear hrn hr gr hrb cn h5b HZ5 hrn0
              obtain ⟨R17a, R17n, R17c⟩ := r
              dsimp only [Sl.v]
              refine hK.out _ _ ?_ (fun hHeld => ?_)
              · exact ⟨(BX.out.grown G2.out).1.1, (BX.out.grown G2.out).1.2.1, (BX.out.grown G2.out).1.2.2, (F10.out.grown G2.out).1.1, (F10.out.grown G2.out).1.2.1, (F10.out.grown G2.out).1.2.2.1, (F10.out.grown G2.out).1.2.2.2⟩
              clear hK K
              try simp only [Act.put, List.setIfInBounds_toArray, List.set_cons_zero, List.set_cons_succ]
              refine takeL (i := 18) (v := ?_) rfl (by kernel_rfl) (by kernel_rfl) (by kernel_rfl) (fun _ _ _ h => h) (Or.inl ⟨by rfl, ?_⟩) (by assumption) ?_
              rotate_left 1
              · intro w hSw; obtain ⟨s0, s1, s2, q0, q1, q2, q3⟩ := hSw; first | (go_simp; done) | (go_simp; with_reducible rfl)
              try simp only [Act.put, List.setIfInBounds_toArray, List.set_cons_zero, List.set_cons_succ]
              have hLX : ∀ b ∈ B12 :: B8 :: L2, b ∈ B8 :: L2 ∨ wl.heap.size ≤ b := fun b hb => by
                rcases List.mem_cons.1 hb with e | hb
                · right; have h1 := LB.out; have h2 := HBZ.out.1; omega
                · exact .inl hb
              have EL17 := Lib.hid (ins_row4 (L := B12 :: B8 :: L2) HYS.out (fun y hy => (HYV.out y hy).step (M := []) (Chg.refl _ _) (fun _ h => by cases h) hLX) (TLY.out.step (M := []) (Chg.refl _ _) (fun _ h => by cases h) hLX) G2.out R17.out (fun b hb hm => by
                rcases List.mem_cons.1 hm with e | hm
                · exact NR.out b hb e
                · have h1 := (R17.out.blk b hb).1; have h2 := HLB.out b hm; omega))
              clear hLX
              obtain ⟨⟨m0, m1, m2⟩, mf⟩ := BT.out
              have f0 := mf 0
              have f1 := mf 1
              have f2 := mf 2
              clear mf
              refine wpAnyH_ready (rs := [20]) (by kernel_rfl) (by simp) (consL rfl (fun K hK => ?_) AllReadyH.nil)
              go_simp
              have gs : Chg [B12] p6 (((p6.setCell ⟨B12, 0, none⟩ (.int .i64 win)).setCell ⟨B12, 1, none⟩ (.slice Ta Tn Tc)).setCell ⟨B12, 2, none⟩ (.slice R17a R17n R17c)) := (((Chg.refl [B12] p6).set ⟨B12, 0, none⟩ (.int .i64 win) (by simp)).set ⟨B12, 1, none⟩ (.slice Ta Tn Tc) (by simp)).set ⟨B12, 2, none⟩ (.slice R17a R17n R17c) (by simp)
              have G2 := Lib.hid (gs.grown G2.out (fun b hb => by rw [List.mem_singleton] at hb; have h1 := LB.out; have h2 := HBZ.out.1; omega))
              have BT2 := Lib.hid (((BT.out.set0 (.int .i64 win)).set1 (.slice Ta Tn Tc)).set2 (.slice R17a R17n R17c))
              have EL2 := Lib.hid (EL17.out.step (L' := B8 :: L2) gs (fun b hb => .inl (by rw [List.mem_singleton] at hb; rw [hb]; exact List.mem_cons_self)) (fun b hb => .inl (List.mem_cons_of_mem _ hb)))
              clear m0 m1 m2 f0 f1 f2 gs
              refine hK.out _ _ ?_ (fun hHeld => ?_)
              · exact ⟨(BX.out.grown G2.out).1.1, (BX.out.grown G2.out).1.2.1, (BX.out.grown G2.out).1.2.2, (F10.out.grown G2.out).1.1, (F10.out.grown G2.out).1.2.1, (F10.out.grown G2.out).1.2.2.1, (F10.out.grown G2.out).1.2.2.2⟩
              clear hK K
              try simp only [Act.put, List.setIfInBounds_toArray, List.set_cons_zero, List.set_cons_succ]
              refine wpAnyH_done (by kernel_rfl) ?_ _
              go_wp2_with fail
              go_meet
              case rel => exact ⟨B12, ⟨R17a, R17n, R17c⟩, rfl, BT2, EL2, G2⟩
          · go_simp
            obtain ⟨B12, hB12⟩ : ∃ b, b = wd.heap.size := ⟨_, rfl⟩
            obtain ⟨p1, hp1⟩ : ∃ z, z = wd.alloc (Obj.cells #[.int .i64 0, .slice none 0 0, .slice none 0 0] 29) := ⟨_, rfl⟩
            rw [← hp1, ← hB12]
            have gn : wd.grownBy p1 none := by subst hp1; exact grown_alloc _ _ _
            have BT := Lib.hid (show Tri p1 B12 (.int .i64 0) (.slice none 0 0) (.slice none 0 0) by subst hp1; subst hB12; exact tri_made _ _ _ _ _)
            have LT := Lib.hid (show B12 < p1.heap.size from BT.out.lt)
            have LB := Lib.hid (show bz ≤ B12 by have := GB.out.size; have := HBZ.out.2; omega)
            have GB := Lib.hid (grown_trans GB.out gn)
            have G2 := Lib.hid (grown_trans G2.out gn)
            clear gn hp1 hB12
            refine hK.out _ _ ?_ (fun hHeld => ?_)
            · exact ⟨(BX.out.grown G2.out).1.1, (BX.out.grown G2.out).1.2.1, (BX.out.grown G2.out).1.2.2, (F10.out.grown G2.out).1.1, (F10.out.grown G2.out).1.2.1, (F10.out.grown G2.out).1.2.2.1, (F10.out.grown G2.out).1.2.2.2⟩
            clear hK K
            try simp only [Act.put, List.setIfInBounds_toArray, List.set_cons_zero, List.set_cons_succ]
            refine wpAnyH_ready (rs := [4, 11]) (by kernel_rfl) (by simp) (consL rfl (fun K hK => ?_) (consL rfl (fun K hK => ?_) AllReadyH.nil))
            · go_simp
              obtain ⟨B4, hB4⟩ : ∃ b, b = p1.heap.size := ⟨_, rfl⟩
              obtain ⟨p2, hp2⟩ : ∃ z, z = p1.alloc (Obj.cells #[] 61) := ⟨_, rfl⟩
              rw [← hp2, ← hB4]
              have gn : p1.grownBy p2 none := by subst hp2; exact grown_alloc _ _ _
              have BT := Lib.hid (BT.out.grown gn)
              have R4 := Lib.hid (show OR bz p2 61 4 ⟨some ⟨B4, 0, none⟩, 0, 0⟩ [] from by subst hp2; subst hB4; exact (or_lit40 p1).base_ (by have := GB.out.size; have := HBZ.out.2; omega))
              have L4 := Lib.hid (show B4 < p2.heap.size from (R4.out.blk B4 rfl).2)
              have NR := Lib.hid (show ∀ b, Sl.blk ⟨some ⟨B4, 0, none⟩, 0, 0⟩ = some b → b ≠ B12 from fun b hb => by
                have e2 : B4 = b := by simpa [Sl.blk] using hb
                have := LT.out; omega)
              have LT := Lib.hid (show B12 < p2.heap.size from BT.out.lt)
              have GB := Lib.hid (grown_trans GB.out gn)
              have G2 := Lib.hid (grown_trans G2.out gn)
              clear gn hp2 hB4
              refine hK.out _ _ ?_ (fun hHeld => ?_)
              · exact ⟨(BX.out.grown G2.out).1.1, (BX.out.grown G2.out).1.2.1, (BX.out.grown G2.out).1.2.2, (F10.out.grown G2.out).1.1, (F10.out.grown G2.out).1.2.1, (F10.out.grown G2.out).1.2.2.1, (F10.out.grown G2.out).1.2.2.2⟩
              clear hK K
              try simp only [Act.put, List.setIfInBounds_toArray, List.set_cons_zero, List.set_cons_succ]
              refine wpAnyH_ready (rs := [9, 11]) (by kernel_rfl) (by simp) (consL rfl (fun K hK => ?_) (consL rfl (fun K hK => ?_) AllReadyH.nil))
              · have HC5 := Lib.hid (cr4_take (c' := Ec) (a := a) (HCR.out.grown G2.out))
                have HZ5 := Lib.hid (show bz ≤ p2.heap.size by have := GB.out.size; have := HBZ.out.2; omega)
                refine step_appV rfl (.tmp 85) (.tmp 89) 27 rfl (S := ⟨some ⟨B4, 0, none⟩, 0, 0⟩) (V := ⟨Ea, a, Ec⟩) Try.underlying27 hI hz hsz hby (by rfl) (by omega) rfl rfl R4.out HZ5.out HL5.out HC5.out (f4_one _) (by dsimp only; omega) (by dsimp only; omega) ?_
                intro r p3 hrn hr gr hrb
                have cn : Chg (Sl.blk ⟨some ⟨B4, 0, none⟩, 0, 0⟩).toList p2 p3 := Chg.of gr (fun b hb => by simpa using hb)
                have h5b := fun b (hb : b ∈ (Sl.blk ⟨some ⟨B4, 0, none⟩, 0, 0⟩).toList) => (R4.out.blk b (by simpa using hb)).1
                have BT := Lib.hid (BT.out.step cn (fun hm => NR.out _ (by simpa using hm) rfl))
                have R9 := Lib.hid (show OR bz p3 61 4 r (f4 (ys.take a)) from hr)
                have HRN := Lib.hid (show r.n = a by rw [hrn]; dsimp only; omega)
                have NR := Lib.hid (show ∀ b, r.blk = some b → b ≠ B12 from fun b hb => by
                  rcases hrb b hb with e | e
                  · exact NR.out b e
                  · have := LT.out; omega)
                have LT := Lib.hid (show B12 < p3.heap.size from BT.out.lt)
                have GB := Lib.hid (cn.grown GB.out (fun b hb => by have := h5b b hb; have := HBZ.out.2; omega))
                have G2 := Lib.hid (cn.grown G2.out (fun b hb => by have := h5b b hb; have := HBZ.out.1; omega))
                clear hrn hr gr hrb cn h5b HZ5
                obtain ⟨R9a, R9n, R9c⟩ := r
                dsimp only [Sl.v]
                refine hK.out _ _ ?_ (fun hHeld => ?_)
                · exact ⟨(BX.out.grown G2.out).1.1, (BX.out.grown G2.out).1.2.1, (BX.out.grown G2.out).1.2.2, (F10.out.grown G2.out).1.1, (F10.out.grown G2.out).1.2.1, (F10.out.grown G2.out).1.2.2.1, (F10.out.grown G2.out).1.2.2.2⟩
                clear hK K
                try simp only [Act.put, List.setIfInBounds_toArray, List.set_cons_zero, List.set_cons_succ]
                refine wpAnyH_ready (rs := [11]) (by kernel_rfl) (by simp) (consL rfl (fun K hK => ?_) AllReadyH.nil)
                go_simp
                obtain ⟨B11, hB11⟩ : ∃ b, b = p3.heap.size := ⟨_, rfl⟩
                obtain ⟨p4, hp4⟩ : ∃ z, z = p3.alloc (Obj.cells #[.int .i64 yst, .int .i64 yep, .int .i64 ynx, .slice Ya Yn Yc] 61) := ⟨_, rfl⟩
                rw [← hp4, ← hB11]
                have gn : p3.grownBy p4 none := by subst hp4; exact grown_alloc _ _ _
                have R9 := Lib.hid (R9.out.grown gn)
                have BT := Lib.hid (BT.out.grown gn)
                have C11 := Lib.hid (show OR bz p4 61 4 ⟨some ⟨B11, 0, none⟩, 1, 1⟩ (ecs (⟨yst, yep, ynx, yhe⟩, ⟨Ya, Yn, Yc⟩)) from by subst hp4; subst hB11; exact (or_lit4 p3 (⟨yst, yep, ynx, yhe⟩, ⟨Ya, Yn, Yc⟩)).base_ (by have := GB.out.size; have := HBZ.out.2; omega))
                have LT := Lib.hid (show B12 < p4.heap.size from BT.out.lt)
                have GB := Lib.hid (grown_trans GB.out gn)
                have G2 := Lib.hid (grown_trans G2.out gn)
                clear gn hp4 hB11
                refine hK.out _ _ ?_ (fun hHeld => ?_)
                · exact ⟨(BX.out.grown G2.out).1.1, (BX.out.grown G2.out).1.2.1, (BX.out.grown G2.out).1.2.2, (F10.out.grown G2.out).1.1, (F10.out.grown G2.out).1.2.1, (F10.out.grown G2.out).1.2.2.1, (F10.out.grown G2.out).1.2.2.2⟩
                clear hK K
                try simp only [Act.put, List.setIfInBounds_toArray, List.set_cons_zero, List.set_cons_succ]
                refine wpAnyH_ready (rs := [12]) (by kernel_rfl) (by simp) (consL rfl (fun K hK => ?_) AllReadyH.nil)
                have HZ5 := Lib.hid (show bz ≤ p4.heap.size by have := GB.out.size; have := HBZ.out.2; omega)
                have hrn0 := HRN.out
                dsimp only at hrn0
                refine step_appV rfl (.tmp 90) (.tmp 92) 27 rfl (S := ⟨R9a, R9n, R9c⟩) (V := ⟨some ⟨B11, 0, none⟩, 1, 1⟩) Try.underlying27 hI hz hsz hby (by rfl) (by omega) rfl rfl R9.out HZ5.out C11.out.len C11.out.cr (ecs_one _) (by dsimp only; omega) (by dsimp only; omega) ?_
                intro r p5 hrn hr gr hrb
                have cn : Chg (Sl.blk ⟨R9a, R9n, R9c⟩).toList p4 p5 := Chg.of gr (fun b hb => by simpa using hb)
                have h5b := fun b (hb : b ∈ (Sl.blk ⟨R9a, R9n, R9c⟩).toList) => (R9.out.blk b (by simpa using hb)).1
                have BT := Lib.hid (BT.out.step cn (fun hm => NR.out _ (by simpa using hm) rfl))
                have R12 := Lib.hid (show OR bz p5 61 4 r (f4 (ys.take a) ++ ecs (⟨yst, yep, ynx, yhe⟩, ⟨Ya, Yn, Yc⟩)) from hr)
                have HRN := Lib.hid (show r.n = a + 1 by rw [hrn]; dsimp only; omega)
                have NR := Lib.hid (show ∀ b, r.blk = some b → b ≠ B12 from fun b hb => by
                  rcases hrb b hb with e | e
                  · exact NR.out b e
                  · have := LT.out; omega)
                have LT := Lib.hid (show B12 < p5.heap.size from BT.out.lt)
                have GB := Lib.hid (cn.grown GB.out (fun b hb => by have := h5b b hb; have := HBZ.out.2; omega))
                have G2 := Lib.hid (cn.grown G2.out (fun b hb => by have := h5b b hb; have := HBZ.out.1; omega))
                clear hrn hr gr hrb cn h5b HZ5 hrn0
                obtain ⟨R12a, R12n, R12c⟩ := r
                dsimp only [Sl.v]
                refine hK.out _ _ ?_ (fun hHeld => ?_)
                · exact ⟨(BX.out.grown G2.out).1.1, (BX.out.grown G2.out).1.2.1, (BX.out.grown G2.out).1.2.2, (F10.out.grown G2.out).1.1, (F10.out.grown G2.out).1.2.1, (F10.out.grown G2.out).1.2.2.1, (F10.out.grown G2.out).1.2.2.2⟩
                clear hK K
                try simp only [Act.put, List.setIfInBounds_toArray, List.set_cons_zero, List.set_cons_succ]
                refine wpAnyH_ready (rs := [17]) (by kernel_rfl) (by simp) (consL rfl (fun K hK => ?_) AllReadyH.nil)
                have HCD := Lib.hid (HDR.out _ G2.out)
                have HZ5 := Lib.hid (show bz ≤ p5.heap.size by have := GB.out.size; have := HBZ.out.2; omega)
                have hrn0 := HRN.out
                dsimp only at hrn0
                refine step_appV rfl (.tmp 93) (.tmp 97) 27 rfl (S := ⟨R12a, R12n, R12c⟩) (V := ⟨ad, En - bh, Ec - bh⟩) Try.underlying27 hI hz hsz hby (by rfl) (by omega) rfl rfl R12.out HZ5.out HL13.out HCD.out (f4_one _) (by dsimp only; omega) (by dsimp only; omega) ?_
                intro r p6 hrn hr gr hrb
                have cn : Chg (Sl.blk ⟨R12a, R12n, R12c⟩).toList p5 p6 := Chg.of gr (fun b hb => by simpa using hb)
                have h5b := fun b (hb : b ∈ (Sl.blk ⟨R12a, R12n, R12c⟩).toList) => (R12.out.blk b (by simpa using hb)).1
                have BT := Lib.hid (BT.out.step cn (fun hm => NR.out _ (by simpa using hm) rfl))
                have R17 := Lib.hid (show OR bz p6 61 4 r (f4 (ys.take a) ++ ecs (⟨yst, yep, ynx, yhe⟩, ⟨Ya, Yn, Yc⟩) ++ f4 (ys.drop bh)) from hr)
                have HRN := Lib.hid (show r.n = a + 1 + (En - bh) by rw [hrn]; dsimp only; omega)
                have NR := Lib.hid (show ∀ b, r.blk = some b → b ≠ B12 from fun b hb => by
                  rcases hrb b hb with e | e
                  · exact NR.out b e
                  · have := LT.out; omega)
                have LT := Lib.hid (show B12 < p6.heap.size from BT.out.lt)
                have GB := Lib.hid (cn.grown GB.out (fun b hb => by have := h5b b hb; have := HBZ.out.2; omega))
                have G2 := Lib.hid (cn.grown G2.out (fun b hb => by have := h5b b hb; have := HBZ.out.1; omega))
                clear hrn hr gr hrb cn h5b HZ5 hrn0
                obtain ⟨R17a, R17n, R17c⟩ := r
                dsimp only [Sl.v]
                refine hK.out _ _ ?_ (fun hHeld => ?_)
                · exact ⟨(BX.out.grown G2.out).1.1, (BX.out.grown G2.out).1.2.1, (BX.out.grown G2.out).1.2.2, (F10.out.grown G2.out).1.1, (F10.out.grown G2.out).1.2.1, (F10.out.grown G2.out).1.2.2.1, (F10.out.grown G2.out).1.2.2.2⟩
                clear hK K
                try simp only [Act.put, List.setIfInBounds_toArray, List.set_cons_zero, List.set_cons_succ]
                refine takeL (i := 18) (v := ?_) rfl (by kernel_rfl) (by kernel_rfl) (by kernel_rfl) (fun _ _ _ h => h) (Or.inl ⟨by rfl, ?_⟩) (by assumption) ?_
                rotate_left 1
                · intro w hSw; obtain ⟨s0, s1, s2, q0, q1, q2, q3⟩ := hSw; first | (go_simp; done) | (go_simp; with_reducible rfl)
                try simp only [Act.put, List.setIfInBounds_toArray, List.set_cons_zero, List.set_cons_succ]
                have hLX : ∀ b ∈ B12 :: B8 :: L2, b ∈ B8 :: L2 ∨ wl.heap.size ≤ b := fun b hb => by
                  rcases List.mem_cons.1 hb with e | hb
                  · right; have h1 := LB.out; have h2 := HBZ.out.1; omega
                  · exact .inl hb
                have EL17 := Lib.hid (ins_row4 (L := B12 :: B8 :: L2) HYS.out (fun y hy => (HYV.out y hy).step (M := []) (Chg.refl _ _) (fun _ h => by cases h) hLX) (TLY.out.step (M := []) (Chg.refl _ _) (fun _ h => by cases h) hLX) G2.out R17.out (fun b hb hm => by
                  rcases List.mem_cons.1 hm with e | hm
                  · exact NR.out b hb e
                  · have h1 := (R17.out.blk b hb).1; have h2 := HLB.out b hm; omega))
                clear hLX
                obtain ⟨⟨m0, m1, m2⟩, mf⟩ := BT.out
                have f0 := mf 0
                have f1 := mf 1
                have f2 := mf 2
                clear mf
                refine wpAnyH_ready (rs := [20]) (by kernel_rfl) (by simp) (consL rfl (fun K hK => ?_) AllReadyH.nil)
                go_simp
                have gs : Chg [B12] p6 (((p6.setCell ⟨B12, 0, none⟩ (.int .i64 win)).setCell ⟨B12, 1, none⟩ (.slice Ta Tn Tc)).setCell ⟨B12, 2, none⟩ (.slice R17a R17n R17c)) := (((Chg.refl [B12] p6).set ⟨B12, 0, none⟩ (.int .i64 win) (by simp)).set ⟨B12, 1, none⟩ (.slice Ta Tn Tc) (by simp)).set ⟨B12, 2, none⟩ (.slice R17a R17n R17c) (by simp)
                have G2 := Lib.hid (gs.grown G2.out (fun b hb => by rw [List.mem_singleton] at hb; have h1 := LB.out; have h2 := HBZ.out.1; omega))
                have BT2 := Lib.hid (((BT.out.set0 (.int .i64 win)).set1 (.slice Ta Tn Tc)).set2 (.slice R17a R17n R17c))
                have EL2 := Lib.hid (EL17.out.step (L' := B8 :: L2) gs (fun b hb => .inl (by rw [List.mem_singleton] at hb; rw [hb]; exact List.mem_cons_self)) (fun b hb => .inl (List.mem_cons_of_mem _ hb)))
                clear m0 m1 m2 f0 f1 f2 gs
                refine hK.out _ _ ?_ (fun hHeld => ?_)
                · exact ⟨(BX.out.grown G2.out).1.1, (BX.out.grown G2.out).1.2.1, (BX.out.grown G2.out).1.2.2, (F10.out.grown G2.out).1.1, (F10.out.grown G2.out).1.2.1, (F10.out.grown G2.out).1.2.2.1, (F10.out.grown G2.out).1.2.2.2⟩
                clear hK K
                try simp only [Act.put, List.setIfInBounds_toArray, List.set_cons_zero, List.set_cons_succ]
                refine wpAnyH_done (by kernel_rfl) ?_ _
                go_wp2_with fail
                go_meet
                case rel => exact ⟨B12, ⟨R17a, R17n, R17c⟩, rfl, BT2, EL2, G2⟩
              · go_simp
                obtain ⟨B11, hB11⟩ : ∃ b, b = p2.heap.size := ⟨_, rfl⟩
                obtain ⟨p3, hp3⟩ : ∃ z, z = p2.alloc (Obj.cells #[.int .i64 yst, .int .i64 yep, .int .i64 ynx, .slice Ya Yn Yc] 61) := ⟨_, rfl⟩
                rw [← hp3, ← hB11]
                have gn : p2.grownBy p3 none := by subst hp3; exact grown_alloc _ _ _
                have R4 := Lib.hid (R4.out.grown gn)
                have BT := Lib.hid (BT.out.grown gn)
                have C11 := Lib.hid (show OR bz p3 61 4 ⟨some ⟨B11, 0, none⟩, 1, 1⟩ (ecs (⟨yst, yep, ynx, yhe⟩, ⟨Ya, Yn, Yc⟩)) from by subst hp3; subst hB11; exact (or_lit4 p2 (⟨yst, yep, ynx, yhe⟩, ⟨Ya, Yn, Yc⟩)).base_ (by have := GB.out.size; have := HBZ.out.2; omega))
                have N4 := Lib.hid (show B4 ≠ B11 by have := L4.out; omega)
                have LT := Lib.hid (show B12 < p3.heap.size from BT.out.lt)
                have GB := Lib.hid (grown_trans GB.out gn)
                have G2 := Lib.hid (grown_trans G2.out gn)
                clear gn hp3 hB11
                refine hK.out _ _ ?_ (fun hHeld => ?_)
                · exact ⟨(BX.out.grown G2.out).1.1, (BX.out.grown G2.out).1.2.1, (BX.out.grown G2.out).1.2.2, (F10.out.grown G2.out).1.1, (F10.out.grown G2.out).1.2.1, (F10.out.grown G2.out).1.2.2.1, (F10.out.grown G2.out).1.2.2.2⟩
                clear hK K
                try simp only [Act.put, List.setIfInBounds_toArray, List.set_cons_zero, List.set_cons_succ]
                refine wpAnyH_ready (rs := [9]) (by kernel_rfl) (by simp) (consL rfl (fun K hK => ?_) AllReadyH.nil)
                have HC5 := Lib.hid (cr4_take (c' := Ec) (a := a) (HCR.out.grown G2.out))
                have HZ5 := Lib.hid (show bz ≤ p3.heap.size by have := GB.out.size; have := HBZ.out.2; omega)
                refine step_appV rfl (.tmp 85) (.tmp 89) 27 rfl (S := ⟨some ⟨B4, 0, none⟩, 0, 0⟩) (V := ⟨Ea, a, Ec⟩) Try.underlying27 hI hz hsz hby (by rfl) (by omega) rfl rfl R4.out HZ5.out HL5.out HC5.out (f4_one _) (by dsimp only; omega) (by dsimp only; omega) ?_
                intro r p4 hrn hr gr hrb
                have cn : Chg (Sl.blk ⟨some ⟨B4, 0, none⟩, 0, 0⟩).toList p3 p4 := Chg.of gr (fun b hb => by simpa using hb)
                have h5b := fun b (hb : b ∈ (Sl.blk ⟨some ⟨B4, 0, none⟩, 0, 0⟩).toList) => (R4.out.blk b (by simpa using hb)).1
                have C11 := Lib.hid (C11.out.chg cn (fun b hb hm => by
                  have e1 : b = B4 := by simpa [Sl.blk] using hm
                  have e2 : B11 = b := by simpa [Sl.blk] using hb
                  exact N4.out (by omega)))
                have BT := Lib.hid (BT.out.step cn (fun hm => NR.out _ (by simpa using hm) rfl))
                have R9 := Lib.hid (show OR bz p4 61 4 r (f4 (ys.take a)) from hr)
                have HRN := Lib.hid (show r.n = a by rw [hrn]; dsimp only; omega)
                have NR := Lib.hid (show ∀ b, r.blk = some b → b ≠ B12 from fun b hb => by
                  rcases hrb b hb with e | e
                  · exact NR.out b e
                  · have := LT.out; omega)
                have LT := Lib.hid (show B12 < p4.heap.size from BT.out.lt)
                have GB := Lib.hid (cn.grown GB.out (fun b hb => by have := h5b b hb; have := HBZ.out.2; omega))
                have G2 := Lib.hid (cn.grown G2.out (fun b hb => by have := h5b b hb; have := HBZ.out.1; omega))
                clear hrn hr gr hrb cn h5b HZ5
                obtain ⟨R9a, R9n, R9c⟩ := r
                dsimp only [Sl.v]
                refine hK.out _ _ ?_ (fun hHeld => ?_)
                · exact ⟨(BX.out.grown G2.out).1.1, (BX.out.grown G2.out).1.2.1, (BX.out.grown G2.out).1.2.2, (F10.out.grown G2.out).1.1, (F10.out.grown G2.out).1.2.1, (F10.out.grown G2.out).1.2.2.1, (F10.out.grown G2.out).1.2.2.2⟩
                clear hK K
                try simp only [Act.put, List.setIfInBounds_toArray, List.set_cons_zero, List.set_cons_succ]
                refine wpAnyH_ready (rs := [12]) (by kernel_rfl) (by simp) (consL rfl (fun K hK => ?_) AllReadyH.nil)
                have HZ5 := Lib.hid (show bz ≤ p4.heap.size by have := GB.out.size; have := HBZ.out.2; omega)
                have hrn0 := HRN.out
                dsimp only at hrn0
                refine step_appV rfl (.tmp 90) (.tmp 92) 27 rfl (S := ⟨R9a, R9n, R9c⟩) (V := ⟨some ⟨B11, 0, none⟩, 1, 1⟩) Try.underlying27 hI hz hsz hby (by rfl) (by omega) rfl rfl R9.out HZ5.out C11.out.len C11.out.cr (ecs_one _) (by dsimp only; omega) (by dsimp only; omega) ?_
                intro r p5 hrn hr gr hrb
                have cn : Chg (Sl.blk ⟨R9a, R9n, R9c⟩).toList p4 p5 := Chg.of gr (fun b hb => by simpa using hb)
                have h5b := fun b (hb : b ∈ (Sl.blk ⟨R9a, R9n, R9c⟩).toList) => (R9.out.blk b (by simpa using hb)).1
                have BT := Lib.hid (BT.out.step cn (fun hm => NR.out _ (by simpa using hm) rfl))
                have R12 := Lib.hid (show OR bz p5 61 4 r (f4 (ys.take a) ++ ecs (⟨yst, yep, ynx, yhe⟩, ⟨Ya, Yn, Yc⟩)) from hr)
                have HRN := Lib.hid (show r.n = a + 1 by rw [hrn]; dsimp only; omega)
                have NR := Lib.hid (show ∀ b, r.blk = some b → b ≠ B12 from fun b hb => by
                  rcases hrb b hb with e | e
                  · exact NR.out b e
                  · have := LT.out; omega)
                have LT := Lib.hid (show B12 < p5.heap.size from BT.out.lt)
                have GB := Lib.hid (cn.grown GB.out (fun b hb => by have := h5b b hb; have := HBZ.out.2; omega))
                have G2 := Lib.hid (cn.grown G2.out (fun b hb => by have := h5b b hb; have := HBZ.out.1; omega))
                clear hrn hr gr hrb cn h5b HZ5 hrn0
                obtain ⟨R12a, R12n, R12c⟩ := r
                dsimp only [Sl.v]
                refine hK.out _ _ ?_ (fun hHeld => ?_)
                · exact ⟨(BX.out.grown G2.out).1.1, (BX.out.grown G2.out).1.2.1, (BX.out.grown G2.out).1.2.2, (F10.out.grown G2.out).1.1, (F10.out.grown G2.out).1.2.1, (F10.out.grown G2.out).1.2.2.1, (F10.out.grown G2.out).1.2.2.2⟩
                clear hK K
                try simp only [Act.put, List.setIfInBounds_toArray, List.set_cons_zero, List.set_cons_succ]
                refine wpAnyH_ready (rs := [17]) (by kernel_rfl) (by simp) (consL rfl (fun K hK => ?_) AllReadyH.nil)
                have HCD := Lib.hid (HDR.out _ G2.out)
                have HZ5 := Lib.hid (show bz ≤ p5.heap.size by have := GB.out.size; have := HBZ.out.2; omega)
                have hrn0 := HRN.out
                dsimp only at hrn0
                refine step_appV rfl (.tmp 93) (.tmp 97) 27 rfl (S := ⟨R12a, R12n, R12c⟩) (V := ⟨ad, En - bh, Ec - bh⟩) Try.underlying27 hI hz hsz hby (by rfl) (by omega) rfl rfl R12.out HZ5.out HL13.out HCD.out (f4_one _) (by dsimp only; omega) (by dsimp only; omega) ?_
                intro r p6 hrn hr gr hrb
                have cn : Chg (Sl.blk ⟨R12a, R12n, R12c⟩).toList p5 p6 := Chg.of gr (fun b hb => by simpa using hb)
                have h5b := fun b (hb : b ∈ (Sl.blk ⟨R12a, R12n, R12c⟩).toList) => (R12.out.blk b (by simpa using hb)).1
                have BT := Lib.hid (BT.out.step cn (fun hm => NR.out _ (by simpa using hm) rfl))
                have R17 := Lib.hid (show OR bz p6 61 4 r (f4 (ys.take a) ++ ecs (⟨yst, yep, ynx, yhe⟩, ⟨Ya, Yn, Yc⟩) ++ f4 (ys.drop bh)) from hr)
                have HRN := Lib.hid (show r.n = a + 1 + (En - bh) by rw [hrn]; dsimp only; omega)
                have NR := Lib.hid (show ∀ b, r.blk = some b → b ≠ B12 from fun b hb => by
                  rcases hrb b hb with e | e
                  · exact NR.out b e
                  · have := LT.out; omega)
                have LT := Lib.hid (show B12 < p6.heap.size from BT.out.lt)
                have GB := Lib.hid (cn.grown GB.out (fun b hb => by have := h5b b hb; have := HBZ.out.2; omega))
                have G2 := Lib.hid (cn.grown G2.out (fun b hb => by have := h5b b hb; have := HBZ.out.1; omega))
                clear hrn hr gr hrb cn h5b HZ5 hrn0
                obtain ⟨R17a, R17n, R17c⟩ := r
                dsimp only [Sl.v]
                refine hK.out _ _ ?_ (fun hHeld => ?_)
                · exact ⟨(BX.out.grown G2.out).1.1, (BX.out.grown G2.out).1.2.1, (BX.out.grown G2.out).1.2.2, (F10.out.grown G2.out).1.1, (F10.out.grown G2.out).1.2.1, (F10.out.grown G2.out).1.2.2.1, (F10.out.grown G2.out).1.2.2.2⟩
                clear hK K
                try simp only [Act.put, List.setIfInBounds_toArray, List.set_cons_zero, List.set_cons_succ]
                refine takeL (i := 18) (v := ?_) rfl (by kernel_rfl) (by kernel_rfl) (by kernel_rfl) (fun _ _ _ h => h) (Or.inl ⟨by rfl, ?_⟩) (by assumption) ?_
                rotate_left 1
                · intro w hSw; obtain ⟨s0, s1, s2, q0, q1, q2, q3⟩ := hSw; first | (go_simp; done) | (go_simp; with_reducible rfl)
                try simp only [Act.put, List.setIfInBounds_toArray, List.set_cons_zero, List.set_cons_succ]
                have hLX : ∀ b ∈ B12 :: B8 :: L2, b ∈ B8 :: L2 ∨ wl.heap.size ≤ b := fun b hb => by
                  rcases List.mem_cons.1 hb with e | hb
                  · right; have h1 := LB.out; have h2 := HBZ.out.1; omega
                  · exact .inl hb
                have EL17 := Lib.hid (ins_row4 (L := B12 :: B8 :: L2) HYS.out (fun y hy => (HYV.out y hy).step (M := []) (Chg.refl _ _) (fun _ h => by cases h) hLX) (TLY.out.step (M := []) (Chg.refl _ _) (fun _ h => by cases h) hLX) G2.out R17.out (fun b hb hm => by
                  rcases List.mem_cons.1 hm with e | hm
                  · exact NR.out b hb e
                  · have h1 := (R17.out.blk b hb).1; have h2 := HLB.out b hm; omega))
                clear hLX
                obtain ⟨⟨m0, m1, m2⟩, mf⟩ := BT.out
                have f0 := mf 0
                have f1 := mf 1
                have f2 := mf 2
                clear mf
                refine wpAnyH_ready (rs := [20]) (by kernel_rfl) (by simp) (consL rfl (fun K hK => ?_) AllReadyH.nil)
                go_simp
                have gs : Chg [B12] p6 (((p6.setCell ⟨B12, 0, none⟩ (.int .i64 win)).setCell ⟨B12, 1, none⟩ (.slice Ta Tn Tc)).setCell ⟨B12, 2, none⟩ (.slice R17a R17n R17c)) := (((Chg.refl [B12] p6).set ⟨B12, 0, none⟩ (.int .i64 win) (by simp)).set ⟨B12, 1, none⟩ (.slice Ta Tn Tc) (by simp)).set ⟨B12, 2, none⟩ (.slice R17a R17n R17c) (by simp)
                have G2 := Lib.hid (gs.grown G2.out (fun b hb => by rw [List.mem_singleton] at hb; have h1 := LB.out; have h2 := HBZ.out.1; omega))
                have BT2 := Lib.hid (((BT.out.set0 (.int .i64 win)).set1 (.slice Ta Tn Tc)).set2 (.slice R17a R17n R17c))
                have EL2 := Lib.hid (EL17.out.step (L' := B8 :: L2) gs (fun b hb => .inl (by rw [List.mem_singleton] at hb; rw [hb]; exact List.mem_cons_self)) (fun b hb => .inl (List.mem_cons_of_mem _ hb)))
                clear m0 m1 m2 f0 f1 f2 gs
                refine hK.out _ _ ?_ (fun hHeld => ?_)
                · exact ⟨(BX.out.grown G2.out).1.1, (BX.out.grown G2.out).1.2.1, (BX.out.grown G2.out).1.2.2, (F10.out.grown G2.out).1.1, (F10.out.grown G2.out).1.2.1, (F10.out.grown G2.out).1.2.2.1, (F10.out.grown G2.out).1.2.2.2⟩
                clear hK K
                try simp only [Act.put, List.setIfInBounds_toArray, List.set_cons_zero, List.set_cons_succ]
                refine wpAnyH_done (by kernel_rfl) ?_ _
                go_wp2_with fail
                go_meet
                case rel => exact ⟨B12, ⟨R17a, R17n, R17c⟩, rfl, BT2, EL2, G2⟩
            · go_simp
              obtain ⟨B11, hB11⟩ : ∃ b, b = p1.heap.size := ⟨_, rfl⟩
              obtain ⟨p2, hp2⟩ : ∃ z, z = p1.alloc (Obj.cells #[.int .i64 yst, .int .i64 yep, .int .i64 ynx, .slice Ya Yn Yc] 61) := ⟨_, rfl⟩
              rw [← hp2, ← hB11]
              have gn : p1.grownBy p2 none := by subst hp2; exact grown_alloc _ _ _
              have BT := Lib.hid (BT.out.grown gn)
              have C11 := Lib.hid (show OR bz p2 61 4 ⟨some ⟨B11, 0, none⟩, 1, 1⟩ (ecs (⟨yst, yep, ynx, yhe⟩, ⟨Ya, Yn, Yc⟩)) from by subst hp2; subst hB11; exact (or_lit4 p1 (⟨yst, yep, ynx, yhe⟩, ⟨Ya, Yn, Yc⟩)).base_ (by have := GB.out.size; have := HBZ.out.2; omega))
              have L11 := Lib.hid (show B11 < p2.heap.size from (C11.out.blk B11 rfl).2)
              have LT := Lib.hid (show B12 < p2.heap.size from BT.out.lt)
              have GB := Lib.hid (grown_trans GB.out gn)
              have G2 := Lib.hid (grown_trans G2.out gn)
              clear gn hp2 hB11
              refine hK.out _ _ ?_ (fun hHeld => ?_)
              · exact ⟨(BX.out.grown G2.out).1.1, (BX.out.grown G2.out).1.2.1, (BX.out.grown G2.out).1.2.2, (F10.out.grown G2.out).1.1, (F10.out.grown G2.out).1.2.1, (F10.out.grown G2.out).1.2.2.1, (F10.out.grown G2.out).1.2.2.2⟩
              clear hK K
              try simp only [Act.put, List.setIfInBounds_toArray, List.set_cons_zero, List.set_cons_succ]
              refine wpAnyH_ready (rs := [4]) (by kernel_rfl) (by simp) (consL rfl (fun K hK => ?_) AllReadyH.nil)
              go_simp
              obtain ⟨B4, hB4⟩ : ∃ b, b = p2.heap.size := ⟨_, rfl⟩
              obtain ⟨p3, hp3⟩ : ∃ z, z = p2.alloc (Obj.cells #[] 61) := ⟨_, rfl⟩
              rw [← hp3, ← hB4]
              have gn : p2.grownBy p3 none := by subst hp3; exact grown_alloc _ _ _
              have C11 := Lib.hid (C11.out.grown gn)
              have BT := Lib.hid (BT.out.grown gn)
              have R4 := Lib.hid (show OR bz p3 61 4 ⟨some ⟨B4, 0, none⟩, 0, 0⟩ [] from by subst hp3; subst hB4; exact (or_lit40 p2).base_ (by have := GB.out.size; have := HBZ.out.2; omega))
              have N4 := Lib.hid (show B4 ≠ B11 by have := L11.out; omega)
              have NR := Lib.hid (show ∀ b, Sl.blk ⟨some ⟨B4, 0, none⟩, 0, 0⟩ = some b → b ≠ B12 from fun b hb => by
                have e2 : B4 = b := by simpa [Sl.blk] using hb
                have := LT.out; omega)
              have LT := Lib.hid (show B12 < p3.heap.size from BT.out.lt)
              have GB := Lib.hid (grown_trans GB.out gn)
              have G2 := Lib.hid (grown_trans G2.out gn)
              clear gn hp3 hB4
              refine hK.out _ _ ?_ (fun hHeld => ?_)
              · exact ⟨(BX.out.grown G2.out).1.1, (BX.out.grown G2.out).1.2.1, (BX.out.grown G2.out).1.2.2, (F10.out.grown G2.out).1.1, (F10.out.grown G2.out).1.2.1, (F10.out.grown G2.out).1.2.2.1, (F10.out.grown G2.out).1.2.2.2⟩
              clear hK K
              try simp only [Act.put, List.setIfInBounds_toArray, List.set_cons_zero, List.set_cons_succ]
              refine wpAnyH_ready (rs := [9]) (by kernel_rfl) (by simp) (consL rfl (fun K hK => ?_) AllReadyH.nil)
              have HC5 := Lib.hid (cr4_take (c' := Ec) (a := a) (HCR.out.grown G2.out))
              have HZ5 := Lib.hid (show bz ≤ p3.heap.size by have := GB.out.size; have := HBZ.out.2; omega)
              refine step_appV rfl (.tmp 85) (.tmp 89) 27 rfl (S := ⟨some ⟨B4, 0, none⟩, 0, 0⟩) (V := ⟨Ea, a, Ec⟩) Try.underlying27 hI hz hsz hby (by rfl) (by omega) rfl rfl R4.out HZ5.out HL5.out HC5.out (f4_one _) (by dsimp only; omega) (by dsimp only; omega) ?_
              intro r p4 hrn hr gr hrb
              have cn : Chg (Sl.blk ⟨some ⟨B4, 0, none⟩, 0, 0⟩).toList p3 p4 := Chg.of gr (fun b hb => by simpa using hb)
              have h5b := fun b (hb : b ∈ (Sl.blk ⟨some ⟨B4, 0, none⟩, 0, 0⟩).toList) => (R4.out.blk b (by simpa using hb)).1
              have C11 := Lib.hid (C11.out.chg cn (fun b hb hm => by
                have e1 : b = B4 := by simpa [Sl.blk] using hm
                have e2 : B11 = b := by simpa [Sl.blk] using hb
                exact N4.out (by omega)))
              have BT := Lib.hid (BT.out.step cn (fun hm => NR.out _ (by simpa using hm) rfl))
              have R9 := Lib.hid (show OR bz p4 61 4 r (f4 (ys.take a)) from hr)
              have HRN := Lib.hid (show r.n = a by rw [hrn]; dsimp only; omega)
              have NR := Lib.hid (show ∀ b, r.blk = some b → b ≠ B12 from fun b hb => by
                rcases hrb b hb with e | e
                · exact NR.out b e
                · have := LT.out; omega)
              have LT := Lib.hid (show B12 < p4.heap.size from BT.out.lt)
              have GB := Lib.hid (cn.grown GB.out (fun b hb => by have := h5b b hb; have := HBZ.out.2; omega))
              have G2 := Lib.hid (cn.grown G2.out (fun b hb => by have := h5b b hb; have := HBZ.out.1; omega))
              clear hrn hr gr hrb cn h5b HZ5
              obtain ⟨R9a, R9n, R9c⟩ := r
              dsimp only [Sl.v]
              refine hK.out _ _ ?_ (fun hHeld => ?_)
              · exact ⟨(BX.out.grown G2.out).1.1, (BX.out.grown G2.out).1.2.1, (BX.out.grown G2.out).1.2.2, (F10.out.grown G2.out).1.1, (F10.out.grown G2.out).1.2.1, (F10.out.grown G2.out).1.2.2.1, (F10.out.grown G2.out).1.2.2.2⟩
              clear hK K
              try simp only [Act.put, List.setIfInBounds_toArray, List.set_cons_zero, List.set_cons_succ]
              refine wpAnyH_ready (rs := [12]) (by kernel_rfl) (by simp) (consL rfl (fun K hK => ?_) AllReadyH.nil)
              have HZ5 := Lib.hid (show bz ≤ p4.heap.size by have := GB.out.size; have := HBZ.out.2; omega)
              have hrn0 := HRN.out
              dsimp only at hrn0
              refine step_appV rfl (.tmp 90) (.tmp 92) 27 rfl (S := ⟨R9a, R9n, R9c⟩) (V := ⟨some ⟨B11, 0, none⟩, 1, 1⟩) Try.underlying27 hI hz hsz hby (by rfl) (by omega) rfl rfl R9.out HZ5.out C11.out.len C11.out.cr (ecs_one _) (by dsimp only; omega) (by dsimp only; omega) ?_
              intro r p5 hrn hr gr hrb
              have cn : Chg (Sl.blk ⟨R9a, R9n, R9c⟩).toList p4 p5 := Chg.of gr (fun b hb => by simpa using hb)
              have h5b := fun b (hb : b ∈ (Sl.blk ⟨R9a, R9n, R9c⟩).toList) => (R9.out.blk b (by simpa using hb)).1
              have BT := Lib.hid (BT.out.step cn (fun hm => NR.out _ (by simpa using hm) rfl))
              have R12 := Lib.hid (show OR bz p5 61 4 r (f4 (ys.take a) ++ ecs (⟨yst, yep, ynx, yhe⟩, ⟨Ya, Yn, Yc⟩)) from hr)
              have HRN := Lib.hid (show r.n = a + 1 by rw [hrn]; dsimp only; omega)
              have NR := Lib.hid (show ∀ b, r.blk = some b → b ≠ B12 from fun b hb => by
                rcases hrb b hb with e | e
                · exact NR.out b e
                · have := LT.out; omega)
              have LT := Lib.hid (show B12 < p5.heap.size from BT.out.lt)
              have GB := Lib.hid (cn.grown GB.out (fun b hb => by have := h5b b hb; have := HBZ.out.2; omega))
              have G2 := Lib.hid (cn.grown G2.out (fun b hb => by have := h5b b hb; have := HBZ.out.1; omega))
              clear hrn hr gr hrb cn h5b HZ5 hrn0
              obtain ⟨R12a, R12n, R12c⟩ := r
              dsimp only [Sl.v]
              refine hK.out _ _ ?_ (fun hHeld => ?_)
              · exact ⟨(BX.out.grown G2.out).1.1, (BX.out.grown G2.out).1.2.1, (BX.out.grown G2.out).1.2.2, (F10.out.grown G2.out).1.1, (F10.out.grown G2.out).1.2.1, (F10.out.grown G2.out).1.2.2.1, (F10.out.grown G2.out).1.2.2.2⟩
              clear hK K
              try simp only [Act.put, List.setIfInBounds_toArray, List.set_cons_zero, List.set_cons_succ]
              refine wpAnyH_ready (rs := [17]) (by kernel_rfl) (by simp) (consL rfl (fun K hK => ?_) AllReadyH.nil)
              have HCD := Lib.hid (HDR.out _ G2.out)
              have HZ5 := Lib.hid (show bz ≤ p5.heap.size by have := GB.out.size; have := HBZ.out.2; omega)
              have hrn0 := HRN.out
              dsimp only at hrn0
              refine step_appV rfl (.tmp 93) (.tmp 97) 27 rfl (S := ⟨R12a, R12n, R12c⟩) (V := ⟨ad, En - bh, Ec - bh⟩) Try.underlying27 hI hz hsz hby (by rfl) (by omega) rfl rfl R12.out HZ5.out HL13.out HCD.out (f4_one _) (by dsimp only; omega) (by dsimp only; omega) ?_
              intro r p6 hrn hr gr hrb
              have cn : Chg (Sl.blk ⟨R12a, R12n, R12c⟩).toList p5 p6 := Chg.of gr (fun b hb => by simpa using hb)
              have h5b := fun b (hb : b ∈ (Sl.blk ⟨R12a, R12n, R12c⟩).toList) => (R12.out.blk b (by simpa using hb)).1
              have BT := Lib.hid (BT.out.step cn (fun hm => NR.out _ (by simpa using hm) rfl))
              have R17 := Lib.hid (show OR bz p6 61 4 r (f4 (ys.take a) ++ ecs (⟨yst, yep, ynx, yhe⟩, ⟨Ya, Yn, Yc⟩) ++ f4 (ys.drop bh)) from hr)
              have HRN := Lib.hid (show r.n = a + 1 + (En - bh) by rw [hrn]; dsimp only; omega)
              have NR := Lib.hid (show ∀ b, r.blk = some b → b ≠ B12 from fun b hb => by
                rcases hrb b hb with e | e
                · exact NR.out b e
                · have := LT.out; omega)
              have LT := Lib.hid (show B12 < p6.heap.size from BT.out.lt)
              have GB := Lib.hid (cn.grown GB.out (fun b hb => by have := h5b b hb; have := HBZ.out.2; omega))
              have G2 := Lib.hid (cn.grown G2.out (fun b hb => by have := h5b b hb; have := HBZ.out.1; omega))
              clear hrn hr gr hrb cn h5b HZ5 hrn0
              obtain ⟨R17a, R17n, R17c⟩ := r
              dsimp only [Sl.v]
              refine hK.out _ _ ?_ (fun hHeld => ?_)
              · exact ⟨(BX.out.grown G2.out).1.1, (BX.out.grown G2.out).1.2.1, (BX.out.grown G2.out).1.2.2, (F10.out.grown G2.out).1.1, (F10.out.grown G2.out).1.2.1, (F10.out.grown G2.out).1.2.2.1, (F10.out.grown G2.out).1.2.2.2⟩
              clear hK K
              try simp only [Act.put, List.setIfInBounds_toArray, List.set_cons_zero, List.set_cons_succ]
              refine takeL (i := 18) (v := ?_) rfl (by kernel_rfl) (by kernel_rfl) (by kernel_rfl) (fun _ _ _ h => h) (Or.inl ⟨by rfl, ?_⟩) (by assumption) ?_
              rotate_left 1
              · intro w hSw; obtain ⟨s0, s1, s2, q0, q1, q2, q3⟩ := hSw; first | (go_simp; done) | (go_simp; with_reducible rfl)
              try simp only [Act.put, List.setIfInBounds_toArray, List.set_cons_zero, List.set_cons_succ]
              have hLX : ∀ b ∈ B12 :: B8 :: L2, b ∈ B8 :: L2 ∨ wl.heap.size ≤ b := fun b hb => by
                rcases List.mem_cons.1 hb with e | hb
                · right; have h1 := LB.out; have h2 := HBZ.out.1; omega
                · exact .inl hb
              have EL17 := Lib.hid (ins_row4 (L := B12 :: B8 :: L2) HYS.out (fun y hy => (HYV.out y hy).step (M := []) (Chg.refl _ _) (fun _ h => by cases h) hLX) (TLY.out.step (M := []) (Chg.refl _ _) (fun _ h => by cases h) hLX) G2.out R17.out (fun b hb hm => by
                rcases List.mem_cons.1 hm with e | hm
                · exact NR.out b hb e
                · have h1 := (R17.out.blk b hb).1; have h2 := HLB.out b hm; omega))
              clear hLX
              obtain ⟨⟨m0, m1, m2⟩, mf⟩ := BT.out
              have f0 := mf 0
              have f1 := mf 1
              have f2 := mf 2
              clear mf
              refine wpAnyH_ready (rs := [20]) (by kernel_rfl) (by simp) (consL rfl (fun K hK => ?_) AllReadyH.nil)
              go_simp
              have gs : Chg [B12] p6 (((p6.setCell ⟨B12, 0, none⟩ (.int .i64 win)).setCell ⟨B12, 1, none⟩ (.slice Ta Tn Tc)).setCell ⟨B12, 2, none⟩ (.slice R17a R17n R17c)) := (((Chg.refl [B12] p6).set ⟨B12, 0, none⟩ (.int .i64 win) (by simp)).set ⟨B12, 1, none⟩ (.slice Ta Tn Tc) (by simp)).set ⟨B12, 2, none⟩ (.slice R17a R17n R17c) (by simp)
              have G2 := Lib.hid (gs.grown G2.out (fun b hb => by rw [List.mem_singleton] at hb; have h1 := LB.out; have h2 := HBZ.out.1; omega))
              have BT2 := Lib.hid (((BT.out.set0 (.int .i64 win)).set1 (.slice Ta Tn Tc)).set2 (.slice R17a R17n R17c))
              have EL2 := Lib.hid (EL17.out.step (L' := B8 :: L2) gs (fun b hb => .inl (by rw [List.mem_singleton] at hb; rw [hb]; exact List.mem_cons_self)) (fun b hb => .inl (List.mem_cons_of_mem _ hb)))
              clear m0 m1 m2 f0 f1 f2 gs
              refine hK.out _ _ ?_ (fun hHeld => ?_)
              · exact ⟨(BX.out.grown G2.out).1.1, (BX.out.grown G2.out).1.2.1, (BX.out.grown G2.out).1.2.2, (F10.out.grown G2.out).1.1, (F10.out.grown G2.out).1.2.1, (F10.out.grown G2.out).1.2.2.1, (F10.out.grown G2.out).1.2.2.2⟩
              clear hK K
              try simp only [Act.put, List.setIfInBounds_toArray, List.set_cons_zero, List.set_cons_succ]
              refine wpAnyH_done (by kernel_rfl) ?_ _
              go_wp2_with fail
              go_meet
              case rel => exact ⟨B12, ⟨R17a, R17n, R17c⟩, rfl, BT2, EL2, G2⟩
        case rest =>
          obtain ⟨B12, ⟨Ra, Rn, Rc⟩, rfl, BT, ELR, GX⟩ := hcut
          have TLO := Lib.hid (TLO.out.grown GX.out)
          have BZ := Lib.hid (BZ.out.grown GX.out)
          have HK4 := Lib.hid (HK4.out.grown GX.out)
          have G := Lib.hid (grown_trans G.out GX.out)
          dsimp only [Sl.v] at BT
          have FIN := Lib.hid (fun (wz : World) (gz : Chg [X + 1 + 1] wc wz) => show AccA L (Im.acc win es (⟨tst, tep, tsq, ttm, tkd, tvs⟩ : Tm.Tg)) ⟨win, tl, es⟩ w (.returned (.tuple #[iv3 win ⟨Ta, Tn, Tc⟩ ⟨Ra, Rn, Rc⟩, Sl.v ⟨Oa, On, Oc⟩, .int .i64 0])) wz from by
            have hb2 : ∀ b ∈ [X + 1 + 1], b ∈ B8 :: L2 ∨ wc.heap.size ≤ b := fun b hb => by rw [List.mem_singleton] at hb; subst hb; exact .inl (List.mem_cons_of_mem _ HL2.out.2.2.2)
            have hbL : ∀ b ∈ L, b ∈ B8 :: L2 ∨ wc.heap.size ≤ b := fun b hb => .inl (List.mem_cons_of_mem _ (HL2.out.1 b hb))
            rw [ACC.out]
            exact ⟨⟨Ta, Tn, Tc⟩, ⟨Ra, Rn, Rc⟩, ⟨Oa, On, Oc⟩, rfl, ⟨HK4.out.fit, HK4.out.tl.step gz hb2 hbL, ELR.out.step gz hb2 hbL⟩, TLO.out.step gz hb2 hbL, gz.grown G.out (fun b hb => by rw [List.mem_singleton] at hb; have := HZX.out.2; omega)⟩)
          obtain ⟨⟨c0, c1, c2⟩, -⟩ := BT.out
          obtain ⟨⟨z0, z1, z2⟩, zF⟩ := BZ.out
          have y0 := zF 0
          have y1 := zF 1
          have y2 := zF 2
          clear zF
          go_wp2_with fail
          try simp only [Exit.inBlock, Exit.then]
          refine bodyPost_ret (v := .tuple #[iv3 win ⟨Ta, Tn, Tc⟩ ⟨Ra, Rn, Rc⟩, Sl.v ⟨Oa, On, Oc⟩, .int .i64 0]) ?hr rfl ?hE
          case hr =>
            rw [results_cell3 rfl]
            go_simp
            first | rfl | exact ⟨rfl, rfl⟩
          case hE =>
            exact FIN.out _ ((((Chg.refl _ wc).set ⟨X + 1 + 1, 0, none⟩ (.int .i64 win) (by simp)).set ⟨X + 1 + 1, 1, none⟩ (.slice Ta Tn Tc) (by simp)).set ⟨X + 1 + 1, 2, none⟩ (.slice Ra Rn Rc) (by simp))
end Go.Proofs.Yticmoaebegahgaa.Iw
