import Derived.Test.YticmoaebegahgaaGreatDoorKq
import Derived.Test.YticmoaebegahgaaGreatDoorRv
set_option linter.all false
namespace Go.Proofs.YticmoaebegahgaaGreatDoor.Iw
open Go.ChangeShapes Go.WideShapes Go.ChangeAt Go.RowKit
open Wr (IR RB iv ivs bv bvs grown_trans grown_refl grown_alloc ret_int ret_bool tv Ret ret_mk)
set_option maxRecDepth 100000 in
set_option maxHeartbeats 8000000 in
theorem raccept_bad (L : List Nat) (T E : Sl) (k : Ik) (t : Tm.Tg) (V : Sl) (w : World) (hL : ∀ b ∈ L, b < w.heap.size) (hk : KA w L T E k) (hV : VI w L V t.vs) (er : Int) (her : (accF k t).2.2 = er) (hne : er ≠ 0) :
    Calls Tryz.prog 18 #[iv3 k.win T E, tv t V.v] w (Ret (.tuple #[iv3 k.win T E, nilS.v, .int .i64 er]) w) := by
  have HK := Hi hk
  have HV := Hi hV
  have HE := Hi her
  have HNE := Hi hne
  clear hk hV hL her hne
  obtain ⟨win, tl, es⟩ := k
  obtain ⟨tst, tep, tsq, ttm, tkd, tvs⟩ := t
  obtain ⟨Ta, Tn, Tc⟩ := T
  obtain ⟨Ea, En, Ec⟩ := E
  obtain ⟨Va, Vn, Vc⟩ := V
  have hEn : es.length = En := HK.out.es.len
  have HEN := Hi hEn
  have hEm : En ≤ 9223372036854775807 := by have h1 := HK.out.es.fit.1; have h2 := HK.out.es.fit.2; dsimp only at h1 h2; omega
  dsimp only [iv3, tv, Sl.v, nilS]
  obtain ⟨X, hX⟩ : ∃ X, X = w.heap.size := ⟨_, rfl⟩
  obtain ⟨w1, hw1⟩ : ∃ w1, w1 = w.alloc (Obj.cells #[.int .i64 win, .slice Ta Tn Tc, .slice Ea En Ec] 25) := ⟨_, rfl⟩
  obtain ⟨w2, hw2⟩ : ∃ w2, w2 = w1.alloc (Wr.tcells ⟨tst, tep, tsq, ttm, tkd, tvs⟩ (.slice Va Vn Vc)) := ⟨_, rfl⟩
  obtain ⟨w3, hw3⟩ : ∃ w3, w3 = w2.alloc (Obj.cells #[.int .i64 0, .slice none 0 0, .slice none 0 0] 25) := ⟨_, rfl⟩
  have z1 : w1.heap.size = X + 1 := by subst hw1; subst hX; simp
  have z2 : w2.heap.size = X + 2 := by subst hw2; simp [z1]
  have z2' : w2.heap.size = X + 1 + 1 := z2
  have z3 : w3.heap.size = X + 3 := by subst hw3; simp [z2]
  have g1 : w.grownBy w1 none := by subst hw1; exact grown_alloc _ _ _
  have g2 : w1.grownBy w2 none := by subst hw2; exact grown_alloc _ _ _
  have g3 : w2.grownBy w3 none := by subst hw3; exact grown_alloc _ _ _
  have G := Hi (grown_trans g1 (grown_trans g2 g3))
  have BX := Hi (show Tri w3 X (.int .i64 win) (.slice Ta Tn Tc) (.slice Ea En Ec) from (show Tri w1 X _ _ _ by subst hw1; subst hX; exact tri_made _ _ _ _ _).grown (grown_trans g2 g3))
  have SY := Hi (show Wr.Six w3 (X + 1) ⟨tst, tep, tsq, ttm, tkd, tvs⟩ (.slice Va Vn Vc) from (show Wr.Six w2 (X + 1) _ _ by subst hw2; rw [← z1]; exact Wr.Six.made _ _ _).grown g3 (by simp))
  have BZ := Hi (show Tri w3 (X + 1 + 1) (.int .i64 0) (.slice none 0 0) (.slice none 0 0) by subst hw3; rw [← z2']; exact tri_made _ _ _ _ _)
  have HK3 := Hi (HK.out.grown G.out)
  have HV3 := Hi (HV.out.grown G.out)
  have HZX := Hi (show w3.heap.size = X + 3 ∧ w.heap.size = X from ⟨z3, hX.symm⟩)
  unfold Wr.tcells at hw2
  try dsimp only at hw2
  have FIN := Hi (fun (wr wz : World) (g : w.grownBy wr none) (gz : Chg [X + 1 + 1] wr wz) => show Ret (.tuple #[iv3 win ⟨Ta, Tn, Tc⟩ ⟨Ea, En, Ec⟩, nilS.v, .int .i64 er]) w (.returned (.tuple #[iv3 win ⟨Ta, Tn, Tc⟩ ⟨Ea, En, Ec⟩, nilS.v, .int .i64 er])) wz from
    ⟨rfl, gz.grown g (fun b hb => by rw [List.mem_singleton] at hb; have := HZX.out.2; omega)⟩)
  have HVD := Hi (rvalid_any ⟨Ta, Tn, Tc⟩ ⟨Ea, En, Ec⟩ ⟨win, tl, es⟩ w3 HK3.out.kr)
  dsimp only [iv3, Sl.v] at HVD
  go_enter Tryz.func18, Tryz.ntmps18
  go_upto_region 1 with fail
  rw [← hw1, ← hw2, ← hw3]
  simp only [← hX]
  try simp only [z1, z2']
  clear hX hw1 hw2 hw3 g1 g2 g3 z1 z2 z2' z3 HK HV hEn
  obtain ⟨⟨c0, c1, c2⟩, -⟩ := BX.out
  generalize hkb : (⟨win, tl, es⟩ : Ik).ok = kb at *
  have HKB := Hi hkb
  clear hkb
  go_wp2_with fail
  refine HVD.out.mono ?_
  rintro e w4 ⟨rfl, g4⟩
  clear HVD c0 c1 c2
  have G4 := Hi (grown_trans G.out g4)
  have BX := Hi (BX.out.grown g4)
  have SY := Hi (SY.out.grown g4 (by simp))
  have BZ := Hi (BZ.out.grown g4)
  have HK3 := Hi (HK3.out.grown g4)
  have HV3 := Hi (HV3.out.grown g4)
  clear g4 G
  rcases kb with _ | _
  · have he : er = 9 := by rw [← HE.out]; unfold accF; rw [HKB.out]; rfl
    subst he
    obtain ⟨⟨c0, c1, c2⟩, -⟩ := BX.out
    obtain ⟨⟨z0, z1, z2⟩, zF⟩ := BZ.out
    have y0 := zF 0
    have y1 := zF 1
    have y2 := zF 2
    clear zF
    go_wp2_with fail
    try simp only [Exit.inBlock, Exit.then]
    refine bodyPost_ret (v := .tuple #[iv3 win ⟨Ta, Tn, Tc⟩ ⟨Ea, En, Ec⟩, nilS.v, .int .i64 9]) ?hr rfl ?hE
    case hr =>
      rw [results_cell3 rfl]
      go_simp
      first | rfl | exact ⟨rfl, rfl⟩
    case hE =>
      exact FIN.out _ _ G4.out ((((Chg.refl _ _).set ⟨X + 1 + 1, 0, none⟩ (.int .i64 win) (by simp)).set ⟨X + 1 + 1, 1, none⟩ (.slice Ta Tn Tc) (by simp)).set ⟨X + 1 + 1, 2, none⟩ (.slice Ea En Ec) (by simp))
  · obtain ⟨⟨t0, t1, t2, t3, t4, t5⟩, -⟩ := SY.out
    dsimp only at t0 t1 t2 t3 t4 t5
    have HVT := Hi (rvalid_bool (t := ⟨tst, tep, tsq, ttm, tkd, tvs⟩) (V := ⟨Va, Vn, Vc⟩) (W := w4) HV3.out.free)
    dsimp only [tv, Sl.v] at HVT
    generalize htb : (⟨tst, tep, tsq, ttm, tkd, tvs⟩ : Tm.Tg).ok = tb at HVT
    have HTB := Hi htb
    clear htb
    go_wp2_with fail
    refine HVT.out.mono ?_
    rintro e w5 ⟨rfl, g5⟩
    clear HVT t0 t1 t2 t3 t4 t5
    have G5 := Hi (grown_trans G4.out g5)
    have BX := Hi (BX.out.grown g5)
    have SY := Hi (SY.out.grown g5 (by simp))
    have BZ := Hi (BZ.out.grown g5)
    have HK3 := Hi (HK3.out.grown g5)
    have HV3 := Hi (HV3.out.grown g5)
    have HSZ := Hi (show X + 3 ≤ w5.heap.size by have h1 := G5.out.size; have h2 := g5.size; have h3 := HZX.out.1; have h4 := BZ.out.lt; omega)
    clear g5 G4
    rcases tb with _ | _
    · have he : er = 3 := by rw [← HE.out]; unfold accF; rw [HKB.out, if_pos rfl, HTB.out]; rfl
      subst he
      obtain ⟨⟨c0, c1, c2⟩, -⟩ := BX.out
      obtain ⟨⟨z0, z1, z2⟩, zF⟩ := BZ.out
      have y0 := zF 0
      have y1 := zF 1
      have y2 := zF 2
      clear zF
      go_wp2_with fail
      try simp only [Exit.inBlock, Exit.then]
      refine bodyPost_ret (v := .tuple #[iv3 win ⟨Ta, Tn, Tc⟩ ⟨Ea, En, Ec⟩, nilS.v, .int .i64 3]) ?hr rfl ?hE
      case hr =>
        rw [results_cell3 rfl]
        go_simp
        first | rfl | exact ⟨rfl, rfl⟩
      case hE =>
        exact FIN.out _ _ G5.out ((((Chg.refl _ _).set ⟨X + 1 + 1, 0, none⟩ (.int .i64 win) (by simp)).set ⟨X + 1 + 1, 1, none⟩ (.slice Ta Tn Tc) (by simp)).set ⟨X + 1 + 1, 2, none⟩ (.slice Ea En Ec) (by simp))
    · have HER := Hi (show er = 4 ∧ ¬ es.length < 64 ∧ Im.ent es tst = none from by
        have h1 := HE.out
        unfold accF at h1
        rw [HKB.out, if_pos rfl, HTB.out, if_pos rfl] at h1
        dsimp only at h1
        by_cases h2 : es.length < 64 ∨ Im.ent es tst ≠ none
        · rw [if_pos h2] at h1; exact absurd h1.symm HNE.out
        · rw [if_neg h2] at h1
          exact ⟨h1.symm, fun h => h2 (.inl h), Classical.byContradiction (fun h => h2 (.inr h))⟩)
      have HOK := Hi (Ik.ok_iff.1 HKB.out)
      obtain ⟨rfl, -, -⟩ := HER.out
      go_upto_block 0 with fail
      go_cut [7] (fun v wd => ∃ a : Nat, v = .int .i64 a ∧ a ≤ En ∧ Hid (w5.grownBy wd none))
      case first =>
        go_wp2_with fail
        go_loopw [7] (fun v wr => ∃ a : Nat, v = .int .i64 a ∧ a ≤ En ∧ Hid (w5.grownBy wr none)) (fun v _ => En - (intOf v).toNat)
        case atStart => exact ⟨0, rfl, by omega, grown_refl _ _⟩
        case round =>
          obtain ⟨a, rfl, ha, GR⟩ := hrel
          obtain ⟨⟨c0, c1, c2⟩, -⟩ := BX.out.grown GR.out
          obtain ⟨⟨t0, t1, t2, t3, t4, t5⟩, -⟩ := SY.out.grown GR.out (by simp)
          dsimp only at t0 t1 t2 t3 t4 t5
          by_cases hlt : a < En
          · obtain ⟨b, off, ⟨Wa, Wn, Wc⟩, hDa, -, -, hcc⟩ := (HK3.out.grown GR.out).es.at_ a hlt
            dsimp only at hDa
            subst hDa
            obtain ⟨d0, d1, d2, d3⟩ := four_of (o := off + a * 4) (fun j u hu => by rw [Nat.add_assoc]; exact hcc j u hu)
            dsimp only at d0
            obtain ⟨y, hy⟩ : ∃ y, y = (es.getD a wt0).st := ⟨_, rfl⟩
            rw [← hy] at d0
            clear hy hcc d1 d2 d3
            have b1 : decide ((a : Int) < (En : Int)) = true := by simp; omega
            by_cases hq : y < tst
            · have b2 : decide (y < tst) = true := by simpa using hq
              go_wp2_with fail
              go_quiet (fail)
              go_wp2
              go_roundw
              case rel => exact ⟨a + 1, by go_num, by omega, grown_trans GR.out (Wr.grown_drewN wr nq none)⟩
              case measure => simp [intOf]; omega
            · have b2 : decide (y < tst) = false := by simpa using hq
              go_wp2_with fail
              go_quiet (fail)
              go_wp2_with fail
              go_meet
              case rel => exact ⟨a, rfl, ha, grown_trans GR.out (Wr.grown_drewN wr nq none)⟩
          · have b1 : decide ((a : Int) < (En : Int)) = false := by simp; omega
            go_wp2_with fail
            go_quiet (fail)
            go_wp2_with fail
            go_meet
            case rel => exact ⟨a, rfl, ha, grown_trans GR.out (Wr.grown_drewN wr nq none)⟩
      case rest =>
        obtain ⟨a, rfl, ha, GR⟩ := hcut
        have G := Hi (grown_trans G5.out GR.out)
        have BX := Hi (BX.out.grown GR.out)
        have SY := Hi (SY.out.grown GR.out (by simp))
        have BZ := Hi (BZ.out.grown GR.out)
        have HK3 := Hi (HK3.out.grown GR.out)
        have HSZ := Hi (Nat.le_trans HSZ.out GR.out.size)
        clear GR
        obtain ⟨⟨t0, t1, t2, t3, t4, t5⟩, -⟩ := SY.out
        dsimp only at t0 t1 t2 t3 t4 t5
        go_upto_region 10 with fail
        obtain ⟨B8, hB8⟩ : ∃ b, b = wc.heap.size := ⟨_, rfl⟩
        obtain ⟨w8, hw8⟩ : ∃ z, z = wc.alloc (Obj.cells #[.int .i64 tst, .int .i64 tep, .int .i64 0, .slice none 0 0] 32) := ⟨_, rfl⟩
        rw [← hw8]
        simp only [← hB8]
        have g8 : wc.grownBy w8 none := by subst hw8; exact grown_alloc _ _ _
        have G := Hi (grown_trans G.out g8)
        have BX := Hi (BX.out.grown g8)
        have SY := Hi (SY.out.grown g8 (by simp))
        have BZ := Hi (BZ.out.grown g8)
        have HK3 := Hi (HK3.out.grown g8)
        clear hB8 hw8 g8 HSZ t0 t1 t2 t3 t4 t5
        go_cut [60] (fun v wd => v = .bool false ∧ Hid (w8.grownBy wd none))
        case first =>
          obtain ⟨⟨c0, c1, c2⟩, -⟩ := BX.out
          obtain ⟨⟨t0, t1, t2, t3, t4, t5⟩, -⟩ := SY.out
          dsimp only at t0 t1 t2 t3 t4 t5
          by_cases hlt : a < En
          · have hne : (es.getD a wt0).st ≠ tst := fun e => by
              have hm : es.getD a wt0 ∈ es := by
                have hlt : a < es.length := by rw [HEN.out]; exact hlt
                rw [List.getD_eq_getElem?_getD, List.getElem?_eq_getElem hlt]; exact List.getElem_mem _
              have h1 := ent_some hm
              rw [e] at h1
              exact h1 HER.out.2.2
            obtain ⟨b, off, ⟨Wa, Wn, Wc⟩, hDa, -, -, hcc⟩ := HK3.out.es.at_ a hlt
            dsimp only at hDa
            subst hDa
            obtain ⟨d0, d1, d2, d3⟩ := four_of (o := off + a * 4) (fun j u hu => by rw [Nat.add_assoc]; exact hcc j u hu)
            dsimp only at d0
            obtain ⟨y, hy⟩ : ∃ y, y = (es.getD a wt0).st := ⟨_, rfl⟩
            rw [← hy] at d0 hne
            have b2 : (y == tst) = false := by simpa using hne
            clear hy hcc d1 d2 d3 hne
            have b1 : decide ((a : Int) < (En : Int)) = true := by simp; omega
            go_wp2_with fail
            go_quiet (fail)
            go_wp2
            go_meet
            case rel => exact ⟨by first | rfl | simp [b2], Wr.grown_drewN w8 nq none⟩
          · have b1 : decide ((a : Int) < (En : Int)) = false := by simp; omega
            go_wp2_with fail
            go_quiet (fail)
            go_wp2
            go_meet
            case rel => exact ⟨rfl, Wr.grown_drewN w8 nq none⟩
        case rest =>
          obtain ⟨rfl, GR⟩ := hcut
          have G := Hi (grown_trans G.out GR.out)
          have BX := Hi (BX.out.grown GR.out)
          have BZ := Hi (BZ.out.grown GR.out)
          clear GR
          have h64 : ((En : Int) == 64) = true := by have h1 := HER.out.2.1; have h2 := HOK.out.2.2.2.len; have h3 := HEN.out; simp; omega
          obtain ⟨⟨c0, c1, c2⟩, -⟩ := BX.out
          obtain ⟨⟨z0, z1, z2⟩, zF⟩ := BZ.out
          have y0 := zF 0
          have y1 := zF 1
          have y2 := zF 2
          clear zF
          go_wp2_with fail
          try simp only [Exit.inBlock, Exit.then]
          refine bodyPost_ret (v := .tuple #[iv3 win ⟨Ta, Tn, Tc⟩ ⟨Ea, En, Ec⟩, nilS.v, .int .i64 4]) ?hr rfl ?hE
          case hr =>
            rw [results_cell3 rfl]
            go_simp
            first | rfl | exact ⟨rfl, rfl⟩
          case hE =>
            exact FIN.out _ _ G.out ((((Chg.refl _ _).set ⟨X + 1 + 1, 0, none⟩ (.int .i64 win) (by simp)).set ⟨X + 1 + 1, 1, none⟩ (.slice Ta Tn Tc) (by simp)).set ⟨X + 1 + 1, 2, none⟩ (.slice Ea En Ec) (by simp))
end Go.Proofs.YticmoaebegahgaaGreatDoor.Iw
