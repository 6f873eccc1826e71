import Derived.Test.YticmoaebegahgaaGreatDoorKt
import Derived.Test.YticmoaebegahgaaGreatDoorRv
import Derived.Test.YticmoaebegahgaaGreatDoorLf
set_option linter.all false
namespace Go.Proofs.YticmoaebegahgaaGreatDoor.Iw
open Go.ChangeShapes Go.WideShapes Go.ChangeAt Go.RowKit
open Wr (IR RB iv ivs bv bvs grown_trans grown_refl grown_alloc ret_int ret_bool tv Ret ret_mk)
set_option maxRecDepth 100000 in
set_option maxHeartbeats 8000000 in
theorem rfeed_bad (T E : Sl) (k : Ik) (V : Value) (A : Option Addr) (n c : Nat) (w : World) (hV : V = .slice A n c) (hk : KR w T E k) (ho : k.ok = false) :
    Calls Tryz.prog 21 #[iv3 k.win T E, V] w (Ret (.tuple #[iv3 k.win T E, nilS.v, .int .i64 9]) w) := by
  subst hV
  have HK := Hi hk
  have HO := Hi ho
  clear hk ho
  obtain ⟨win, tl, es⟩ := k
  obtain ⟨Ta, Tn, Tc⟩ := T
  obtain ⟨Ea, En, Ec⟩ := E
  dsimp only [iv3, Sl.v, nilS]
  obtain ⟨X, hX⟩ : ∃ X, X = w.heap.size := ⟨_, rfl⟩
  obtain ⟨w1, hw1⟩ : ∃ w1, w1 = w.alloc (Obj.cells #[.int .i64 win, .slice Ta Tn Tc, .slice Ea En Ec] 25) := ⟨_, rfl⟩
  obtain ⟨w2, hw2⟩ : ∃ w2, w2 = w1.alloc (Obj.cells #[.int .i64 0, .slice none 0 0, .slice none 0 0] 25) := ⟨_, rfl⟩
  have z1 : w1.heap.size = X + 1 := by subst hw1; subst hX; simp
  have z2 : w2.heap.size = X + 2 := by subst hw2; simp [z1]
  have g1 : w.grownBy w1 none := by subst hw1; exact grown_alloc _ _ _
  have g2 : w1.grownBy w2 none := by subst hw2; exact grown_alloc _ _ _
  have G := Hi (grown_trans g1 g2)
  have BX := Hi (show Tri w2 X (.int .i64 win) (.slice Ta Tn Tc) (.slice Ea En Ec) from (show Tri w1 X _ _ _ by subst hw1; subst hX; exact tri_made _ _ _ _ _).grown g2)
  have BZ := Hi (show Tri w2 (X + 1) (.int .i64 0) (.slice none 0 0) (.slice none 0 0) by subst hw2; rw [← z1]; exact tri_made _ _ _ _ _)
  have HZX := Hi (show w2.heap.size = X + 2 ∧ w.heap.size = X from ⟨z2, hX.symm⟩)
  have FIN := Hi (fun (wr wz : World) (g : w.grownBy wr none) (gz : Chg [X + 1] wr wz) => show Ret (.tuple #[iv3 win ⟨Ta, Tn, Tc⟩ ⟨Ea, En, Ec⟩, nilS.v, .int .i64 9]) w (.returned (.tuple #[iv3 win ⟨Ta, Tn, Tc⟩ ⟨Ea, En, Ec⟩, nilS.v, .int .i64 9])) wz from
    ⟨rfl, gz.grown g (fun b hb => by rw [List.mem_singleton] at hb; have := HZX.out.2; omega)⟩)
  have HVD := Hi (rvalid_any ⟨Ta, Tn, Tc⟩ ⟨Ea, En, Ec⟩ ⟨win, tl, es⟩ w2 (HK.out.grown G.out))
  rw [HO.out] at HVD
  dsimp only [iv3, Sl.v] at HVD
  go_enter Tryz.func21, Tryz.ntmps21
  go_upto_region 1 with fail
  rw [← hw1, ← hw2]
  simp only [← hX]
  try simp only [z1]
  clear hX hw1 hw2 g1 g2 z1 z2 HK
  obtain ⟨⟨c0, c1, c2⟩, -⟩ := BX.out
  go_wp2_with fail
  refine HVD.out.mono ?_
  rintro e w3 ⟨rfl, g3⟩
  clear HVD c0 c1 c2
  have G := Hi (grown_trans G.out g3)
  have BX := Hi (BX.out.grown g3)
  have BZ := Hi (BZ.out.grown g3)
  clear g3
  obtain ⟨⟨c0, c1, c2⟩, -⟩ := BX.out
  obtain ⟨⟨z0, z1, z2⟩, zF⟩ := BZ.out
  have y0 := zF 0
  have y1 := zF 1
  have y2 := zF 2
  clear zF
  go_wp2_with fail
  try simp only [Exit.inBlock, Exit.then]
  refine bodyPost_ret (v := .tuple #[iv3 win ⟨Ta, Tn, Tc⟩ ⟨Ea, En, Ec⟩, nilS.v, .int .i64 9]) ?hr rfl ?hE
  case hr =>
    rw [results_cell3 rfl]
    go_simp
    first | rfl | exact ⟨rfl, rfl⟩
  case hE =>
    exact FIN.out _ _ G.out ((((Chg.refl _ _).set ⟨X + 1, 0, none⟩ (.int .i64 win) (by simp)).set ⟨X + 1, 1, none⟩ (.slice Ta Tn Tc) (by simp)).set ⟨X + 1, 2, none⟩ (.slice Ea En Ec) (by simp))
set_option maxRecDepth 100000 in
set_option maxHeartbeats 8000000 in
theorem feed_bad (T E : Sl) (k : Ik) (VV : Value) (A0 : Option Addr) (n0 c0 : Nat) (w : World) (hVV : VV = .slice A0 n0 c0) (h : KR w T E k) (hk : k.ok = false) (hT : T.n ≤ 1000000) (hE : E.n ≤ 1000000) (hH : ∀ e ∈ k.es, e.held.length ≤ 1000000) :
    Calls Tryz.prog 20 #[iv3 k.win T E, VV] w (AccE (k, [], 9) w) := by
  subst hVV
  have HK := Hi h
  have CO := Hi (fun (W : World) (hW : KR W T E k) => copyof_any T E k W hW hT hE hH)
  have IV := Hi (fun (W : World) (hW : KR W T E k) => isvalid_any T E k W hW (by omega))
  simp only [hk] at IV
  clear hk
  obtain ⟨win, tl, es⟩ := k
  obtain ⟨TA, tn, tc⟩ := T
  obtain ⟨EA, n, c⟩ := E
  dsimp only [iv3, Sl.v] at *
  obtain ⟨X, hX⟩ : ∃ X, X = w.heap.size := ⟨_, rfl⟩
  obtain ⟨w1, hw1⟩ : ∃ w1, w1 = w.alloc (Obj.cells #[.int .i64 win, .slice TA tn tc, .slice EA n c] 25) := ⟨_, rfl⟩
  obtain ⟨w3, hw3⟩ : ∃ w3, w3 = w1.alloc (Obj.cells #[.int .i64 0, .slice none 0 0, .slice none 0 0] 25) := ⟨_, rfl⟩
  have z1 : w1.heap.size = X + 1 := by subst hw1; subst hX; simp
  have z3 : w3.heap.size = X + 2 := by subst hw3; simp [z1]
  have g1 : w.grownBy w1 none := by subst hw1; exact grown_alloc _ _ _
  have g3 : w1.grownBy w3 none := by subst hw3; exact grown_alloc _ _ _
  have GW := Hi (grown_trans g1 g3)
  have BS := Hi (show Tri w3 X (.int .i64 win) (.slice TA tn tc) (.slice EA n c) from (show Tri w1 X _ _ _ by subst hw1; subst hX; exact tri_made _ _ _ _ _).grown g3)
  have BR := Hi (show Tri w3 (X + 1) (.int .i64 0) (.slice none 0 0) (.slice none 0 0) by subst hw3; rw [← z1]; exact tri_made _ _ _ _ _)
  have HX0 := Hi hX
  clear g1 g3 h
  obtain ⟨⟨s0, s1, s2⟩, -⟩ := BS.out
  refine (callsIn_wide (n := 5)).1 (callsIn_of_wp_marks Tryz.func20 rfl trivial (wpIn_wide.2 ?_) rfl)
  simp only [Tryz.ntmps20, List.size_toArray, List.length_cons, List.length_nil, Nat.reduceAdd, Nat.reduceSub, Array.replicate_succ, Array.replicate_zero, List.push_toArray, List.append_toArray, List.nil_append, List.cons_append]
  go_wp2_with fail
  rw [← hw1, ← hw3]
  simp only [← hX]
  try simp only [z1]
  clear hw1 hw3 hX
  refine (CO.out _ (HK.out.grown GW.out)).mono ?_
  rintro e w4 ⟨T', E', L, ys, rfl, hT', hTL, hys, hEO, hLo, g4⟩
  dsimp only at hT' hys
  obtain ⟨ta, tn', tc'⟩ := T'
  obtain ⟨ea, en, ec⟩ := E'
  obtain ⟨B, hBw⟩ : ∃ B, B = w4.heap.size := ⟨_, rfl⟩
  obtain ⟨w5, hw5⟩ : ∃ w5, w5 = w4.alloc (Obj.cells #[.int .i64 win, .slice ta tn' tc', .slice ea en ec] 25) := ⟨_, rfl⟩
  have g5 : w4.grownBy w5 none := by subst hw5; exact grown_alloc _ _ _
  have BN := Hi (show Tri w5 B (.int .i64 win) (.slice ta tn' tc') (.slice ea en ec) by subst hw5; subst hBw; exact tri_made _ _ _ _ _)
  have G5 := Hi (grown_trans GW.out (grown_trans g4 g5))
  have GX := Hi (grown_trans g4 g5)
  have hs4 := g4.size
  have hlB : ∀ b ∈ L, b ≠ B := fun b hb e => by have := hEO.new b hb; omega
  have T5 := Hi (hT'.grown g5)
  have E5 := Hi (show EO w3.heap.size w5 (B :: L) ⟨ea, en, ec⟩ ys from
    ⟨hEO.row.grown g5, (fun y hy => (hEO.held y hy).step (M := []) (Chg.of0 g5) (fun _ _ h => by cases h) (fun _ h => by cases h) (fun b hb => by
      rcases List.mem_cons.1 hb with rfl | hb
      · exact .inr (by omega)
      · exact .inl hb)), (fun y hy b hb => List.mem_cons_of_mem _ (hEO.sub y hy b hb)), (fun b hb => List.mem_cons_of_mem _ (hEO.rowin b hb)), hEO.apart, hEO.pair, (fun b hb => by
      rcases List.mem_cons.1 hb with rfl | hb
      · exact BN.out.lt
      · exact Nat.lt_of_lt_of_le (hEO.new b hb) g5.size)⟩)
  have FA := Hi (show (Sl.blk ⟨ea, en, ec⟩ ≠ some B) ∧ (∀ y ∈ ys, y.2.blk ≠ some B) ∧ (∀ b, Sl.blk ⟨ta, tn', tc'⟩ = some b → b ∉ B :: L) ∧ w3.heap.size ≤ B ∧ ∀ b, b < w3.heap.size → b ∈ L from
    ⟨fun e => hlB B (hEO.rowin B e) rfl, fun y hy e => hlB B (hEO.sub y hy B e) rfl, fun b hb hm => by
      rcases List.mem_cons.1 hm with rfl | hm
      · have := (hT'.blk _ hb).2; omega
      · exact hTL b hb hm, by omega, hLo⟩)
  have HYS := Hi hys
  have BS := Hi (BS.out.grown GX.out)
  have BR := Hi (BR.out.grown GX.out)
  have ZB := Hi (show X + 2 ≤ B by omega)
  have Z3 := Hi z3
  obtain ⟨⟨r0, r1, r2⟩, BRf⟩ := BR.out
  have f0 := BRf 0
  have f1 := BRf 1
  have f2 := BRf 2
  obtain ⟨⟨m0, m1, m2⟩, -⟩ := BN.out
  obtain ⟨⟨s0, s1, s2⟩, -⟩ := BS.out
  dsimp only [iv3, Sl.v]
  have hnt : tn' = tl.length := by have := T5.out.len; rw [Wr.bvs_len] at this; dsimp only at this; omega
  have HNT := Hi hnt
  clear hT' hTL hys hEO hLo g4 g5 z1 z3 hs4 hlB BRf hnt
  have EPI := Hi (fun (w8 w9 : World) (L8 : List Nat) (E8 : Sl) (zs : List EV) (hT8 : OR w3.heap.size w8 5 1 ⟨ta, tn', tc'⟩ (bvs tl)) (hE8 : EO w3.heap.size w8 L8 E8 zs) (hL8 : ∀ b, b < w3.heap.size → b ∈ L8) (g : Chg [X + 1] w8 w9) => show KS w.heap.size w9 ⟨ta, tn', tc'⟩ E8 ⟨win, tl, zs.map Prod.fst⟩ from fun w10 g10 => kr_of (win := win) hT8 hE8 (chg_both g g10) (fun b hb => by
    have h1 := Z3.out
    have h2 := HX0.out
    have h3 : b < w3.heap.size := by
      rcases List.mem_cons.1 hb with rfl | hb
      · omega
      · have := List.mem_range.1 hb; omega
    exact ⟨h3, hL8 b h3⟩))
  have s0a : (w4.alloc (Obj.cells #[.int .i64 win, .slice ta tn' tc', .slice ea en ec] 25)).cell? ⟨X, 0, none⟩ = some (.int .i64 win) := by rw [← hw5]; exact s0
  have s1a : (w4.alloc (Obj.cells #[.int .i64 win, .slice ta tn' tc', .slice ea en ec] 25)).cell? ⟨X, 1, none⟩ = some (.slice TA tn tc) := by rw [← hw5]; exact s1
  have s2a : (w4.alloc (Obj.cells #[.int .i64 win, .slice ta tn' tc', .slice ea en ec] 25)).cell? ⟨X, 2, none⟩ = some (.slice EA n c) := by rw [← hw5]; exact s2
  go_wp2_with fail
  rw [← hw5]
  simp only [← hBw]
  clear hw5 hBw s0a s1a s2a
  refine (IV.out w5 (HK.out.grown G5.out)).mono ?_
  rintro e w6 ⟨rfl, g6⟩
  have G6 := Hi (grown_trans G5.out g6)
  have r0 := g6.cell r0 (by simp)
  have r1 := g6.cell r1 (by simp)
  have r2 := g6.cell r2 (by simp)
  have f0 := Wr.grown_frozen g6 (by assumption) f0 (by simp)
  have f1 := Wr.grown_frozen g6 (by assumption) f1 (by simp)
  have f2 := Wr.grown_frozen g6 (by assumption) f2 (by simp)
  have m0 := g6.cell m0 (by simp)
  have m1 := g6.cell m1 (by simp)
  have m2 := g6.cell m2 (by simp)
  have BN := Hi (BN.out.grown g6)
  have T6 := Hi (T5.out.grown g6)
  have E6 := Hi (E5.out.grown g6)
  have BR := Hi (BR.out.grown g6)
  have hBX : B ≠ X + 1 := by have := ZB.out; omega
  clear g6
  go_wp2
  try simp only [Exit.inBlock, Exit.then]
  refine ⟨.tuple #[iv3 win ⟨ta, tn', tc'⟩ ⟨ea, en, ec⟩, nilS.v, .int .i64 9], ?hr, ?hE⟩
  case hr =>
    rw [results_cell3 rfl]
    go_simp
    first | rfl | exact ⟨rfl, rfl⟩ | exact ⟨rfl, rfl, rfl⟩
  case hE =>
    have g := (((Chg.refl [X + 1] w6).set ⟨X + 1, 0, none⟩ (.int .i64 win) (by simp)).set ⟨X + 1, 1, none⟩ (.slice ta tn' tc') (by simp)).set ⟨X + 1, 2, none⟩ (.slice ea en ec) (by simp)
    have hX := HX0.out
    refine ⟨⟨ta, tn', tc'⟩, ⟨ea, en, ec⟩, nilS, rfl, ?_, HNT.out, trs_nil _ _, g.grown G6.out (fun b hb => by rw [List.mem_singleton] at hb; omega)⟩
    have := EPI.out w6 _ (B :: L) ⟨ea, en, ec⟩ ys T6.out E6.out (fun b hb => List.mem_cons_of_mem _ (FA.out.2.2.2.2 b hb)) g
    rwa [HYS.out] at this
theorem rnew_any (n : Int) (w : World) : Calls Tryz.prog 11 #[.int .i64 n] w (Ret (.tuple #[iv3 (newF n).1.win nilS nilS, .int .i64 (newF n).2]) w) := by
  by_cases h : 0 ≤ n ∧ n ≤ 16
  · have e : newF n = (⟨n, [], []⟩, 0) := by unfold newF; rw [if_pos (Tm.upTo_iff.2 h)]
    rw [e]
    exact rnew_ok n w h
  · have e : newF n = (⟨0, [], []⟩, 1) := by unfold newF; rw [if_neg (fun h2 => h (Tm.upTo_iff.1 h2))]
    rw [e]
    have HN := Hi h
    obtain ⟨w1, hw1⟩ : ∃ w1, w1 = w.alloc (Obj.cells #[.int .i64 0, .slice none 0 0, .slice none 0 0] 25) := ⟨_, rfl⟩
    have G1 := Hi (show w.grownBy w1 none by subst hw1; exact grown_alloc _ _ _)
    have B1 := Hi (show Tri w1 w.heap.size (.int .i64 0) (.slice none 0 0) (.slice none 0 0) by subst hw1; exact tri_made _ _ _ _ _)
    obtain ⟨⟨k0, k1, k2⟩, F⟩ := B1.out
    have f0 := F 0
    have f1 := F 1
    have f2 := F 2
    clear F h
    have FIN := Hi (show Ret (.tuple #[iv3 0 nilS nilS, .int .i64 1]) w (.returned (.tuple #[iv3 0 nilS nilS, .int .i64 1])) (((w1.setCell ⟨w.heap.size, 0, none⟩ (.int .i64 0)).setCell ⟨w.heap.size, 1, none⟩ (.slice none 0 0)).setCell ⟨w.heap.size, 2, none⟩ (.slice none 0 0)) from by
      have g := (((Chg.refl [w.heap.size] w1).set ⟨w.heap.size, 0, none⟩ (.int .i64 0) (by simp)).set ⟨w.heap.size, 1, none⟩ (.slice none 0 0) (by simp)).set ⟨w.heap.size, 2, none⟩ (.slice none 0 0) (by simp)
      exact ⟨rfl, g.grown G1.out (fun b hb => by rw [List.mem_singleton] at hb; omega)⟩)
    by_cases h1 : n < 0
    · go_enter Tryz.func11, Tryz.ntmps11
      go_upto_region 1 with fail
      rw [← hw1]
      clear hw1
      go_wp2
      try simp only [Exit.inBlock, Exit.then]
      refine bodyPost_ret (v := .tuple #[iv3 0 nilS nilS, .int .i64 1]) ?hr rfl ?hE
      case hr =>
        rw [results_cell1 rfl]
        go_simp
        first | rfl | exact ⟨rfl, rfl⟩
      case hE => exact FIN.out
    · have h2 : 16 < n := by have := HN.out; omega
      go_enter Tryz.func11, Tryz.ntmps11
      go_upto_region 1 with fail
      rw [← hw1]
      clear hw1
      go_wp2
      try simp only [Exit.inBlock, Exit.then]
      refine bodyPost_ret (v := .tuple #[iv3 0 nilS nilS, .int .i64 1]) ?hr rfl ?hE
      case hr =>
        rw [results_cell1 rfl]
        go_simp
        first | rfl | exact ⟨rfl, rfl⟩
      case hE => exact FIN.out
end Go.Proofs.YticmoaebegahgaaGreatDoor.Iw
