import Derived.Test.YticmoaebegahgaaGreatDoorKf
set_option linter.all false
namespace Go.Proofs.YticmoaebegahgaaGreatDoor.Iw
open Go.ChangeShapes Go.WideShapes Go.ChangeAt Go.RowKit
open Wr (IR RB iv ivs bv bvs grown_trans grown_refl grown_alloc ret_int ret_bool tv Ret ret_mk)
set_option maxRecDepth 100000 in
set_option maxHeartbeats 4000000 in
theorem same_eq (T E T2 E2 : Sl) (k : Ik) (w : World) (h : KR w T E k) (h2 : KR w T2 E2 k) :
    Calls Tryz.prog 12 #[iv3 k.win T E, iv3 k.win T2 E2] w (Ret (.bool true) w) := by
  have HA := Hi h
  have HB := Hi h2
  clear h h2
  obtain ⟨win, tl, es⟩ := k
  obtain ⟨Ta, Tn, Tc⟩ := T
  obtain ⟨Ua, Un, Uc⟩ := T2
  obtain ⟨Ea, En, Ec⟩ := E
  obtain ⟨Fa, Fn, Fc⟩ := E2
  have hFE : Fn = En := by have h1 := HA.out.es.len; have h2 := HB.out.es.len; dsimp only at h1 h2; omega
  subst hFE
  have hFx : Fn ≤ 9223372036854775807 := by have h1 := HA.out.es.fit; unfold Sl.fit at h1; dsimp only at h1; omega
  have cv1 := Wr.conv_str w Ta Tn Tc tl HA.out.tl
  have cv2 := Wr.conv_str w Ua Un Uc tl HB.out.tl
  dsimp only [iv3, Sl.v]
  obtain ⟨X, hX⟩ : ∃ X, X = w.heap.size := ⟨_, rfl⟩
  obtain ⟨w1, hw1⟩ : ∃ w1, w1 = w.alloc (Obj.cells #[.int .i64 win, .slice Ta Tn Tc, .slice Ea Fn Ec] 25) := ⟨_, rfl⟩
  obtain ⟨w2, hw2⟩ : ∃ w2, w2 = w1.alloc (Obj.cells #[.int .i64 win, .slice Ua Un Uc, .slice Fa Fn Fc] 25) := ⟨_, rfl⟩
  have z1 : w1.heap.size = X + 1 := by subst hw1; subst hX; simp
  have g1 : w.grownBy w1 none := by subst hw1; exact grown_alloc _ _ _
  have g2 : w1.grownBy w2 none := by subst hw2; exact grown_alloc _ _ _
  have BA := Hi (show Tri w2 X (.int .i64 win) (.slice Ta Tn Tc) (.slice Ea Fn Ec) from (show Tri w1 X _ _ _ by subst hw1; subst hX; exact tri_made _ _ _ _ _).grown g2)
  have BB := Hi (show Tri w2 (X + 1) (.int .i64 win) (.slice Ua Un Uc) (.slice Fa Fn Fc) by subst hw2; rw [← z1]; exact tri_made _ _ _ _ _)
  have G0 := Hi (grown_trans g1 g2)
  have KA := Hi (HA.out.grown G0.out)
  have KB := Hi (HB.out.grown G0.out)
  have cv1 := Wr.conv_str w2 Ta Tn Tc tl KA.out.tl
  have cv2 := Wr.conv_str w2 Ua Un Uc tl KB.out.tl
  go_enter Tryz.func12, Tryz.ntmps12
  go_upto_region 1 with fail
  rw [← hw1, ← hw2]
  simp only [← hX]
  try simp only [z1]
  clear hX hw1 hw2 g1 g2 z1 HA HB
  obtain ⟨⟨a0, a1, a2⟩, -⟩ := BA.out
  obtain ⟨⟨b0, b1, b2⟩, -⟩ := BB.out
  go_wp2_with (first | (simp only [cv1]) | (simp only [cv2]) | fail)
  go_loopw [34] (fun i wr => ∃ p : Nat, i = .int .i64 p ∧ p ≤ Fn ∧ Hid (w.grownBy wr none) ∧ Hid (Tri wr X (.int .i64 win) (.slice Ta Tn Tc) (.slice Ea Fn Ec)) ∧ Hid (Tri wr (X + 1) (.int .i64 win) (.slice Ua Un Uc) (.slice Fa Fn Fc)) ∧ Hid (KR wr ⟨Ta, Tn, Tc⟩ ⟨Ea, Fn, Ec⟩ ⟨win, tl, es⟩) ∧ Hid (KR wr ⟨Ua, Un, Uc⟩ ⟨Fa, Fn, Fc⟩ ⟨win, tl, es⟩)) (fun i _ => Fn - (intOf i).toNat)
  case atStart => exact ⟨0, rfl, by omega, G0, BA, BB, KA, KB⟩
  case round =>
    clear BA BB KA KB G0 cv1 cv2
    obtain ⟨p, rfl, hp, GR, BA, BB, KA, KB⟩ := hrel
    obtain ⟨⟨a0, a1, a2⟩, -⟩ := BA.out
    obtain ⟨⟨b0, b1', b2'⟩, -⟩ := BB.out
    by_cases hlt : p < Fn
    · obtain ⟨ba, o1, ⟨Ha, Hn, Hc⟩, hEa, tA, cA⟩ := KA.out.es.at_ p hlt
      obtain ⟨bb, o2, ⟨Ja, Jn, Jc⟩, hFa, tB, cB⟩ := KB.out.es.at_ p hlt
      dsimp only at hEa hFa tA tB cA cB
      subst hEa
      subst hFa
      obtain ⟨c0, c1, c2, c3⟩ := four_of (o := o1 + p * 4) (fun j u hu => by rw [Nat.add_assoc]; exact cA j u hu)
      obtain ⟨d0, d1, d2, d3⟩ := four_of (o := o2 + p * 4) (fun j u hu => by rw [Nat.add_assoc]; exact cB j u hu)
      dsimp only [Sl.v] at c0 c1 c2 c3 d0 d1 d2 d3
      generalize es.getD p ⟨0, 0, 0, []⟩ = x at *
      obtain ⟨xst, xep, xnx, xh⟩ := x
      dsimp only at c0 c1 c2 c3 d0 d1 d2 d3 tA tB
      have TA := Hi tA
      have TB := Hi tB
      clear tA tB cA cB
      have hd : decide ((p : Int) < (Fn : Int)) = true := by simp; omega
      go_upto_region 6 with fail
      have D := Wr.grown_drew wr none
      replace a2 := D.cell a2 (by simp)
      replace b2' := D.cell b2' (by simp)
      replace c0 := D.cell c0 (by simp)
      replace c1 := D.cell c1 (by simp)
      replace c2 := D.cell c2 (by simp)
      replace c3 := D.cell c3 (by simp)
      replace d0 := D.cell d0 (by simp)
      replace d1 := D.cell d1 (by simp)
      replace d2 := D.cell d2 (by simp)
      replace d3 := D.cell d3 (by simp)
      have TA := Hi (TA.out.grown D)
      have TB := Hi (TB.out.grown D)
      have BA := Hi (BA.out.grown D)
      have BB := Hi (BB.out.grown D)
      have KA := Hi (KA.out.grown D)
      have KB := Hi (KB.out.grown D)
      have GR := Hi (grown_trans GR.out D)
      clear D
      refine wp_region_held_drew (S := fun w' => w'.cell? ⟨X, 2, none⟩ = some (.slice (some ⟨ba, o1, none⟩) Fn Ec) ∧ w'.cell? ⟨X + 1, 2, none⟩ = some (.slice (some ⟨bb, o2, none⟩) Fn Fc) ∧ w'.cell? ⟨ba, o1 + p * 4, none⟩ = some (.int .i64 xst) ∧ w'.cell? ⟨ba, o1 + p * 4 + 1, none⟩ = some (.int .i64 xep) ∧ w'.cell? ⟨ba, o1 + p * 4 + 2, none⟩ = some (.int .i64 xnx) ∧ w'.cell? ⟨ba, o1 + p * 4 + 3, none⟩ = some (.slice Ha Hn Hc) ∧ w'.cell? ⟨bb, o2 + p * 4, none⟩ = some (.int .i64 xst) ∧ w'.cell? ⟨bb, o2 + p * 4 + 1, none⟩ = some (.int .i64 xep) ∧ w'.cell? ⟨bb, o2 + p * 4 + 2, none⟩ = some (.int .i64 xnx) ∧ w'.cell? ⟨bb, o2 + p * 4 + 3, none⟩ = some (.slice Ja Jn Jc)) (by kernel_rfl) ?_ (fun hHeld => ?_)
      · exact ⟨a2, b2', c0, c1, c2, c3, d0, d1, d2, d3⟩
      try simp only [Act.put, lsA, lsB, lsC]
      generalize wr.drew = wd at *
      have HELD := Hi (fun (W : World) (g : wd.grownBy W none) => show (fun w' => w'.cell? ⟨X, 2, none⟩ = some (.slice (some ⟨ba, o1, none⟩) Fn Ec) ∧ w'.cell? ⟨X + 1, 2, none⟩ = some (.slice (some ⟨bb, o2, none⟩) Fn Fc) ∧ w'.cell? ⟨ba, o1 + p * 4, none⟩ = some (.int .i64 xst) ∧ w'.cell? ⟨ba, o1 + p * 4 + 1, none⟩ = some (.int .i64 xep) ∧ w'.cell? ⟨ba, o1 + p * 4 + 2, none⟩ = some (.int .i64 xnx) ∧ w'.cell? ⟨ba, o1 + p * 4 + 3, none⟩ = some (.slice Ha Hn Hc) ∧ w'.cell? ⟨bb, o2 + p * 4, none⟩ = some (.int .i64 xst) ∧ w'.cell? ⟨bb, o2 + p * 4 + 1, none⟩ = some (.int .i64 xep) ∧ w'.cell? ⟨bb, o2 + p * 4 + 2, none⟩ = some (.int .i64 xnx) ∧ w'.cell? ⟨bb, o2 + p * 4 + 3, none⟩ = some (.slice Ja Jn Jc)) W from ⟨g.cell a2 (by simp), g.cell b2' (by simp), g.cell c0 (by simp), g.cell c1 (by simp), g.cell c2 (by simp), g.cell c3 (by simp), g.cell d0 (by simp), g.cell d1 (by simp), g.cell d2 (by simp), g.cell d3 (by simp)⟩)
      have AL := Hi (fun (W : World) (g : wd.grownBy W none) => show Calls Tryz.prog 19 #[.slice Ha Hn Hc, .slice Ja Jn Jc] W (Ret (.bool true) W) from by have := alike_any ⟨Ha, Hn, Hc⟩ ⟨Ja, Jn, Jc⟩ xh xh W (TA.out.grown g) (TB.out.grown g); rwa [alike_self] at this)
      refine takeL (i := 0) (v := ?_) rfl (by kernel_rfl) (by kernel_rfl) (by kernel_rfl) (fun _ _ _ h => h) (Or.inl ⟨by rfl, ?_⟩) (by assumption) ?_
      rotate_left 1
      · intro w hSw; obtain ⟨s0, s1, s2, s3, s4, s5, s6, s7, s8, s9⟩ := hSw; first | (go_simp; done) | (go_simp; with_reducible rfl)
      try simp only [Act.put, lsA, lsB, lsC]
      refine takeL (i := 1) (v := ?_) rfl (by kernel_rfl) (by kernel_rfl) (by kernel_rfl) (fun _ _ _ h => h) (Or.inl ⟨by rfl, ?_⟩) (by assumption) ?_
      rotate_left 1
      · intro w hSw; obtain ⟨s0, s1, s2, s3, s4, s5, s6, s7, s8, s9⟩ := hSw; first | (go_simp; done) | (go_simp; with_reducible rfl)
      try simp only [Act.put, lsA, lsB, lsC]
      refine takeL (i := 2) (v := ?_) rfl (by kernel_rfl) (by kernel_rfl) (by kernel_rfl) (fun _ _ _ h => h) (Or.inl ⟨by rfl, ?_⟩) (by assumption) ?_
      rotate_left 1
      · intro w hSw; obtain ⟨s0, s1, s2, s3, s4, s5, s6, s7, s8, s9⟩ := hSw; first | (go_simp; done) | (go_simp; with_reducible rfl)
      try simp only [Act.put, lsA, lsB, lsC]
      refine takeL (i := 3) (v := ?_) rfl (by kernel_rfl) (by kernel_rfl) (by kernel_rfl) (fun _ _ _ h => h) (Or.inl ⟨by rfl, ?_⟩) (by assumption) ?_
      rotate_left 1
      · intro w hSw; obtain ⟨s0, s1, s2, s3, s4, s5, s6, s7, s8, s9⟩ := hSw; first | (go_simp; done) | (go_simp; with_reducible rfl)
      try simp only [Act.put, lsA, lsB, lsC]
      refine takeL (i := 4) (v := ?_) rfl (by kernel_rfl) (by kernel_rfl) (by kernel_rfl) (fun _ _ _ h => h) (Or.inl ⟨by rfl, ?_⟩) (by assumption) ?_
      rotate_left 1
      · intro w hSw; obtain ⟨s0, s1, s2, s3, s4, s5, s6, s7, s8, s9⟩ := hSw; first | (go_simp; done) | (go_simp; with_reducible rfl)
      try simp only [Act.put, lsA, lsB, lsC]
      refine takeL (i := 5) (v := ?_) rfl (by kernel_rfl) (by kernel_rfl) (by kernel_rfl) (fun _ _ _ h => h) (Or.inl ⟨by rfl, ?_⟩) (by assumption) ?_
      rotate_left 1
      · intro w hSw; obtain ⟨s0, s1, s2, s3, s4, s5, s6, s7, s8, s9⟩ := hSw; first | (go_simp; done) | (go_simp; with_reducible rfl)
      try simp only [Act.put, lsA, lsB, lsC]
      refine takeL (i := 6) (v := ?_) rfl (by kernel_rfl) (by kernel_rfl) (by kernel_rfl) (fun _ _ _ h => h) (Or.inl ⟨by rfl, ?_⟩) (by assumption) ?_
      rotate_left 1
      · intro w hSw; obtain ⟨s0, s1, s2, s3, s4, s5, s6, s7, s8, s9⟩ := hSw; first | (go_simp; done) | (go_simp; with_reducible rfl)
      try simp only [Act.put, lsA, lsB, lsC]
      refine takeL (i := 7) (v := ?_) rfl (by kernel_rfl) (by kernel_rfl) (by kernel_rfl) (fun _ _ _ h => h) (Or.inl ⟨by rfl, ?_⟩) (by assumption) ?_
      rotate_left 1
      · intro w hSw; obtain ⟨s0, s1, s2, s3, s4, s5, s6, s7, s8, s9⟩ := hSw; first | (go_simp; done) | (go_simp; with_reducible rfl)
      try simp only [Act.put, lsA, lsB, lsC]
      refine takeL (i := 8) (v := ?_) rfl (by kernel_rfl) (by kernel_rfl) (by kernel_rfl) (fun _ _ _ h => h) (Or.inl ⟨by rfl, ?_⟩) (by assumption) ?_
      rotate_left 1
      · intro w hSw; obtain ⟨s0, s1, s2, s3, s4, s5, s6, s7, s8, s9⟩ := hSw; first | (go_simp; done) | (go_simp; with_reducible rfl)
      try simp only [Act.put, lsA, lsB, lsC]
      refine takeL (i := 9) (v := ?_) rfl (by kernel_rfl) (by kernel_rfl) (by kernel_rfl) (fun _ _ _ h => h) (Or.inl ⟨by rfl, ?_⟩) (by assumption) ?_
      rotate_left 1
      · intro w hSw; obtain ⟨s0, s1, s2, s3, s4, s5, s6, s7, s8, s9⟩ := hSw; first | (go_simp; done) | (go_simp; with_reducible rfl)
      try simp only [Act.put, lsA, lsB, lsC]
      refine wpAnyH_ready (rs := [10, 11]) (by kernel_rfl) (by simp) (consL rfl (fun K hK => ?_) (consL rfl (fun K hK => ?_) AllReadyH.nil))
      · skip
        go_simp
        refine hK.out _ _ ?_ (fun hHeld => ?_)
        · exact HELD.out _ (grown_alloc _ _ none)
        clear hK K
        try simp only [Act.put, lsA, lsB, lsC]
        refine wpAnyH_ready (rs := [11]) (by kernel_rfl) (by simp) (consL rfl (fun K hK => ?_) AllReadyH.nil)
        go_simp
        refine hK.out _ _ ?_ (fun hHeld => ?_)
        · exact HELD.out _ (grown_trans (grown_alloc _ _ none) (grown_alloc _ _ none))
        clear hK K
        try simp only [Act.put, lsA, lsB, lsC]
        refine wpAnyH_ready (rs := [12]) (by kernel_rfl) (by simp) (consL rfl (fun K hK => ?_) AllReadyH.nil)
        go_simp
        refine hK.out _ _ ?_ (fun hHeld => ?_)
        · exact HELD.out _ (grown_trans (grown_alloc _ _ none) (grown_alloc _ _ none))
        clear hK K
        try simp only [Act.put, lsA, lsB, lsC]
        refine wpAnyH_ready (rs := [13]) (by kernel_rfl) (by simp) (consL rfl (fun K hK => ?_) AllReadyH.nil)
        go_simp
        refine hK.out _ _ ?_ (fun hHeld => ?_)
        · exact HELD.out _ (grown_trans (grown_alloc _ _ none) (grown_alloc _ _ none))
        clear hK K
        try simp only [Act.put, lsA, lsB, lsC]
        refine wpAnyH_done (by kernel_rfl) ?_ _
        clear HELD hHeld a2 b2' c0 c1 c2 c3 d0 d1 d2 d3 a0 a1 b0 b1'
        go_wp2_with fail
        refine (AL.out _ (grown_trans (grown_alloc _ _ none) (grown_alloc _ _ none))).mono ?_
        rintro e w9 ⟨rfl, g9⟩
        have g9 := grown_trans (grown_trans (grown_alloc _ _ none) (grown_alloc _ _ none)) g9
        have BA := Hi (BA.out.grown g9)
        have BB := Hi (BB.out.grown g9)
        have KA := Hi (KA.out.grown g9)
        have KB := Hi (KB.out.grown g9)
        have GR := Hi (grown_trans GR.out g9)
        clear g9 AL TA TB
        go_wp2
        go_roundw
        case rel => exact ⟨p + 1, by go_num, by omega, GR, BA, BB, KA, KB⟩
        case measure => simp [intOf]; omega
      · skip
        go_simp
        refine hK.out _ _ ?_ (fun hHeld => ?_)
        · exact HELD.out _ (grown_alloc _ _ none)
        clear hK K
        try simp only [Act.put, lsA, lsB, lsC]
        refine wpAnyH_ready (rs := [10]) (by kernel_rfl) (by simp) (consL rfl (fun K hK => ?_) AllReadyH.nil)
        go_simp
        refine hK.out _ _ ?_ (fun hHeld => ?_)
        · exact HELD.out _ (grown_trans (grown_alloc _ _ none) (grown_alloc _ _ none))
        clear hK K
        try simp only [Act.put, lsA, lsB, lsC]
        refine wpAnyH_ready (rs := [12]) (by kernel_rfl) (by simp) (consL rfl (fun K hK => ?_) AllReadyH.nil)
        go_simp
        refine hK.out _ _ ?_ (fun hHeld => ?_)
        · exact HELD.out _ (grown_trans (grown_alloc _ _ none) (grown_alloc _ _ none))
        clear hK K
        try simp only [Act.put, lsA, lsB, lsC]
        refine wpAnyH_ready (rs := [13]) (by kernel_rfl) (by simp) (consL rfl (fun K hK => ?_) AllReadyH.nil)
        go_simp
        refine hK.out _ _ ?_ (fun hHeld => ?_)
        · exact HELD.out _ (grown_trans (grown_alloc _ _ none) (grown_alloc _ _ none))
        clear hK K
        try simp only [Act.put, lsA, lsB, lsC]
        refine wpAnyH_done (by kernel_rfl) ?_ _
        clear HELD hHeld a2 b2' c0 c1 c2 c3 d0 d1 d2 d3 a0 a1 b0 b1'
        go_wp2_with fail
        refine (AL.out _ (grown_trans (grown_alloc _ _ none) (grown_alloc _ _ none))).mono ?_
        rintro e w9 ⟨rfl, g9⟩
        have g9 := grown_trans (grown_trans (grown_alloc _ _ none) (grown_alloc _ _ none)) g9
        have BA := Hi (BA.out.grown g9)
        have BB := Hi (BB.out.grown g9)
        have KA := Hi (KA.out.grown g9)
        have KB := Hi (KB.out.grown g9)
        have GR := Hi (grown_trans GR.out g9)
        clear g9 AL TA TB
        go_wp2
        go_roundw
        case rel => exact ⟨p + 1, by go_num, by omega, GR, BA, BB, KA, KB⟩
        case measure => simp [intOf]; omega
    · obtain rfl : p = Fn := by omega
      have hd : decide ((p : Int) < (p : Int)) = false := by simp
      go_wp2
      go_ret
      exact ret_mk rfl GR.out
end Go.Proofs.YticmoaebegahgaaGreatDoor.Iw
