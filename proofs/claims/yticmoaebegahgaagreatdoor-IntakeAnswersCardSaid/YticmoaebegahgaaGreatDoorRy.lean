import Derived.Test.YticmoaebegahgaaGreatDoorKr
set_option linter.all false
namespace Go.Proofs.YticmoaebegahgaaGreatDoor.Iw
open Go.ChangeShapes Go.WideShapes Go.ChangeAt Go.RowKit
open Wr (IR RB iv ivs bv bvs grown_trans grown_refl grown_alloc ret_int ret_bool tv Ret ret_mk)
structure SR (w : World) (S : Sl) (xs : List (Sl × List UInt8)) : Prop where
  fit : S.fit
  len : xs.length = S.n
  cr : CR w S (xs.map fun x => x.1.v)
  each : ∀ x ∈ xs, x.1.fit ∧ RB w x.1.a x.1.n x.2
theorem SR.grown {w w' : World} {S : Sl} {xs : List (Sl × List UInt8)} (h : SR w S xs) (g : w.grownBy w' none) : SR w' S xs :=
  ⟨h.fit, h.len, fun j v hv => by obtain ⟨b, off, e, hc⟩ := h.cr j v hv; exact ⟨b, off, e, g.cell hc (by simp)⟩, fun x hx => ⟨(h.each x hx).1, (h.each x hx).2.grown g⟩⟩
theorem SR.of_sb {base : Nat} {w : World} {F : Sl} {xs : List (Sl × List UInt8)} (h : SB base w F xs) : SR w F xs :=
  ⟨h.row.fit, by have := h.row.len; rw [List.length_map] at this; omega, h.row.cr, fun x hx => ⟨(h.each x hx).fit, rbCR (h.each x hx).cr (by have := (h.each x hx).len; rw [Wr.bvs_len] at this; omega)⟩⟩
set_option maxRecDepth 100000 in
set_option maxHeartbeats 4000000 in
theorem lists_eq (S1 S2 : Sl) (xs ys : List (Sl × List UInt8)) (w : World) (h1 : SR w S1 xs) (h2 : SR w S2 ys) (he : xs.map Prod.snd = ys.map Prod.snd) :
    Calls Tryz.prog 9 #[S1.v, S2.v] w (Ret (.bool true) w) := by
  have HA := Hi h1
  have HB := Hi h2
  have HE := Hi he
  clear h1 h2
  obtain ⟨Aa, An, Ac⟩ := S1
  obtain ⟨Ba, Bn, Bc⟩ := S2
  have hl1 : xs.length = An := HA.out.len
  have hl2 : ys.length = Bn := HB.out.len
  obtain rfl : Bn = An := by have := congrArg List.length he; rw [List.length_map, List.length_map] at this; omega
  have hBm : Bn ≤ 9223372036854775807 := by have h1 := HA.out.fit.1; have h2 := HA.out.fit.2; dsimp only at h1 h2; omega
  clear he
  dsimp only [Sl.v]
  go_enter Tryz.func9, Tryz.ntmps9
  go_wp2_with fail
  go_loopw [13] (fun i wr => ∃ p : Nat, i = .int .i64 p ∧ p ≤ Bn ∧ Hid (w.grownBy wr none)) (fun i _ => Bn - (intOf i).toNat)
  case atStart => exact ⟨0, rfl, by omega, grown_refl _ _⟩
  case round =>
    obtain ⟨p, rfl, hp, GR⟩ := hrel
    by_cases hlt : p < Bn
    · have hlt' : (p : Int) < (Bn : Int) := by omega
      obtain ⟨⟨⟨Xa, Xn, Xc⟩, xl⟩, hx⟩ : ∃ x, xs[p]? = some x := ⟨_, List.getElem?_eq_getElem (by omega)⟩
      obtain ⟨⟨⟨Ya, Yn, Yc⟩, yl⟩, hy⟩ : ∃ x, ys[p]? = some x := ⟨_, List.getElem?_eq_getElem (by omega)⟩
      have hxy : xl = yl := by
        have h1 := congrArg (fun l => l[p]?) HE.out
        simp only [List.getElem?_map, hx, hy, Option.map_some] at h1
        exact Option.some.inj h1
      subst hxy
      obtain ⟨ba, oa, hAa, hca⟩ := HA.out.cr p (.slice Xa Xn Xc) (by rw [List.getElem?_map, hx]; rfl)
      obtain ⟨bb, ob, hBa, hcb⟩ := HB.out.cr p (.slice Ya Yn Yc) (by rw [List.getElem?_map, hy]; rfl)
      have HX := Hi ((HA.out.each _ (List.mem_of_getElem? hx)).2)
      have HY := Hi ((HB.out.each _ (List.mem_of_getElem? hy)).2)
      dsimp only at hAa hBa HX HY
      subst hAa
      subst hBa
      have HCA := Hi (GR.out.cell hca (by simp))
      have HCB := Hi (GR.out.cell hcb (by simp))
      clear hx hy hca hcb
      go_upto_region 6 with fail
      refine wp_region_held_drew (S := fun w' => wr.grownBy w' none) (by kernel_rfl) ?_ (fun hHeld => ?_)
      · exact Wr.grown_drew wr none
      try simp only [Act.put, lsA, lsB, lsC]
      refine takeL (i := 0) (v := ?_) rfl (by kernel_rfl) (by kernel_rfl) (by kernel_rfl) (fun _ _ _ h => h) (Or.inl ⟨by rfl, ?_⟩) (by assumption) ?_
      rotate_left 1
      · intro w hSw; have ca := hSw.cell HCA.out (by simp); have cb := hSw.cell HCB.out (by simp); have cv1 := Wr.conv_str w Xa Xn Xc xl (HX.out.grown (grown_trans GR.out hSw)); have cv2 := Wr.conv_str w Ya Yn Yc xl (HY.out.grown (grown_trans GR.out hSw)); first | (go_simp; done) | (go_simp; with_reducible rfl)
      try simp only [Act.put, lsA, lsB, lsC]
      refine takeL (i := 1) (v := ?_) rfl (by kernel_rfl) (by kernel_rfl) (by kernel_rfl) (fun _ _ _ h => h) (Or.inl ⟨by rfl, ?_⟩) (by assumption) ?_
      rotate_left 1
      · intro w hSw; have ca := hSw.cell HCA.out (by simp); have cb := hSw.cell HCB.out (by simp); have cv1 := Wr.conv_str w Xa Xn Xc xl (HX.out.grown (grown_trans GR.out hSw)); have cv2 := Wr.conv_str w Ya Yn Yc xl (HY.out.grown (grown_trans GR.out hSw)); first | (go_simp; done) | (go_simp; with_reducible rfl)
      try simp only [Act.put, lsA, lsB, lsC]
      refine takeL (i := 2) (v := ?_) rfl (by kernel_rfl) (by kernel_rfl) (by kernel_rfl) (fun _ _ _ h => h) (Or.inl ⟨by rfl, ?_⟩) (by assumption) ?_
      rotate_left 1
      · intro w hSw; have ca := hSw.cell HCA.out (by simp); have cb := hSw.cell HCB.out (by simp); have cv1 := Wr.conv_str w Xa Xn Xc xl (HX.out.grown (grown_trans GR.out hSw)); have cv2 := Wr.conv_str w Ya Yn Yc xl (HY.out.grown (grown_trans GR.out hSw)); first | (go_simp; done) | (go_simp; with_reducible rfl)
      try simp only [Act.put, lsA, lsB, lsC]
      refine takeL (i := 3) (v := ?_) rfl (by kernel_rfl) (by kernel_rfl) (by kernel_rfl) (fun _ _ _ h => h) (Or.inl ⟨by rfl, ?_⟩) (by assumption) ?_
      rotate_left 1
      · intro w hSw; have ca := hSw.cell HCA.out (by simp); have cb := hSw.cell HCB.out (by simp); have cv1 := Wr.conv_str w Xa Xn Xc xl (HX.out.grown (grown_trans GR.out hSw)); have cv2 := Wr.conv_str w Ya Yn Yc xl (HY.out.grown (grown_trans GR.out hSw)); first | (go_simp; done) | (go_simp; with_reducible rfl)
      try simp only [Act.put, lsA, lsB, lsC]
      refine takeL (i := 4) (v := ?_) rfl (by kernel_rfl) (by kernel_rfl) (by kernel_rfl) (fun _ _ _ h => h) (Or.inl ⟨by rfl, ?_⟩) (by assumption) ?_
      rotate_left 1
      · intro w hSw; have ca := hSw.cell HCA.out (by simp); have cb := hSw.cell HCB.out (by simp); have cv1 := Wr.conv_str w Xa Xn Xc xl (HX.out.grown (grown_trans GR.out hSw)); have cv2 := Wr.conv_str w Ya Yn Yc xl (HY.out.grown (grown_trans GR.out hSw)); first | (go_simp; done) | (go_simp; with_reducible rfl)
      try simp only [Act.put, lsA, lsB, lsC]
      refine takeL (i := 5) (v := ?_) rfl (by kernel_rfl) (by kernel_rfl) (by kernel_rfl) (fun _ _ _ h => h) (Or.inl ⟨by rfl, ?_⟩) (by assumption) ?_
      rotate_left 1
      · intro w hSw; have ca := hSw.cell HCA.out (by simp); have cb := hSw.cell HCB.out (by simp); have cv1 := Wr.conv_str w Xa Xn Xc xl (HX.out.grown (grown_trans GR.out hSw)); have cv2 := Wr.conv_str w Ya Yn Yc xl (HY.out.grown (grown_trans GR.out hSw)); first | (go_simp; done) | (go_simp; with_reducible rfl)
      try simp only [Act.put, lsA, lsB, lsC]
      refine takeL (i := 6) (v := ?_) rfl (by kernel_rfl) (by kernel_rfl) (by kernel_rfl) (fun _ _ _ h => h) (Or.inl ⟨by rfl, ?_⟩) (by assumption) ?_
      rotate_left 1
      · intro w hSw; have ca := hSw.cell HCA.out (by simp); have cb := hSw.cell HCB.out (by simp); have cv1 := Wr.conv_str w Xa Xn Xc xl (HX.out.grown (grown_trans GR.out hSw)); have cv2 := Wr.conv_str w Ya Yn Yc xl (HY.out.grown (grown_trans GR.out hSw)); first | (go_simp; done) | (go_simp; with_reducible rfl)
      try simp only [Act.put, lsA, lsB, lsC]
      refine takeL (i := 7) (v := ?_) rfl (by kernel_rfl) (by kernel_rfl) (by kernel_rfl) (fun _ _ _ h => h) (Or.inl ⟨by rfl, ?_⟩) (by assumption) ?_
      rotate_left 1
      · intro w hSw; have ca := hSw.cell HCA.out (by simp); have cb := hSw.cell HCB.out (by simp); have cv1 := Wr.conv_str w Xa Xn Xc xl (HX.out.grown (grown_trans GR.out hSw)); have cv2 := Wr.conv_str w Ya Yn Yc xl (HY.out.grown (grown_trans GR.out hSw)); first | (go_simp; done) | (go_simp; with_reducible rfl)
      try simp only [Act.put, lsA, lsB, lsC]
      refine takeL (i := 8) (v := ?_) rfl (by kernel_rfl) (by kernel_rfl) (by kernel_rfl) (fun _ _ _ h => h) (Or.inl ⟨by rfl, ?_⟩) (by assumption) ?_
      rotate_left 1
      · intro w hSw; have ca := hSw.cell HCA.out (by simp); have cb := hSw.cell HCB.out (by simp); have cv1 := Wr.conv_str w Xa Xn Xc xl (HX.out.grown (grown_trans GR.out hSw)); have cv2 := Wr.conv_str w Ya Yn Yc xl (HY.out.grown (grown_trans GR.out hSw)); first | (go_simp; done) | (go_simp; with_reducible rfl)
      try simp only [Act.put, lsA, lsB, lsC]
      refine takeL (i := 9) (v := ?_) rfl (by kernel_rfl) (by kernel_rfl) (by kernel_rfl) (fun _ _ _ h => h) (Or.inl ⟨by rfl, ?_⟩) (by assumption) ?_
      rotate_left 1
      · intro w hSw; have ca := hSw.cell HCA.out (by simp); have cb := hSw.cell HCB.out (by simp); have cv1 := Wr.conv_str w Xa Xn Xc xl (HX.out.grown (grown_trans GR.out hSw)); have cv2 := Wr.conv_str w Ya Yn Yc xl (HY.out.grown (grown_trans GR.out hSw)); first | (go_simp; done) | (go_simp; with_reducible rfl)
      try simp only [Act.put, lsA, lsB, lsC]
      refine takeL (i := 10) (v := ?_) rfl (by kernel_rfl) (by kernel_rfl) (by kernel_rfl) (fun _ _ _ h => h) (Or.inl ⟨by rfl, ?_⟩) (by assumption) ?_
      rotate_left 1
      · intro w hSw; have ca := hSw.cell HCA.out (by simp); have cb := hSw.cell HCB.out (by simp); have cv1 := Wr.conv_str w Xa Xn Xc xl (HX.out.grown (grown_trans GR.out hSw)); have cv2 := Wr.conv_str w Ya Yn Yc xl (HY.out.grown (grown_trans GR.out hSw)); first | (go_simp; done) | (go_simp; with_reducible rfl)
      try simp only [Act.put, lsA, lsB, lsC]
      refine wpAnyH_done (by kernel_rfl) ?_ _
      have GD := Hi (grown_trans GR.out (Wr.grown_drew wr none))
      go_wp2
      go_roundw
      case rel => exact ⟨p + 1, by go_num, by omega, GD⟩
      case measure => simp [intOf]; omega
    · obtain rfl : p = Bn := by omega
      go_wp2
      go_ret
      exact ret_mk rfl GR.out
end Go.Proofs.YticmoaebegahgaaGreatDoor.Iw
