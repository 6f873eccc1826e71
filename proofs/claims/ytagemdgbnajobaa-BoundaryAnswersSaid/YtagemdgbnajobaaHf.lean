/- BoundaryLists: the walk. -/
import Derived.Test.YtagemdgbnajobaaHe
namespace Go.Proofs.Ytagemdgbnajobaa
open Go.ChangeShapes Go.WideShapes Go.ChangeAt Go.RowKit

theorem list_val {f : List Fm.Pc} (h : Fm.Val f) : listOf f = Bm.bnd f := if_pos (Fm.valid_yes h)
theorem inv_val {f : List Fm.Pc} (h : Fm.Val f) : invOf f = 0 := if_pos (Fm.valid_yes h)
theorem at_val {f : List Fm.Pc} (h : Fm.Val f) (x : Int) : atOf f x = Fm.at_ (Fm.lit f) x := if_pos (Fm.valid_yes h)
set_option maxRecDepth 100000 in
set_option maxHeartbeats 2000000 in
theorem lists_walk (a : Option Addr) (len cap : Nat) (zs : List Int) (w : World) (hi : InRow w a len cap zs) :
    Calls Try.prog 4 #[.slice a len cap] w fun e w' => e = .returned (.bool true) ∧ Below w.heap.size w w' := by
  go_enter Try.func4, Try.ntmps4
  go_wp2_with fail
  refine (new_any a len cap zs w hi).mono ?_
  rintro e w1 ⟨rfl, hg, hs, _⟩
  have G := Lib.hid hg
  have HS := Lib.hid hs
  clear hi hg hs
  obtain ⟨S, hS⟩ : ∃ S, S = w.heap.size := ⟨_, rfl⟩
  have SW := Lib.hid hS
  rw [← hS] at HS ⊢
  clear hS
  go_wp2_with fail
  refine (n_any S 200 w1 HS.out (by omega) (by omega)).mono ?_
  rintro e w2 ⟨V1, ⟨hv1, hv2⟩, rfl, hg, hs⟩
  replace G := Lib.hid (G.out.under SW.out hg)
  replace HS := Lib.hid hs
  clear hg hs
  go_wp2_with fail
  refine (fill_any S V1 4 w2 HS.out (by omega) (by omega) (by omega) (by omega)).mono ?_
  rintro e w3 ⟨⟨fa, fn, fc⟩, f, rfl, ho, hf, hg, hs⟩
  have F := Lib.hid ho.fr
  have FF := Lib.hid hf
  replace G := Lib.hid (G.out.under SW.out hg)
  clear ho hf hg hs HS
  dsimp only [Sl.v]
  have hfn : f.length = fn := F.out.len
  have hfn12 : fn ≤ 12 := by have := FF.out.len; omega
  go_wp2_with fail
  refine (blist_any ⟨fa, fn, fc⟩ f w3 F.out).mono ?_
  rw [list_val FF.out.val, inv_val FF.out.val]
  rintro e w4 ⟨⟨ba, bn, bc⟩, rfl, hB, hg⟩
  replace F := Lib.hid (F.out.grown hg)
  replace G := Lib.hid (grown_trans G.out hg)
  have B := Lib.hid hB
  clear hB hg
  dsimp only [Sl.v]
  have HBN := Lib.hid (show bn = fn - 1 by have := B.out.len; rw [Bm.bnd_len] at this; dsimp only at this; omega)
  have hw : IntKind.i64.wrap ((fn : Int) - 1) = (fn : Int) - 1 := IntWalk.i64_in _ (by omega)
  have bfit := B.out.fit
  dsimp only [Sl.fit] at bfit
  go_upto_region 4 with fail
  go_cut [30] (fun s30 wc => s30 = .bool false ∧ w4 = wc)
  case first =>
    by_cases h1 : (0 : Int) < (fn : Int) - 1
    · go_wp2
      go_meet
      case rel => exact ⟨by have := HBN.out; simp; omega, rfl⟩
    · have h2 : decide ((0 : Int) < (fn : Int) - 1) = false := decide_eq_false h1
      go_wp2
      go_meet
      case rel => exact ⟨by have := HBN.out; simp; omega, rfl⟩
  case rest =>
    obtain ⟨rfl, rfl⟩ := hcut
    clear hw
    have bn12 : bn ≤ 12 := by have := HBN.out; omega
    go_wp2
    go_loopw [33] (fun s33 wr => ∃ k : Nat, s33 = .int .i64 k ∧ k ≤ bn ∧ Hid (w4.grownBy wr none)) (fun s33 _ => bn - (intOf s33).toNat)
    case atStart => exact ⟨0, rfl, by omega, Lib.hid (grown_refl _ _)⟩
    case round =>
      obtain ⟨k, rfl, hk, GL⟩ := hrel
      by_cases hlt : k < bn
      · obtain ⟨b, off, x, y, z, rfl, hp0, c0, c1, c2⟩ := (B.out.grown GL.out).at_ k hlt
        have SD := Bm.bd_sides FF.out.val.mgd (i := k) (by have := HBN.out; omega)
        rw [Bm.bnd_get f (by have := HBN.out; omega)] at hp0
        rw [hp0] at SD
        dsimp only at SD
        have A1 := Lib.hid ((at_val FF.out.val (x - 1)).trans SD.1)
        have A2 := Lib.hid ((at_val FF.out.val x).trans SD.2.1)
        have hyz : (y == z) = false := by rw [beq_eq_false_iff_ne]; exact SD.2.2
        have hxb : 0 ≤ x ∧ x ≤ 1000000 := by
          have h1 := Fm.vol_take_le FF.out.val.pos (k + 1)
          have h2 := FF.out.val.vol
          have h3 : x = Fm.vol (f.take (k + 1)) := by have := congrArg Prod.fst hp0; exact this.symm
          omega
        have hw : IntKind.i64.wrap (x - 1) = x - 1 := IntWalk.i64_in _ (by omega)
        clear SD hp0
        obtain ⟨wb, hwb⟩ : ∃ wb, wb = wr.alloc (.cells #[.int .i64 x, .int .i64 y, .int .i64 z] 44) := ⟨_, rfl⟩
        have d0 : wb.cell? ⟨wr.heap.size, 0, none⟩ = some (.int .i64 x) := by rw [hwb]; simp
        have d1 : wb.cell? ⟨wr.heap.size, 1, none⟩ = some (.int .i64 y) := by rw [hwb]; simp
        have d2 : wb.cell? ⟨wr.heap.size, 2, none⟩ = some (.int .i64 z) := by rw [hwb]; simp
        have GB := Lib.hid (show w4.grownBy wb none by rw [hwb]; exact grown_trans GL.out (World.grownBy_alloc _ _ _))
        go_upto_region 9 with fail
        rw [← hwb]
        obtain ⟨B0, hB0⟩ : ∃ B0, B0 = wr.heap.size := ⟨_, rfl⟩
        rw [← hB0] at d0 d1 d2 ⊢
        clear hB0 hwb c0 c1 c2
        have K0 := Lib.hid (fun (W : World) (hW : wb.grownBy W none) => (⟨hW.cell d0 (by simp), hW.cell d1 (by simp), hW.cell d2 (by simp)⟩ : W.cell? ⟨B0, 0, none⟩ = some (.int .i64 x) ∧ W.cell? ⟨B0, 1, none⟩ = some (.int .i64 y) ∧ W.cell? ⟨B0, 2, none⟩ = some (.int .i64 z)))
        have FB := Lib.hid (F.out.grown GB.out)
        go_region_held3 (fun w' => w'.cell? ⟨B0, 0, none⟩ = some (.int .i64 x) ∧ w'.cell? ⟨B0, 1, none⟩ = some (.int .i64 y) ∧ w'.cell? ⟨B0, 2, none⟩ = some (.int .i64 z))
          (first | go_keep | exact K0.out _ H2.out | exact K0.out _ H1.out | fail)
          (first
            | (have hgo := H1.out; go_at_call 22; refine (rat_any ⟨fa, fn, fc⟩ f x _ (FB.out.grown hgo) (by omega)).mono ?_; rw [A2.out]; rintro e wj ⟨rfl, hg⟩; have H2 := Lib.hid (grown_trans hgo hg); clear hg hgo)
            | (go_at_call 22; refine (rat_any ⟨fa, fn, fc⟩ f (x - 1) _ (FB.out.grown (grown_drewN wb 1 none)) (by omega)).mono ?_; rw [A1.out]; rintro e wi ⟨rfl, hg⟩; have H1 := Lib.hid (grown_trans (show wb.grownBy wb.drew none from grown_drewN wb 1 none) hg); clear hg)
            | fail)
        replace GL := Lib.hid (grown_trans GB.out H2.out)
        clear d0 d1 d2 K0 FB H1 H2 hw
        go_wp2
        go_roundw
        case rel => exact ⟨k + 1, by go_num, by omega, GL⟩
        case measure => simp [intOf]; omega
      · obtain rfl : k = bn := by omega
        replace G := Lib.hid (grown_trans G.out GL.out)
        go_wp2_with fail
        refine (awake15_any wr).mono ?_
        rintro e wz ⟨rfl, hg⟩
        replace G := Lib.hid (grown_trans G.out hg)
        clear hg
        go_wp2
        go_ret
        exact ⟨rfl, grown_below G.out⟩
end Go.Proofs.Ytagemdgbnajobaa
