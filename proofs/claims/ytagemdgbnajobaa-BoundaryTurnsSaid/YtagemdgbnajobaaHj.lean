/- BoundaryTurns: the walk. -/
import Derived.Test.YtagemdgbnajobaaHi
namespace Go.Proofs.Ytagemdgbnajobaa
open Go.ChangeShapes Go.WideShapes Go.ChangeAt Go.RowKit

theorem ahead_turned {f : List Fm.Pc} (h : Fm.Val f) (b : Int) (back : Bool) : aheadV f.reverse b (!back) = aheadV f b back ∧ aheadE f.reverse b (!back) = aheadE f b back := by
  have e : dirOf f.reverse (!back) = dirOf f back := by unfold dirOf; cases back <;> simp
  unfold aheadV aheadE
  rw [if_pos (Fm.valid_yes h), if_pos (Fm.valid_yes h), if_pos (Fm.valid_yes (Bm.val_reverse h)), if_pos (Fm.valid_yes (Bm.val_reverse h)), e]
  exact ⟨rfl, rfl⟩
set_option maxRecDepth 100000 in
set_option maxHeartbeats 4000000 in
theorem turns_walk (a : Option Addr) (len cap : Nat) (zs : List Int) (d : Int) (back : Bool) (wf : (Lit.int .u8 d).wf = true) (w : World) (hi : InRow w a len cap zs) :
    Calls Try.prog 8 #[.slice a len cap, .int .u8 d, .bool back] w fun e w' => e = .returned (.bool true) ∧ Below w.heap.size w w' := by
  have hd := bounds_u8 wf
  clear wf
  go_enter Try.func8, Try.ntmps8
  go_wp2_with fail
  refine (new_any a len cap zs w hi).mono ?_
  rintro e w1 ⟨rfl, hg, hs, _⟩
  have G := Lib.hid hg
  have HS := Lib.hid hs
  clear hi hg hs
  obtain ⟨S, hS⟩ : ∃ S, S = w.heap.size := ⟨_, rfl⟩
  have SW := Lib.hid hS
  rw [← hS] at HS ⊢
  clear hS
  go_wp2_with fail
  refine (n_any S 200 w1 HS.out (by omega) (by omega)).mono ?_
  rintro e w2 ⟨V1, ⟨hv1, hv2⟩, rfl, hg, hs⟩
  replace G := Lib.hid (G.out.under SW.out hg)
  replace HS := Lib.hid hs
  clear hg hs
  go_wp2_with fail
  refine (fill_any S V1 4 w2 HS.out (by omega) (by omega) (by omega) (by omega)).mono ?_
  rintro e w3 ⟨⟨fa, fn, fc⟩, f, rfl, ho, hf, hg, hs⟩
  have F := Lib.hid ho.fr
  have FF := Lib.hid hf
  replace G := Lib.hid (G.out.under SW.out hg)
  clear ho hf hg hs HS
  dsimp only [Sl.v]
  have hfn : f.length = fn := F.out.len
  have hfn12 : fn ≤ 12 := by have := FF.out.len; omega
  have VR := Lib.hid (Bm.val_reverse FF.out.val)
  go_wp2_with fail
  refine (turned_any ⟨fa, fn, fc⟩ f w3 F.out (by dsimp only; omega)).mono ?_
  rintro e w4 ⟨⟨ta, tn, tc⟩, rfl, ht, hg⟩
  replace F := Lib.hid (F.out.grown hg)
  have T := Lib.hid ht.fr
  replace G := Lib.hid (grown_trans G.out hg)
  clear ht hg
  dsimp only [Sl.v]
  go_wp2_with fail
  refine (blist_any ⟨fa, fn, fc⟩ f w4 F.out).mono ?_
  rw [list_val FF.out.val, inv_val FF.out.val]
  rintro e w5 ⟨⟨ba, bn, bc⟩, rfl, hB, hg⟩
  replace F := Lib.hid (F.out.grown hg)
  replace T := Lib.hid (T.out.grown hg)
  replace G := Lib.hid (grown_trans G.out hg)
  have B := Lib.hid hB
  clear hB hg
  dsimp only [Sl.v]
  go_wp2_with fail
  refine (blist_any ⟨ta, tn, tc⟩ _ w5 T.out).mono ?_
  rw [list_val VR.out, inv_val VR.out]
  rintro e w6 ⟨⟨ca, cn, cc⟩, rfl, hC, hg⟩
  replace F := Lib.hid (F.out.grown hg)
  replace T := Lib.hid (T.out.grown hg)
  replace B := Lib.hid (B.out.grown hg)
  replace G := Lib.hid (grown_trans G.out hg)
  have C := Lib.hid hC
  clear hC hg
  dsimp only [Sl.v]
  obtain ⟨K, hK⟩ : ∃ K, K = d % 4 := ⟨_, rfl⟩
  obtain ⟨V, hV⟩ : ∃ V, V = aheadV f K back := ⟨_, rfl⟩
  obtain ⟨E, hE⟩ : ∃ E, E = aheadE f K back := ⟨_, rfl⟩
  have HV := Lib.hid hV
  have HE := Lib.hid hE
  have AT := Lib.hid (ahead_turned FF.out.val K back)
  have hk4 : 0 ≤ K ∧ K < 4 := by omega
  clear hV hE
  go_wp2_with fail
  rw [← hK]
  refine (bahead_any ⟨fa, fn, fc⟩ f K back w6 F.out ⟨by omega, by omega⟩).mono ?_
  rw [← HV.out, ← HE.out]
  rintro e w7 ⟨rfl, hg⟩
  replace F := Lib.hid (F.out.grown hg)
  replace T := Lib.hid (T.out.grown hg)
  replace B := Lib.hid (B.out.grown hg)
  replace C := Lib.hid (C.out.grown hg)
  replace G := Lib.hid (grown_trans G.out hg)
  clear hg
  go_wp2_with fail
  rw [← hK]
  refine (bahead_any ⟨ta, tn, tc⟩ f.reverse K (!back) w7 T.out ⟨by omega, by omega⟩).mono ?_
  rw [AT.out.1, AT.out.2, ← HV.out, ← HE.out]
  rintro e w8 ⟨rfl, hg⟩
  replace F := Lib.hid (F.out.grown hg)
  replace T := Lib.hid (T.out.grown hg)
  replace B := Lib.hid (B.out.grown hg)
  replace C := Lib.hid (C.out.grown hg)
  replace G := Lib.hid (grown_trans G.out hg)
  clear hg hK
  have HBN := Lib.hid (show bn = fn - 1 by have := B.out.len; rw [Bm.bnd_len] at this; dsimp only at this; omega)
  obtain rfl : bn = cn := by have h1 := C.out.len; have h2 := HBN.out; rw [Bm.bnd_len, List.length_reverse] at h1; dsimp only at h1; omega
  have bfit := B.out.fit
  have cfit := C.out.fit
  dsimp only [Sl.fit] at bfit cfit
  have bn12 : bn ≤ 12 := by have := HBN.out; omega
  go_wp2_with fail
  refine (rvolume_any ⟨fa, fn, fc⟩ f w8 F.out).mono ?_
  rw [vol_fill FF.out]
  rintro e w9 ⟨rfl, hg⟩
  replace F := Lib.hid (F.out.grown hg)
  replace T := Lib.hid (T.out.grown hg)
  replace B := Lib.hid (B.out.grown hg)
  replace C := Lib.hid (C.out.grown hg)
  replace G := Lib.hid (grown_trans G.out hg)
  clear hg
  go_wp2
  go_loopw [19, 85] (fun s19 s85 wr => ∃ k : Nat, s85 = .int .i64 k ∧ k ≤ bn ∧ Hid (w9.grownBy wr none)) (fun _ s85 _ => bn - (intOf s85).toNat)
  case atStart => exact ⟨0, rfl, by omega, Lib.hid (grown_refl _ _)⟩
  case round =>
    obtain ⟨k, rfl, hk, GL⟩ := hrel
    by_cases hlt : k < bn
    · obtain ⟨b, off, x, y, z, rfl, hp0, c0, c1, c2⟩ := (B.out.grown GL.out).at_ k hlt
      obtain ⟨j, hj⟩ : ∃ j, j = bn - 1 - k := ⟨_, rfl⟩
      have hjn : j < bn := by omega
      obtain ⟨b', off', x', y', z', rfl, hp1, c0', c1', c2'⟩ := (C.out.grown GL.out).at_ j hjn
      rw [Bm.bnd_get f (by have := HBN.out; omega)] at hp0
      rw [Bm.bnd_get f.reverse (by rw [List.length_reverse]; have := HBN.out; omega)] at hp1
      have BT := Bm.bd_turned (f := f) (k := k) (by have := HBN.out; omega)
      rw [hp0, show f.length - 2 - k = j by have := HBN.out; omega, hp1, FF.out.vol] at BT
      dsimp only at BT
      obtain ⟨e1, e2, e3⟩ := BT
      have hxb : 0 ≤ x ∧ x ≤ 1000000 := by
        have h1 := Fm.vol_take_le FF.out.val.pos (k + 1)
        have h2 := FF.out.val.vol
        have h3 : x = Fm.vol (f.take (k + 1)) := by have := congrArg Prod.fst hp0; exact this.symm
        omega
      have hw1 : IntKind.i64.wrap ((bn : Int) - 1) = (bn : Int) - 1 := IntWalk.i64_in _ (by omega)
      have hw2 : IntKind.i64.wrap ((bn : Int) - 1 - (k : Int)) = (j : Int) := by rw [IntWalk.i64_in _ (by omega)]; omega
      have hw3 : IntKind.i64.wrap (V1 - x') = x := by rw [← e1]; exact IntWalk.i64_in _ (by omega)
      have hjni : (j : Int) < (bn : Int) := by omega
      subst e2; subst e3
      clear e1 hp0 hp1 hj
      have hlt2 : (k : Int) < (bn : Int) := by omega
      have GA := World.grownBy_alloc wr (.cells #[.int .i64 x', .int .i64 z, .int .i64 y] 44) none
      have d0 := GA.cell c0 (by simp)
      have d1 := GA.cell c1 (by simp)
      have d2 := GA.cell c2 (by simp)
      have GE := Lib.hid (fun nq => grown_trans (grown_trans GL.out GA) (grown_drewN _ nq none))
      clear GA c0 c1 c2
      go_wp2
      go_quiet (fail)
      go_wp2
      go_roundw
      case rel => exact ⟨k + 1, by go_num, by omega, Lib.hid (GE.out nq)⟩
      case measure => simp [intOf]; omega
    · obtain rfl : k = bn := by omega
      replace G := Lib.hid (grown_trans G.out GL.out)
      go_wp2_with fail
      refine (awake15_any wr).mono ?_
      rintro e wz ⟨rfl, hg⟩
      replace G := Lib.hid (grown_trans G.out hg)
      clear hg
      go_wp2
      go_ret
      exact ⟨rfl, grown_below G.out⟩
end Go.Proofs.Ytagemdgbnajobaa
