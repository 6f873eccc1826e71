/- PieceKeeps: the walk. -/
import Derived.Test.YtaghcdelnjjncaaFr
namespace Go.Proofs.Ytaghcdelnjjncaa
open Go.ChangeShapes Go.WideShapes Go.ChangeAt Go.RowKit

/-- What came before it lies below. -/
theorem _root_.Go.World.grownBy.under {w wr w' : World} {S : Nat} (h : w.grownBy wr none) (hS : S = w.heap.size) (k : wr.grownBy w' (some S)) : w.grownBy w' none :=
  grown_row0 h k (fun b hb => by cases hb; omega)
theorem off_of {w w' : World} {s : Sl} {f : List Fm.Pc} {S : Nat} (h : OP w.heap.size w' s f) (hs : SrcOK w S) : s.blk ≠ some S := fun e => by
  have h1 := (h.blk S e).1
  have h2 := src_lt hs
  omega
set_option maxRecDepth 100000 in
set_option maxHeartbeats 2000000 in
theorem keeps_walk (a : Option Addr) (len cap : Nat) (zs : List Int) (back : Bool) (w : World) (hi : InRow w a len cap zs) :
    Calls Try.prog 4 #[.slice a len cap, .bool back] w fun e w' => e = .returned (.bool true) ∧ Below w.heap.size w w' := by
  go_enter Try.func4, Try.ntmps4
  go_wp2_with fail
  refine (new_any a len cap zs w hi).mono ?_
  rintro e w1 ⟨rfl, hg, hs, _⟩
  have G := Lib.hid hg
  have HS := Lib.hid hs
  clear hi hg hs
  obtain ⟨S, hS⟩ : ∃ S, S = w.heap.size := ⟨_, rfl⟩
  have SW := Lib.hid hS
  rw [← hS] at HS ⊢
  clear hS
  go_wp2_with fail
  refine (n_any S 200 w1 HS.out (by omega) (by omega)).mono ?_
  rintro e w2 ⟨V1, ⟨hv1, hv2⟩, rfl, hg, hs⟩
  replace G := Lib.hid (G.out.under SW.out hg)
  replace HS := Lib.hid hs
  clear hg hs
  go_wp2_with fail
  refine (fill_any S V1 4 w2 HS.out (by omega) (by omega) (by omega) (by omega)).mono ?_
  rintro e w3 ⟨⟨fa, fn, fc⟩, f, rfl, ho, hf, hg, hs⟩
  have F := Lib.hid ho.fr
  have FB := Lib.hid (off_of ho HS.out)
  have FF := Lib.hid hf
  replace G := Lib.hid (G.out.under SW.out hg)
  replace HS := Lib.hid hs
  clear ho hf hg hs
  dsimp only [Sl.v]
  go_wp2_with fail
  refine (n_any S 300 w3 HS.out (by omega) (by omega)).mono ?_
  rintro e w4 ⟨V2, ⟨hv3, hv4⟩, rfl, hg, hs⟩
  replace F := Lib.hid (F.out.row hg FB.out)
  replace G := Lib.hid (G.out.under SW.out hg)
  replace HS := Lib.hid hs
  clear hg hs
  go_wp2_with fail
  refine (fill_any S V2 5 w4 HS.out (by omega) (by omega) (by omega) (by omega)).mono ?_
  rintro e w5 ⟨⟨ga, gn, gc⟩, g, rfl, ho, hf, hg, hs⟩
  replace F := Lib.hid (F.out.row hg FB.out)
  have K := Lib.hid ho.fr
  have FG := Lib.hid hf
  replace G := Lib.hid (G.out.under SW.out hg)
  clear ho hf hg hs HS FB
  dsimp only [Sl.v]
  have P := Lib.hid (FF.out.few.pushed FG.out.few (by omega) back)
  have NV := Lib.hid (FF.out.few.nx FG.out.few (by omega) back)
  have VV := Lib.hid (FF.out.few.vols FG.out.few (by omega) back)
  have CC := Lib.hid (FF.out.few.counts FG.out.few (by omega) back)
  have n1 : Fm.valid (nx f g back) = true := Fm.valid_yes NV.out.1.val
  have n2 : Fm.valid (ou f g back) = true := Fm.valid_yes NV.out.2.val
  have N1 := Lib.hid n1
  have N2 := Lib.hid n2
  clear n1 n2
  go_wp2_with fail
  refine (ppush_any ⟨fa, fn, fc⟩ ⟨ga, gn, gc⟩ _ _ back w5 F.out K.out P.out).mono ?_
  rintro e w6 ⟨⟨xa, xn, xc⟩, ⟨ya, yn, yc⟩, rfl, hX, hY, hg⟩
  replace F := Lib.hid (F.out.grown hg)
  replace K := Lib.hid (K.out.grown hg)
  replace G := Lib.hid (grown_trans G.out hg)
  have X := Lib.hid hX
  have Y := Lib.hid hY
  clear hX hY hg
  dsimp only [Sl.v]
  go_wp2_with fail
  refine (pvalid_any ⟨xa, xn, xc⟩ _ w6 X.out).mono ?_
  rw [N1.out]
  rintro e w7 ⟨rfl, hg⟩
  replace F := Lib.hid (F.out.grown hg)
  replace K := Lib.hid (K.out.grown hg)
  replace X := Lib.hid (X.out.grown hg)
  replace Y := Lib.hid (Y.out.grown hg)
  replace G := Lib.hid (grown_trans G.out hg)
  clear hg
  go_wp2_with fail
  refine (pvalid_any ⟨ya, yn, yc⟩ _ w7 Y.out).mono ?_
  rw [N2.out]
  rintro e w8 ⟨rfl, hg⟩
  replace F := Lib.hid (F.out.grown hg)
  replace K := Lib.hid (K.out.grown hg)
  replace X := Lib.hid (X.out.grown hg)
  replace Y := Lib.hid (Y.out.grown hg)
  replace G := Lib.hid (grown_trans G.out hg)
  clear hg
  go_wp2_with fail
  refine (pvolume_any ⟨xa, xn, xc⟩ _ w8 X.out).mono ?_
  rw [VV.out.1]
  rintro e w9 ⟨rfl, hg⟩
  replace F := Lib.hid (F.out.grown hg)
  replace K := Lib.hid (K.out.grown hg)
  replace X := Lib.hid (X.out.grown hg)
  replace Y := Lib.hid (Y.out.grown hg)
  replace G := Lib.hid (grown_trans G.out hg)
  clear hg
  
  go_wp2_with fail
  refine (pvolume_any ⟨fa, fn, fc⟩ _ w9 F.out).mono ?_
  rintro e w10 ⟨rfl, hg⟩
  replace F := Lib.hid (F.out.grown hg)
  replace K := Lib.hid (K.out.grown hg)
  replace X := Lib.hid (X.out.grown hg)
  replace Y := Lib.hid (Y.out.grown hg)
  replace G := Lib.hid (grown_trans G.out hg)
  clear hg
  go_wp2_with fail
  refine (pvolume_any ⟨ya, yn, yc⟩ _ w10 Y.out).mono ?_
  rw [VV.out.2]
  rintro e w11 ⟨rfl, hg⟩
  replace F := Lib.hid (F.out.grown hg)
  replace K := Lib.hid (K.out.grown hg)
  replace X := Lib.hid (X.out.grown hg)
  replace Y := Lib.hid (Y.out.grown hg)
  replace G := Lib.hid (grown_trans G.out hg)
  clear hg
  go_wp2_with fail
  refine (pvolume_any ⟨ga, gn, gc⟩ _ w11 K.out).mono ?_
  rintro e w12 ⟨rfl, hg⟩
  replace F := Lib.hid (F.out.grown hg)
  replace K := Lib.hid (K.out.grown hg)
  replace X := Lib.hid (X.out.grown hg)
  replace Y := Lib.hid (Y.out.grown hg)
  replace G := Lib.hid (grown_trans G.out hg)
  clear hg
  go_wp2
  go_loopw [11] (fun s11 wr => ∃ i : Int, s11 = .int .i64 i ∧ 0 ≤ i ∧ i ≤ 5 ∧ Hid (w12.grownBy wr none)) (fun s11 _ => (5 - intOf s11).toNat)
  case atStart => exact ⟨0, rfl, by omega, by omega, Lib.hid (grown_refl _ _)⟩
  case round =>
    obtain ⟨i, rfl, hi0, hi5, GL⟩ := hrel
    by_cases hlt : i < 5
    · have r1 := batch_range FF.out.val i
      have r2 := batch_range FG.out.val i
      have r3 := batch_range NV.out.1.val i
      have r4 := batch_range NV.out.2.val i
      have ci := CC.out i
      obtain ⟨x1, e1⟩ : ∃ x, batchOf f i = x := ⟨_, rfl⟩
      obtain ⟨x2, e2⟩ : ∃ x, batchOf g i = x := ⟨_, rfl⟩
      obtain ⟨x3, e3⟩ : ∃ x, batchOf (nx f g back) i = x := ⟨_, rfl⟩
      obtain ⟨x4, e4⟩ : ∃ x, batchOf (ou f g back) i = x := ⟨_, rfl⟩
      rw [e1] at r1 ci
      rw [e2] at r2 ci
      rw [e3] at r3 ci
      rw [e4] at r4 ci
      have E1 := Lib.hid e1
      have E2 := Lib.hid e2
      have E3 := Lib.hid e3
      have E4 := Lib.hid e4
      clear e1 e2 e3 e4
      have fl : ∀ (s : Sl) (h : List Fm.Pc), FR w12 s h → FR wr s h := fun s h k => k.grown GL.out
      replace F := Lib.hid (fl _ _ F.out)
      replace K := Lib.hid (fl _ _ K.out)
      replace X := Lib.hid (fl _ _ X.out)
      replace Y := Lib.hid (fl _ _ Y.out)
      replace G := Lib.hid (grown_trans G.out GL.out)
      clear fl
      have GG := GL
      go_wp2_with fail
      refine (pbatch_any ⟨fa, fn, fc⟩ _ i wr F.out).mono ?_
      rw [E1.out]
      rintro e w13 ⟨rfl, hg⟩
      replace F := Lib.hid (F.out.grown hg)
      replace K := Lib.hid (K.out.grown hg)
      replace X := Lib.hid (X.out.grown hg)
      replace Y := Lib.hid (Y.out.grown hg)
      replace GG := Lib.hid (grown_trans GG.out hg)
      clear hg
      go_wp2_with fail
      refine (pbatch_any ⟨ga, gn, gc⟩ _ i w13 K.out).mono ?_
      rw [E2.out]
      rintro e w14 ⟨rfl, hg⟩
      replace F := Lib.hid (F.out.grown hg)
      replace K := Lib.hid (K.out.grown hg)
      replace X := Lib.hid (X.out.grown hg)
      replace Y := Lib.hid (Y.out.grown hg)
      replace GG := Lib.hid (grown_trans GG.out hg)
      clear hg
      go_wp2_with fail
      refine (pbatch_any ⟨xa, xn, xc⟩ _ i w14 X.out).mono ?_
      rw [E3.out]
      rintro e w15 ⟨rfl, hg⟩
      replace F := Lib.hid (F.out.grown hg)
      replace K := Lib.hid (K.out.grown hg)
      replace X := Lib.hid (X.out.grown hg)
      replace Y := Lib.hid (Y.out.grown hg)
      replace GG := Lib.hid (grown_trans GG.out hg)
      clear hg
      go_wp2_with fail
      refine (pbatch_any ⟨ya, yn, yc⟩ _ i w15 Y.out).mono ?_
      rw [E4.out]
      rintro e w16 ⟨rfl, hg⟩
      replace F := Lib.hid (F.out.grown hg)
      replace K := Lib.hid (K.out.grown hg)
      replace X := Lib.hid (X.out.grown hg)
      replace Y := Lib.hid (Y.out.grown hg)
      replace GG := Lib.hid (grown_trans GG.out hg)
      clear hg
      go_wp2
      go_roundw
      case rel => exact ⟨i + 1, rfl, by omega, by omega, GG⟩
      case measure => simp [intOf]; omega
    · obtain rfl : i = 5 := by omega
      replace G := Lib.hid (grown_trans G.out GL.out)
      go_wp2_with fail
      refine (awake_any wr).mono ?_
      rintro e wz ⟨rfl, hg⟩
      replace G := Lib.hid (grown_trans G.out hg)
      clear hg
      go_wp2
      go_ret
      exact ⟨rfl, grown_below G.out⟩
end Go.Proofs.Ytaghcdelnjjncaa
