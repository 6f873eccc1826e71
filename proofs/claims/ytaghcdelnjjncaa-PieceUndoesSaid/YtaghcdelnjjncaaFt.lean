/- PieceUndoes: the walk. -/
import Derived.Test.YtaghcdelnjjncaaFs
namespace Go.Proofs.Ytaghcdelnjjncaa
open Go.ChangeShapes Go.WideShapes Go.ChangeAt Go.RowKit

theorem undo_pushed {f g : List Fm.Pc} (h : Few f 12) (k : Few g 12) (back : Bool) : Pushed (nx f g back) (ou f g back) (!back) f g 0 := by
  obtain ⟨a, b⟩ := h.nx k (by omega) back
  have := a.pushed b (by omega) (!back)
  obtain ⟨e1, e2⟩ := h.undo k back
  rw [e1, e2] at this
  exact this
set_option maxRecDepth 100000 in
set_option maxHeartbeats 2000000 in
theorem undoes_walk (a : Option Addr) (len cap : Nat) (zs : List Int) (back : Bool) (w : World) (hi : InRow w a len cap zs) :
    Calls Try.prog 5 #[.slice a len cap, .bool back] w fun e w' => e = .returned (.bool true) ∧ Below w.heap.size w w' := by
  go_enter Try.func5, Try.ntmps5
  go_wp2_with fail
  refine (new_any a len cap zs w hi).mono ?_
  rintro e w1 ⟨rfl, hg, hs, _⟩
  have G := Lib.hid hg
  have HS := Lib.hid hs
  clear hi hg hs
  obtain ⟨S, hS⟩ : ∃ S, S = w.heap.size := ⟨_, rfl⟩
  have SW := Lib.hid hS
  rw [← hS] at HS ⊢
  clear hS
  go_wp2_with fail
  refine (n_any S 200 w1 HS.out (by omega) (by omega)).mono ?_
  rintro e w2 ⟨V1, ⟨hv1, hv2⟩, rfl, hg, hs⟩
  replace G := Lib.hid (G.out.under SW.out hg)
  replace HS := Lib.hid hs
  clear hg hs
  go_wp2_with fail
  refine (fill_any S V1 3 w2 HS.out (by omega) (by omega) (by omega) (by omega)).mono ?_
  rintro e w3 ⟨⟨fa, fn, fc⟩, f, rfl, ho, hf, hg, hs⟩
  have F := Lib.hid ho.fr
  have FB := Lib.hid (off_of ho HS.out)
  have FF := Lib.hid hf
  replace G := Lib.hid (G.out.under SW.out hg)
  replace HS := Lib.hid hs
  clear ho hf hg hs
  dsimp only [Sl.v]
  go_wp2_with fail
  refine (n_any S 300 w3 HS.out (by omega) (by omega)).mono ?_
  rintro e w4 ⟨V2, ⟨hv3, hv4⟩, rfl, hg, hs⟩
  replace F := Lib.hid (F.out.row hg FB.out)
  replace G := Lib.hid (G.out.under SW.out hg)
  replace HS := Lib.hid hs
  clear hg hs
  go_wp2_with fail
  refine (fill_any S V2 4 w4 HS.out (by omega) (by omega) (by omega) (by omega)).mono ?_
  rintro e w5 ⟨⟨ga, gn, gc⟩, g, rfl, ho, hf, hg, hs⟩
  replace F := Lib.hid (F.out.row hg FB.out)
  have K := Lib.hid ho.fr
  have FG := Lib.hid hf
  replace G := Lib.hid (G.out.under SW.out hg)
  clear ho hf hg hs HS FB
  dsimp only [Sl.v]
  have P := Lib.hid (FF.out.few.pushed FG.out.few (by omega) back)
  have P2 := Lib.hid (undo_pushed FF.out.few FG.out.few back)
  go_wp2_with fail
  refine (ppush_any ⟨fa, fn, fc⟩ ⟨ga, gn, gc⟩ _ _ back w5 F.out K.out P.out).mono ?_
  rintro e w6 ⟨⟨xa, xn, xc⟩, ⟨ya, yn, yc⟩, rfl, hX, hY, hg⟩
  replace F := Lib.hid (F.out.grown hg)
  replace K := Lib.hid (K.out.grown hg)
  replace G := Lib.hid (grown_trans G.out hg)
  have X := Lib.hid hX
  have Y := Lib.hid hY
  clear hX hY hg
  dsimp only [Sl.v]
  go_wp2_with fail
  refine (ppush_any ⟨xa, xn, xc⟩ ⟨ya, yn, yc⟩ _ _ (!back) w6 X.out Y.out P2.out).mono ?_
  rintro e w7 ⟨⟨ua, un, uc⟩, ⟨va, vn, vc⟩, rfl, hU, hV, hg⟩
  replace F := Lib.hid (F.out.grown hg)
  replace K := Lib.hid (K.out.grown hg)
  replace X := Lib.hid (X.out.grown hg)
  replace Y := Lib.hid (Y.out.grown hg)
  replace G := Lib.hid (grown_trans G.out hg)
  have U := Lib.hid hU
  have V := Lib.hid hV
  clear hU hV hg
  dsimp only [Sl.v]
  go_wp2_with fail
  refine (rsame_any ⟨fa, fn, fc⟩ ⟨ua, un, uc⟩ _ _ w7 F.out U.out).mono ?_
  rw [sameB_refl]
  rintro e w8 ⟨rfl, hg⟩
  replace F := Lib.hid (F.out.grown hg)
  replace K := Lib.hid (K.out.grown hg)
  replace X := Lib.hid (X.out.grown hg)
  replace Y := Lib.hid (Y.out.grown hg)
  replace U := Lib.hid (U.out.grown hg)
  replace V := Lib.hid (V.out.grown hg)
  replace G := Lib.hid (grown_trans G.out hg)
  clear hg
  go_wp2_with fail
  refine (rsame_any ⟨ga, gn, gc⟩ ⟨va, vn, vc⟩ _ _ w8 K.out V.out).mono ?_
  rw [sameB_refl]
  rintro e w9 ⟨rfl, hg⟩
  replace F := Lib.hid (F.out.grown hg)
  replace K := Lib.hid (K.out.grown hg)
  replace X := Lib.hid (X.out.grown hg)
  replace Y := Lib.hid (Y.out.grown hg)
  replace U := Lib.hid (U.out.grown hg)
  replace V := Lib.hid (V.out.grown hg)
  replace G := Lib.hid (grown_trans G.out hg)
  clear hg
  go_wp2_with fail
  refine (awake_any w9).mono ?_
  rintro e w10 ⟨rfl, hg⟩
  replace F := Lib.hid (F.out.grown hg)
  replace K := Lib.hid (K.out.grown hg)
  replace X := Lib.hid (X.out.grown hg)
  replace Y := Lib.hid (Y.out.grown hg)
  replace U := Lib.hid (U.out.grown hg)
  replace V := Lib.hid (V.out.grown hg)
  replace G := Lib.hid (grown_trans G.out hg)
  clear hg
  go_wp2
  go_ret
  exact ⟨rfl, grown_below G.out⟩
end Go.Proofs.Ytaghcdelnjjncaa
