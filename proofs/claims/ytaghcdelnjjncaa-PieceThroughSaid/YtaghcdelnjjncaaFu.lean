/- PieceThrough: the walk. -/
import Derived.Test.YtaghcdelnjjncaaFt
namespace Go.Proofs.Ytaghcdelnjjncaa
open Go.ChangeShapes Go.WideShapes Go.ChangeAt Go.RowKit

theorem nine_val : Fm.Val [(9, 1)] := ⟨by decide, fun p hp => by simp at hp; subst hp; exact ⟨by decide, by decide, by decide, by decide⟩, ⟨by decide, fun q hq => by simp at hq, trivial⟩, by decide⟩
theorem nine_few : Few [(9, 1)] 1 := ⟨nine_val, by simp⟩
theorem nil_few : Few [] 0 := ⟨Fm.Val.nil, by simp⟩
theorem no_nine {f : List Fm.Pc} {V C : Int} (h : Filled f V C) (hC : C ≤ 9) : (Fm.lit f).count 9 = 0 := by
  rw [List.count_eq_zero]
  intro hm
  obtain ⟨p, hp, e, _⟩ := Fm.lit_mem hm
  have := h.bat p hp
  omega
theorem Filled.lits {f : List Fm.Pc} {V C : Int} (h : Filled f V C) : ((Fm.lit f).length : Int) = V := by rw [Fm.lit_len h.val.pos, h.vol]
theorem Filled.volume {f : List Fm.Pc} {V C : Int} (h : Filled f V C) : volume f = V := by rw [volume_val h.val, h.lits]
theorem at_val {f : List Fm.Pc} (h : Fm.Val f) (k : Int) : atOf f k = Fm.at_ (Fm.lit f) k := by unfold atOf; rw [if_pos (Fm.valid_yes h)]
/-- One litre is pushed in. -/
theorem one_in {f : List Fm.Pc} {V C : Int} (h : Filled f V C) (hC : C ≤ 9) (hV : 1 ≤ V) (back : Bool) : atOf (nx f [(9, 1)] back) (if back then V - 1 else 0) = 9 ∧ batchOf (nx f [(9, 1)] back) 9 = 1 := by
  have hv := (h.few.nx nine_few (by omega) back).1.val
  have hn := no_nine h hC
  have hl := h.lits
  rw [at_val hv, batch_val hv, lit_nx, show Fm.lit [(9, 1)] = [9] from rfl]
  generalize Fm.lit f = l at hn hl
  unfold Fm.shift
  cases back
  · simp only [Bool.false_eq_true, if_false]
    cases l with
    | nil => simp at hl; omega
    | cons b l =>
      have h2 : (List.take l.length (b :: l)).count 9 = 0 := by
        rw [List.count_eq_zero] at hn ⊢
        exact fun hm => hn (List.mem_of_mem_take hm)
      constructor
      · simp [Fm.at_]
      · simp only [List.singleton_append, List.length_cons, List.take_succ_cons, List.count_cons, h2]; simp
  · simp only [if_true, List.length_singleton]
    cases l with
    | nil => simp at hl; omega
    | cons b l =>
      simp only [List.cons_append, List.drop_succ_cons, List.drop_zero]
      simp only [List.length_cons] at hl
      have h2 : l.count 9 = 0 := by
        rw [List.count_eq_zero] at hn ⊢
        exact fun hm => hn (List.mem_cons_of_mem _ hm)
      constructor
      · unfold Fm.at_
        rw [if_neg (by omega), show (V - 1).toNat = l.length by omega]
        simp
      · simp [h2]
set_option maxRecDepth 100000 in
set_option maxHeartbeats 2000000 in
theorem through_walk (a : Option Addr) (len cap : Nat) (zs : List Int) (back : Bool) (w : World) (hi : InRow w a len cap zs) :
    Calls Try.prog 9 #[.slice a len cap, .bool back] w fun e w' => e = .returned (.bool true) ∧ Below w.heap.size w w' := by
  cases back with
  | true =>
    go_enter Try.func9, Try.ntmps9
    go_wp2_with fail
    refine (new_any a len cap zs w hi).mono ?_
    rintro e w1 ⟨rfl, hg, hs, _⟩
    have G := Lib.hid hg
    have HS := Lib.hid hs
    clear hi hg hs
    obtain ⟨S, hS⟩ : ∃ S, S = w.heap.size := ⟨_, rfl⟩
    have SW := Lib.hid hS
    rw [← hS] at HS ⊢
    clear hS
    go_wp2_with fail
    refine (n_any S 200 w1 HS.out (by omega) (by omega)).mono ?_
    rintro e w2 ⟨V1, ⟨hv1, hv2⟩, rfl, hg, hs⟩
    replace G := Lib.hid (G.out.under SW.out hg)
    replace HS := Lib.hid hs
    clear hg hs
    obtain ⟨V, hV⟩ : ∃ V, V = 1 + V1 := ⟨_, rfl⟩
    have hV1 : 1 ≤ V := by omega
    have hV2 : V ≤ 200 := by omega
    have hw : IntKind.i64.wrap (1 + V1) = V := by rw [IntWalk.i64_in _ (by omega)]; omega
    clear hv1 hv2 hV
    go_wp2_with fail
    refine (fill_any S V 3 w2 HS.out (by omega) (by omega) (by omega) (by omega)).mono ?_
    rintro e w3 ⟨⟨fa, fn, fc⟩, f, rfl, ho, hf, hg, hs⟩
    clear hw
    have F := Lib.hid ho.fr
    have FB := Lib.hid (off_of ho HS.out)
    have FF := Lib.hid hf
    replace G := Lib.hid (G.out.under SW.out hg)
    replace HS := Lib.hid hs
    clear ho hf hg hs
    dsimp only [Sl.v]
    go_wp2_with fail
    refine (fill_any S V 4 w3 HS.out (by omega) (by omega) (by omega) (by omega)).mono ?_
    rintro e w5 ⟨⟨ga, gn, gc⟩, g, rfl, ho, hf, hg, hs⟩
    replace F := Lib.hid (F.out.row hg FB.out)
    have K := Lib.hid ho.fr
    have FG := Lib.hid hf
    replace G := Lib.hid (G.out.under SW.out hg)
    clear ho hf hg hs HS FB
    dsimp only [Sl.v]
    have ALL := nx_all FF.out.val FG.out.val true (by rw [FF.out.volume, FG.out.volume])
    have NIL := nx_nil FF.out.val true
    have P1 := FF.out.few.pushed FG.out.few (by omega) true
    have P2 := FF.out.few.pushed nil_few (by omega) true
    rw [ALL.1, ALL.2] at P1
    rw [NIL.1, NIL.2] at P2
    have P := Lib.hid P1
    have Q := Lib.hid P2
    have R := Lib.hid (FF.out.few.pushed nine_few (by omega) true)
    have one := one_in FF.out (by omega) hV1 true
    simp only [if_true] at one
    have O1 := Lib.hid one.1
    have O2 := Lib.hid one.2
    clear ALL NIL P1 P2 one
    go_wp2_with fail
    refine (ppush_any ⟨fa, fn, fc⟩ ⟨ga, gn, gc⟩ _ _ true w5 F.out K.out P.out).mono ?_
    rintro e w6 ⟨⟨xa, xn, xc⟩, ⟨ya, yn, yc⟩, rfl, hX, hY, hg⟩
    replace F := Lib.hid (F.out.grown hg)
    replace K := Lib.hid (K.out.grown hg)
    replace G := Lib.hid (grown_trans G.out hg)
    have X := Lib.hid hX
    have Y := Lib.hid hY
    clear hX hY hg
    dsimp only [Sl.v]
    go_wp2_with fail
    refine (ppush_any ⟨fa, fn, fc⟩ ⟨none, 0, 0⟩ _ _ true w6 F.out FR.nil Q.out).mono ?_
    rintro e w7 ⟨⟨ua, un, uc⟩, ⟨va, vn, vc⟩, rfl, hU, hV_, hg⟩
    replace F := Lib.hid (F.out.grown hg)
    replace K := Lib.hid (K.out.grown hg)
    replace X := Lib.hid (X.out.grown hg)
    replace Y := Lib.hid (Y.out.grown hg)
    replace G := Lib.hid (grown_trans G.out hg)
    have U := Lib.hid hU
    have V_ := Lib.hid hV_
    clear hU hV_ hg
    dsimp only [Sl.v]
    have vl := V_.out.len
    dsimp only [List.length_nil] at vl
    subst vl
    clear V_
    go_wp2_with fail
    have N := Lib.hid (fr_new w7 [(9, 1)] (A := w7.heap.size) (cs := #[.int .i64 9, .int .i64 1]) rfl rfl (by decide))
    have al := World.grownBy_alloc w7 (.cells #[.int .i64 9, .int .i64 1] 30) none
    replace F := Lib.hid (F.out.grown al)
    replace K := Lib.hid (K.out.grown al)
    replace X := Lib.hid (X.out.grown al)
    replace Y := Lib.hid (Y.out.grown al)
    replace U := Lib.hid (U.out.grown al)
    replace G := Lib.hid (grown_trans G.out al)
    clear al
    refine (ppush_any ⟨fa, fn, fc⟩ ⟨some ⟨w7.heap.size, 0, none⟩, 1, 1⟩ _ _ true _ F.out N.out R.out).mono ?_
    rintro e w8 ⟨⟨pa, pn, pc⟩, ⟨qa, qn, qc⟩, rfl, hA, hB, hg⟩
    replace F := Lib.hid (F.out.grown hg)
    replace K := Lib.hid (K.out.grown hg)
    replace X := Lib.hid (X.out.grown hg)
    replace Y := Lib.hid (Y.out.grown hg)
    replace U := Lib.hid (U.out.grown hg)
    replace G := Lib.hid (grown_trans G.out hg)
    have A := Lib.hid hA
    have B := Lib.hid hB
    clear hA hB hg
    dsimp only [Sl.v]
    have hw2 : IntKind.i64.wrap (V - 1) = V - 1 := IntWalk.i64_in _ (by omega)
    go_wp2_with fail
    refine (rsame_any ⟨xa, xn, xc⟩ ⟨ga, gn, gc⟩ _ _ w8 X.out K.out).mono ?_
    rw [sameB_refl]
    rintro e w9 ⟨rfl, hg⟩
    replace F := Lib.hid (F.out.grown hg)
    replace K := Lib.hid (K.out.grown hg)
    replace X := Lib.hid (X.out.grown hg)
    replace Y := Lib.hid (Y.out.grown hg)
    replace U := Lib.hid (U.out.grown hg)
    replace A := Lib.hid (A.out.grown hg)
    replace B := Lib.hid (B.out.grown hg)
    replace G := Lib.hid (grown_trans G.out hg)
    clear hg
    go_wp2_with fail
    refine (rsame_any ⟨ya, yn, yc⟩ ⟨fa, fn, fc⟩ _ _ w9 Y.out F.out).mono ?_
    rw [sameB_refl]
    rintro e w10 ⟨rfl, hg⟩
    replace F := Lib.hid (F.out.grown hg)
    replace K := Lib.hid (K.out.grown hg)
    replace X := Lib.hid (X.out.grown hg)
    replace Y := Lib.hid (Y.out.grown hg)
    replace U := Lib.hid (U.out.grown hg)
    replace A := Lib.hid (A.out.grown hg)
    replace B := Lib.hid (B.out.grown hg)
    replace G := Lib.hid (grown_trans G.out hg)
    clear hg
    go_wp2_with fail
    refine (rsame_any ⟨ua, un, uc⟩ ⟨fa, fn, fc⟩ _ _ w10 U.out F.out).mono ?_
    rw [sameB_refl]
    rintro e w11 ⟨rfl, hg⟩
    replace F := Lib.hid (F.out.grown hg)
    replace K := Lib.hid (K.out.grown hg)
    replace X := Lib.hid (X.out.grown hg)
    replace Y := Lib.hid (Y.out.grown hg)
    replace U := Lib.hid (U.out.grown hg)
    replace A := Lib.hid (A.out.grown hg)
    replace B := Lib.hid (B.out.grown hg)
    replace G := Lib.hid (grown_trans G.out hg)
    clear hg
    go_wp2_with fail
    refine (pat_any ⟨pa, pn, pc⟩ _ (V - 1) w11 A.out (by omega)).mono ?_
    rw [O1.out]
    rintro e w12 ⟨rfl, hg⟩
    replace F := Lib.hid (F.out.grown hg)
    replace K := Lib.hid (K.out.grown hg)
    replace X := Lib.hid (X.out.grown hg)
    replace Y := Lib.hid (Y.out.grown hg)
    replace U := Lib.hid (U.out.grown hg)
    replace A := Lib.hid (A.out.grown hg)
    replace B := Lib.hid (B.out.grown hg)
    replace G := Lib.hid (grown_trans G.out hg)
    clear hg
    go_wp2_with fail
    refine (pbatch_any ⟨pa, pn, pc⟩ _ 9 w12 A.out).mono ?_
    rw [O2.out]
    rintro e w13 ⟨rfl, hg⟩
    replace F := Lib.hid (F.out.grown hg)
    replace K := Lib.hid (K.out.grown hg)
    replace X := Lib.hid (X.out.grown hg)
    replace Y := Lib.hid (Y.out.grown hg)
    replace U := Lib.hid (U.out.grown hg)
    replace A := Lib.hid (A.out.grown hg)
    replace B := Lib.hid (B.out.grown hg)
    replace G := Lib.hid (grown_trans G.out hg)
    clear hg
    go_wp2_with fail
    refine (awake_any w13).mono ?_
    rintro e w14 ⟨rfl, hg⟩
    replace F := Lib.hid (F.out.grown hg)
    replace K := Lib.hid (K.out.grown hg)
    replace X := Lib.hid (X.out.grown hg)
    replace Y := Lib.hid (Y.out.grown hg)
    replace U := Lib.hid (U.out.grown hg)
    replace A := Lib.hid (A.out.grown hg)
    replace B := Lib.hid (B.out.grown hg)
    replace G := Lib.hid (grown_trans G.out hg)
    clear hg
    go_wp2
    go_ret
    exact ⟨rfl, grown_below G.out⟩
  | false =>
    go_enter Try.func9, Try.ntmps9
    go_wp2_with fail
    refine (new_any a len cap zs w hi).mono ?_
    rintro e w1 ⟨rfl, hg, hs, _⟩
    have G := Lib.hid hg
    have HS := Lib.hid hs
    clear hi hg hs
    obtain ⟨S, hS⟩ : ∃ S, S = w.heap.size := ⟨_, rfl⟩
    have SW := Lib.hid hS
    rw [← hS] at HS ⊢
    clear hS
    go_wp2_with fail
    refine (n_any S 200 w1 HS.out (by omega) (by omega)).mono ?_
    rintro e w2 ⟨V1, ⟨hv1, hv2⟩, rfl, hg, hs⟩
    replace G := Lib.hid (G.out.under SW.out hg)
    replace HS := Lib.hid hs
    clear hg hs
    obtain ⟨V, hV⟩ : ∃ V, V = 1 + V1 := ⟨_, rfl⟩
    have hV1 : 1 ≤ V := by omega
    have hV2 : V ≤ 200 := by omega
    have hw : IntKind.i64.wrap (1 + V1) = V := by rw [IntWalk.i64_in _ (by omega)]; omega
    clear hv1 hv2 hV
    go_wp2_with fail
    refine (fill_any S V 3 w2 HS.out (by omega) (by omega) (by omega) (by omega)).mono ?_
    rintro e w3 ⟨⟨fa, fn, fc⟩, f, rfl, ho, hf, hg, hs⟩
    clear hw
    have F := Lib.hid ho.fr
    have FB := Lib.hid (off_of ho HS.out)
    have FF := Lib.hid hf
    replace G := Lib.hid (G.out.under SW.out hg)
    replace HS := Lib.hid hs
    clear ho hf hg hs
    dsimp only [Sl.v]
    go_wp2_with fail
    refine (fill_any S V 4 w3 HS.out (by omega) (by omega) (by omega) (by omega)).mono ?_
    rintro e w5 ⟨⟨ga, gn, gc⟩, g, rfl, ho, hf, hg, hs⟩
    replace F := Lib.hid (F.out.row hg FB.out)
    have K := Lib.hid ho.fr
    have FG := Lib.hid hf
    replace G := Lib.hid (G.out.under SW.out hg)
    clear ho hf hg hs HS FB
    dsimp only [Sl.v]
    have ALL := nx_all FF.out.val FG.out.val false (by rw [FF.out.volume, FG.out.volume])
    have NIL := nx_nil FF.out.val false
    have P1 := FF.out.few.pushed FG.out.few (by omega) false
    have P2 := FF.out.few.pushed nil_few (by omega) false
    rw [ALL.1, ALL.2] at P1
    rw [NIL.1, NIL.2] at P2
    have P := Lib.hid P1
    have Q := Lib.hid P2
    have R := Lib.hid (FF.out.few.pushed nine_few (by omega) false)
    have one := one_in FF.out (by omega) hV1 false
    simp only [Bool.false_eq_true, if_false] at one
    have O1 := Lib.hid one.1
    have O2 := Lib.hid one.2
    clear ALL NIL P1 P2 one
    go_wp2_with fail
    refine (ppush_any ⟨fa, fn, fc⟩ ⟨ga, gn, gc⟩ _ _ false w5 F.out K.out P.out).mono ?_
    rintro e w6 ⟨⟨xa, xn, xc⟩, ⟨ya, yn, yc⟩, rfl, hX, hY, hg⟩
    replace F := Lib.hid (F.out.grown hg)
    replace K := Lib.hid (K.out.grown hg)
    replace G := Lib.hid (grown_trans G.out hg)
    have X := Lib.hid hX
    have Y := Lib.hid hY
    clear hX hY hg
    dsimp only [Sl.v]
    go_wp2_with fail
    refine (ppush_any ⟨fa, fn, fc⟩ ⟨none, 0, 0⟩ _ _ false w6 F.out FR.nil Q.out).mono ?_
    rintro e w7 ⟨⟨ua, un, uc⟩, ⟨va, vn, vc⟩, rfl, hU, hV_, hg⟩
    replace F := Lib.hid (F.out.grown hg)
    replace K := Lib.hid (K.out.grown hg)
    replace X := Lib.hid (X.out.grown hg)
    replace Y := Lib.hid (Y.out.grown hg)
    replace G := Lib.hid (grown_trans G.out hg)
    have U := Lib.hid hU
    have V_ := Lib.hid hV_
    clear hU hV_ hg
    dsimp only [Sl.v]
    have vl := V_.out.len
    dsimp only [List.length_nil] at vl
    subst vl
    clear V_
    go_wp2_with fail
    have N := Lib.hid (fr_new w7 [(9, 1)] (A := w7.heap.size) (cs := #[.int .i64 9, .int .i64 1]) rfl rfl (by decide))
    have al := World.grownBy_alloc w7 (.cells #[.int .i64 9, .int .i64 1] 30) none
    replace F := Lib.hid (F.out.grown al)
    replace K := Lib.hid (K.out.grown al)
    replace X := Lib.hid (X.out.grown al)
    replace Y := Lib.hid (Y.out.grown al)
    replace U := Lib.hid (U.out.grown al)
    replace G := Lib.hid (grown_trans G.out al)
    clear al
    refine (ppush_any ⟨fa, fn, fc⟩ ⟨some ⟨w7.heap.size, 0, none⟩, 1, 1⟩ _ _ false _ F.out N.out R.out).mono ?_
    rintro e w8 ⟨⟨pa, pn, pc⟩, ⟨qa, qn, qc⟩, rfl, hA, hB, hg⟩
    replace F := Lib.hid (F.out.grown hg)
    replace K := Lib.hid (K.out.grown hg)
    replace X := Lib.hid (X.out.grown hg)
    replace Y := Lib.hid (Y.out.grown hg)
    replace U := Lib.hid (U.out.grown hg)
    replace G := Lib.hid (grown_trans G.out hg)
    have A := Lib.hid hA
    have B := Lib.hid hB
    clear hA hB hg
    dsimp only [Sl.v]
    go_wp2_with fail
    refine (rsame_any ⟨xa, xn, xc⟩ ⟨ga, gn, gc⟩ _ _ w8 X.out K.out).mono ?_
    rw [sameB_refl]
    rintro e w9 ⟨rfl, hg⟩
    replace F := Lib.hid (F.out.grown hg)
    replace K := Lib.hid (K.out.grown hg)
    replace X := Lib.hid (X.out.grown hg)
    replace Y := Lib.hid (Y.out.grown hg)
    replace U := Lib.hid (U.out.grown hg)
    replace A := Lib.hid (A.out.grown hg)
    replace B := Lib.hid (B.out.grown hg)
    replace G := Lib.hid (grown_trans G.out hg)
    clear hg
    go_wp2_with fail
    refine (rsame_any ⟨ya, yn, yc⟩ ⟨fa, fn, fc⟩ _ _ w9 Y.out F.out).mono ?_
    rw [sameB_refl]
    rintro e w10 ⟨rfl, hg⟩
    replace F := Lib.hid (F.out.grown hg)
    replace K := Lib.hid (K.out.grown hg)
    replace X := Lib.hid (X.out.grown hg)
    replace Y := Lib.hid (Y.out.grown hg)
    replace U := Lib.hid (U.out.grown hg)
    replace A := Lib.hid (A.out.grown hg)
    replace B := Lib.hid (B.out.grown hg)
    replace G := Lib.hid (grown_trans G.out hg)
    clear hg
    go_wp2_with fail
    refine (rsame_any ⟨ua, un, uc⟩ ⟨fa, fn, fc⟩ _ _ w10 U.out F.out).mono ?_
    rw [sameB_refl]
    rintro e w11 ⟨rfl, hg⟩
    replace F := Lib.hid (F.out.grown hg)
    replace K := Lib.hid (K.out.grown hg)
    replace X := Lib.hid (X.out.grown hg)
    replace Y := Lib.hid (Y.out.grown hg)
    replace U := Lib.hid (U.out.grown hg)
    replace A := Lib.hid (A.out.grown hg)
    replace B := Lib.hid (B.out.grown hg)
    replace G := Lib.hid (grown_trans G.out hg)
    clear hg
    go_wp2_with fail
    refine (pat_any ⟨pa, pn, pc⟩ _ 0 w11 A.out (by omega)).mono ?_
    rw [O1.out]
    rintro e w12 ⟨rfl, hg⟩
    replace F := Lib.hid (F.out.grown hg)
    replace K := Lib.hid (K.out.grown hg)
    replace X := Lib.hid (X.out.grown hg)
    replace Y := Lib.hid (Y.out.grown hg)
    replace U := Lib.hid (U.out.grown hg)
    replace A := Lib.hid (A.out.grown hg)
    replace B := Lib.hid (B.out.grown hg)
    replace G := Lib.hid (grown_trans G.out hg)
    clear hg
    go_wp2_with fail
    refine (pbatch_any ⟨pa, pn, pc⟩ _ 9 w12 A.out).mono ?_
    rw [O2.out]
    rintro e w13 ⟨rfl, hg⟩
    replace F := Lib.hid (F.out.grown hg)
    replace K := Lib.hid (K.out.grown hg)
    replace X := Lib.hid (X.out.grown hg)
    replace Y := Lib.hid (Y.out.grown hg)
    replace U := Lib.hid (U.out.grown hg)
    replace A := Lib.hid (A.out.grown hg)
    replace B := Lib.hid (B.out.grown hg)
    replace G := Lib.hid (grown_trans G.out hg)
    clear hg
    go_wp2_with fail
    refine (awake_any w13).mono ?_
    rintro e w14 ⟨rfl, hg⟩
    replace F := Lib.hid (F.out.grown hg)
    replace K := Lib.hid (K.out.grown hg)
    replace X := Lib.hid (X.out.grown hg)
    replace Y := Lib.hid (Y.out.grown hg)
    replace U := Lib.hid (U.out.grown hg)
    replace A := Lib.hid (A.out.grown hg)
    replace B := Lib.hid (B.out.grown hg)
    replace G := Lib.hid (grown_trans G.out hg)
    clear hg
    go_wp2
    go_ret
    exact ⟨rfl, grown_below G.out⟩
end Go.Proofs.Ytaghcdelnjjncaa
