/- The walk of WireAnswers. -/
import Derived.Test.YtibbmbedmalapaaDoorLawA1
import Derived.Test.YtibbmbedmalapaaDoorPut
import Derived.Deep.RegionHeld3
import Derived.Deep.DeepCutAuto
namespace Go.Proofs.YtibbmbedmalapaaDoor
open Go.ChangeShapes Go.WideShapes Go.ChangeAt Go.RowKit

theorem held_strong {P : Program} {ops : Array Oper} {Q : Exit → Act → World → Prop} {md : Region.Mode} {S S' : World → Prop} (h : ∀ w, S' w → S w) :
    ∀ (fuel : Nat) (listed : Array Bool) (a : Act) (w : World), wpAnyH P md ops Q S' fuel listed a w → wpAnyH P md ops Q S fuel listed a w
  | 0, _, _, _, hh => hh
  | fuel + 1, _, _, _, hh => ⟨hh.1, fun i hi => wpOp_mono (fun a' w' ⟨s, r⟩ => ⟨h _ s, held_strong h fuel _ a' w' r⟩) (hh.2 i hi)⟩

/-- Two slices read as one list of bytes. -/
def CS2 (A2 : Option Addr) (n2 c2 : Nat) (A : Option Addr) (n c : Nat) (l : List UInt8) (w' : World) : Prop :=
  (convert 22 9 (.slice A2 n2 c2)).run Tryd.prog w' = .ok (.string ⟨l.toArray⟩) w' ∧ (convert 22 9 (.slice A n c)).run Tryd.prog w' = .ok (.string ⟨l.toArray⟩) w'
/-- One more. -/
def CSx (S : World → Prop) (A : Option Addr) (n c : Nat) (l : List UInt8) (w' : World) : Prop :=
  S w' ∧ (convert 22 9 (.slice A n c)).run Tryd.prog w' = .ok (.string ⟨l.toArray⟩) w'
theorem cs2_mk {A2 A : Option Addr} {n2 c2 n c : Nat} {l : List UInt8} {w : World} (h2 : RB w A2 n2 l) (h : RB w A n l) : CS2 A2 n2 c2 A n c l w := ⟨conv_str _ _ _ _ _ h2, conv_str _ _ _ _ _ h⟩
theorem csx_mk {S : World → Prop} {A : Option Addr} {n c : Nat} {l : List UInt8} {w : World} (hS : S w) (h : RB w A n l) : CSx S A n c l w := ⟨hS, conv_str _ _ _ _ _ h⟩

theorem rint_at {A : Option Addr} {n c : Nat} {p x y z : Int} {l : List UInt8} {w : World} (h : Calls Tryd.prog 15 #[.slice A n c, .int .i64 p] w (IntEnd (Wm.intR l p) w)) (hr : Wm.intR l p = (x, y, z)) :
    Calls Tryd.prog 15 #[.slice A n c, .int .i64 p] w fun e w' => e = .returned (.tuple #[.int .i64 x, .int .i64 y, .int .i64 z]) ∧ w = w' := by
  rw [hr] at h; exact h

theorem St.far {w WM wx wy : World} {S g : Nat} (h : St w WM S wx) (hg : wx.grownBy wy (some g)) (h1 : WM.heap.size ≤ g) (h2 : S < g) (h3 : w.heap.size ≤ g) : St w WM S wy :=
  ⟨⟨hg.os.trans h.gx.os, hg.tape.trans h.gx.tape, hg.output.trans h.gx.output, Nat.le_trans h.gx.size hg.size, fun i hi hr =>
      (hg.block i (Nat.lt_of_lt_of_le hi h.gx.size) (by intro e; injection e with e; omega)).trans (h.gx.block i hi hr)⟩,
    h.sx.grownRow hg (fun k hk => by injection hk with hk; omega), grown_off h.g hg h3⟩
theorem own_rbx {w : World} {base g n c S : Nat} {l : List UInt8} (h : w.ownsRow base 5 1 (.slice (some ⟨g, 0, none⟩) n c) n (bvs l)) (hg : S < g) : RBx w S (some ⟨g, 0, none⟩) n l := by
  have hl : l.length = n := by have := h.1; rw [bvs_len] at this; omega
  exact ⟨hl, fun i hi => ⟨g, 0, by omega, rfl, by rw [Nat.zero_add, h.cellAt i (by omega), bvs_get l i (by omega)]; rfl⟩⟩

theorem pick7 (c : Int) (h : ∃ j, j < 7 ∧ c = [124, 125, 126, 93, 94, 0, 128].getD j 0) : ∃ u : UInt8, c = ((u.toNat : Nat) : Int) := by
  obtain ⟨j, hj, rfl⟩ := h
  match j, hj with
  | 0, _ => exact ⟨124, rfl⟩
  | 1, _ => exact ⟨125, rfl⟩
  | 2, _ => exact ⟨126, rfl⟩
  | 3, _ => exact ⟨93, rfl⟩
  | 4, _ => exact ⟨94, rfl⟩
  | 5, _ => exact ⟨0, rfl⟩
  | 6, _ => exact ⟨128, rfl⟩

set_option maxRecDepth 100000 in
theorem answers_short (A : Option Addr) (n c : Nat) (p x : Int) (a4 : Option Addr) (len4 cap4 : Nat) (w : World) (ht : Tabled w) (hn : n ≤ 9223372036854775807) (h : 300 < n) :
    Calls Tryd.prog 3 #[.slice A n c, .int .i64 p, .int .i64 x, .slice a4 len4 cap4] w (TrueEnd w) := by
  have HA := Lib.hid (awake_any w ht)
  clear ht
  go_enter Tryd.func3, Tryd.ntmps3
  go_wp2_with fail
  refine HA.out.mono ?_; rintro e w' ⟨rfl, hg⟩
  have G := Lib.hid (grown_below hg)
  clear hg
  go_wp2
  go_ret
  exact ⟨rfl, G.out⟩

set_option maxRecDepth 100000 in
set_option maxHeartbeats 4000000 in
theorem answers_long (A : Option Addr) (n c : Nat) (l : List UInt8) (p x : Int) (a4 : Option Addr) (len4 cap4 : Nat) (zs4 : List Int) (w : World) (ht : Tabled w) (hb : InB w A n c l)
    (p1 : -9223372036854775808 ≤ p) (p2 : p ≤ 9223372036854775807) (x1 : -9223372036854775808 ≤ x) (x2 : x ≤ 9223372036854775807) (h4 : InRow w a4 len4 cap4 zs4) (hl : n ≤ 300) :
    Calls Tryd.prog 3 #[.slice A n c, .int .i64 p, .int .i64 x, .slice a4 len4 cap4] w (TrueEnd w) := by
  obtain ⟨hb, hc, hc2⟩ := hb
  have HT := Lib.hid ht
  have H4 := Lib.hid h4
  have HB := Lib.hid hb
  have HX := Lib.hid hb.rbx
  obtain ⟨M, hM⟩ : ∃ M, (Wm.esc l).length = M := ⟨_, rfl⟩
  have hMl := (Wm.esc_len l).2
  rw [hM, hb.1] at hMl
  obtain ⟨lc, hlc⟩ : ∃ lc, l ++ Wm.enc (Wm.fold x) = lc := ⟨_, rfl⟩
  obtain ⟨N, hN⟩ : ∃ N, lc.length = N := ⟨_, rfl⟩
  have hN2 : N ≤ n + 10 := by
    have := Wm.enc_ten _ (Wm.fold_lt x x1 x2)
    rw [← hN, ← hlc, List.length_append, hb.1]; omega
  obtain ⟨K, hK⟩ : ∃ K, (Wm.esc lc).length = K := ⟨_, rfl⟩
  have hKl := (Wm.esc_len lc).2
  rw [hK, hN] at hKl
  have HM := Lib.hid hM
  have HN := Lib.hid hN
  have HK := Lib.hid hK
  have HC := Lib.hid hlc
  clear ht h4 hb hM hlc hN hK
  go_enter Tryd.func3, Tryd.ntmps3
  go_wp2_with fail
  refine (new_any a4 len4 cap4 zs4 w H4.out).mono ?_
  rintro e w1 ⟨rfl, hg1, hs1, hb1⟩
  generalize hS : w.heap.size = S at *
  have HS := Lib.hid hS
  have G1 := Lib.hid hg1
  have S1 := Lib.hid hs1
  have X1 := Lib.hid (HX.out.grown hg1)
  clear hS hg1 hs1
  go_wp2_with fail
  refine (own_n N (rput_any A n c l x _ X1.out.rb (by omega) x1 x2) (by rw [HC.out, HN.out])).mono ?_
  rintro e w2 ⟨A2, c2, rfl, hm2⟩
  rw [HC.out] at hm2
  have X2 := Lib.hid (X1.out.grown hm2.gr)
  have Y2 := Lib.hid (hm2.rbx (S := S) hb1)
  have hc2a := hm2.shape.1
  have hc2b := hm2.shape.2.1
  have G2 := Lib.hid (grown_trans G1.out hm2.gr)
  have S2 := Lib.hid (S1.out.grown hm2.gr)
  have hb2 : S < w2.heap.size := by have := hm2.gr.size; omega
  clear hm2 G1 S1 X1
  go_wp2_with fail
  refine (own_n (M + 2) (rstuff_any A n c l _ X2.out.rb (by omega)) (by rw [Wm.frame_len, HM.out])).mono ?_
  rintro e w3 ⟨A3, c3, rfl, hm3⟩
  have X3 := Lib.hid (X2.out.grown hm3.gr)
  have Y3 := Lib.hid (Y2.out.grown hm3.gr)
  have V3 := Lib.hid (hm3.fb (S := S) hb2 (by omega))
  have G3 := Lib.hid (grown_trans G2.out hm3.gr)
  have S3 := Lib.hid (S2.out.grown hm3.gr)
  have hb3 : S < w3.heap.size := by have := hm3.gr.size; omega
  clear hm3 X2 Y2 G2 S2
  go_wp2_with fail
  refine (own_n (K + 2) (rstuff_any A2 N c2 lc _ Y3.out.rb (by omega)) (by rw [Wm.frame_len, HK.out])).mono ?_
  rintro e w4 ⟨A4, c4, rfl, hm4⟩
  have X4 := Lib.hid (X3.out.grown hm4.gr)
  have Y4 := Lib.hid (Y3.out.grown hm4.gr)
  have V4 := Lib.hid (And.intro (V3.out.grown hm4.gr) (hm4.fb (S := S) hb3 (by omega)))
  have G4 := Lib.hid (grown_trans G3.out hm4.gr)
  have S4 := Lib.hid (S3.out.grown hm4.gr)
  have hb4 : S < w4.heap.size := by have := hm4.gr.size; omega
  clear hm4 X3 Y3 V3 G3 S3
  go_wp2_with fail
  refine (own_n (M + 2) (rstuff_any A n c l _ X4.out.rb (by omega)) (by rw [Wm.frame_len, HM.out])).mono ?_
  rintro e w5 ⟨A5, c5, rfl, hm5⟩
  have M5 := Lib.hid hm5
  clear hm5
  go_wp2_with (first
    | (at_builtin; refine wpList_app rfl (.tmp 41) (.tmp 42) rfl rfl rfl (M5.out.alloc _) (rb_lit _ _ 1 [124] rfl rfl (by omega)) (by omega) (M + 3) rfl ?_; intro A6 c6 w6 hm6 _; have M6 := Lib.hid hm6; clear hm6)
    | (at_builtin; refine wpList_app rfl (.tmp 44) (.tmp 45) rfl rfl rfl (made_lit w6 w6 #[.int .u8 126] 1 [126] rfl rfl (grown_refl _ _) (by omega)) ((X4.out.grown M6.out.gr).grown (grown_alloc _ _ _)).rb (by omega) (n + 1) (Nat.add_comm 1 n) ?_; intro A7 c7 w7 hm7 _; have M7 := Lib.hid hm7; clear hm7)
    | (at_builtin; refine wpList_app rfl (.tmp 47) (.tmp 48) rfl rfl rfl (made_lit w7 w7 #[.int .u8 126] 1 [126] rfl rfl (grown_refl _ _) (by omega)) (((X4.out.grown M6.out.gr).grown M7.out.gr).grown (grown_alloc _ _ _)).rb (by omega) (n + 1) (Nat.add_comm 1 n) ?_; intro A8 c8 w8 hm8 _; have M8 := Lib.hid hm8; clear hm8)
    | (at_builtin; refine wpList_app rfl (.tmp 49) (.tmp 50) rfl rfl rfl (M8.out.alloc _) (rb_lit _ _ 1 [124] rfl rfl (by omega)) (by omega) (n + 2) rfl ?_; intro A9 c9 w9 hm9 _; have M9 := Lib.hid hm9; clear hm9))
  have hb6 : S < w6.heap.size := by have := M6.out.gr.size; omega
  have hb7 : S < w7.heap.size := by have := M7.out.gr.size; omega
  have hb9 : S < w9.heap.size := by have := M9.out.gr.size; omega
  have G69 := grown_trans M7.out.gr M9.out.gr
  have G49 := grown_trans M6.out.gr G69
  obtain ⟨L, hL⟩ : ∃ L, L = w9.heap.size := ⟨_, rfl⟩
  obtain ⟨WM, hWM⟩ : ∃ WM, WM = w9.alloc (.cells #[.slice A n c, .slice A2 N c2, .slice A3 (M + 2) c3, .slice A4 (K + 2) c4, .slice A6 (M + 3) c6, .slice A7 (n + 1) c7, .slice A9 (n + 2) c9] 22) := ⟨_, rfl⟩
  have gM : w9.grownBy WM none := by rw [hWM]; exact grown_alloc _ _ _
  have CM := Lib.hid (show ∀ j, j < 7 → ∃ v, WM.cell? ⟨L, j, none⟩ = some v ∧ Fb WM S v from fun j hj => by
    match j, hj with
    | 0, _ => exact ⟨.slice A n c, by rw [hWM, hL]; simp, ⟨A, n, c, l, rfl, by omega, hc, hc2, (X4.out.grown G49).grown gM⟩⟩
    | 1, _ => exact ⟨.slice A2 N c2, by rw [hWM, hL]; simp, ⟨A2, N, c2, lc, rfl, by omega, hc2a, hc2b, (Y4.out.grown G49).grown gM⟩⟩
    | 2, _ => exact ⟨.slice A3 (M + 2) c3, by rw [hWM, hL]; simp, (V4.out.1.grown G49).grown gM⟩
    | 3, _ => exact ⟨.slice A4 (K + 2) c4, by rw [hWM, hL]; simp, (V4.out.2.grown G49).grown gM⟩
    | 4, _ => exact ⟨.slice A6 (M + 3) c6, by rw [hWM, hL]; simp, ((M6.out.fb (S := S) hb4 (by omega)).grown G69).grown gM⟩
    | 5, _ => exact ⟨.slice A7 (n + 1) c7, by rw [hWM, hL]; simp, ((M7.out.fb (S := S) hb6 (by omega)).grown M9.out.gr).grown gM⟩
    | 6, _ => exact ⟨.slice A9 (n + 2) c9, by rw [hWM, hL]; simp, (M9.out.fb (S := S) hb7 (by omega)).grown gM⟩)
  have GT := Lib.hid (grown_trans G4.out (grown_trans G49 gM))
  have ST0 := Lib.hid (show St w WM S WM from ⟨grown_refl _ _, S4.out.grown (grown_trans G49 gM), GT.out⟩)
  have XM := Lib.hid ((X4.out.grown G49).grown gM)
  have YM := Lib.hid ((Y4.out.grown G49).grown gM)
  have LT := Lib.hid (show S < L ∧ L < WM.heap.size from by rw [hWM, hL]; simp; omega)
  rw [← hL, ← hWM]
  clear hL hWM gM G49 G69 M5 M6 M7 M8 M9 X4 Y4 V4 G4 S4 hb6 hb7 hb9 hb4 hb3 hb2 hb1
  go_loopw [12, 14, 15, 16, 17, 18, 19, 20, 21, 22, 23, 24, 54] (fun _ _ _ _ _ _ _ _ _ _ _ _ s54 wq => ∃ i : Nat, s54 = .int .i64 i ∧ i ≤ 7 ∧ Hid (St w WM S wq)) (fun _ _ _ _ _ _ _ _ _ _ _ _ s _ => 7 - (intOf s).toNat)
  case atStart => exact ⟨0, rfl, by omega, ST0⟩
  case round =>
    obtain ⟨wq, rfl⟩ : ∃ wq : World, wq = wr := ⟨_, rfl⟩
    obtain ⟨i, rfl, hi7, ST⟩ := hrel
    by_cases hlt : i < 7
    · obtain ⟨v, hv, hf⟩ := CM.out i hlt
      have cv := ST.out.gx.cell hv (by have := LT.out; simp; omega)
      have hf := hf.src ST.out.gx
      obtain ⟨Av, nv, cpv, lv, rfl, hn1, hn2, hn3, hR⟩ := hf
      have RV := Lib.hid hR
      clear hR hv
      go_upto_region 8 with fail
      go_cut [65] (fun s65 wx => ∃ bb : Bool, s65 = .bool bb ∧ (bb = true → 0 < nv) ∧ Hid (St w WM S wx) ∧ Hid (wq.grownBy wx (some S)))
      case first =>
        by_cases hn0 : nv = 0
        · subst hn0
          go_wp2_with fail
          go_meet
          case rel => exact ⟨false, rfl, by simp, ST, grown_refl _ _⟩
        · have hp0 : 0 < nv := by omega
          have d0 : decide (0 < nv) = true := by simpa using hp0
          clear hn0
          go_wp2_with fail
          refine (n_any S 3 _ ST.out.sx (by omega) (by omega)).mono ?_
          rintro e wy ⟨r, hr, rfl, hgy, hsy⟩
          have STy := Lib.hid (ST.out.src hgy hsy (by rw [HS.out]; exact Nat.le_refl _))
          have GY := Lib.hid hgy
          clear hgy hsy
          go_wp2_with fail
          go_meet
          case rel => exact ⟨r == 0, rfl, fun _ => hp0, STy, GY⟩
      case rest =>
        obtain ⟨bb, rfl, hbb, ST1, GX1⟩ := hcut
        have R1 := Lib.hid (RV.out.src GX1.out)
        have hbb := Lib.hid hbb
        go_upto_if 65 with fail
        go_cut [12] (fun s12 wx => Hid (St w WM S wx) ∧ Hid (Fb wx S s12))
        case first =>
          cases bb with
          | false =>
            go_wp2_with fail
            go_meet
            case rel => exact ⟨ST1, ⟨Av, nv, cpv, lv, rfl, hn1, hn2, hn3, R1.out⟩⟩
          | true =>
            have hp0 := hbb.out rfl
            have M0 := Lib.hid (made_lit wc wc #[] 0 [] rfl rfl (grown_refl _ _) (by omega))
            go_wp2_with (at_builtin; refine wpList_app rfl (.tmp 66) (.tmp 67) rfl rfl rfl M0.out (R1.out.grown (grown_alloc _ _ _)).rb (by omega) nv (by omega) ?_; intro A2' c2' w2' hm2' _; have M2 := Lib.hid hm2'; clear hm2')
            obtain ⟨g, rfl, hg, hgl, _, _⟩ := M2.out.at0 0 hp0
            have ST2 := Lib.hid (ST1.out.step M2.out.gr)
            have hSg : S < g := by have := LT.out; have := ST1.out.size; omega
            have hWg : WM.heap.size ≤ g := by have := ST1.out.size; omega
            refine (n_any S nv w2' ST2.out.sx (by omega) (by omega)).mono ?_
            rintro e w3' ⟨j0, hj0, rfl, hg3', hs3'⟩
            obtain ⟨J, rfl⟩ := Int.eq_ofNat_of_zero_le hj0.1
            have hJ : J < nv := by omega
            have ST3 := Lib.hid (ST2.out.src hg3' hs3' (by rw [HS.out]; exact Nat.le_refl _))
            have G23 := Lib.hid hg3'
            have hb3' : S < w3'.heap.size := by have := ST3.out.size; have := LT.out; omega
            clear hg3' hs3' hj0
            go_wp2_with fail
            refine (pick_any S w3'.heap.size 0 7 7 [124, 125, 126, 93, 94, 0, 128] (w3'.alloc (.cells #[.int .i64 124, .int .i64 125, .int .i64 126, .int .i64 93, .int .i64 94, .int .i64 0, .int .i64 128] 3)) (ST3.out.sx.grown (grown_alloc _ _ _)) (by omega) rfl (by omega) (by omega) ?_).mono ?_
            · intro j hj
              match j, hj with
              | 0, _ => simp
              | 1, _ => simp
              | 2, _ => simp
              | 3, _ => simp
              | 4, _ => simp
              | 5, _ => simp
              | 6, _ => simp
            · rintro e w4' ⟨y0, hy0, rfl, hg4', hs4'⟩
              obtain ⟨u, rfl⟩ := pick7 y0 hy0
              have hul := u.toNat_lt
              have ST4 := Lib.hid ((ST3.out.step (grown_alloc _ _ _)).src hg4' hs4' (by rw [HS.out]; exact Nat.le_refl _))
              have O4 := Lib.hid (M2.out.own.kept (grown_trans G23.out (grown_trans (grown_alloc _ _ (some S)) hg4')) (.inr (by simp [Value.ownBlock]; omega)))
              have hc4 := O4.out.cellAt J (by omega)
              rw [bvs_get _ J (by rw [M2.out.len]; exact hJ)] at hc4
              have hf4 := O4.out.frozenAt J
              have O5 := Lib.hid (O4.out.stored J (bv u))
              clear hg4' hs4' hy0
              unfold bv at hc4
              generalize (([] ++ lv).getD J 0).toNat = z0 at hc4
              go_wp2_with fail
              go_meet
              case rel => exact ⟨ST4.out.far O5.out.2 hWg hSg (by have := ST0.out.g.size; omega), ⟨some ⟨g, 0, none⟩, nv, c2', ([] ++ lv).set J u, rfl, hn1, M2.out.shape.1, M2.out.shape.2.1, own_rbx (by rw [bvs_set]; exact O5.out.1) hSg⟩⟩
        case rest =>
          obtain ⟨ST2, FX2⟩ := hcut
          obtain ⟨Ax, nx, cx, lx, rfl, k1, k2, k3, hRx⟩ := FX2.out
          have RX := Lib.hid hRx
          clear hRx FX2
          go_wp2_with fail
          refine (n_any S ((nx : Int) + 2) _ ST2.out.sx (by omega) (by omega)).mono ?_
          rintro e w6' ⟨r2, hr2, rfl, hg6', hs6'⟩
          have ST6 := Lib.hid (ST2.out.src hg6' hs6' (by rw [HS.out]; exact Nat.le_refl _))
          have R6 := Lib.hid (RX.out.src hg6')
          clear hg6' hs6' RX
          go_wp2
          obtain ⟨T, hT⟩ : ∃ T, T = w6'.heap.size := ⟨_, rfl⟩
          obtain ⟨WT, hWT⟩ : ∃ WT, WT = w6'.alloc (.cells #[.int .i64 p, .int .i64 0, .int .i64 (n : Int), .int .i64 r2] 3) := ⟨_, rfl⟩
          have gT : w6'.grownBy WT none := by rw [hWT]; exact grown_alloc _ _ _
          have CT := Lib.hid (show ∀ j, j < 4 → ∃ τ : Int, WT.cell? ⟨T, j, none⟩ = some (.int .i64 τ) ∧ -9223372036854775808 ≤ τ ∧ τ ≤ 9223372036854775807 from fun j hj => by
            match j, hj with
            | 0, _ => exact ⟨p, by rw [hWT, hT]; simp, p1, p2⟩
            | 1, _ => exact ⟨0, by rw [hWT, hT]; simp, by omega, by omega⟩
            | 2, _ => exact ⟨(n : Int), by rw [hWT, hT]; simp, by omega, by omega⟩
            | 3, _ => exact ⟨r2, by rw [hWT, hT]; simp, by omega, by omega⟩)
          have STT := Lib.hid (ST6.out.step gT)
          have RT := Lib.hid (R6.out.grown gT)
          rw [← hT, ← hWT]
          clear hT hWT gT R6 ST6 hr2
          go_loop [14, 15, 16, 17, 18, 19, 20, 89] (fun _ _ _ _ _ _ _ s89 => ∃ j : Nat, s89 = .int .i64 j ∧ j ≤ 4) (fun _ _ _ _ _ _ _ s => 4 - (intOf s).toNat)
          case atStart => exact ⟨0, rfl, by omega⟩
          case round =>
            obtain ⟨j, rfl, hj4⟩ := hrel
            by_cases hlj : j < 4
            · obtain ⟨τ, cτ, t1, t2⟩ := CT.out j hlj
              obtain ⟨r, hr⟩ : ∃ r, Wm.intR lx τ = r := ⟨_, rfl⟩
              obtain ⟨ra, rb, rc⟩ := r
              have HR := Lib.hid hr
              clear hr
              go_wp2_with fail
              refine (int_at (int_any Ax nx cx lx τ _ RT.out.rb k2 k3 (by omega) t1 t2) HR.out).mono ?_
              rintro e w' ⟨rfl, rfl⟩
              go_wp2_with fail
              refine (rint_at (rint_any Ax nx cx lx τ _ RT.out.rb (by omega) t1 t2) HR.out).mono ?_
              rintro e w' ⟨rfl, rfl⟩
              go_wp2
              go_round
              case rel => exact ⟨j + 1, by go_num, by omega⟩
              case measure => simp [intOf]; omega
            · obtain rfl : j = 4 := by omega
              clear hlj hj4
              go_wp2_with fail
              refine (unstuff_any Ax nx cx lx _ RT.out.rb (by omega) k2 k3).mono ?_
              rintro e w7 ⟨A7', n7, c7', rfl, hm7⟩
              have R7 := Lib.hid hm7.rb
              have RT7 := Lib.hid (RT.out.grown hm7.gr)
              have ST7 := Lib.hid (STT.out.step hm7.gr)
              clear hm7
              go_wp2_with fail
              refine (runstuff_any Ax nx cx lx _ RT7.out.rb (by omega)).mono ?_
              rintro e w8 ⟨A8', n8, c8', rfl, hm8⟩
              have R8 := Lib.hid (hm8.rb.grown (grown_drew _ none))
              have R78 := Lib.hid ((R7.out.grown hm8.gr).grown (grown_drew _ none))
              have RT8 := Lib.hid ((RT7.out.grown hm8.gr).grown (grown_drew _ none))
              have ST8 := Lib.hid ((ST7.out.step hm8.gr).step (grown_drew _ none))
              clear hm8 R7 RT7 ST7
              generalize (Wm.unst lx).2 = v2 at *
              generalize (Wm.unst lx).1 = D at *
              go_wp2_with fail
              refine wp_region_held_drew (S := (CS2 A7' n7 c7' A8' n8 c8' D)) (by kernel_rfl) ?_ (fun hHeld => ?_)
              · exact cs2_mk R78.out R8.out
              try simp only [Act.put, List.setIfInBounds_toArray, List.set_cons_zero, List.set_cons_succ]
              refine wpAnyH_take (i := 0) (oi := { dst := some 131, op := Op.move (Operand.tmp 21), type := 22, pos := "law.go:38", after := #[], guard := none }) (v := ?_) rfl (by kernel_rfl) (by kernel_rfl) (by kernel_rfl) (fun _ _ _ h => h) (Or.inl ⟨by rfl, ?_⟩) (by assumption) ?_
              rotate_left 1
              · intro w hSw; obtain ⟨s1, s2⟩ := hSw; first | (go_simp; done) | (go_simp; with_reducible rfl)
              try simp only [Act.put, List.setIfInBounds_toArray, List.set_cons_zero, List.set_cons_succ]
              refine wpAnyH_take (i := 1) (oi := { dst := some 132, op := Op.convert 22 9 (Operand.tmp 131), type := 9, pos := "law.go:38", after := #[{ on := 0, ground := Ground.data }], guard := none }) (v := ?_) rfl (by kernel_rfl) (by kernel_rfl) (by kernel_rfl) (fun _ _ _ h => h) (Or.inl ⟨by rfl, ?_⟩) (by assumption) ?_
              rotate_left 1
              · intro w hSw; obtain ⟨s1, s2⟩ := hSw; first | (go_simp; done) | (go_simp; with_reducible rfl)
              try simp only [Act.put, List.setIfInBounds_toArray, List.set_cons_zero, List.set_cons_succ]
              refine wpAnyH_take (i := 2) (oi := { dst := some 133, op := Op.move (Operand.tmp 23), type := 22, pos := "law.go:38", after := #[], guard := none }) (v := ?_) rfl (by kernel_rfl) (by kernel_rfl) (by kernel_rfl) (fun _ _ _ h => h) (Or.inl ⟨by rfl, ?_⟩) (by assumption) ?_
              rotate_left 1
              · intro w hSw; obtain ⟨s1, s2⟩ := hSw; first | (go_simp; done) | (go_simp; with_reducible rfl)
              try simp only [Act.put, List.setIfInBounds_toArray, List.set_cons_zero, List.set_cons_succ]
              refine wpAnyH_take (i := 3) (oi := { dst := some 134, op := Op.convert 22 9 (Operand.tmp 133), type := 9, pos := "law.go:38", after := #[{ on := 2, ground := Ground.data }], guard := none }) (v := ?_) rfl (by kernel_rfl) (by kernel_rfl) (by kernel_rfl) (fun _ _ _ h => h) (Or.inl ⟨by rfl, ?_⟩) (by assumption) ?_
              rotate_left 1
              · intro w hSw; obtain ⟨s1, s2⟩ := hSw; first | (go_simp; done) | (go_simp; with_reducible rfl)
              try simp only [Act.put, List.setIfInBounds_toArray, List.set_cons_zero, List.set_cons_succ]
              refine wpAnyH_take (i := 4) (oi := { dst := some 135, op := Op.binOp BinOp.neq 9 (Operand.tmp 132) (Operand.tmp 134) 9, type := 4, pos := "law.go:38", after := #[{ on := 1, ground := Ground.data }, { on := 3, ground := Ground.data }], guard := none }) (v := ?_) rfl (by kernel_rfl) (by kernel_rfl) (by kernel_rfl) (fun _ _ _ h => h) (Or.inl ⟨by rfl, ?_⟩) (by assumption) ?_
              rotate_left 1
              · intro w hSw; obtain ⟨s1, s2⟩ := hSw; first | (go_simp; done) | (go_simp; with_reducible rfl)
              try simp only [Act.put, List.setIfInBounds_toArray, List.set_cons_zero, List.set_cons_succ]
              refine wpAnyH_take (i := 5) (oi := { dst := some 136, op := Op.move (Operand.tmp 135), type := 4, pos := "law.go:38", after := #[{ on := 4, ground := Ground.data }], guard := none }) (v := ?_) rfl (by kernel_rfl) (by kernel_rfl) (by kernel_rfl) (fun _ _ _ h => h) (Or.inl ⟨by rfl, ?_⟩) (by assumption) ?_
              rotate_left 1
              · intro w hSw; obtain ⟨s1, s2⟩ := hSw; first | (go_simp; done) | (go_simp; with_reducible rfl)
              try simp only [Act.put, List.setIfInBounds_toArray, List.set_cons_zero, List.set_cons_succ]
              refine wpAnyH_take (i := 6) (oi := { dst := some 137, op := Op.move (Operand.tmp 22), type := 32, pos := "law.go:38", after := #[{ on := 5, ground := Ground.guard }], guard := some (5, false) }) (v := ?_) rfl (by kernel_rfl) (by kernel_rfl) (by kernel_rfl) (fun _ _ _ h => h) (Or.inl ⟨by rfl, ?_⟩) (by assumption) ?_
              rotate_left 1
              · intro w hSw; obtain ⟨s1, s2⟩ := hSw; first | (go_simp; done) | (go_simp; with_reducible rfl)
              try simp only [Act.put, List.setIfInBounds_toArray, List.set_cons_zero, List.set_cons_succ]
              refine wpAnyH_take (i := 7) (oi := { dst := some 138, op := Op.move (Operand.tmp 24), type := 32, pos := "law.go:38", after := #[{ on := 5, ground := Ground.guard }], guard := some (5, false) }) (v := ?_) rfl (by kernel_rfl) (by kernel_rfl) (by kernel_rfl) (fun _ _ _ h => h) (Or.inl ⟨by rfl, ?_⟩) (by assumption) ?_
              rotate_left 1
              · intro w hSw; obtain ⟨s1, s2⟩ := hSw; first | (go_simp; done) | (go_simp; with_reducible rfl)
              try simp only [Act.put, List.setIfInBounds_toArray, List.set_cons_zero, List.set_cons_succ]
              refine wpAnyH_take (i := 8) (oi := { dst := some 139, op := Op.binOp BinOp.neq 32 (Operand.tmp 137) (Operand.tmp 138) 32, type := 4, pos := "law.go:38", after := #[{ on := 6, ground := Ground.data }, { on := 7, ground := Ground.data }, { on := 5, ground := Ground.guard }], guard := some (5, false) }) (v := ?_) rfl (by kernel_rfl) (by kernel_rfl) (by kernel_rfl) (fun _ _ _ h => h) (Or.inl ⟨by rfl, ?_⟩) (by assumption) ?_
              rotate_left 1
              · intro w hSw; obtain ⟨s1, s2⟩ := hSw; first | (go_simp; done) | (go_simp; with_reducible rfl)
              try simp only [Act.put, List.setIfInBounds_toArray, List.set_cons_zero, List.set_cons_succ]
              refine wpAnyH_take (i := 9) (oi := { dst := some 140, op := Op.pick (Operand.tmp 136) (Operand.const (Value.bool true)) (Operand.tmp 139), type := 4, pos := "law.go:38", after := #[{ on := 5, ground := Ground.data }, { on := 8, ground := Ground.data }], guard := none }) (v := ?_) rfl (by kernel_rfl) (by kernel_rfl) (by kernel_rfl) (fun _ _ _ h => h) (Or.inl ⟨by rfl, ?_⟩) (by assumption) ?_
              rotate_left 1
              · intro w hSw; obtain ⟨s1, s2⟩ := hSw; first | (go_simp; done) | (go_simp; with_reducible rfl)
              try simp only [Act.put, List.setIfInBounds_toArray, List.set_cons_zero, List.set_cons_succ]
              refine wpAnyH_take (i := 10) (oi := { dst := some 141, op := Op.move (Operand.tmp 140), type := 4, pos := "law.go:38", after := #[{ on := 9, ground := Ground.data }, { on := 5, ground := Ground.chain }], guard := none }) (v := ?_) rfl (by kernel_rfl) (by kernel_rfl) (by kernel_rfl) (fun _ _ _ h => h) (Or.inl ⟨by rfl, ?_⟩) (by assumption) ?_
              rotate_left 1
              · intro w hSw; obtain ⟨s1, s2⟩ := hSw; first | (go_simp; done) | (go_simp; with_reducible rfl)
              try simp only [Act.put, List.setIfInBounds_toArray, List.set_cons_zero, List.set_cons_succ]
              refine wpAnyH_take (i := 11) (oi := { dst := some 142, op := Op.move (Operand.tmp 12), type := 22, pos := "law.go:38", after := #[{ on := 10, ground := Ground.guard }], guard := some (10, false) }) (v := ?_) rfl (by kernel_rfl) (by kernel_rfl) (by kernel_rfl) (fun _ _ _ h => h) (Or.inl ⟨by rfl, ?_⟩) (by assumption) ?_
              rotate_left 1
              · intro w hSw; obtain ⟨s1, s2⟩ := hSw; first | (go_simp; done) | (go_simp; with_reducible rfl)
              try simp only [Act.put, List.setIfInBounds_toArray, List.set_cons_zero, List.set_cons_succ]
              refine wpAnyH_take (i := 14) (oi := { dst := some 145, op := Op.move (Operand.tmp 12), type := 22, pos := "law.go:38", after := #[{ on := 10, ground := Ground.guard }], guard := some (10, false) }) (v := ?_) rfl (by kernel_rfl) (by kernel_rfl) (by kernel_rfl) (fun _ _ _ h => h) (Or.inl ⟨by rfl, ?_⟩) (by assumption) ?_
              rotate_left 1
              · intro w hSw; obtain ⟨s1, s2⟩ := hSw; first | (go_simp; done) | (go_simp; with_reducible rfl)
              try simp only [Act.put, List.setIfInBounds_toArray, List.set_cons_zero, List.set_cons_succ]
              refine wpAnyH_ready (rs := [12]) (by kernel_rfl) (by simp) (AllReadyH.cons (o := { dst := some 143, op := Op.call { callee := Callee.value (Operand.func 18), args := #[Operand.tmp 142], argTypes := #[22] }, type := 22, pos := "law.go:38", after := #[{ on := 11, ground := Ground.data }, { on := 10, ground := Ground.chain }, { on := 10, ground := Ground.guard }], guard := some (10, false) }) rfl (fun K hK => ?_) AllReadyH.nil)
              go_simp
              refine (stuff_any Ax nx cx lx _ RT8.out.rb (by omega)).mono ?_
              rintro e wa ⟨Aa, na, ca, rfl, hma⟩
              try dsimp only
              refine hK.out _ _ ?_ (fun hHeld => ?_)
              · exact cs2_mk (R78.out.grown hma.gr) (R8.out.grown hma.gr)
              clear hK K
              try simp only [Act.put, List.setIfInBounds_toArray, List.set_cons_zero, List.set_cons_succ]
              have hS1 : (CSx (CS2 A7' n7 c7' A8' n8 c8' D) Aa na ca (Wm.frame lx)) wa := csx_mk hHeld hma.rb
              refine held_strong (S := (CS2 A7' n7 c7' A8' n8 c8' D)) (S' := (CSx (CS2 A7' n7 c7' A8' n8 c8' D) Aa na ca (Wm.frame lx))) (fun _ h => h.1) _ _ _ _ ?_
              refine wpAnyH_take (i := 13) (oi := { dst := some 144, op := Op.convert 22 9 (Operand.tmp 143), type := 9, pos := "law.go:38", after := #[{ on := 12, ground := Ground.data }, { on := 10, ground := Ground.guard }], guard := some (10, false) }) (v := ?_) rfl (by kernel_rfl) (by kernel_rfl) (by kernel_rfl) (fun _ _ _ h => h) (Or.inl ⟨by rfl, ?_⟩) (by assumption) ?_
              rotate_left 1
              · intro w hSw; obtain ⟨⟨s1, s2⟩, s3⟩ := hSw; first | (go_simp; done) | (go_simp; with_reducible rfl)
              try simp only [Act.put, List.setIfInBounds_toArray, List.set_cons_zero, List.set_cons_succ]
              refine wpAnyH_ready (rs := [15]) (by kernel_rfl) (by simp) (AllReadyH.cons (o := { dst := some 146, op := Op.call { callee := Callee.value (Operand.func 11), args := #[Operand.tmp 145], argTypes := #[22] }, type := 22, pos := "law.go:38", after := #[{ on := 14, ground := Ground.data }, { on := 12, ground := Ground.chain }, { on := 10, ground := Ground.guard }], guard := some (10, false) }) rfl (fun K hK => ?_) AllReadyH.nil)
              go_simp
              refine (rstuff_any Ax nx cx lx _ (RT8.out.grown hma.gr).rb (by omega)).mono ?_
              rintro e wb ⟨Ab, nb, cb, rfl, hmb⟩
              try dsimp only
              refine hK.out _ _ ?_ (fun hHeld => ?_)
              · exact csx_mk (cs2_mk ((R78.out.grown hma.gr).grown hmb.gr) ((R8.out.grown hma.gr).grown hmb.gr)) (hma.rb.grown hmb.gr)
              clear hK K
              try simp only [Act.put, List.setIfInBounds_toArray, List.set_cons_zero, List.set_cons_succ]
              have hS2 : (CSx (CSx (CS2 A7' n7 c7' A8' n8 c8' D) Aa na ca (Wm.frame lx)) Ab nb cb (Wm.frame lx)) wb := csx_mk hHeld hmb.rb
              refine held_strong (S := (CSx (CS2 A7' n7 c7' A8' n8 c8' D) Aa na ca (Wm.frame lx))) (S' := (CSx (CSx (CS2 A7' n7 c7' A8' n8 c8' D) Aa na ca (Wm.frame lx)) Ab nb cb (Wm.frame lx))) (fun _ h => h.1) _ _ _ _ ?_
              refine wpAnyH_take (i := 16) (oi := { dst := some 147, op := Op.convert 22 9 (Operand.tmp 146), type := 9, pos := "law.go:38", after := #[{ on := 15, ground := Ground.data }, { on := 10, ground := Ground.guard }], guard := some (10, false) }) (v := ?_) rfl (by kernel_rfl) (by kernel_rfl) (by kernel_rfl) (fun _ _ _ h => h) (Or.inl ⟨by rfl, ?_⟩) (by assumption) ?_
              rotate_left 1
              · intro w hSw; obtain ⟨⟨⟨s1, s2⟩, s3⟩, s4⟩ := hSw; first | (go_simp; done) | (go_simp; with_reducible rfl)
              try simp only [Act.put, List.setIfInBounds_toArray, List.set_cons_zero, List.set_cons_succ]
              refine wpAnyH_take (i := 17) (oi := { dst := some 148, op := Op.binOp BinOp.neq 9 (Operand.tmp 144) (Operand.tmp 147) 9, type := 4, pos := "law.go:38", after := #[{ on := 13, ground := Ground.data }, { on := 16, ground := Ground.data }, { on := 10, ground := Ground.guard }], guard := some (10, false) }) (v := ?_) rfl (by kernel_rfl) (by kernel_rfl) (by kernel_rfl) (fun _ _ _ h => h) (Or.inl ⟨by rfl, ?_⟩) (by assumption) ?_
              rotate_left 1
              · intro w hSw; obtain ⟨⟨⟨s1, s2⟩, s3⟩, s4⟩ := hSw; first | (go_simp; done) | (go_simp; with_reducible rfl)
              try simp only [Act.put, List.setIfInBounds_toArray, List.set_cons_zero, List.set_cons_succ]
              refine wpAnyH_take (i := 18) (oi := { dst := some 149, op := Op.pick (Operand.tmp 141) (Operand.const (Value.bool true)) (Operand.tmp 148), type := 4, pos := "law.go:38", after := #[{ on := 10, ground := Ground.data }, { on := 17, ground := Ground.data }], guard := none }) (v := ?_) rfl (by kernel_rfl) (by kernel_rfl) (by kernel_rfl) (fun _ _ _ h => h) (Or.inl ⟨by rfl, ?_⟩) (by assumption) ?_
              rotate_left 1
              · intro w hSw; obtain ⟨⟨⟨s1, s2⟩, s3⟩, s4⟩ := hSw; first | (go_simp; done) | (go_simp; with_reducible rfl)
              try simp only [Act.put, List.setIfInBounds_toArray, List.set_cons_zero, List.set_cons_succ]
              refine wpAnyH_take (i := 19) (oi := { dst := some 150, op := Op.move (Operand.tmp 149), type := 4, pos := "law.go:38", after := #[{ on := 18, ground := Ground.data }, { on := 15, ground := Ground.chain }], guard := none }) (v := ?_) rfl (by kernel_rfl) (by kernel_rfl) (by kernel_rfl) (fun _ _ _ h => h) (Or.inl ⟨by rfl, ?_⟩) (by assumption) ?_
              rotate_left 1
              · intro w hSw; obtain ⟨⟨⟨s1, s2⟩, s3⟩, s4⟩ := hSw; first | (go_simp; done) | (go_simp; with_reducible rfl)
              try simp only [Act.put, List.setIfInBounds_toArray, List.set_cons_zero, List.set_cons_succ]
              refine wpAnyH_take (i := 20) (oi := { dst := some 151, op := Op.move (Operand.tmp 12), type := 22, pos := "law.go:38", after := #[{ on := 19, ground := Ground.guard }], guard := some (19, false) }) (v := ?_) rfl (by kernel_rfl) (by kernel_rfl) (by kernel_rfl) (fun _ _ _ h => h) (Or.inl ⟨by rfl, ?_⟩) (by assumption) ?_
              rotate_left 1
              · intro w hSw; obtain ⟨⟨⟨s1, s2⟩, s3⟩, s4⟩ := hSw; first | (go_simp; done) | (go_simp; with_reducible rfl)
              try simp only [Act.put, List.setIfInBounds_toArray, List.set_cons_zero, List.set_cons_succ]
              refine wpAnyH_take (i := 22) (oi := { dst := some 153, op := Op.move (Operand.tmp 12), type := 22, pos := "law.go:38", after := #[{ on := 19, ground := Ground.guard }], guard := some (19, false) }) (v := ?_) rfl (by kernel_rfl) (by kernel_rfl) (by kernel_rfl) (fun _ _ _ h => h) (Or.inl ⟨by rfl, ?_⟩) (by assumption) ?_
              rotate_left 1
              · intro w hSw; obtain ⟨⟨⟨s1, s2⟩, s3⟩, s4⟩ := hSw; first | (go_simp; done) | (go_simp; with_reducible rfl)
              try simp only [Act.put, List.setIfInBounds_toArray, List.set_cons_zero, List.set_cons_succ]
              refine wpAnyH_ready (rs := [21]) (by kernel_rfl) (by simp) (AllReadyH.cons (o := { dst := some 152, op := Op.call { callee := Callee.value (Operand.func 19), args := #[Operand.tmp 151], argTypes := #[22] }, type := 37, pos := "law.go:38", after := #[{ on := 20, ground := Ground.data }, { on := 19, ground := Ground.chain }, { on := 19, ground := Ground.guard }], guard := some (19, false) }) rfl (fun K hK => ?_) AllReadyH.nil)
              go_simp
              refine (sum_any Ax nx cx lx _ ((RT8.out.grown hma.gr).grown hmb.gr).rb (HT.out.grown ((ST8.out.step hma.gr).step hmb.gr).g) (by omega)).mono ?_
              rintro e wz ⟨rfl, rfl⟩
              try dsimp only
              refine hK.out _ _ ?_ (fun hHeld => ?_)
              · assumption
              clear hK K
              try simp only [Act.put, List.setIfInBounds_toArray, List.set_cons_zero, List.set_cons_succ]
              refine wpAnyH_ready (rs := [23]) (by kernel_rfl) (by simp) (AllReadyH.cons (o := { dst := some 154, op := Op.call { callee := Callee.value (Operand.func 20), args := #[Operand.tmp 153], argTypes := #[22] }, type := 37, pos := "law.go:38", after := #[{ on := 22, ground := Ground.data }, { on := 21, ground := Ground.chain }, { on := 19, ground := Ground.guard }], guard := some (19, false) }) rfl (fun K hK => ?_) AllReadyH.nil)
              go_simp
              refine (rsum_any Ax nx cx lx _ ((RT8.out.grown hma.gr).grown hmb.gr).rb (by omega)).mono ?_
              rintro e wz ⟨rfl, rfl⟩
              try dsimp only
              refine hK.out _ _ ?_ (fun hHeld => ?_)
              · assumption
              clear hK K
              try simp only [Act.put, List.setIfInBounds_toArray, List.set_cons_zero, List.set_cons_succ]
              refine wpAnyH_take (i := 24) (oi := { dst := some 155, op := Op.binOp BinOp.neq 37 (Operand.tmp 152) (Operand.tmp 154) 37, type := 4, pos := "law.go:38", after := #[{ on := 21, ground := Ground.data }, { on := 23, ground := Ground.data }, { on := 19, ground := Ground.guard }], guard := some (19, false) }) (v := ?_) rfl (by kernel_rfl) (by kernel_rfl) (by kernel_rfl) (fun _ _ _ h => h) (Or.inl ⟨by rfl, ?_⟩) (by assumption) ?_
              rotate_left 1
              · intro w hSw; obtain ⟨⟨⟨s1, s2⟩, s3⟩, s4⟩ := hSw; first | (go_simp; done) | (go_simp; with_reducible rfl)
              try simp only [Act.put, List.setIfInBounds_toArray, List.set_cons_zero, List.set_cons_succ]
              refine wpAnyH_take (i := 25) (oi := { dst := some 156, op := Op.pick (Operand.tmp 150) (Operand.const (Value.bool true)) (Operand.tmp 155), type := 4, pos := "law.go:38", after := #[{ on := 19, ground := Ground.data }, { on := 24, ground := Ground.data }], guard := none }) (v := ?_) rfl (by kernel_rfl) (by kernel_rfl) (by kernel_rfl) (fun _ _ _ h => h) (Or.inl ⟨by rfl, ?_⟩) (by assumption) ?_
              rotate_left 1
              · intro w hSw; obtain ⟨⟨⟨s1, s2⟩, s3⟩, s4⟩ := hSw; first | (go_simp; done) | (go_simp; with_reducible rfl)
              try simp only [Act.put, List.setIfInBounds_toArray, List.set_cons_zero, List.set_cons_succ]
              refine wpAnyH_done (by kernel_rfl) ?_ _
              have STF := Lib.hid ((ST8.out.step hma.gr).step hmb.gr)
              clear hma hmb
              go_wp2
              go_roundw
              case rel => exact ⟨i + 1, by go_num, by omega, STF⟩
              case measure => simp [intOf]; omega
    · obtain rfl : i = 7 := by omega
      clear hlt hi7
      have XF := Lib.hid ((XM.out.src ST.out.gx).grown (grown_drew _ none))
      have YF := Lib.hid ((YM.out.src ST.out.gx).grown (grown_drew _ none))
      have GF := Lib.hid (grown_trans ST.out.g (grown_drew _ none))
      go_wp2_with fail
      refine wp_region_held_drew (S := (CSx (fun _ => True) A2 N c2 lc)) (by kernel_rfl) ?_ (fun hHeld => ?_)
      · exact csx_mk trivial YF.out.rb
      try simp only [Act.put, List.setIfInBounds_toArray, List.set_cons_zero, List.set_cons_succ]
      refine wpAnyH_take (i := 0) (oi := { dst := some 158, op := Op.move (Operand.tmp 0), type := 22, pos := "law.go:42", after := #[], guard := none }) (v := ?_) rfl (by kernel_rfl) (by kernel_rfl) (by kernel_rfl) (fun _ _ _ h => h) (Or.inl ⟨by rfl, ?_⟩) (by assumption) ?_
      rotate_left 1
      · intro w hSw; obtain ⟨_, s2⟩ := hSw; first | (go_simp; done) | (go_simp; with_reducible rfl)
      try simp only [Act.put, List.setIfInBounds_toArray, List.set_cons_zero, List.set_cons_succ]
      refine wpAnyH_take (i := 1) (oi := { dst := some 159, op := Op.move (Operand.tmp 2), type := 3, pos := "law.go:42", after := #[], guard := none }) (v := ?_) rfl (by kernel_rfl) (by kernel_rfl) (by kernel_rfl) (fun _ _ _ h => h) (Or.inl ⟨by rfl, ?_⟩) (by assumption) ?_
      rotate_left 1
      · intro w hSw; obtain ⟨_, s2⟩ := hSw; first | (go_simp; done) | (go_simp; with_reducible rfl)
      try simp only [Act.put, List.setIfInBounds_toArray, List.set_cons_zero, List.set_cons_succ]
      refine wpAnyH_take (i := 4) (oi := { dst := some 162, op := Op.move (Operand.tmp 10), type := 22, pos := "law.go:42", after := #[], guard := none }) (v := ?_) rfl (by kernel_rfl) (by kernel_rfl) (by kernel_rfl) (fun _ _ _ h => h) (Or.inl ⟨by rfl, ?_⟩) (by assumption) ?_
      rotate_left 1
      · intro w hSw; obtain ⟨_, s2⟩ := hSw; first | (go_simp; done) | (go_simp; with_reducible rfl)
      try simp only [Act.put, List.setIfInBounds_toArray, List.set_cons_zero, List.set_cons_succ]
      refine wpAnyH_take (i := 5) (oi := { dst := some 163, op := Op.convert 22 9 (Operand.tmp 162), type := 9, pos := "law.go:42", after := #[{ on := 4, ground := Ground.data }], guard := none }) (v := ?_) rfl (by kernel_rfl) (by kernel_rfl) (by kernel_rfl) (fun _ _ _ h => h) (Or.inl ⟨by rfl, ?_⟩) (by assumption) ?_
      rotate_left 1
      · intro w hSw; obtain ⟨_, s2⟩ := hSw; first | (go_simp; done) | (go_simp; with_reducible rfl)
      try simp only [Act.put, List.setIfInBounds_toArray, List.set_cons_zero, List.set_cons_succ]
      refine wpAnyH_ready (rs := [2]) (by kernel_rfl) (by simp) (AllReadyH.cons (o := { dst := some 160, op := Op.call { callee := Callee.value (Operand.func 21), args := #[Operand.tmp 158, Operand.tmp 159], argTypes := #[22, 3] }, type := 22, pos := "law.go:42", after := #[{ on := 0, ground := Ground.data }, { on := 1, ground := Ground.data }], guard := none }) rfl (fun K hK => ?_) AllReadyH.nil)
      go_simp
      refine (put_any A n c l x _ XF.out.rb (by omega) x1 x2).mono ?_
      rw [HC.out]
      rintro e wp ⟨Ap, np, cp, rfl, hmp⟩
      try dsimp only
      refine hK.out _ _ ?_ (fun hHeld => ?_)
      · exact csx_mk trivial (YF.out.grown hmp.gr).rb
      clear hK K
      try simp only [Act.put, List.setIfInBounds_toArray, List.set_cons_zero, List.set_cons_succ]
      have hS1 : (CSx (CSx (fun _ => True) A2 N c2 lc) Ap np cp lc) wp := csx_mk hHeld hmp.rb
      refine held_strong (S := (CSx (fun _ => True) A2 N c2 lc)) (S' := (CSx (CSx (fun _ => True) A2 N c2 lc) Ap np cp lc)) (fun _ h => h.1) _ _ _ _ ?_
      refine wpAnyH_take (i := 3) (oi := { dst := some 161, op := Op.convert 22 9 (Operand.tmp 160), type := 9, pos := "law.go:42", after := #[{ on := 2, ground := Ground.data }], guard := none }) (v := ?_) rfl (by kernel_rfl) (by kernel_rfl) (by kernel_rfl) (fun _ _ _ h => h) (Or.inl ⟨by rfl, ?_⟩) (by assumption) ?_
      rotate_left 1
      · intro w hSw; obtain ⟨⟨_, s2⟩, s3⟩ := hSw; first | (go_simp; done) | (go_simp; with_reducible rfl)
      try simp only [Act.put, List.setIfInBounds_toArray, List.set_cons_zero, List.set_cons_succ]
      refine wpAnyH_take (i := 6) (oi := { dst := some 164, op := Op.binOp BinOp.eql 9 (Operand.tmp 161) (Operand.tmp 163) 9, type := 4, pos := "law.go:42", after := #[{ on := 3, ground := Ground.data }, { on := 5, ground := Ground.data }], guard := none }) (v := ?_) rfl (by kernel_rfl) (by kernel_rfl) (by kernel_rfl) (fun _ _ _ h => h) (Or.inl ⟨by rfl, ?_⟩) (by assumption) ?_
      rotate_left 1
      · intro w hSw; obtain ⟨⟨_, s2⟩, s3⟩ := hSw; first | (go_simp; done) | (go_simp; with_reducible rfl)
      try simp only [Act.put, List.setIfInBounds_toArray, List.set_cons_zero, List.set_cons_succ]
      refine wpAnyH_take (i := 7) (oi := { dst := some 165, op := Op.move (Operand.tmp 164), type := 4, pos := "law.go:42", after := #[{ on := 6, ground := Ground.data }, { on := 2, ground := Ground.chain }], guard := none }) (v := ?_) rfl (by kernel_rfl) (by kernel_rfl) (by kernel_rfl) (fun _ _ _ h => h) (Or.inl ⟨by rfl, ?_⟩) (by assumption) ?_
      rotate_left 1
      · intro w hSw; obtain ⟨⟨_, s2⟩, s3⟩ := hSw; first | (go_simp; done) | (go_simp; with_reducible rfl)
      try simp only [Act.put, List.setIfInBounds_toArray, List.set_cons_zero, List.set_cons_succ]
      refine wpAnyH_ready (rs := [8]) (by kernel_rfl) (by simp) (AllReadyH.cons (o := { dst := some 166, op := Op.call { callee := Callee.value (Operand.func 8), args := #[], argTypes := #[] }, type := 4, pos := "law.go:42", after := #[{ on := 7, ground := Ground.chain }, { on := 7, ground := Ground.guard }], guard := some (7, true) }) rfl (fun K hK => ?_) AllReadyH.nil)
      go_simp
      refine (awake_any _ (HT.out.grown (grown_trans GF.out hmp.gr))).mono ?_
      rintro e wz ⟨rfl, hga⟩
      try dsimp only
      refine hK.out _ _ ?_ (fun hHeld => ?_)
      · exact csx_mk (csx_mk trivial ((YF.out.grown hmp.gr).grown hga).rb) (hmp.rb.grown hga)
      clear hK K
      try simp only [Act.put, List.setIfInBounds_toArray, List.set_cons_zero, List.set_cons_succ]
      refine wpAnyH_take (i := 9) (oi := { dst := some 167, op := Op.pick (Operand.tmp 165) (Operand.tmp 166) (Operand.const (Value.bool false)), type := 4, pos := "law.go:42", after := #[{ on := 7, ground := Ground.data }, { on := 8, ground := Ground.data }], guard := none }) (v := ?_) rfl (by kernel_rfl) (by kernel_rfl) (by kernel_rfl) (fun _ _ _ h => h) (Or.inl ⟨by rfl, ?_⟩) (by assumption) ?_
      rotate_left 1
      · intro w hSw; obtain ⟨⟨_, s2⟩, s3⟩ := hSw; first | (go_simp; done) | (go_simp; with_reducible rfl)
      try simp only [Act.put, List.setIfInBounds_toArray, List.set_cons_zero, List.set_cons_succ]
      refine wpAnyH_take (i := 10) (oi := { dst := some 8, op := Op.assign (Operand.tmp 167), type := 4, pos := "law.go:42", after := #[{ on := 9, ground := Ground.data }, { on := 8, ground := Ground.chain }, { on := 0, ground := Ground.phase }, { on := 1, ground := Ground.phase }, { on := 2, ground := Ground.phase }, { on := 3, ground := Ground.phase }, { on := 4, ground := Ground.phase }, { on := 5, ground := Ground.phase }, { on := 6, ground := Ground.phase }, { on := 7, ground := Ground.phase }, { on := 8, ground := Ground.phase }, { on := 9, ground := Ground.phase }], guard := none }) (v := ?_) rfl (by kernel_rfl) (by kernel_rfl) (by kernel_rfl) (fun _ _ _ h => h) (Or.inl ⟨by rfl, ?_⟩) (by assumption) ?_
      rotate_left 1
      · intro w hSw; obtain ⟨⟨_, s2⟩, s3⟩ := hSw; first | (go_simp; done) | (go_simp; with_reducible rfl)
      try simp only [Act.put, List.setIfInBounds_toArray, List.set_cons_zero, List.set_cons_succ]
      refine wpAnyH_done (by kernel_rfl) ?_ _
      have G := Lib.hid (grown_below (grown_trans GF.out (grown_trans hmp.gr hga)))
      clear hga hmp
      go_wp2
      go_ret
      exact ⟨rfl, G.out⟩

theorem answers_walk_row (a0 : Option Addr) (len0 cap0 : Nat) (z0 : List Int) (a1 : Int) (a2 : Int) (a3 : Option Addr) (len3 cap3 : Nat) (z3 : List Int) (w : World) (ht : Tabled w) (w0 : IsRow .u8 w a0 len0 cap0 z0) (w1 : (Lit.int .i64 a1).wf = true) (w2 : (Lit.int .i64 a2).wf = true) (w3 : IsRow .i64 w a3 len3 cap3 z3) :
    Calls Tryd.prog 3 #[.slice a0 len0 cap0, .int .i64 a1, .int .i64 a2, .slice a3 len3 cap3] w fun e w' => e = .returned (.bool true) ∧ Below w.heap.size w w' := by
  have h0 := inB w0
  by_cases h : 300 < len0
  · exact answers_short a0 len0 cap0 a1 a2 a3 len3 cap3 w ht (by have := h0.2; omega) h
  · exact answers_long a0 len0 cap0 _ a1 a2 a3 len3 cap3 _ w ht h0 (bounds_i64 w1).1 (bounds_i64 w1).2 (bounds_i64 w2).1 (bounds_i64 w2).2 (inRow w3) (by omega)
end Go.Proofs.YtibbmbedmalapaaDoor
