/- The walk of MeterVolumes. -/
import Derived.Test.YtilchmlbihffdaaMw
import Derived.Test.YtilchmlbihffdaaMlm
namespace Go.Proofs.Ytilchmlbihffdaa
open Go.ChangeShapes Go.WideShapes Go.ChangeAt Go.RowKit

/-- What MeterVolumes has laid: its meter, the first count, and the count at hand. -/
def VW (w : World) (XM XS : Nat) (p b f q0 q : Int) : Prop :=
  w.cell? ⟨XM, 0, none⟩ = some (.int .i64 p) ∧ w.cell? ⟨XM, 1, none⟩ = some (.int .i64 b) ∧ w.cell? ⟨XM, 2, none⟩ = some (.int .i64 f) ∧
  w.cell? ⟨XS, 0, none⟩ = some (.int .i64 0) ∧ w.cell? ⟨XS, 1, none⟩ = some (.int .i64 q0) ∧
  w.cell? ⟨XS + 1, 0, none⟩ = some (.int .i64 0) ∧ w.cell? ⟨XS + 1, 1, none⟩ = some (.int .i64 q) ∧
  w.frozen? ⟨XS + 1, 0, none⟩ = false ∧ w.frozen? ⟨XS + 1, 1, none⟩ = false

theorem VW.row {w w' : World} {XM XS : Nat} {p b f q0 q : Int} {row : Option Nat} (h : VW w XM XS p b f q0 q) (hg : w.grownBy w' row) (hr : ∀ k, row = some k → k ≠ XM ∧ k ≠ XS ∧ k ≠ XS + 1) : VW w' XM XS p b f q0 q := by
  obtain ⟨h0, h1, h2, h3, h4, h5, h6, h7, h8⟩ := h
  have n0 : some XM ≠ row := fun e => (hr _ e.symm).1 rfl
  have n1 : some XS ≠ row := fun e => (hr _ e.symm).2.1 rfl
  have n2 : some (XS + 1) ≠ row := fun e => (hr _ e.symm).2.2 rfl
  exact ⟨hg.cell h0 n0, hg.cell h1 n0, hg.cell h2 n0, hg.cell h3 n1, hg.cell h4 n1, hg.cell h5 n2, hg.cell h6 n2, grown_frozen hg h5 h7 n2, grown_frozen hg h6 h8 n2⟩
theorem VW.grown {w w' : World} {XM XS : Nat} {p b f q0 q : Int} (h : VW w XM XS p b f q0 q) (hg : w.grownBy w' none) : VW w' XM XS p b f q0 q := h.row hg (fun _ e => by cases e)

theorem VW.store2 {w : World} {XM XS : Nat} {p b f q0 q : Int} (h : VW w XM XS p b f q0 q) (B : Nat) (v0 v1 : Value) (hB : B ≠ XM ∧ B ≠ XS ∧ B ≠ XS + 1) : VW ((w.setCell ⟨B, 0, none⟩ v0).setCell ⟨B, 1, none⟩ v1) XM XS p b f q0 q :=
  (h.row (grown_set w ⟨B, 0, none⟩ v0) (fun k e => by cases e; exact hB)).row (grown_set _ ⟨B, 1, none⟩ v1) (fun k e => by cases e; exact hB)
/-- The count at hand is written. -/
theorem VW.next {w : World} {XM XS : Nat} {p b f q0 q : Int} (h : VW w XM XS p b f q0 q) (hX : XM < XS) (q2 : Int) : VW ((w.setCell ⟨XS + 1, 0, none⟩ (.int .i64 0)).setCell ⟨XS + 1, 1, none⟩ (.int .i64 q2)) XM XS p b f q0 q2 := by
  obtain ⟨h0, h1, h2, h3, h4, h5, h6, h7, h8⟩ := h
  obtain ⟨a, c⟩ := stored2 w (XS + 1) (.int .i64 0) (.int .i64 q2) h5 h6
  have g1 := grown_set w ⟨XS + 1, 0, none⟩ (.int .i64 0)
  have g2 := grown_set (w.setCell ⟨XS + 1, 0, none⟩ (.int .i64 0)) ⟨XS + 1, 1, none⟩ (.int .i64 q2)
  have n0 : some XM ≠ some (XS + 1) := by intro e; injection e; omega
  have n1 : some XS ≠ some (XS + 1) := by intro e; injection e; omega
  refine ⟨g2.cell (g1.cell h0 n0) n0, g2.cell (g1.cell h1 n0) n0, g2.cell (g1.cell h2 n0) n0, g2.cell (g1.cell h3 n1) n1, g2.cell (g1.cell h4 n1) n1, a, c, ?_, ?_⟩
  · simp [h7]
  · simp [h8]

set_option maxRecDepth 20000 in
set_option maxHeartbeats 4000000 in
theorem volumes_walk (a : Option Addr) (len cap : Nat) (zs : List Int) (w : World) (hi : InRow w a len cap zs) :
    Calls Try.prog 5 #[.slice a len cap] w fun e w' => e = .returned (.bool true) ∧ Below w.heap.size w w' := by
  have HI := Lib.hid hi
  clear hi
  go_enter Try.func5, Try.ntmps5
  go_wp2_with fail
  refine (new_any a len cap zs w HI.out).mono ?_
  rintro e w1 ⟨rfl, hg, hs, hlt⟩
  have G := Lib.hid hg
  have HS := Lib.hid hs
  clear hg hs
  go_wp2_with fail
  refine (meter_any w.heap.size w1 HS.out).mono ?_
  rintro e w2 ⟨p, b, f, hv, rfl, hg, hs⟩
  have V := Lib.hid hv
  have hlt2 : w.heap.size < w2.heap.size := src_lt hs
  have G := Lib.hid (show w.grownBy w2 none from grown_off G.out hg (Nat.le_refl _))
  have HS := Lib.hid hs
  clear hg hs hv hlt
  unfold mv
  go_wp2_with fail
  refine (n_any w.heap.size 100000 _ (HS.out.grown (World.grownBy_alloc _ _ _)) (by omega) (by omega)).mono ?_
  rintro e w3 ⟨q0, hq, rfl, hg, hs⟩
  have k0 := hg.cell (a := ⟨w2.heap.size, 0, none⟩) (v := .int .i64 p) (by simp) (by simp; omega)
  have k1 := hg.cell (a := ⟨w2.heap.size, 1, none⟩) (v := .int .i64 b) (by simp) (by simp; omega)
  have k2 := hg.cell (a := ⟨w2.heap.size, 2, none⟩) (v := .int .i64 f) (by simp) (by simp; omega)
  have hlt3 : w2.heap.size < w3.heap.size := World.block_lt_of_cell? w3 ⟨w2.heap.size, 0, none⟩ k0
  have G := Lib.hid (show w.grownBy w3 none from grown_off (grown_trans G.out (World.grownBy_alloc _ _ _)) hg (Nat.le_refl _))
  have HS := Lib.hid hs
  clear hg hs
  go_wp2_with fail
  refine (n_any w.heap.size 10 _ ((HS.out.grown (World.grownBy_alloc _ _ _)).grown (World.grownBy_alloc _ _ _)) (by omega) (by omega)).mono ?_
  rintro e w4 ⟨i0, hi0, rfl, hg, hs⟩
  have W4 : Hid (VW w4 w2.heap.size w3.heap.size p b f q0 q0) := by
    refine VW.row (w := (w3.alloc (Obj.cells #[.int .i64 0, .int .i64 q0] 25)).alloc (Obj.cells #[.int .i64 0, .int .i64 q0] 25)) ?_ hg (fun k e => by cases e; omega)
    unfold VW
    refine ⟨?_, ?_, ?_, ?_, ?_, ?_, ?_, ?_, ?_⟩
    all_goals go_simp
  have G := Lib.hid (show w.grownBy w4 none from grown_off (grown_trans G.out (grown_trans (World.grownBy_alloc _ _ _) (World.grownBy_alloc _ _ _))) hg (Nat.le_refl _))
  have HS := Lib.hid hs
  obtain ⟨i1, rfl⟩ := Int.eq_ofNat_of_zero_le hi0.1
  clear hg hs k0 k1 k2
  go_wp2
  have VT := Mt.valid_true V.out
  obtain ⟨v1, v2, vb, v4, v5⟩ := VT
  have hsp : 0 < Mt.span b := by rcases Mt.span_cases vb with ⟨_, e⟩ | ⟨_, e⟩ <;> omega
  go_loopw [2, 7, 8] (fun _ s7 s8 wr => ∃ (i : Nat) (q : Int), s8 = .int .i64 i ∧ i ≤ 10 ∧ q0 ≤ q ∧ q ≤ 150000 - 5000 * (i : Int) ∧ s7 = .int .i64 (Mt.vol p f q - Mt.vol p f q0) ∧ Hid (VW wr w2.heap.size w3.heap.size p b f q0 q) ∧ Hid (SrcOK wr w.heap.size) ∧ Hid (w.grownBy wr none)) (fun _ _ s _ => (intOf s).toNat)
  case atStart => exact ⟨i1, q0, rfl, by omega, by omega, by omega, by rw [Int.sub_self], W4, HS, G⟩
  case round =>
    obtain ⟨i, q, rfl, hi, hq1, hq2, rfl, VWr, HSr, Gr⟩ := hrel
    have hc : Mt.isC b 0 q = true := Mt.isC_mk (by omega) (by omega) (by omega) (by omega)
    have hvr := Mt.vol_range (p := p) (f := f) v1 (show 0 ≤ q by omega) (by omega) (by omega) v5
    have hvr0 := Mt.vol_range (p := p) (f := f) v1 (show 0 ≤ q0 by omega) (by omega) (by omega) v5
    by_cases hlt : 0 < i
    · obtain ⟨i, rfl⟩ : ∃ j, i = j + 1 := ⟨i - 1, by omega⟩
      obtain ⟨k0, k1, k2, x0, x1, z0, z1, z2, z3⟩ := VWr.out
      go_wp2_with fail
      have HX := Lib.hid (World.block_lt_of_cell? _ _ z0)
      have hSr : w.heap.size < wr.heap.size := src_lt HSr.out
      have HK : Hid (∀ w', wr.grownBy w' (some w.heap.size) → w'.cell? ⟨w3.heap.size + 1, 0, none⟩ = some (.int .i64 0) ∧ w'.cell? ⟨w3.heap.size + 1, 1, none⟩ = some (.int .i64 q)) := fun w' hg => ⟨hg.cell z0 (by simp; omega), hg.cell z1 (by simp; omega)⟩
      have n2 := World.new_ne wr _ z0
      dsimp only at n2
      go_region_held3 (fun w' => w'.cell? ⟨w3.heap.size + 1, 0, none⟩ = some (.int .i64 0) ∧ w'.cell? ⟨w3.heap.size + 1, 1, none⟩ = some (.int .i64 q))
        (first | go_keep | exact HK.out _ hgs.out | exact HK.out _ (grown_trans hgs.out (World.grownBy_alloc _ _ _)) | fail)
        (first
          | (go_at_call 10; refine (n_any w.heap.size 5000 _ (HSr.out.grown (grown_drewN wr 1 none)) (by omega) (by omega)).mono ?_; rintro e w5 ⟨k, hk, rfl, hg, hs5⟩; have hgs : Hid (wr.grownBy w5 (some w.heap.size)) := grown_trans (show wr.grownBy wr.drew (some w.heap.size) from grown_drewN wr 1 _) hg; have HS5 := Lib.hid hs5; have hgo := Lib.hid hg; have hwq : IntKind.i64.wrap (q + k) = q + k := IntWalk.i64_in _ (by omega); clear hg hs5)
          | (go_at_call 10; refine (n_any w.heap.size 5000 _ ((HSr.out.grown (World.grownBy_alloc wr _ none)).grown (grown_drewN _ 1 none)) (by omega) (by omega)).mono ?_; rintro e w5 ⟨k, hk, rfl, hg, hs5⟩; have hgs : Hid (wr.grownBy w5 (some w.heap.size)) := grown_trans (grown_trans (World.grownBy_alloc wr _ (some w.heap.size)) (grown_drewN _ 1 _)) hg; have HS5 := Lib.hid hs5; have hwq : IntKind.i64.wrap (q + k) = q + k := IntWalk.i64_in _ (by omega); have m0 := hg.cell (a := ⟨wr.heap.size, 0, none⟩) (v := .int .i64 0) (by simp) (by simp; omega); have m1 := hg.cell (a := ⟨wr.heap.size, 1, none⟩) (v := .int .i64 0) (by simp) (by simp; omega); have f0 := grown_frozen hg (a := ⟨wr.heap.size, 0, none⟩) (v := .int .i64 0) (by simp) (by simp) (by simp; omega); have f1 := grown_frozen hg (a := ⟨wr.heap.size, 1, none⟩) (v := .int .i64 0) (by simp) (by simp) (by simp; omega); clear hg hs5)
          | fail)
      · have WA := Lib.hid ((VWr.out.row hgs.out (fun k e => by cases e; omega)).grown (World.grownBy_alloc w5 (Obj.cells #[.int .i64 0, .int .i64 (q + k)] 25) none))
        have SA := Lib.hid (HS5.out.grown (World.grownBy_alloc w5 (Obj.cells #[.int .i64 0, .int .i64 (q + k)] 25) none))
        have GA := Lib.hid (show w.grownBy (w5.alloc (Obj.cells #[.int .i64 0, .int .i64 (q + k)] 25)) none from grown_trans (grown_off Gr.out hgs.out (Nat.le_refl _)) (World.grownBy_alloc w5 (Obj.cells #[.int .i64 0, .int .i64 (q + k)] 25) none))
        have hB : w3.heap.size + 1 < w5.heap.size := by have := HX.out; have := hgs.out.size; omega
        have m0 : (w5.alloc (Obj.cells #[.int .i64 0, .int .i64 (q + k)] 25)).cell? ⟨w5.heap.size, 0, none⟩ = some (.int .i64 0) := by simp
        have m1 : (w5.alloc (Obj.cells #[.int .i64 0, .int .i64 (q + k)] 25)).cell? ⟨w5.heap.size, 1, none⟩ = some (.int .i64 (q + k)) := by simp
        clear k0 k1 k2 x0 x1 z0 z1 z2 z3 n2 HK
        generalize w5.alloc (Obj.cells #[.int .i64 0, .int .i64 (q + k)] 25) = WX at *
        obtain ⟨B, hBB⟩ : ∃ B, B = w5.heap.size := ⟨_, rfl⟩
        rw [← hBB] at hB m0 m1 ⊢
        clear hBB
        have hlt5 : w.heap.size < w3.heap.size + 1 := by omega
        obtain ⟨k0, k1, k2, x0, x1, z0, z1, z2, z3⟩ := WA.out
        have hq2 : q ≤ q + k ∧ q + k ≤ q + 5000 := by omega
        generalize q + k = q2 at *
        have hc2 : Mt.isC b 0 q2 = true := Mt.isC_mk (by omega) (by omega) (by omega) (by omega)
        have hb := fun w => between_ok p b f 0 q 0 q2 w V.out hc hc2 (by omega)
        obtain ⟨v, hv⟩ : ∃ v, v = Mt.vol p f q2 - Mt.vol p f q := ⟨_, rfl⟩
        obtain ⟨y0, y1, y2, y3, y4, y5, y6, y7⟩ := Mt.vol_between (p := p) (f := f) (q := q) (q2 := q2) (v := v) v1 v2 (by omega) v5 hq2.1 hq2.2 hv
        rw [← hv] at hb
        have HV := Lib.hid hv
        unfold mv cv at hb
        have HBt := Lib.hid hb
        clear hb hv hc2 hwq
        go_wp2_with fail
        refine (HBt.out _).mono ?_
        rintro e w7 ⟨rfl, hg⟩
        have WB := Lib.hid (WA.out.grown hg)
        have SB := Lib.hid (SA.out.grown hg)
        have GB := Lib.hid (grown_trans GA.out hg)
        have m0 := hg.cell m0 (by simp)
        have m1 := hg.cell m1 (by simp)
        clear hg k0 k1 k2 x0 x1 z0 z1 z2 z3
        obtain ⟨k0, k1, k2, x0, x1, z0, z1, z2, z3⟩ := WB.out
        have d0 : decide (v < 0) = false := decide_eq_false (by omega)
        have d1 : decide ((q2 - q) * f ≤ (v - 1) * 100 * p) = false := decide_eq_false (by omega)
        have d2 : decide ((v + 1) * 100 * p ≤ (q2 - q) * f) = false := decide_eq_false (by omega)
        go_wp2
        go_roundw
        case rel =>
          refine ⟨i, q2, by go_num, by omega, by omega, by omega, ?_, ?_, ?_, ?_⟩
          · rw [show Mt.vol p f q - Mt.vol p f q0 + v = Mt.vol p f q2 - Mt.vol p f q0 by have := HV.out; omega]
          · exact WB.out.next hlt3 q2
          · exact (SB.out.grownRow (grown_set _ ⟨w3.heap.size + 1, 0, none⟩ (.int .i64 0)) (fun k e => by cases e; exact hlt5)).grownRow (grown_set _ ⟨w3.heap.size + 1, 1, none⟩ (.int .i64 q2)) (fun k e => by cases e; exact hlt5)
          · exact stored2_grown (.int .i64 0) (.int .i64 q2) GB.out (show w.heap.size ≤ w3.heap.size + 1 by omega)
        case measure => simp [intOf]
      · have WA := Lib.hid ((VWr.out.row hgs.out (fun k e => by cases e; omega)).store2 wr.heap.size (.int .i64 0) (.int .i64 (q + k)) ⟨by have := HX.out; omega, by have := HX.out; omega, by have := HX.out; omega⟩)
        have SA := Lib.hid ((HS5.out.grownRow (grown_set _ ⟨wr.heap.size, 0, none⟩ (.int .i64 0)) (fun k e => by cases e; exact hSr)).grownRow (grown_set _ ⟨wr.heap.size, 1, none⟩ (.int .i64 (q + k))) (fun k e => by cases e; exact hSr))
        have GA := Lib.hid (stored2_grown (.int .i64 0) (.int .i64 (q + k)) (show w.grownBy w5 none from grown_off Gr.out hgs.out (Nat.le_refl _)) (show w.heap.size ≤ wr.heap.size by omega))
        have hB : w3.heap.size + 1 < wr.heap.size := HX.out
        obtain ⟨m0, m1⟩ := stored2 w5 wr.heap.size (.int .i64 0) (.int .i64 (q + k)) m0 m1
        clear k0 k1 k2 x0 x1 z0 z1 z2 z3 n2 f0 f1 HK
        generalize ((w5.setCell ⟨wr.heap.size, 0, none⟩ (.int .i64 0)).setCell ⟨wr.heap.size, 1, none⟩ (.int .i64 (q + k))) = WX at *
        obtain ⟨B, hBB⟩ : ∃ B, B = wr.heap.size := ⟨_, rfl⟩
        rw [← hBB] at hB m0 m1 ⊢
        clear hBB
        have hlt5 : w.heap.size < w3.heap.size + 1 := by omega
        obtain ⟨k0, k1, k2, x0, x1, z0, z1, z2, z3⟩ := WA.out
        have hq2 : q ≤ q + k ∧ q + k ≤ q + 5000 := by omega
        generalize q + k = q2 at *
        have hc2 : Mt.isC b 0 q2 = true := Mt.isC_mk (by omega) (by omega) (by omega) (by omega)
        have hb := fun w => between_ok p b f 0 q 0 q2 w V.out hc hc2 (by omega)
        obtain ⟨v, hv⟩ : ∃ v, v = Mt.vol p f q2 - Mt.vol p f q := ⟨_, rfl⟩
        obtain ⟨y0, y1, y2, y3, y4, y5, y6, y7⟩ := Mt.vol_between (p := p) (f := f) (q := q) (q2 := q2) (v := v) v1 v2 (by omega) v5 hq2.1 hq2.2 hv
        rw [← hv] at hb
        have HV := Lib.hid hv
        unfold mv cv at hb
        have HBt := Lib.hid hb
        clear hb hv hc2 hwq
        go_wp2_with fail
        refine (HBt.out _).mono ?_
        rintro e w7 ⟨rfl, hg⟩
        have WB := Lib.hid (WA.out.grown hg)
        have SB := Lib.hid (SA.out.grown hg)
        have GB := Lib.hid (grown_trans GA.out hg)
        have m0 := hg.cell m0 (by simp)
        have m1 := hg.cell m1 (by simp)
        clear hg k0 k1 k2 x0 x1 z0 z1 z2 z3
        obtain ⟨k0, k1, k2, x0, x1, z0, z1, z2, z3⟩ := WB.out
        have d0 : decide (v < 0) = false := decide_eq_false (by omega)
        have d1 : decide ((q2 - q) * f ≤ (v - 1) * 100 * p) = false := decide_eq_false (by omega)
        have d2 : decide ((v + 1) * 100 * p ≤ (q2 - q) * f) = false := decide_eq_false (by omega)
        go_wp2
        go_roundw
        case rel =>
          refine ⟨i, q2, by go_num, by omega, by omega, by omega, ?_, ?_, ?_, ?_⟩
          · rw [show Mt.vol p f q - Mt.vol p f q0 + v = Mt.vol p f q2 - Mt.vol p f q0 by have := HV.out; omega]
          · exact WB.out.next hlt3 q2
          · exact (SB.out.grownRow (grown_set _ ⟨w3.heap.size + 1, 0, none⟩ (.int .i64 0)) (fun k e => by cases e; exact hlt5)).grownRow (grown_set _ ⟨w3.heap.size + 1, 1, none⟩ (.int .i64 q2)) (fun k e => by cases e; exact hlt5)
          · exact stored2_grown (.int .i64 0) (.int .i64 q2) GB.out (show w.heap.size ≤ w3.heap.size + 1 by omega)
        case measure => simp [intOf]
    · obtain rfl : i = 0 := by omega
      obtain ⟨k0, k1, k2, x0, x1, z0, z1, z2, z3⟩ := VWr.out
      have hc0 : Mt.isC b 0 q0 = true := Mt.isC_mk (by omega) (by omega) (by omega) (by omega)
      have hb := fun w => between_ok p b f 0 q0 0 q w V.out hc0 hc (by omega)
      unfold mv cv at hb
      have HBt := Lib.hid hb
      clear hb hc hc0
      generalize Mt.vol p f q - Mt.vol p f q0 = D at *
      obtain ⟨wo, hwo⟩ : ∃ wo : World, wo = wr := ⟨_, rfl⟩
      go_wp2_with fail
      refine (HBt.out _).mono ?_
      rintro e w5 ⟨rfl, hg⟩
      have GB := Lib.hid (grown_trans Gr.out hg)
      clear hg k0 k1 k2 x0 x1 z0 z1 z2 z3
      go_wp2_with fail
      refine (awake_any _).mono ?_
      rintro e w6 ⟨rfl, hg⟩
      have GC := Lib.hid (grown_trans GB.out hg)
      clear hg
      go_wp2
      go_ret
      exact ⟨rfl, grown_below GC.out⟩
end Go.Proofs.Ytilchmlbihffdaa
