/- Rows of cells; the walk of MeterAnswers as far as its first loop. -/
import Derived.Test.YtilchmlbihffdaaMv
import Derived.Deep.RegionHeld3
import Derived.Deep.DeepCutAuto
namespace Go.Proofs.Ytilchmlbihffdaa
open Go.ChangeShapes Go.WideShapes Go.ChangeAt Go.RowKit

/-- In the world w block B begins with the numbers xs. -/
def Cells (w : World) (B : Nat) (xs : List Int) : Prop := ∀ j, j < xs.length → w.cell? ⟨B, j, none⟩ = some (.int .i64 (xs.getD j 0))
theorem Cells.row {w w' : World} {B : Nat} {xs : List Int} {row : Option Nat} (h : Cells w B xs) (hg : w.grownBy w' row) (hr : some B ≠ row) : Cells w' B xs := fun j hj => hg.cell (h j hj) hr
theorem Cells.two {w : World} {B : Nat} {x y : Int} (h : Cells w B [x, y]) : w.cell? ⟨B, 0, none⟩ = some (.int .i64 x) ∧ w.cell? ⟨B, 1, none⟩ = some (.int .i64 y) := ⟨h 0 (by simp), h 1 (by simp)⟩
theorem Cells.three {w : World} {B : Nat} {x y z : Int} (h : Cells w B [x, y, z]) : w.cell? ⟨B, 0, none⟩ = some (.int .i64 x) ∧ w.cell? ⟨B, 1, none⟩ = some (.int .i64 y) ∧ w.cell? ⟨B, 2, none⟩ = some (.int .i64 z) := ⟨h 0 (by simp), h 1 (by simp), h 2 (by simp)⟩
theorem Cells.mk2 {w : World} {B : Nat} {x y : Int} (h0 : w.cell? ⟨B, 0, none⟩ = some (.int .i64 x)) (h1 : w.cell? ⟨B, 1, none⟩ = some (.int .i64 y)) : Cells w B [x, y] := fun j hj => by
  match j, hj with
  | 0, _ => exact h0
  | 1, _ => exact h1
theorem Cells.mk3 {w : World} {B : Nat} {x y z : Int} (h0 : w.cell? ⟨B, 0, none⟩ = some (.int .i64 x)) (h1 : w.cell? ⟨B, 1, none⟩ = some (.int .i64 y)) (h2 : w.cell? ⟨B, 2, none⟩ = some (.int .i64 z)) : Cells w B [x, y, z] := fun j hj => by
  match j, hj with
  | 0, _ => exact h0
  | 1, _ => exact h1
  | 2, _ => exact h2

theorem InRow.grown {w w' : World} {a : Option Addr} {len cap : Nat} {zs : List Int} (h : InRow w a len cap zs) (hg : w.grownBy w' none) : InRow w' a len cap zs := by
  obtain ⟨b, off, hb, h1, h2, h3, h4, h5, h6⟩ := h
  exact ⟨b, off, fun h0 => Nat.lt_of_lt_of_le (hb h0) hg.size, h1, h2, h3, h4, fun i hi => hg.cell (h5 i hi) (by simp), h6⟩

set_option maxRecDepth 20000 in
set_option maxHeartbeats 4000000 in
theorem answers_walk (p0 b0 f0 la qa lb qb R P : Int) (a : Option Addr) (len cap : Nat) (zs : List Int) (w : World) (hi : InRow w a len cap zs) :
    Calls Try.prog 3 #[mv p0 b0 f0, cv la qa, cv lb qb, .int .i64 R, .int .i64 P, .slice a len cap] w fun e w' => e = .returned (.bool true) ∧ Below w.heap.size w w' := by
  have HI := Lib.hid hi
  clear hi
  unfold mv cv
  go_enter Try.func3, Try.ntmps3
  go_wp2_with fail
  have A0 : Hid (Cells (((w.alloc (Obj.cells #[.int .i64 p0, .int .i64 b0, .int .i64 f0] 23)).alloc (Obj.cells #[.int .i64 la, .int .i64 qa] 25)).alloc (Obj.cells #[.int .i64 lb, .int .i64 qb] 25)) w.heap.size [p0, b0, f0]) := Cells.mk3 (by go_simp) (by go_simp) (by go_simp)
  have A1 : Hid (Cells (((w.alloc (Obj.cells #[.int .i64 p0, .int .i64 b0, .int .i64 f0] 23)).alloc (Obj.cells #[.int .i64 la, .int .i64 qa] 25)).alloc (Obj.cells #[.int .i64 lb, .int .i64 qb] 25)) (w.heap.size + 1) [la, qa]) := Cells.mk2 (by go_simp) (by go_simp)
  have A2 : Hid (Cells (((w.alloc (Obj.cells #[.int .i64 p0, .int .i64 b0, .int .i64 f0] 23)).alloc (Obj.cells #[.int .i64 la, .int .i64 qa] 25)).alloc (Obj.cells #[.int .i64 lb, .int .i64 qb] 25)) (w.heap.size + 1 + 1) [lb, qb]) := Cells.mk2 (by go_simp) (by go_simp)
  have GX := Lib.hid (start_grown w (Obj.cells #[.int .i64 p0, .int .i64 b0, .int .i64 f0] 23) (Obj.cells #[.int .i64 la, .int .i64 qa] 25) (Obj.cells #[.int .i64 lb, .int .i64 qb] 25))
  have LX : w.heap.size + 1 + 1 < ((((w.alloc (Obj.cells #[.int .i64 p0, .int .i64 b0, .int .i64 f0] 23)).alloc (Obj.cells #[.int .i64 la, .int .i64 qa] 25)).alloc (Obj.cells #[.int .i64 lb, .int .i64 qb] 25))).heap.size := by simp
  generalize (((w.alloc (Obj.cells #[.int .i64 p0, .int .i64 b0, .int .i64 f0] 23)).alloc (Obj.cells #[.int .i64 la, .int .i64 qa] 25)).alloc (Obj.cells #[.int .i64 lb, .int .i64 qb] 25)) = WX at *
  refine (new_any a len cap zs WX (HI.out.grown GX.out)).mono ?_
  rintro e w1 ⟨rfl, hg, hs, hlt⟩
  obtain ⟨S, hS⟩ : ∃ S, S = WX.heap.size := ⟨_, rfl⟩
  rw [← hS] at hs hlt LX ⊢
  have G := Lib.hid (grown_trans GX.out hg)
  have HS := Lib.hid hs
  have A0 := Lib.hid (A0.out.row hg (by simp))
  have A1 := Lib.hid (A1.out.row hg (by simp))
  have A2 := Lib.hid (A2.out.row hg (by simp))
  have hwS : w.heap.size ≤ S := by omega
  clear hg hs hS GX HI
  go_wp2_with fail
  refine (meter_any S w1 HS.out).mono ?_
  rintro e w2 ⟨p, b, f, hv, rfl, hg, hs⟩
  have V := Lib.hid hv
  have hlt2 : S < w2.heap.size := src_lt hs
  have G := Lib.hid (show w.grownBy w2 none from grown_off G.out hg hwS)
  have HS := Lib.hid hs
  have A0 := Lib.hid (A0.out.row hg (by intro e; injection e; omega))
  have A1 := Lib.hid (A1.out.row hg (by intro e; injection e; omega))
  have A2 := Lib.hid (A2.out.row hg (by intro e; injection e; omega))
  clear hg hs hv hlt
  unfold mv
  go_wp2_with fail
  refine (n_any S 3 _ ((HS.out.grown (World.grownBy_alloc w2 (Obj.cells #[.int .i64 p, .int .i64 b, .int .i64 f] 23) none)).grown (World.grownBy_alloc (w2.alloc (Obj.cells #[.int .i64 p, .int .i64 b, .int .i64 f] 23)) (Obj.cells #[.int .i64 p, .int .i64 b, .int .i64 f] 23) none)) (by omega) (by omega)).mono ?_
  rintro e w3 ⟨r, hr, rfl, hg, hs⟩
  have g2 : w2.grownBy ((w2.alloc (Obj.cells #[.int .i64 p, .int .i64 b, .int .i64 f] 23)).alloc (Obj.cells #[.int .i64 p, .int .i64 b, .int .i64 f] 23)) none := grown_trans (World.grownBy_alloc _ _ _) (World.grownBy_alloc _ _ _)
  have HS := Lib.hid hs
  have A0 := Lib.hid ((A0.out.row g2 (by simp)).row hg (by intro e; injection e; omega))
  have A1 := Lib.hid ((A1.out.row g2 (by simp)).row hg (by intro e; injection e; omega))
  have A2 := Lib.hid ((A2.out.row g2 (by simp)).row hg (by intro e; injection e; omega))
  have A3 := Lib.hid (Cells.row (w := (w2.alloc (Obj.cells #[.int .i64 p, .int .i64 b, .int .i64 f] 23)).alloc (Obj.cells #[.int .i64 p, .int .i64 b, .int .i64 f] 23)) (B := w2.heap.size) (xs := [p, b, f]) (Cells.mk3 (by go_simp) (by go_simp) (by go_simp)) hg (by intro e; injection e; omega))
  have A4 := Lib.hid (Cells.row (w := (w2.alloc (Obj.cells #[.int .i64 p, .int .i64 b, .int .i64 f] 23)).alloc (Obj.cells #[.int .i64 p, .int .i64 b, .int .i64 f] 23)) (B := w2.heap.size + 1) (xs := [p, b, f]) (Cells.mk3 (by go_simp) (by go_simp) (by go_simp)) hg (by intro e; injection e; omega))
  have F4 : Hid (w3.frozen? ⟨w2.heap.size + 1, 0, none⟩ = false ∧ w3.frozen? ⟨w2.heap.size + 1, 1, none⟩ = false ∧ w3.frozen? ⟨w2.heap.size + 1, 2, none⟩ = false) :=
    ⟨grown_frozen hg (v := .int .i64 p) (by go_simp) (by go_simp) (by simp; omega), grown_frozen hg (v := .int .i64 b) (by go_simp) (by go_simp) (by simp; omega), grown_frozen hg (v := .int .i64 f) (by go_simp) (by go_simp) (by simp; omega)⟩
  have G := Lib.hid (show w.grownBy w3 none from grown_off (grown_trans G.out g2) hg hwS)
  clear hg hs g2
  iterate 5 (first | go_values | go_skip | go_guarded | go_step | go_upon | go_back | go_simp)
  go_cut [] (fun wx => ∃ po bo fo : Int, Hid (Cells wx (w2.heap.size + 1) [po, bo, fo]) ∧ Hid (Cells wx w.heap.size [p0, b0, f0]) ∧ Hid (Cells wx (w.heap.size + 1) [la, qa]) ∧ Hid (Cells wx (w.heap.size + 1 + 1) [lb, qb]) ∧ Hid (Cells wx w2.heap.size [p, b, f]) ∧ Hid (SrcOK wx S) ∧ Hid (w.grownBy wx none))
  case first =>
    have hr3 : r = 0 ∨ r = 1 ∨ r = 2 := by omega
    obtain ⟨c0, c1, c2⟩ := A4.out.three
    obtain ⟨e0, e1, e2⟩ := F4.out
    rcases hr3 with rfl | rfl | rfl
    · go_wp2_with fail
      refine Calls.mono (pick_lit S 3 w3.heap.size [0, 1048577, -1] #[.int .i64 0, .int .i64 1048577, .int .i64 (-1)] w3 rfl HS.out rfl (by omega) (by omega) ?_) ?_
      · intro i hi
        match i, hi with
        | 0, _ => rfl
        | 1, _ => rfl
        | 2, _ => rfl
      rintro e w4 ⟨y, _, rfl, hg, hs⟩
      have d0 := hg.cell c0 (by simp; omega)
      have d1 := hg.cell c1 (by simp; omega)
      have d2 := hg.cell c2 (by simp; omega)
      have t0 := grown_frozen hg c0 e0 (by simp; omega)
      have t1 := grown_frozen hg c1 e1 (by simp; omega)
      have t2 := grown_frozen hg c2 e2 (by simp; omega)
      go_wp2
      go_meet
      exact ⟨y, b, f, Cells.mk3 (World.cell?_setCell_same _ _ _ d0) ((World.cell?_setCell_other _ _ _ _ (by simp)).trans d1) ((World.cell?_setCell_other _ _ _ _ (by simp)).trans d2),
        (A0.out.row hg (by intro e; injection e; omega)).row (grown_set w4 ⟨w2.heap.size + 1, 0, none⟩ (.int .i64 y)) (by intro e; injection e with e; dsimp only at e; omega),
        (A1.out.row hg (by intro e; injection e; omega)).row (grown_set w4 ⟨w2.heap.size + 1, 0, none⟩ (.int .i64 y)) (by intro e; injection e with e; dsimp only at e; omega),
        (A2.out.row hg (by intro e; injection e; omega)).row (grown_set w4 ⟨w2.heap.size + 1, 0, none⟩ (.int .i64 y)) (by intro e; injection e with e; dsimp only at e; omega),
        (A3.out.row hg (by intro e; injection e; omega)).row (grown_set w4 ⟨w2.heap.size + 1, 0, none⟩ (.int .i64 y)) (by intro e; injection e with e; dsimp only at e; omega),
        hs.grownRow (grown_set w4 ⟨w2.heap.size + 1, 0, none⟩ (.int .i64 y)) (fun k e => by cases e; show S < w2.heap.size + 1; omega),
        grown_off (grown_off G.out hg hwS) (grown_set w4 ⟨w2.heap.size + 1, 0, none⟩ (.int .i64 y)) (show w.heap.size ≤ w2.heap.size + 1 by omega)⟩
    · go_wp2_with fail
      refine Calls.mono (pick_lit S 5 w3.heap.size [0, 15, 24, 64, -1] #[.int .i64 0, .int .i64 15, .int .i64 24, .int .i64 64, .int .i64 (-1)] w3 rfl HS.out rfl (by omega) (by omega) ?_) ?_
      · intro i hi
        match i, hi with
        | 0, _ => rfl
        | 1, _ => rfl
        | 2, _ => rfl
        | 3, _ => rfl
        | 4, _ => rfl
      rintro e w4 ⟨y, _, rfl, hg, hs⟩
      have d0 := hg.cell c0 (by simp; omega)
      have d1 := hg.cell c1 (by simp; omega)
      have d2 := hg.cell c2 (by simp; omega)
      have t0 := grown_frozen hg c0 e0 (by simp; omega)
      have t1 := grown_frozen hg c1 e1 (by simp; omega)
      have t2 := grown_frozen hg c2 e2 (by simp; omega)
      go_wp2
      go_meet
      exact ⟨p, y, f, Cells.mk3 ((World.cell?_setCell_other _ _ _ _ (by simp)).trans d0) (World.cell?_setCell_same _ _ _ d1) ((World.cell?_setCell_other _ _ _ _ (by simp)).trans d2),
        (A0.out.row hg (by intro e; injection e; omega)).row (grown_set w4 ⟨w2.heap.size + 1, 1, none⟩ (.int .i64 y)) (by intro e; injection e with e; dsimp only at e; omega),
        (A1.out.row hg (by intro e; injection e; omega)).row (grown_set w4 ⟨w2.heap.size + 1, 1, none⟩ (.int .i64 y)) (by intro e; injection e with e; dsimp only at e; omega),
        (A2.out.row hg (by intro e; injection e; omega)).row (grown_set w4 ⟨w2.heap.size + 1, 1, none⟩ (.int .i64 y)) (by intro e; injection e with e; dsimp only at e; omega),
        (A3.out.row hg (by intro e; injection e; omega)).row (grown_set w4 ⟨w2.heap.size + 1, 1, none⟩ (.int .i64 y)) (by intro e; injection e with e; dsimp only at e; omega),
        hs.grownRow (grown_set w4 ⟨w2.heap.size + 1, 1, none⟩ (.int .i64 y)) (fun k e => by cases e; show S < w2.heap.size + 1; omega),
        grown_off (grown_off G.out hg hwS) (grown_set w4 ⟨w2.heap.size + 1, 1, none⟩ (.int .i64 y)) (show w.heap.size ≤ w2.heap.size + 1 by omega)⟩
    · go_wp2_with fail
      refine Calls.mono (pick_lit S 3 w3.heap.size [49999, 200001, 0] #[.int .i64 49999, .int .i64 200001, .int .i64 0] w3 rfl HS.out rfl (by omega) (by omega) ?_) ?_
      · intro i hi
        match i, hi with
        | 0, _ => rfl
        | 1, _ => rfl
        | 2, _ => rfl
      rintro e w4 ⟨y, _, rfl, hg, hs⟩
      have d0 := hg.cell c0 (by simp; omega)
      have d1 := hg.cell c1 (by simp; omega)
      have d2 := hg.cell c2 (by simp; omega)
      have t0 := grown_frozen hg c0 e0 (by simp; omega)
      have t1 := grown_frozen hg c1 e1 (by simp; omega)
      have t2 := grown_frozen hg c2 e2 (by simp; omega)
      go_wp2
      go_meet
      exact ⟨p, b, y, Cells.mk3 ((World.cell?_setCell_other _ _ _ _ (by simp)).trans d0) ((World.cell?_setCell_other _ _ _ _ (by simp)).trans d1) (World.cell?_setCell_same _ _ _ d2),
        (A0.out.row hg (by intro e; injection e; omega)).row (grown_set w4 ⟨w2.heap.size + 1, 2, none⟩ (.int .i64 y)) (by intro e; injection e with e; dsimp only at e; omega),
        (A1.out.row hg (by intro e; injection e; omega)).row (grown_set w4 ⟨w2.heap.size + 1, 2, none⟩ (.int .i64 y)) (by intro e; injection e with e; dsimp only at e; omega),
        (A2.out.row hg (by intro e; injection e; omega)).row (grown_set w4 ⟨w2.heap.size + 1, 2, none⟩ (.int .i64 y)) (by intro e; injection e with e; dsimp only at e; omega),
        (A3.out.row hg (by intro e; injection e; omega)).row (grown_set w4 ⟨w2.heap.size + 1, 2, none⟩ (.int .i64 y)) (by intro e; injection e with e; dsimp only at e; omega),
        hs.grownRow (grown_set w4 ⟨w2.heap.size + 1, 2, none⟩ (.int .i64 y)) (fun k e => by cases e; show S < w2.heap.size + 1; omega),
        grown_off (grown_off G.out hg hwS) (grown_set w4 ⟨w2.heap.size + 1, 2, none⟩ (.int .i64 y)) (show w.heap.size ≤ w2.heap.size + 1 by omega)⟩
  case rest =>
    obtain ⟨po, bo, fo, A4, A0, A1, A2, A3, HS, G⟩ := hcut
    obtain ⟨w4, hw4⟩ : ∃ w4, w4 = wc := ⟨_, rfl⟩
    rw [← hw4] at A4 A0 A1 A2 A3 HS G ⊢
    clear hw4 F4
    have hlt4 : w2.heap.size + 1 < w4.heap.size := World.block_lt_of_cell? w4 ⟨w2.heap.size + 1, 0, none⟩ A4.out.three.1
    go_wp2_with fail
    refine Calls.mono (pick_lit S 4 w4.heap.size [0, 65535, 65536, 7] #[.int .i64 0, .int .i64 65535, .int .i64 65536, .int .i64 7] w4 rfl HS.out rfl (by omega) (by omega) ?_) ?_
    · intro i hi
      match i, hi with
      | 0, _ => rfl
      | 1, _ => rfl
      | 2, _ => rfl
      | 3, _ => rfl
    rintro e w5 ⟨lx, _, rfl, hg, hs⟩
    have A0 := Lib.hid (A0.out.row hg (by intro e; injection e; omega))
    have A1 := Lib.hid (A1.out.row hg (by intro e; injection e; omega))
    have A2 := Lib.hid (A2.out.row hg (by intro e; injection e; omega))
    have A3 := Lib.hid (A3.out.row hg (by intro e; injection e; omega))
    have A4 := Lib.hid (A4.out.row hg (by intro e; injection e; omega))
    have HS := Lib.hid hs
    have G := Lib.hid (show w.grownBy w5 none from grown_off G.out hg hwS)
    have hlt5 : w2.heap.size + 1 < w5.heap.size := World.block_lt_of_cell? w5 ⟨w2.heap.size + 1, 0, none⟩ A4.out.three.1
    clear hg hs
    go_wp2_with fail
    refine Calls.mono (pick_lit S 5 w5.heap.size [0, 100, 1099511627776, 1099511627777, -1] #[.int .i64 0, .int .i64 100, .int .i64 1099511627776, .int .i64 1099511627777, .int .i64 (-1)] w5 rfl HS.out rfl (by omega) (by omega) ?_) ?_
    · intro i hi
      match i, hi with
      | 0, _ => rfl
      | 1, _ => rfl
      | 2, _ => rfl
      | 3, _ => rfl
      | 4, _ => rfl
    rintro e w6 ⟨qx, _, rfl, hg, hs⟩
    have A0 := Lib.hid (A0.out.row hg (by intro e; injection e; omega))
    have A1 := Lib.hid (A1.out.row hg (by intro e; injection e; omega))
    have A2 := Lib.hid (A2.out.row hg (by intro e; injection e; omega))
    have A3 := Lib.hid (A3.out.row hg (by intro e; injection e; omega))
    have A4 := Lib.hid (A4.out.row hg (by intro e; injection e; omega))
    have HS := Lib.hid hs
    have G := Lib.hid (show w.grownBy w6 none from grown_off G.out hg hwS)
    have hlt6 : w2.heap.size + 1 < w6.heap.size := World.block_lt_of_cell? w6 ⟨w2.heap.size + 1, 0, none⟩ A4.out.three.1
    have hS6 := src_lt HS.out
    have hX6 : w.heap.size + 1 + 1 < w6.heap.size := by omega
    have hx0 : w.heap.size < w6.heap.size := by omega
    have hx1 : w2.heap.size < w6.heap.size := by omega
    clear hg hs
    obtain ⟨r0, r1, r2⟩ := A0.out.three
    obtain ⟨m0, m1, m2⟩ := A3.out.three
    obtain ⟨o0, o1, o2⟩ := A4.out.three
    go_wp2
    have g9 : w6.grownBy ((w6.alloc (Obj.cells #[.int .i64 lx, .int .i64 qx] 25)).alloc (Obj.cells #[.int .i64 p0, .int .i64 b0, .int .i64 f0, .int .i64 p, .int .i64 b, .int .i64 f, .int .i64 po, .int .i64 bo, .int .i64 fo] 23)) none := grown_trans (World.grownBy_alloc _ _ _) (World.grownBy_alloc _ _ _)
    have B1 := Lib.hid (A1.out.row g9 (by simp))
    have B2 := Lib.hid (A2.out.row g9 (by simp))
    have BX : Hid (Cells ((w6.alloc (Obj.cells #[.int .i64 lx, .int .i64 qx] 25)).alloc (Obj.cells #[.int .i64 p0, .int .i64 b0, .int .i64 f0, .int .i64 p, .int .i64 b, .int .i64 f, .int .i64 po, .int .i64 bo, .int .i64 fo] 23)) w6.heap.size [lx, qx]) := Cells.mk2 (by go_simp) (by go_simp)
    have BL : Hid (∀ i, i < 3 → ∃ pk bk fk, ((w6.alloc (Obj.cells #[.int .i64 lx, .int .i64 qx] 25)).alloc (Obj.cells #[.int .i64 p0, .int .i64 b0, .int .i64 f0, .int .i64 p, .int .i64 b, .int .i64 f, .int .i64 po, .int .i64 bo, .int .i64 fo] 23)).cell? ⟨w6.heap.size + 1, i * 3, none⟩ = some (.int .i64 pk) ∧ ((w6.alloc (Obj.cells #[.int .i64 lx, .int .i64 qx] 25)).alloc (Obj.cells #[.int .i64 p0, .int .i64 b0, .int .i64 f0, .int .i64 p, .int .i64 b, .int .i64 f, .int .i64 po, .int .i64 bo, .int .i64 fo] 23)).cell? ⟨w6.heap.size + 1, i * 3 + 1, none⟩ = some (.int .i64 bk) ∧ ((w6.alloc (Obj.cells #[.int .i64 lx, .int .i64 qx] 25)).alloc (Obj.cells #[.int .i64 p0, .int .i64 b0, .int .i64 f0, .int .i64 p, .int .i64 b, .int .i64 f, .int .i64 po, .int .i64 bo, .int .i64 fo] 23)).cell? ⟨w6.heap.size + 1, i * 3 + 2, none⟩ = some (.int .i64 fk)) := fun i hi => by
      match i, hi with
      | 0, _ => exact ⟨p0, b0, f0, by go_simp, by go_simp, by go_simp⟩
      | 1, _ => exact ⟨p, b, f, by go_simp, by go_simp, by go_simp⟩
      | 2, _ => exact ⟨po, bo, fo, by go_simp, by go_simp, by go_simp⟩
    have S9 := Lib.hid (HS.out.grown g9)
    have G9 := Lib.hid (grown_trans G.out g9)
    have L9 : w6.heap.size + 1 < ((w6.alloc (Obj.cells #[.int .i64 lx, .int .i64 qx] 25)).alloc (Obj.cells #[.int .i64 p0, .int .i64 b0, .int .i64 f0, .int .i64 p, .int .i64 b, .int .i64 f, .int .i64 po, .int .i64 bo, .int .i64 fo] 23)).heap.size := by simp
    obtain ⟨D, hD⟩ : ∃ D, D = w6.heap.size := ⟨_, rfl⟩
    rw [← hD] at BX BL L9 hS6 ⊢
    generalize ((w6.alloc (Obj.cells #[.int .i64 lx, .int .i64 qx] 25)).alloc (Obj.cells #[.int .i64 p0, .int .i64 b0, .int .i64 f0, .int .i64 p, .int .i64 b, .int .i64 f, .int .i64 po, .int .i64 bo, .int .i64 fo] 23)) = W9 at *
    have hX1 : S ≠ w.heap.size + 1 := by omega
    have hX2 : S ≠ w.heap.size + 1 + 1 := by omega
    have hXS : w.heap.size + 1 + 1 < D := by omega
    clear r0 r1 r2 m0 m1 m2 o0 o1 o2 g9 hD A0 A1 A2 A3 A4 HS G V hlt2 hlt4 hlt5 hlt6 hX6 hx0 hx1 LX hr
    go_loopw [74] (fun s74 wr => ∃ i : Nat, s74 = .int .i64 i ∧ i ≤ 3 ∧ Hid (W9.grownBy wr (some S)) ∧ Hid (SrcOK wr S)) (fun s _ => 3 - (intOf s).toNat)
    case atStart => exact ⟨0, rfl, by omega, grown_refl _ _, S9⟩
    case round =>
      obtain ⟨wp, rfl⟩ : ∃ wp : World, wp = wr := ⟨_, rfl⟩
      obtain ⟨i, rfl, hi3, GP, SP⟩ := hrel
      by_cases hlt : i < 3
      · obtain ⟨pk, bk, fk, l0, l1, l2⟩ := BL.out i hlt
        have l0 := GP.out.cell l0 (by simp; omega)
        have l1 := GP.out.cell l1 (by simp; omega)
        have l2 := GP.out.cell l2 (by simp; omega)
        go_wp2_with fail
        have gk : wp.grownBy (wp.alloc (Obj.cells #[.int .i64 pk, .int .i64 bk, .int .i64 fk] 23)) none := World.grownBy_alloc _ _ _
        have CK : Hid (Cells (wp.alloc (Obj.cells #[.int .i64 pk, .int .i64 bk, .int .i64 fk] 23)) wp.heap.size [pk, bk, fk]) := Cells.mk3 (by go_simp) (by go_simp) (by go_simp)
        have GK := Lib.hid (grown_trans GP.out (grown_weak (some S) gk))
        have SK := Lib.hid (SP.out.grown gk)
        have hTS : S < wp.heap.size := src_lt SP.out
        have hTD : D + 1 < wp.heap.size := Nat.lt_of_lt_of_le L9 GP.out.size
        obtain ⟨T, hT⟩ : ∃ T, T = wp.heap.size := ⟨_, rfl⟩
        rw [← hT] at CK hTS hTD ⊢
        obtain ⟨wk, hwk⟩ : ∃ wk, wk = wp.alloc (Obj.cells #[.int .i64 pk, .int .i64 bk, .int .i64 fk] 23) := ⟨_, rfl⟩
        rw [← hwk] at CK GK SK ⊢
        clear hwk gk hT l0 l1 l2
        obtain ⟨k0, k1, k2⟩ := CK.out.three
        have H12 := Lib.hid (fun w => valid_any pk bk fk w)
        have H13 := Lib.hid (fun w => rvalid_any pk bk fk w)
        generalize Mt.valid pk bk fk = V at *
        have HK : Hid (∀ w', wk.grownBy w' none → w'.cell? ⟨T, 0, none⟩ = some (.int .i64 pk) ∧ w'.cell? ⟨T, 1, none⟩ = some (.int .i64 bk) ∧ w'.cell? ⟨T, 2, none⟩ = some (.int .i64 fk)) := fun w' hg => ⟨hg.cell k0 (by simp), hg.cell k1 (by simp), hg.cell k2 (by simp)⟩
        go_region_held3 (fun w' => w'.cell? ⟨T, 0, none⟩ = some (.int .i64 pk) ∧ w'.cell? ⟨T, 1, none⟩ = some (.int .i64 bk) ∧ w'.cell? ⟨T, 2, none⟩ = some (.int .i64 fk))
          (first | go_keep | exact HK.out _ hgb.out | exact HK.out _ hga.out | fail)
          (first
            | (go_at_call 12; refine (H12.out _).mono ?_; rintro e wa ⟨rfl, hg⟩; have hga : Hid (wk.grownBy wa none) := grown_trans (show wk.grownBy wk.drew none from grown_drewN wk 1 none) hg; clear hg)
            | (go_at_call 13; refine (H13.out _).mono ?_; rintro e wb ⟨rfl, hg⟩; have hgb : Hid (wk.grownBy wb none) := grown_trans hga.out hg; clear hg)
            | fail)
        have GB := Lib.hid (grown_trans GK.out (grown_weak (some S) hgb.out))
        have SB := Lib.hid (SK.out.grown hgb.out)
        have CB := Lib.hid (CK.out.row hgb.out (by simp))
        have Y1 := Lib.hid (B1.out.row GB.out (by simpa using hX1.symm))
        have Y2 := Lib.hid (B2.out.row GB.out (by simpa using hX2.symm))
        have YX := Lib.hid (BX.out.row GB.out (by simp; omega))
        have hbD : D + 1 < wb.heap.size := Nat.lt_of_lt_of_le L9 GB.out.size
        have hbT : T < wb.heap.size := World.block_lt_of_cell? wb ⟨T, 0, none⟩ CB.out.three.1
        clear k0 k1 k2 HK H12 H13
        obtain ⟨a0, a1⟩ := Y1.out.two
        obtain ⟨c0, c1⟩ := Y2.out.two
        obtain ⟨x0, x1⟩ := YX.out.two
        go_wp2
        have g11 : wb.grownBy (wb.alloc (Obj.cells #[.int .i64 la, .int .i64 qa, .int .i64 lb, .int .i64 qb, .int .i64 lx, .int .i64 qx] 25)) none := World.grownBy_alloc _ _ _
        have CL2 : Hid (∀ j, j < 3 → ∃ ly qy, (wb.alloc (Obj.cells #[.int .i64 la, .int .i64 qa, .int .i64 lb, .int .i64 qb, .int .i64 lx, .int .i64 qx] 25)).cell? ⟨wb.heap.size, j * 2, none⟩ = some (.int .i64 ly) ∧ (wb.alloc (Obj.cells #[.int .i64 la, .int .i64 qa, .int .i64 lb, .int .i64 qb, .int .i64 lx, .int .i64 qx] 25)).cell? ⟨wb.heap.size, j * 2 + 1, none⟩ = some (.int .i64 qy)) := fun j hj => by
          match j, hj with
          | 0, _ => exact ⟨la, qa, by go_simp, by go_simp⟩
          | 1, _ => exact ⟨lb, qb, by go_simp, by go_simp⟩
          | 2, _ => exact ⟨lx, qx, by go_simp, by go_simp⟩
        have CB2 := Lib.hid (CB.out.row g11 (by simp))
        have SB2 := Lib.hid (SB.out.grown g11)
        have GB2 := Lib.hid (grown_trans GB.out (grown_weak (some S) g11))
        have hSL : S < wb.heap.size := src_lt SB.out
        obtain ⟨L2, hL2⟩ : ∃ L2, L2 = wb.heap.size := ⟨_, rfl⟩
        rw [← hL2] at CL2 hSL ⊢
        generalize wb.alloc (Obj.cells #[.int .i64 la, .int .i64 qa, .int .i64 lb, .int .i64 qb, .int .i64 lx, .int .i64 qx] 25) = W11 at *
        clear a0 a1 c0 c1 x0 x1 g11 hL2 hbD hbT Y1 Y2 YX CB SB GB CK GK SK hga hgb
        go_loopw [88] (fun s88 wr => ∃ j : Nat, s88 = .int .i64 j ∧ j ≤ 3 ∧ Hid (W11.grownBy wr (some S)) ∧ Hid (SrcOK wr S)) (fun s _ => 3 - (intOf s).toNat)
        case atStart => exact ⟨0, rfl, by omega, grown_refl _ _, SB2⟩
        case round =>
          obtain ⟨wq, rfl⟩ : ∃ wq : World, wq = wr := ⟨_, rfl⟩
          obtain ⟨j, rfl, hj3, GQ, SQ⟩ := hrel
          by_cases hlt2 : j < 3
          · obtain ⟨ly, qy, l0, l1⟩ := CL2.out j hlt2
            have l0 := GQ.out.cell l0 (by simp; omega)
            have l1 := GQ.out.cell l1 (by simp; omega)
            obtain ⟨k0, k1, k2⟩ := (CB2.out.row GQ.out (by simp; omega)).three
            go_wp2_with fail
            refine Calls.mono (pick_lit S 7 (wq.heap.size + 1) [0, 1, 65535, 65536, 4294967295, 4294967296, -1] #[.int .i64 0, .int .i64 1, .int .i64 65535, .int .i64 65536, .int .i64 4294967295, .int .i64 4294967296, .int .i64 (-1)] (wq.alloc (Obj.cells #[.int .i64 ly, .int .i64 qy] 25)) (by simp) (SQ.out.grown (World.grownBy_alloc _ _ _)) rfl (by omega) (by omega) ?_) ?_
            · intro i hi
              match i, hi with
              | 0, _ => rfl
              | 1, _ => rfl
              | 2, _ => rfl
              | 3, _ => rfl
              | 4, _ => rfl
              | 5, _ => rfl
              | 6, _ => rfl
            rintro e w12 ⟨nn, _, rfl, hg, hs⟩
            have hSq := src_lt SQ.out
            have CY : Hid (Cells w12 wq.heap.size [ly, qy]) := Cells.row (w := wq.alloc (Obj.cells #[.int .i64 ly, .int .i64 qy] 25)) (Cells.mk2 (by go_simp) (by go_simp)) hg (by simp; omega)
            have CK2 := Lib.hid (((CB2.out.row GQ.out (by simp; omega)).row (World.grownBy_alloc wq (Obj.cells #[.int .i64 ly, .int .i64 qy] 25) none) (by simp)).row hg (by simp; omega))
            have G12 := Lib.hid (grown_trans (grown_trans GQ.out (World.grownBy_alloc wq (Obj.cells #[.int .i64 ly, .int .i64 qy] 25) (some S))) hg)
            have S12 := Lib.hid hs
            clear hg hs k0 k1 k2 l0 l1
            obtain ⟨Y, hY⟩ : ∃ Y, Y = wq.heap.size := ⟨_, rfl⟩
            rw [← hY] at CY hSq ⊢
            clear hY
            go_wp2
            have g13 : w12.grownBy (w12.alloc (Obj.cells #[.int .i64 R, .int .i64 nn] 3)) none := World.grownBy_alloc _ _ _
            have CL3 : Hid (∀ m, m < 2 → ∃ n, (w12.alloc (Obj.cells #[.int .i64 R, .int .i64 nn] 3)).cell? ⟨w12.heap.size, m, none⟩ = some (.int .i64 n)) := fun m hm => by
              match m, hm with
              | 0, _ => exact ⟨R, by go_simp⟩
              | 1, _ => exact ⟨nn, by go_simp⟩
            have CK3 := Lib.hid (CK2.out.row g13 (by simp))
            have CY3 := Lib.hid (CY.out.row g13 (by simp))
            have G13 := Lib.hid (grown_trans G12.out (grown_weak (some S) g13))
            have S13 := Lib.hid (S12.out.grown g13)
            obtain ⟨L3, hL3⟩ : ∃ L3, L3 = w12.heap.size := ⟨_, rfl⟩
            rw [← hL3] at CL3 ⊢
            generalize w12.alloc (Obj.cells #[.int .i64 R, .int .i64 nn] 3) = W13 at *
            clear hL3 g13 CK2 CY G12 S12
            go_loopw [98] (fun s98 wr => ∃ m : Nat, s98 = .int .i64 m ∧ m ≤ 2 ∧ Hid (W13.grownBy wr none)) (fun s _ => 2 - (intOf s).toNat)
            case atStart => exact ⟨0, rfl, by omega, grown_refl _ _⟩
            case round =>
              obtain ⟨ws, rfl⟩ : ∃ ws : World, ws = wr := ⟨_, rfl⟩
              obtain ⟨m, rfl, hm2, GS⟩ := hrel
              by_cases hlt3 : m < 2
              · obtain ⟨n, ln⟩ := CL3.out m hlt3
                have ln := GS.out.cell ln (by simp)
                obtain ⟨k0, k1, k2⟩ := (CK3.out.row GS.out (by simp)).three
                obtain ⟨y0, y1⟩ := (CY3.out.row GS.out (by simp)).two
                obtain ⟨r1, r2, r3, hrd⟩ : ∃ r1 r2 r3, rd pk bk fk ly qy n = (r1, r2, r3) := ⟨_, _, _, rfl⟩
                have H14 := Lib.hid (read_of pk bk fk ly qy n r1 r2 r3 hrd)
                have H15 := Lib.hid (rread_of pk bk fk ly qy n r1 r2 r3 hrd)
                unfold mv cv at H14 H15
                clear hrd
                go_wp2_with fail
                refine (H14.out _).mono ?_
                rintro e wa ⟨rfl, hg⟩
                have GA := Lib.hid (grown_trans GS.out hg)
                have k0 := hg.cell k0 (by simp)
                have k1 := hg.cell k1 (by simp)
                have k2 := hg.cell k2 (by simp)
                have y0 := hg.cell y0 (by simp)
                have y1 := hg.cell y1 (by simp)
                have hTa : T < wa.heap.size := World.block_lt_of_cell? wa ⟨T, 0, none⟩ k0
                have hYa : Y < wa.heap.size := World.block_lt_of_cell? wa ⟨Y, 0, none⟩ y0
                clear hg ln
                go_wp2_with fail
                refine (H15.out _).mono ?_
                rintro e wc ⟨rfl, hg⟩
                have u0 := hg.cell (a := ⟨wa.heap.size, 0, none⟩) (v := .int .i64 r1) (by go_simp) (by simp)
                have u1 := hg.cell (a := ⟨wa.heap.size, 1, none⟩) (v := .int .i64 r2) (by go_simp) (by simp)
                have hua : wa.heap.size < wc.heap.size := World.block_lt_of_cell? wc ⟨wa.heap.size, 0, none⟩ u0
                have GC := Lib.hid (grown_trans (grown_trans (grown_trans GA.out (World.grownBy_alloc _ _ _)) hg) (World.grownBy_alloc wc (Obj.cells #[.int .i64 r1, .int .i64 r2] 25) none))
                clear hg k0 k1 k2 y0 y1
                go_wp2
                go_roundw
                case rel => first | exact ⟨m + 1, by go_num, by omega, GC⟩ | ((repeat apply Exists.intro); exact ⟨⟨m + 1, by go_num, by omega, GC⟩, rfl⟩)
                case measure => simp [intOf]; omega
              · obtain rfl : m = 2 := by omega
                have GS9 := Lib.hid (grown_trans GB2.out (grown_trans G13.out (grown_weak (some S) GS.out)))
                obtain ⟨a0, a1⟩ := (B1.out.row GS9.out (by simpa using hX1.symm)).two
                obtain ⟨c0, c1⟩ := (B2.out.row GS9.out (by simpa using hX2.symm)).two
                obtain ⟨x0, x1⟩ := (BX.out.row GS9.out (by simp; omega)).two
                go_wp2
                have g14 : ws.grownBy (ws.alloc (Obj.cells #[.int .i64 la, .int .i64 qa, .int .i64 lb, .int .i64 qb, .int .i64 lx, .int .i64 qx, .int .i64 0, .int .i64 0] 25)) none := World.grownBy_alloc _ _ _
                have CL4 : Hid (∀ m, m < 4 → ∃ lz qz, (ws.alloc (Obj.cells #[.int .i64 la, .int .i64 qa, .int .i64 lb, .int .i64 qb, .int .i64 lx, .int .i64 qx, .int .i64 0, .int .i64 0] 25)).cell? ⟨ws.heap.size, m * 2, none⟩ = some (.int .i64 lz) ∧ (ws.alloc (Obj.cells #[.int .i64 la, .int .i64 qa, .int .i64 lb, .int .i64 qb, .int .i64 lx, .int .i64 qx, .int .i64 0, .int .i64 0] 25)).cell? ⟨ws.heap.size, m * 2 + 1, none⟩ = some (.int .i64 qz)) := fun m hm => by
                  match m, hm with
                  | 0, _ => exact ⟨la, qa, by go_simp, by go_simp⟩
                  | 1, _ => exact ⟨lb, qb, by go_simp, by go_simp⟩
                  | 2, _ => exact ⟨lx, qx, by go_simp, by go_simp⟩
                  | 3, _ => exact ⟨0, 0, by go_simp, by go_simp⟩
                have CK4 := Lib.hid ((CK3.out.row GS.out (by simp)).row g14 (by simp))
                have CY4 := Lib.hid ((CY3.out.row GS.out (by simp)).row g14 (by simp))
                have G14 := Lib.hid (grown_trans (grown_trans G13.out (grown_weak (some S) GS.out)) (grown_weak (some S) g14))
                have S14 := Lib.hid ((S13.out.grown GS.out).grown g14)
                obtain ⟨L4, hL4⟩ : ∃ L4, L4 = ws.heap.size := ⟨_, rfl⟩
                rw [← hL4] at CL4 ⊢
                generalize ws.alloc (Obj.cells #[.int .i64 la, .int .i64 qa, .int .i64 lb, .int .i64 qb, .int .i64 lx, .int .i64 qx, .int .i64 0, .int .i64 0] 25) = W14 at *
                clear a0 a1 c0 c1 x0 x1 g14 hL4 GS9
                go_loopw [131] (fun s131 wr => ∃ m : Nat, s131 = .int .i64 m ∧ m ≤ 4 ∧ Hid (W14.grownBy wr none)) (fun s _ => 4 - (intOf s).toNat)
                case atStart => exact ⟨0, rfl, by omega, grown_refl _ _⟩
                case round =>
                  obtain ⟨wt, rfl⟩ : ∃ wt : World, wt = wr := ⟨_, rfl⟩
                  obtain ⟨m, rfl, hm4, GT⟩ := hrel
                  by_cases hlt4 : m < 4
                  · obtain ⟨lz, qz, n0, n1⟩ := CL4.out m hlt4
                    have n0 := GT.out.cell n0 (by simp)
                    have n1 := GT.out.cell n1 (by simp)
                    obtain ⟨k0, k1, k2⟩ := (CK4.out.row GT.out (by simp)).three
                    obtain ⟨y0, y1⟩ := (CY4.out.row GT.out (by simp)).two
                    have hTt : T < wt.heap.size := World.block_lt_of_cell? wt ⟨T, 0, none⟩ k0
                    have hYt : Y < wt.heap.size := World.block_lt_of_cell? wt ⟨Y, 0, none⟩ y0
                    have H16 := Lib.hid (fun w => between_any pk bk fk ly qy lz qz w)
                    have H17 := Lib.hid (fun w => rbetween_any pk bk fk ly qy lz qz w)
                    generalize btV pk bk fk ly qy lz qz = v1 at *
                    generalize btE pk bk fk ly qy lz qz = v2 at *
                    go_wp2_with fail
                    refine (H16.out _).mono ?_
                    rintro e wa ⟨rfl, hg⟩
                    have GA := Lib.hid (grown_trans (grown_trans GT.out (World.grownBy_alloc _ _ _)) hg)
                    have j0 := hg.cell (a := ⟨wt.heap.size, 0, none⟩) (v := .int .i64 lz) (by go_simp) (by simp)
                    have j1 := hg.cell (a := ⟨wt.heap.size, 1, none⟩) (v := .int .i64 qz) (by go_simp) (by simp)
                    have k0 := hg.cell (a := ⟨T, 0, none⟩) (v := .int .i64 pk) (by go_simp) (by simp)
                    have k1 := hg.cell (a := ⟨T, 1, none⟩) (v := .int .i64 bk) (by go_simp) (by simp)
                    have k2 := hg.cell (a := ⟨T, 2, none⟩) (v := .int .i64 fk) (by go_simp) (by simp)
                    have y0 := hg.cell (a := ⟨Y, 0, none⟩) (v := .int .i64 ly) (by go_simp) (by simp)
                    have y1 := hg.cell (a := ⟨Y, 1, none⟩) (v := .int .i64 qy) (by go_simp) (by simp)
                    clear hg n0 n1
                    go_wp2_with fail
                    refine (H17.out _).mono ?_
                    rintro e wc ⟨rfl, hg⟩
                    have GC := Lib.hid (grown_trans GA.out hg)
                    clear hg k0 k1 k2 y0 y1 j0 j1
                    go_wp2
                    go_roundw
                    case rel => first | exact ⟨m + 1, by go_num, by omega, GC⟩ | ((repeat apply Exists.intro); exact ⟨⟨m + 1, by go_num, by omega, GC⟩, rfl⟩)
                    case measure => simp [intOf]; omega
                  · obtain rfl : m = 4 := by omega
                    have GE := Lib.hid (grown_trans G14.out (grown_weak (some S) GT.out))
                    have SE := Lib.hid (S14.out.grown GT.out)
                    go_wp2
                    go_roundw
                    case rel => first | exact ⟨j + 1, by go_num, by omega, GE, SE⟩ | ((repeat apply Exists.intro); exact ⟨⟨j + 1, by go_num, by omega, GE, SE⟩, rfl⟩)
                    case measure => simp [intOf]; omega
          · obtain rfl : j = 3 := by omega
            obtain ⟨k0, k1, k2⟩ := (CB2.out.row GQ.out (by simp; omega)).three
            have G5q := Lib.hid (grown_trans GB2.out GQ.out)
            go_wp2_with fail
            refine (n_any S 100000 _ SQ.out (by omega) (by omega)).mono ?_
            rintro e w5a ⟨n5, _, rfl, hg, hs⟩
            have C5 := Lib.hid ((CB2.out.row GQ.out (by simp; omega)).row hg (by simp; omega))
            have G5 := Lib.hid (grown_trans G5q.out hg)
            have S5 := Lib.hid hs
            clear hg hs k0 k1 k2
            go_wp2
            have g15 : w5a.grownBy (w5a.alloc (Obj.cells #[.int .i64 P, .int .i64 n5, .int .i64 1099511627776] 3)) none := World.grownBy_alloc _ _ _
            have CL5 : Hid (∀ m, m < 3 → ∃ n, (w5a.alloc (Obj.cells #[.int .i64 P, .int .i64 n5, .int .i64 1099511627776] 3)).cell? ⟨w5a.heap.size, m, none⟩ = some (.int .i64 n)) := fun m hm => by
              match m, hm with
              | 0, _ => exact ⟨P, by go_simp⟩
              | 1, _ => exact ⟨n5, by go_simp⟩
              | 2, _ => exact ⟨1099511627776, by go_simp⟩
            have C5 := Lib.hid (C5.out.row g15 (by simp))
            have G5 := Lib.hid (grown_trans G5.out (grown_weak (some S) g15))
            have S5 := Lib.hid (S5.out.grown g15)
            obtain ⟨L5, hL5⟩ : ∃ L5, L5 = w5a.heap.size := ⟨_, rfl⟩
            rw [← hL5] at CL5 ⊢
            generalize w5a.alloc (Obj.cells #[.int .i64 P, .int .i64 n5, .int .i64 1099511627776] 3) = W15 at *
            clear hL5 g15
            go_loopw [164] (fun s164 wr => ∃ m : Nat, s164 = .int .i64 m ∧ m ≤ 3 ∧ Hid (W15.grownBy wr none)) (fun s _ => 3 - (intOf s).toNat)
            case atStart => exact ⟨0, rfl, by omega, grown_refl _ _⟩
            case round =>
              obtain ⟨wv, rfl⟩ : ∃ wv : World, wv = wr := ⟨_, rfl⟩
              obtain ⟨m, rfl, hm3, GV⟩ := hrel
              by_cases hlt5 : m < 3
              · obtain ⟨n, ln⟩ := CL5.out m hlt5
                have ln := GV.out.cell ln (by simp)
                obtain ⟨k0, k1, k2⟩ := (C5.out.row GV.out (by simp)).three
                have H18 := Lib.hid (fun w => litres_any pk bk fk n w)
                have H19 := Lib.hid (fun w => rlitres_any pk bk fk n w)
                generalize litV pk bk fk n = v1 at *
                generalize litE pk bk fk n = v2 at *
                go_wp2_with fail
                refine (H18.out _).mono ?_
                rintro e wa ⟨rfl, hg⟩
                have GA := Lib.hid (grown_trans GV.out hg)
                have k0 := hg.cell k0 (by simp)
                have k1 := hg.cell k1 (by simp)
                have k2 := hg.cell k2 (by simp)
                clear hg ln
                go_wp2_with fail
                refine (H19.out _).mono ?_
                rintro e wc ⟨rfl, hg⟩
                have GC := Lib.hid (grown_trans GA.out hg)
                clear hg k0 k1 k2
                go_wp2
                go_roundw
                case rel => first | exact ⟨m + 1, by go_num, by omega, GC⟩ | ((repeat apply Exists.intro); exact ⟨⟨m + 1, by go_num, by omega, GC⟩, rfl⟩)
                case measure => simp [intOf]; omega
              · obtain rfl : m = 3 := by omega
                have GE := Lib.hid (grown_trans G5.out (grown_weak (some S) GV.out))
                have SE := Lib.hid (S5.out.grown GV.out)
                go_wp2
                go_roundw
                case rel => first | exact ⟨i + 1, by go_num, by omega, GE, SE⟩ | ((repeat apply Exists.intro); exact ⟨⟨i + 1, by go_num, by omega, GE, SE⟩, rfl⟩)
                case measure => simp [intOf]; omega

      · obtain rfl : i = 3 := by omega
        have GF := Lib.hid (grown_off G9.out GP.out hwS)
        go_wp2_with fail
        refine (awake_any _).mono ?_
        rintro e wz ⟨rfl, hg⟩
        have GZ := Lib.hid (grown_trans GF.out hg)
        clear hg
        go_wp2
        go_ret
        exact ⟨rfl, grown_below GZ.out⟩
end Go.Proofs.Ytilchmlbihffdaa
