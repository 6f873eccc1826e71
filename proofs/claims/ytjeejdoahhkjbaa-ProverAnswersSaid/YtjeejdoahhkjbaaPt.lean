/- The walk of ProverAnswers. -/
import Derived.Test.YtjeejdoahhkjbaaPr
import Derived.Laws.AppendOwnNone
namespace Go.Proofs.Ytjeejdoahhkjbaa
open Go.ChangeShapes Go.WideShapes Go.ChangeAt Go.RowKit

/-- A value that reads as a slice of numbers. -/
def Fv (w : World) (val : Value) : Prop := ∃ (a : Option Addr) (n cap b off : Nat) (x : Nat → Int), val = .slice a n cap ∧ n ≤ cap ∧ cap ≤ 9223372036854775807 ∧ n ≤ 4611686018427387904 ∧ (0 < n → a = some ⟨b, off, none⟩) ∧ Rw w b off n x
theorem Fv.grown {w w' : World} {val : Value} (h : Fv w val) (hg : w.grownBy w' none) : Fv w' val := by
  obtain ⟨a, n, cap, b, off, x, h1, h2, h3, h4, h5, h6⟩ := h
  exact ⟨a, n, cap, b, off, x, h1, h2, h3, h4, h5, h6.grown hg (by simp)⟩
theorem Fv.row {w w' : World} {val : Value} {S : Nat} (h : Fv w val) (hg : w.grownBy w' (some S)) (hb : ∀ a n cap, val = .slice a n cap → 0 < n → ∀ b off, a = some ⟨b, off, none⟩ → b ≠ S) : Fv w' val := by
  obtain ⟨a, n, cap, b, off, x, h1, h2, h3, h4, h5, h6⟩ := h
  exact ⟨a, n, cap, b, off, x, h1, h2, h3, h4, h5, fun i hi => hg.cell (h6 i hi) (by have := hb a n cap h1 (by omega) b off (h5 (by omega)); simp; exact this)⟩
theorem own_fv {w : World} {base m : Nat} {v : Value} {x : Nat → Int} (h : w.ownsRow base 3 1 v m (vals x m)) (hm : m ≤ 4611686018427387904) : Fv w v := by
  obtain ⟨a, cap, g, rfl, h1, h2, h3, h4, _⟩ := own_sl h
  exact ⟨a, m, cap, g, 0, x, rfl, h1, h2, hm, fun h => (h3 h).1, h4⟩

theorem grown_drew2 {a b : World} {row : Option Nat} (h : a.grownBy b row) : a.grownBy b.drew row := ⟨h.os, h.tape, h.output, h.size, h.block⟩
theorem lit3 {W : World} {B : Nat} {x y z : Int} (h0 : W.cell? ⟨B, 0, none⟩ = some (.int .i64 x)) (h1 : W.cell? ⟨B, 1, none⟩ = some (.int .i64 y)) (h2 : W.cell? ⟨B, 2, none⟩ = some (.int .i64 z)) : ∀ i, i < 3 → W.cell? ⟨B, 0 + i, none⟩ = some (.int .i64 ([x, y, z].getD i 0)) := fun i hi => by
  match i, hi with
  | 0, _ => exact h0
  | 1, _ => exact h1
  | 2, _ => exact h2
def PickEnd (S : Nat) (w : World) (e : Ending) (w' : World) : Prop := ∃ r : Int, e = .returned (.int .i64 r) ∧ w.grownBy w' (some S) ∧ SrcOK w' S
theorem pick3 (S B : Nat) (x y z : Int) (W : World) (hs : SrcOK W S) (hb : B ≠ S) (hc : ∀ i, i < 3 → W.cell? ⟨B, 0 + i, none⟩ = some (.int .i64 ([x, y, z].getD i 0))) :
    Calls Try.prog 12 #[.pointer (some ⟨S, 0, none⟩), .slice (some ⟨B, 0, none⟩) 3 3] W (PickEnd S W) := by
  refine (pick_any S B 0 3 3 [x, y, z] W hs hb rfl (by omega) (by omega) hc).mono ?_
  rintro e w1 ⟨r, _, rfl, hg, hs1⟩
  exact ⟨r, rfl, hg, hs1⟩

/-- append of a row that can be read to one of the call's own. -/
theorem wpList_app_row {w : World} {ops : Array Oper} {rest : List Oper} {o : Oper} {a : Act} {Q : Exit → Act → World → Prop} (hgd : o.guard = none) (s x : Operand)
    (ho : o.op = .call { callee := .builtin .append, args := #[s, x], argTypes := #[26, 26] }) (base : Nat) (v : Value) (n : Nat) (xs : List Value) (hs : a.eval s = v) (hown : w.ownsRow base 3 1 v n xs)
    (base2 : Nat) (u : Value) (m : Nat) (y : Nat → Int) (hx : a.eval x = u) (hsrc : w.ownsRow base2 3 1 u m (vals y m)) (hb : n + m ≤ 1000000) (hbase : base ≤ w.heap.size)
    (h : ∀ v' w', w'.ownsRow base 3 1 v' (n + m) (xs ++ vals y m) → w.grownBy w' v.ownBlock → wpList Try.prog ops Q rest (a.put o.dst v') w') : wpList Try.prog ops Q (o :: rest) a w := by
  obtain ⟨i0, hi0, hz0, hz1, hz2⟩ := info_parts3
  have hc := hsrc
  rcases hsrc.2 with ⟨rfl, rfl⟩ | ⟨g, cap, cur, rfl, _, _, _, _, _⟩
  · exact wpList_append_own_none hgd s x 26 ho base 3 i0 1 Try.underlying26 hi0 v n xs hs hown hx (h v w (by simpa [vals] using hown) (grown_refl _ _))
  · refine wpList_append_own w hgd s x 26 ho base 3 i0 (.int .i64 0) 1 8 Try.underlying26 hi0 hz0 hz1 hz2 rfl (by decide) v n xs hs hown ⟨g, 0, none⟩ m cap (vals y m) hx (by rw [vals_len]; omega) (fun j z hj => ?_) (fun z hz => ?_) (by unfold maxLen; omega) (by omega) hbase fun v' w' h1 h2 _ => h v' w' h1 h2
    · have hjm : j < m := by
        by_cases e : j < m
        · exact e
        · rw [List.getElem?_eq_none (by rw [vals_len]; omega)] at hj; cases hj
      rw [addr_add _ g 0 rfl j, Nat.zero_add, own_cells hc j hjm]
      rw [vals_get y m j hjm] at hj
      exact hj
    · obtain ⟨k, _, rfl⟩ := List.mem_map.1 hz
      rfl

theorem app_skip {w0 w4 w' : World} {v : Value} {S base : Nat} (h : w0.grownBy w4 (some S)) (h5 : w4.grownBy w' v.ownBlock) (lt : ∀ k, v.ownBlock = some k → base ≤ k) (hb : w0.heap.size ≤ base) : w0.grownBy w' (some S) := by
  cases hv : v.ownBlock with
  | none => rw [hv] at h5; exact grown_trans h (grown_weak _ h5)
  | some q => rw [hv] at h5; exact grown_skip h h5 (by have := lt q hv; omega)
theorem app_none {w0 w4 w' : World} {v : Value} {base : Nat} (h : w0.grownBy w4 none) (h5 : w4.grownBy w' v.ownBlock) (lt : ∀ k, v.ownBlock = some k → base ≤ k) (hb : w0.heap.size ≤ base) : w0.grownBy w' none := by
  cases hv : v.ownBlock with
  | none => rw [hv] at h5; exact grown_trans h h5
  | some q => rw [hv] at h5; exact grown_off h h5 (by have := lt q hv; omega)
theorem app_far {v : Value} {B base : Nat} (lt : ∀ k, v.ownBlock = some k → base ≤ k) (hB : B < base) : some B ≠ v.ownBlock := fun e => by have := lt B e.symm; omega

theorem zeros_fv {w : World} {base g : Nat} (h : w.ownsRow base 3 1 (.slice (some ⟨g, 0, none⟩) 21 21) 21 (madeCells (Value.int .i64 0).cells (21 * 1)).toList) : Fv w (.slice (some ⟨g, 0, none⟩) 21 21) := by
  refine ⟨_, 21, 21, g, 0, fun _ => 0, rfl, by omega, by omega, by omega, fun _ => rfl, fun i hi => ?_⟩
  rw [Nat.zero_add, h.cellAt i (by omega)]
  simp only [Value.cells]
  rw [toList_madeCells_one, List.getElem?_replicate, if_pos (by omega)]

set_option maxRecDepth 20000 in
set_option maxHeartbeats 4000000 in
theorem answers_walk (v0 t0 p0 b0 f0 : Int) (a1 : Option Addr) (len1 cap1 : Nat) (zs1 : List Int) (a : Option Addr) (len cap : Nat) (zs : List Int) (w : World) (hi1 : InRow w a1 len1 cap1 zs1) (hi : InRow w a len cap zs) :
    Calls Try.prog 3 #[pv v0 t0, mv p0 b0 f0, .slice a1 len1 cap1, .slice a len cap] w fun e w' => e = .returned (.bool true) ∧ Below w.heap.size w w' := by
  obtain ⟨i0, hi0, hz0, hz1, hz2⟩ := info_parts3
  have HI := Lib.hid hi
  have HI1 := Lib.hid hi1
  have hlc := hi1
  obtain ⟨_, _, _, _, hc1, hc2, _⟩ := hlc
  clear hi hi1
  unfold pv mv
  by_cases h100 : 100 < len1
  · go_enter Try.func3, Try.ntmps3
    go_wp2_with fail
    refine (awake_any _).mono ?_
    rintro e w6 ⟨rfl, hg⟩
    have G := Lib.hid (grown_trans (two_grown w (Obj.cells #[.int .i64 v0, .int .i64 t0] 23) (Obj.cells #[.int .i64 p0, .int .i64 b0, .int .i64 f0] 25)) hg)
    clear hg
    go_wp2
    go_ret
    exact ⟨rfl, grown_below G.out⟩
  go_enter Try.func3, Try.ntmps3
  go_wp2_with fail
  have A0 : Hid (Cells ((w.alloc (Obj.cells #[.int .i64 v0, .int .i64 t0] 23)).alloc (Obj.cells #[.int .i64 p0, .int .i64 b0, .int .i64 f0] 25)) w.heap.size [v0, t0]) := Cells.mk2 (by go_simp) (by go_simp)
  have A1 : Hid (Cells ((w.alloc (Obj.cells #[.int .i64 v0, .int .i64 t0] 23)).alloc (Obj.cells #[.int .i64 p0, .int .i64 b0, .int .i64 f0] 25)) (w.heap.size + 1) [p0, b0, f0]) := Cells.mk3 (by go_simp) (by go_simp) (by go_simp)
  have GX := Lib.hid (two_grown w (Obj.cells #[.int .i64 v0, .int .i64 t0] 23) (Obj.cells #[.int .i64 p0, .int .i64 b0, .int .i64 f0] 25))
  have LX : w.heap.size + 1 < ((w.alloc (Obj.cells #[.int .i64 v0, .int .i64 t0] 23)).alloc (Obj.cells #[.int .i64 p0, .int .i64 b0, .int .i64 f0] 25)).heap.size := by simp
  have HI := Lib.hid (HI.out.grown GX.out)
  have HI1 := Lib.hid (HI1.out.grown GX.out)
  generalize (w.alloc (Obj.cells #[.int .i64 v0, .int .i64 t0] 23)).alloc (Obj.cells #[.int .i64 p0, .int .i64 b0, .int .i64 f0] 25) = WX at *
  refine (new_any a len cap zs WX HI.out).mono ?_
  rintro e w1 ⟨rfl, hg, hs, hlt⟩
  obtain ⟨S, hS⟩ : ∃ S, S = WX.heap.size := ⟨_, rfl⟩
  have FB : Hid (∀ w', WX.grownBy w' (some S) → Fv w' (.slice a1 len1 cap1)) := fun w' hg => by
    obtain ⟨b, off, h1, h2, h3, h4, h5, h6, _⟩ := HI1.out
    exact ⟨a1, len1, cap1, b, off, fun i => zs1.getD i 0, rfl, h3, h4, by omega, h5, fun i hi => hg.cell (h6 i hi) (by have := h1 (by omega); simp; omega)⟩
  rw [← hS] at hs hlt LX ⊢
  have G := Lib.hid (grown_trans GX.out hg)
  have GS := Lib.hid (show WX.grownBy w1 (some S) from grown_weak _ hg)
  have HS := Lib.hid hs
  have A0 := Lib.hid (A0.out.row hg (by simp))
  have A1 := Lib.hid (A1.out.row hg (by simp))
  have hwS : w.heap.size ≤ S := by omega
  have HSX := Lib.hid hS
  clear hg hs GX HI HI1 hS
  go_wp2_with fail
  refine (made_any S w1 HS.out).mono ?_
  rintro e w2 ⟨v, t, hv, rfl, hg, hs⟩
  have V := Lib.hid hv
  have G := Lib.hid (show w.grownBy w2 none from grown_off G.out hg hwS)
  have GS := Lib.hid (grown_trans GS.out hg)
  have HS := Lib.hid hs
  have A0 := Lib.hid (A0.out.row hg (by intro e; injection e; omega))
  have A1 := Lib.hid (A1.out.row hg (by intro e; injection e; omega))
  clear hg hs hv hlt
  unfold pv
  go_wp2_with fail
  refine (meter_any S w2 HS.out).mono ?_
  rintro e w3 ⟨p, b, f, hm, rfl, hg, hs⟩
  have M := Lib.hid hm
  have hlt3 : S < w3.heap.size := src_lt hs
  have G := Lib.hid (show w.grownBy w3 none from grown_off G.out hg hwS)
  have GS := Lib.hid (grown_trans GS.out hg)
  have HS := Lib.hid hs
  have A0 := Lib.hid (A0.out.row hg (by intro e; injection e; omega))
  have A1 := Lib.hid (A1.out.row hg (by intro e; injection e; omega))
  clear hg hs hm
  unfold mv
  go_upto_region 6 with fail
  have A2 : Hid (Cells (((w3.alloc (Obj.cells #[.int .i64 v, .int .i64 t] 23)).alloc (Obj.cells #[.int .i64 p, .int .i64 b, .int .i64 f] 25)).alloc (Obj.cells #[.int .i64 v, .int .i64 t] 23)) w3.heap.size [v, t]) := Cells.mk2 (by go_simp) (by go_simp)
  have A3 : Hid (Cells (((w3.alloc (Obj.cells #[.int .i64 v, .int .i64 t] 23)).alloc (Obj.cells #[.int .i64 p, .int .i64 b, .int .i64 f] 25)).alloc (Obj.cells #[.int .i64 v, .int .i64 t] 23)) (w3.heap.size + 1) [p, b, f]) := Cells.mk3 (by go_simp) (by go_simp) (by go_simp)
  have A4 : Hid (Cells (((w3.alloc (Obj.cells #[.int .i64 v, .int .i64 t] 23)).alloc (Obj.cells #[.int .i64 p, .int .i64 b, .int .i64 f] 25)).alloc (Obj.cells #[.int .i64 v, .int .i64 t] 23)) (w3.heap.size + 1 + 1) [v, t]) := Cells.mk2 (by go_simp) (by go_simp)
  have F4 : Hid (∀ j, (((w3.alloc (Obj.cells #[.int .i64 v, .int .i64 t] 23)).alloc (Obj.cells #[.int .i64 p, .int .i64 b, .int .i64 f] 25)).alloc (Obj.cells #[.int .i64 v, .int .i64 t] 23)).frozen? ⟨w3.heap.size + 1 + 1, j, none⟩ = false) := fun j => by go_simp
  have GX := Lib.hid (start_grown w3 (Obj.cells #[.int .i64 v, .int .i64 t] 23) (Obj.cells #[.int .i64 p, .int .i64 b, .int .i64 f] 25) (Obj.cells #[.int .i64 v, .int .i64 t] 23))
  have LX : (((w3.alloc (Obj.cells #[.int .i64 v, .int .i64 t] 23)).alloc (Obj.cells #[.int .i64 p, .int .i64 b, .int .i64 f] 25)).alloc (Obj.cells #[.int .i64 v, .int .i64 t] 23)).heap.size = w3.heap.size + 1 + 1 + 1 := by simp
  have A0 := Lib.hid (A0.out.row GX.out (by simp))
  have A1 := Lib.hid (A1.out.row GX.out (by simp))
  have G := Lib.hid (grown_trans G.out GX.out)
  have GS := Lib.hid (grown_trans GS.out (grown_weak _ GX.out))
  have HS := Lib.hid (HS.out.grown GX.out)
  generalize (((w3.alloc (Obj.cells #[.int .i64 v, .int .i64 t] 23)).alloc (Obj.cells #[.int .i64 p, .int .i64 b, .int .i64 f] 25)).alloc (Obj.cells #[.int .i64 v, .int .i64 t] 23)) = W6 at *
  have hX0 : w.heap.size + 1 < w3.heap.size := by omega
  generalize w3.heap.size = X at *
  clear GX
  obtain ⟨k0, k1⟩ := A2.out.two
  have a20 := A4.out.two.1
  have a21 := A4.out.two.2
  have HX := Lib.hid (show S < X ∧ W6.heap.size = X + 1 + 1 + 1 from ⟨hlt3, LX⟩)
  go_cut [] (fun wx => ∃ vo uo : Int, Hid (Cells wx (X + 1 + 1) [vo, uo]) ∧ Hid (Cells wx X [v, t]) ∧ Hid (Cells wx (X + 1) [p, b, f]) ∧ Hid (Cells wx w.heap.size [v0, t0]) ∧ Hid (Cells wx (w.heap.size + 1) [p0, b0, f0]) ∧ Hid (SrcOK wx S) ∧ Hid (w.grownBy wx none) ∧ Hid (WX.grownBy wx (some S)) ∧ Hid (X + 1 + 1 < wx.heap.size))
  case first =>
    go_region_held3 (fun w' => w'.cell? ⟨X, 0, none⟩ = some (.int .i64 v) ∧ w'.cell? ⟨X, 1, none⟩ = some (.int .i64 t))
      (first | go_keep | exact ⟨hga.out.cell k0 (by simp; omega), hga.out.cell k1 (by simp; omega)⟩ | exact ⟨kb0, kb1⟩ | exact ⟨(World.cell?_setCell_other _ _ _ _ (by simp)).trans kb0, (World.cell?_setCell_other _ _ _ _ (by simp)).trans kb1⟩ | exact ⟨(World.cell?_setCell_other _ _ _ _ (by simp)).trans ((World.cell?_setCell_other _ _ _ _ (by simp)).trans kb0), (World.cell?_setCell_other _ _ _ _ (by simp)).trans ((World.cell?_setCell_other _ _ _ _ (by simp)).trans kb1)⟩ | fail)
      (first
        | (go_at_call 12; refine (pick3 S _ v 0 100001 _ (HS.out.grown (by first | exact grown_drew2 (World.grownBy_alloc _ _ _) | exact grown_drew2 (two_grown _ _ _))) (by simp; omega) (lit3 (by go_simp) (by go_simp) (by go_simp))).mono ?_; rintro e wa ⟨r1, rfl, hg, hsa⟩; have hlta := src_lt hsa; have hga : Hid (W6.grownBy wa (some S)) := grown_trans (by first | exact grown_drew2 (World.grownBy_alloc _ _ _) | exact grown_drew2 (grown_weak _ (two_grown _ _ _))) hg; have hsa := Lib.hid hsa)
        | (go_at_call 12; refine (pick3 S _ t (-1) 10001 _ (by first | exact hsa.out | exact hsa.out.grown (World.grownBy_alloc _ _ _)) (by simp; omega) (lit3 (by first | (go_simp; done) | exact hg.cell (by go_simp) (by simp; omega)) (by first | (go_simp; done) | exact hg.cell (by go_simp) (by simp; omega)) (by first | (go_simp; done) | exact hg.cell (by go_simp) (by simp; omega)))).mono ?_; rintro e wb ⟨r2, rfl, hgb, hsb⟩; have hgb : Hid (W6.grownBy wb (some S)) := grown_trans hga.out (by first | exact hgb | exact grown_trans (World.grownBy_alloc _ _ _) hgb); have hsb := Lib.hid hsb; have kb0 := hgb.out.cell k0 (by simp; omega); have kb1 := hgb.out.cell k1 (by simp; omega); have d0 := hgb.out.cell a20 (by simp; omega); have d1 := hgb.out.cell a21 (by simp; omega); have z0 := grown_frozen hgb.out a20 (F4.out 0) (by simp; omega); have z1 := grown_frozen hgb.out a21 (F4.out 1) (by simp; omega))
        | fail)
    all_goals
      go_wp2_with fail
      go_meet
      have E1 := stored2 wb (X + 1 + 1) (.int .i64 r1) (.int .i64 r2) d0 d1
      have gg : wb.grownBy ((wb.setCell ⟨X + 1 + 1, 0, none⟩ (.int .i64 r1)).setCell ⟨X + 1 + 1, 1, none⟩ (.int .i64 r2)) (some (X + 1 + 1)) := grown_trans (grown_set wb ⟨X + 1 + 1, 0, none⟩ _) (grown_set _ ⟨X + 1 + 1, 1, none⟩ _)
      have hx := HX.out
      exact ⟨r1, r2, Cells.mk2 E1.1 E1.2, (A2.out.row hgb.out (by intro e; injection e; omega)).row gg (by intro e; injection e; omega), (A3.out.row hgb.out (by intro e; injection e; omega)).row gg (by intro e; injection e; omega), (A0.out.row hgb.out (by intro e; injection e; omega)).row gg (by intro e; injection e; omega), (A1.out.row hgb.out (by intro e; injection e; omega)).row gg (by intro e; injection e; omega),
        hsb.out.grownRow gg (fun k e => by cases e; omega), grown_off (grown_off G.out hgb.out hwS) gg (by omega), grown_skip (grown_trans GS.out hgb.out) gg (by have := HSX.out; omega), (by have := hgb.out.size; have := gg.size; show X + 1 + 1 < _; omega)⟩
  case rest =>
    obtain ⟨vo, uo, A4, A2, A3, A0, A1, HS, G, GS, HL⟩ := hcut
    obtain ⟨k0, k1⟩ := A2.out.two
    obtain ⟨m0, m1, m2⟩ := A3.out.three
    have hSX : S < X := HX.out.1
    have hLc := HL.out
    clear a20 a21 F4 LX HX hlt3
    have HR := Lib.hid (runs_any S v t p b f wc HS.out V.out M.out)
    unfold pv mv at HR
    go_wp2_with fail
    refine (HR.out).mono ?_
    rintro e w7 ⟨vs, m, x, rfl, hown, hx, hm11, hg, hs⟩
    have hSc := src_lt HS.out
    have A0 := Lib.hid (A0.out.row hg (by intro e; injection e; omega))
    have A1 := Lib.hid (A1.out.row hg (by intro e; injection e; omega))
    have A2 := Lib.hid (A2.out.row hg (by intro e; injection e; omega))
    have A3 := Lib.hid (A3.out.row hg (by intro e; injection e; omega))
    have A4 := Lib.hid (A4.out.row hg (by intro e; injection e; omega))
    have O7 := Lib.hid hown
    have HX := Lib.hid hx
    have HS := Lib.hid hs
    have G := Lib.hid (grown_off G.out hg hwS)
    have GS := Lib.hid (grown_trans GS.out hg)
    have hL7 : wc.heap.size ≤ w7.heap.size := hg.size
    clear hg hs hown hx k0 k1 m0 m1 m2 HR
    obtain ⟨a7, cap7, g7, rfl, _⟩ := own_sl O7.out
    have hO8 : Hid ((w7.alloc (Obj.cells #[] 3)).ownsRow w7.heap.size 3 1 (.slice (some ⟨w7.heap.size, 0, none⟩) 0 0) 0 []) := World.ownsRow_made w7 #[] 0 (Nat.le_refl _) (by unfold maxLen; omega) rfl
    go_wp2_with (first
      | (at_builtin; refine wpList_app_row rfl (.tmp 54) (.tmp 55) rfl w7.heap.size _ 0 [] rfl hO8.out wc.heap.size _ m x rfl (own_grown O7.out (World.grownBy_alloc _ _ _)) (by omega) (by simp) ?_; intro v8 w8 hown8 hg8; have O8 := Lib.hid hown8; have G8 := Lib.hid hg8; clear hown8 hg8)
      | fail)
    have g78 : w7.grownBy w8 none := grown_off (World.grownBy_alloc _ (Obj.cells #[] 3) none) G8.out (Nat.le_refl _)
    have A0 := Lib.hid (A0.out.row g78 (by simp))
    have A1 := Lib.hid (A1.out.row g78 (by simp))
    have A2 := Lib.hid (A2.out.row g78 (by simp))
    have A3 := Lib.hid (A3.out.row g78 (by simp))
    have A4 := Lib.hid (A4.out.row g78 (by simp))
    have LT7 := Lib.hid O7.out.lt
    have O7 := Lib.hid (own_grown O7.out g78)
    have HS := Lib.hid (HS.out.grown g78)
    have G := Lib.hid (grown_trans G.out g78)
    have GS := Lib.hid (grown_trans GS.out (grown_weak _ g78))
    have hL8 : w7.heap.size ≤ w8.heap.size := g78.size
    rw [List.nil_append, Nat.zero_add] at O8
    clear hO8 G8 g78
    refine Calls.mono (pick_lit S 5 w8.heap.size [0, 1, 1073741824, 1073741825, -5] #[.int .i64 0, .int .i64 1, .int .i64 1073741824, .int .i64 1073741825, .int .i64 (-5)] w8 rfl HS.out rfl (by omega) (by omega) ?_) ?_
    · intro i hi
      match i, hi with
      | 0, _ => rfl
      | 1, _ => rfl
      | 2, _ => rfl
      | 3, _ => rfl
      | 4, _ => rfl
    rintro e w9 ⟨c, _, rfl, hg, hs⟩
    have A0 := Lib.hid (A0.out.row hg (by intro e; injection e; omega))
    have A1 := Lib.hid (A1.out.row hg (by intro e; injection e; omega))
    have A2 := Lib.hid (A2.out.row hg (by intro e; injection e; omega))
    have A3 := Lib.hid (A3.out.row hg (by intro e; injection e; omega))
    have A4 := Lib.hid (A4.out.row hg (by intro e; injection e; omega))
    have O7 := Lib.hid (own_kept O7.out hSc hg)
    have O8 := Lib.hid (own_kept O8.out (by omega) hg)
    have G := Lib.hid (grown_off G.out hg hwS)
    have GS := Lib.hid (grown_trans GS.out hg)
    have hL9 : w8.heap.size ≤ w9.heap.size := hg.size
    clear hg hs HS
    go_upto_region 9 with (first
      | (at_builtin; refine wpList_append_own _ rfl (.tmp 56) (.tmp 60) 26 rfl w7.heap.size 3 i0 (.int .i64 0) 1 8 Try.underlying26 hi0 hz0 hz1 hz2 rfl (by decide) _ m _ rfl (own_grown O8.out (World.grownBy_alloc _ _ _)) ⟨w9.heap.size, 0, none⟩ 1 1 [.int .i64 c] rfl rfl (cell_one_new _ _ _) (by intro u hu; simp at hu; subst hu; rfl) (by unfold maxLen; omega) (by omega) (by simp; omega) ?_; intro v10 w10 hown10 hg10 _; have O10 := Lib.hid hown10; have G10 := Lib.hid hg10; clear hown10 hg10)
      | fail)
    have lt8 : ∀ k, v8.ownBlock = some k → w7.heap.size ≤ k := fun k hk => (O8.out.lt k hk).1
    have A0 := Lib.hid ((A0.out.row (World.grownBy_alloc w9 _ none) (by simp)).row G10.out (app_far lt8 (by omega)))
    have A1 := Lib.hid ((A1.out.row (World.grownBy_alloc w9 _ none) (by simp)).row G10.out (app_far lt8 (by omega)))
    have A2 := Lib.hid ((A2.out.row (World.grownBy_alloc w9 _ none) (by simp)).row G10.out (app_far lt8 (by omega)))
    have A3 := Lib.hid ((A3.out.row (World.grownBy_alloc w9 _ none) (by simp)).row G10.out (app_far lt8 (by omega)))
    have A4 := Lib.hid ((A4.out.row (World.grownBy_alloc w9 _ none) (by simp)).row G10.out (app_far lt8 (by omega)))
    have O7 := Lib.hid ((own_grown O7.out (World.grownBy_alloc w9 _ none)).kept G10.out (by
      cases e7 : (Value.slice a7 m cap7).ownBlock with
      | none => exact .inl rfl
      | some k => exact .inr (app_far lt8 (LT7.out k e7).2)))
    have G := Lib.hid (app_none (grown_trans G.out (World.grownBy_alloc w9 _ none)) G10.out lt8 (by have := G.out.size; omega))
    have GS := Lib.hid (app_skip (grown_trans GS.out (World.grownBy_alloc w9 _ (some S))) G10.out lt8 (by have := HSX.out; omega))
    have F1 := Lib.hid (FB.out w10 GS.out)
    have F2 := Lib.hid (own_fv O7.out (by omega))
    have F3 := Lib.hid (own_fv (x := setF x m c) (by rw [vals_snoc]; exact O10.out) (by omega))
    obtain ⟨a10, cap10, g10, rfl, _, _, ha10, _⟩ := own_sl (x := setF x m c) (by rw [vals_snoc]; exact O10.out)
    obtain ⟨rfl, _⟩ := ha10 (by omega)
    clear ha10
    have hL10 : w9.heap.size < w10.heap.size := by have := G10.out.size; simp at this; omega
    clear O7 O8 O10 G10 LT7 lt8 FB GS HX
    have a0 := A0.out.two
    have a2 := A2.out.two
    have a4 := A4.out.two
    obtain ⟨a00, a01⟩ := a0
    obtain ⟨a20, a21⟩ := a2
    obtain ⟨a40, a41⟩ := a4
    go_wp2
    have g11 : w10.grownBy (w10.alloc (Obj.cells #[.int .i64 v0, .int .i64 t0, .int .i64 v, .int .i64 t, .int .i64 vo, .int .i64 uo] 23)) none := World.grownBy_alloc _ _ _
    have CL1 : Hid (∀ j, j < 3 → ∃ vj tj, (w10.alloc (Obj.cells #[.int .i64 v0, .int .i64 t0, .int .i64 v, .int .i64 t, .int .i64 vo, .int .i64 uo] 23)).cell? ⟨w10.heap.size, j * 2, none⟩ = some (.int .i64 vj) ∧ (w10.alloc (Obj.cells #[.int .i64 v0, .int .i64 t0, .int .i64 v, .int .i64 t, .int .i64 vo, .int .i64 uo] 23)).cell? ⟨w10.heap.size, j * 2 + 1, none⟩ = some (.int .i64 tj)) := fun j hj => by
      match j, hj with
      | 0, _ => exact ⟨v0, t0, by go_simp, by go_simp⟩
      | 1, _ => exact ⟨v, t, by go_simp, by go_simp⟩
      | 2, _ => exact ⟨vo, uo, by go_simp, by go_simp⟩
    have A1 := Lib.hid (A1.out.row g11 (by simp))
    have A3 := Lib.hid (A3.out.row g11 (by simp))
    have F1 := Lib.hid (F1.out.grown g11)
    have F2 := Lib.hid (F2.out.grown g11)
    have F3 := Lib.hid (F3.out.grown g11)
    have G := Lib.hid (grown_trans G.out g11)
    obtain ⟨L1, hL1⟩ : ∃ L1, L1 = w10.heap.size := ⟨_, rfl⟩
    rw [← hL1] at CL1 ⊢
    generalize w10.alloc (Obj.cells #[.int .i64 v0, .int .i64 t0, .int .i64 v, .int .i64 t, .int .i64 vo, .int .i64 uo] 23) = W11 at *
    clear a00 a01 a20 a21 a40 a41 g11 A0 A2 A4 hL1 hL7 hL8 hL9 hL10 hSc hSX hLc HL HS M V
    go_loopw [67] (fun s67 wr => ∃ i : Nat, s67 = .int .i64 i ∧ i ≤ 3 ∧ Hid (W11.grownBy wr none)) (fun s _ => 3 - (intOf s).toNat)
    case atStart => exact ⟨0, rfl, by omega, grown_refl _ _⟩
    case round =>
      obtain ⟨wp, rfl⟩ : ∃ wp : World, wp = wr := ⟨_, rfl⟩
      obtain ⟨i, rfl, hi3, GP⟩ := hrel
      by_cases hlt : i < 3
      · obtain ⟨vj, tj, l0, l1⟩ := CL1.out i hlt
        have l0 := GP.out.cell l0 (by simp)
        have l1 := GP.out.cell l1 (by simp)
        go_wp2_with fail
        have k0 : (wp.alloc (Obj.cells #[.int .i64 vj, .int .i64 tj] 23)).cell? ⟨wp.heap.size, 0, none⟩ = some (.int .i64 vj) := by go_simp
        have k1 : (wp.alloc (Obj.cells #[.int .i64 vj, .int .i64 tj] 23)).cell? ⟨wp.heap.size, 1, none⟩ = some (.int .i64 tj) := by go_simp
        have GK := Lib.hid (grown_trans GP.out (World.grownBy_alloc wp (Obj.cells #[.int .i64 vj, .int .i64 tj] 23) none))
        generalize wp.alloc (Obj.cells #[.int .i64 vj, .int .i64 tj] 23) = wk at *
        obtain ⟨T, hT⟩ : ∃ T, T = wp.heap.size := ⟨_, rfl⟩
        rw [← hT] at k0 k1 ⊢
        clear hT l0 l1
        have HK := Lib.hid (show ∀ w', wk.grownBy w' none → w'.cell? ⟨T, 0, none⟩ = some (.int .i64 vj) ∧ w'.cell? ⟨T, 1, none⟩ = some (.int .i64 tj) from fun w' hg => ⟨hg.cell k0 (by simp), hg.cell k1 (by simp)⟩)
        have H12 := Lib.hid (fun w => pValid_any vj tj w)
        have H13 := Lib.hid (fun w => rValid_any vj tj w)
        unfold pv at H12 H13
        generalize Pm.pvalid vj tj = vv at *
        go_region_held3 (fun w' => w'.cell? ⟨T, 0, none⟩ = some (.int .i64 vj) ∧ w'.cell? ⟨T, 1, none⟩ = some (.int .i64 tj))
          (first | go_keep | exact HK.out _ hgb.out | exact HK.out _ hga.out | fail)
          (first
            | (go_at_call 14; refine (H12.out _).mono ?_; rintro e wa ⟨rfl, hg⟩; have hga : Hid (wk.grownBy wa none) := grown_trans (show wk.grownBy wk.drew none from grown_drewN wk 1 none) hg; clear hg)
            | (go_at_call 15; refine (H13.out _).mono ?_; rintro e wb ⟨rfl, hg⟩; have hgb : Hid (wk.grownBy wb none) := grown_trans hga.out hg; clear hg)
            | fail)
        have GB := Lib.hid (grown_trans GK.out hgb.out)
        obtain ⟨k0, k1⟩ := HK.out _ hgb.out
        clear HK H12 H13 hga hgb GK
        go_wp2_with (first
          | (at_make; refine wpList_make_full _ rfl _ _ 26 rfl wb.heap.size 3 i0 (.int .i64 0) 1 Try.underlying26 hi0 hz0 hz1 .i64 .i64 21 21 21 rfl rfl rfl rfl (by rw [hz2]; omega) (by unfold maxLen; omega) (Nat.le_refl _) ?_; intro wm hownm hgm; have OM := Lib.hid hownm; have GM := Lib.hid hgm; clear hownm hgm)
          | fail)
        have GBm := Lib.hid (grown_trans GB.out GM.out)
        have gl : wm.grownBy (wm.alloc (Obj.cells #[.slice a1 len1 cap1, .slice a7 m cap7, .slice (some ⟨g10, 0, none⟩) (m + 1) cap10, .slice (some ⟨wb.heap.size, 0, none⟩) 21 21] 26)) none := World.grownBy_alloc _ _ _
        have CL2 : Hid (∀ j, j < 4 → ∃ val, (wm.alloc (Obj.cells #[.slice a1 len1 cap1, .slice a7 m cap7, .slice (some ⟨g10, 0, none⟩) (m + 1) cap10, .slice (some ⟨wb.heap.size, 0, none⟩) 21 21] 26)).cell? ⟨wm.heap.size, j, none⟩ = some val ∧ Fv (wm.alloc (Obj.cells #[.slice a1 len1 cap1, .slice a7 m cap7, .slice (some ⟨g10, 0, none⟩) (m + 1) cap10, .slice (some ⟨wb.heap.size, 0, none⟩) 21 21] 26)) val) := fun j hj => by
          match j, hj with
          | 0, _ => exact ⟨_, by go_simp, (F1.out.grown GBm.out).grown gl⟩
          | 1, _ => exact ⟨_, by go_simp, (F2.out.grown GBm.out).grown gl⟩
          | 2, _ => exact ⟨_, by go_simp, (F3.out.grown GBm.out).grown gl⟩
          | 3, _ => exact ⟨_, by go_simp, (zeros_fv OM.out).grown gl⟩
        have k0 := gl.cell (GM.out.cell k0 (by simp)) (by simp)
        have k1 := gl.cell (GM.out.cell k1 (by simp)) (by simp)
        have GL := Lib.hid (grown_trans GBm.out gl)
        have CK := Lib.hid (Cells.mk2 k0 k1)
        obtain ⟨L2, hL2⟩ : ∃ L2, L2 = wm.heap.size := ⟨_, rfl⟩
        rw [← hL2] at CL2 ⊢
        generalize wm.alloc (Obj.cells #[.slice a1 len1 cap1, .slice a7 m cap7, .slice (some ⟨g10, 0, none⟩) (m + 1) cap10, .slice (some ⟨wb.heap.size, 0, none⟩) 21 21] 26) = W12 at *
        clear gl k0 k1 hL2 OM GM GBm GB
        go_loopw [82] (fun s82 wr => ∃ j : Nat, s82 = .int .i64 j ∧ j ≤ 4 ∧ Hid (W12.grownBy wr none)) (fun s _ => 4 - (intOf s).toNat)
        case atStart => exact ⟨0, rfl, by omega, grown_refl _ _⟩
        case round =>
          obtain ⟨wq, rfl⟩ : ∃ wq : World, wq = wr := ⟨_, rfl⟩
          obtain ⟨j, rfl, hj4, GQ⟩ := hrel
          by_cases hlt2 : j < 4
          · obtain ⟨val, l0, hfv⟩ := CL2.out j hlt2
            have l0 := GQ.out.cell l0 (by simp)
            have hfv := hfv.grown GQ.out
            obtain ⟨ay, ny, cy, by_, oy, y, rfl, y1, y2, y3, y4, y5⟩ := hfv
            have Y5 := Lib.hid y5
            have Y4 := Lib.hid y4
            clear y4 y5
            obtain ⟨k0, k1⟩ := (CK.out.row GQ.out (by simp)).two
            obtain ⟨rr, hrr⟩ := Pm.rp_any vj tj ny y
            have RR := Lib.hid hrr
            clear hrr
            have H16 := Lib.hid (fun w' (hg : wq.grownBy w' none) => repeats_any vj tj by_ oy ny cy ay y rr w' y3 Y4.out (Y5.out.grown hg (by simp)) RR.out)
            have H17 := Lib.hid (fun w' (hg : wq.grownBy w' none) => rrepeats_any vj tj by_ oy ny cy ay y rr w' y3 Y4.out (Y5.out.grown hg (by simp)) RR.out)
            unfold pv at H16 H17
            have HK := Lib.hid (show ∀ w', wq.grownBy w' none → w'.cell? ⟨T, 0, none⟩ = some (.int .i64 vj) ∧ w'.cell? ⟨T, 1, none⟩ = some (.int .i64 tj) from fun w' hg => ⟨hg.cell k0 (by simp), hg.cell k1 (by simp)⟩)
            go_wp2_with fail
            go_region_held3 (fun w' => w'.cell? ⟨T, 0, none⟩ = some (.int .i64 vj) ∧ w'.cell? ⟨T, 1, none⟩ = some (.int .i64 tj))
              (first | go_keep | exact HK.out _ hgb.out | exact HK.out _ hga.out | fail)
              (first
                | (go_at_call 16; refine (H16.out wq.drew (grown_drewN wq 1 none)).mono ?_; rintro e wa ⟨rfl, hg⟩; have hga : Hid (wq.grownBy wa none) := grown_trans (show wq.grownBy wq.drew none from grown_drewN wq 1 none) hg; clear hg)
                | (go_at_call 17; refine (H17.out _ hga.out).mono ?_; rintro e wb ⟨rfl, hg⟩; have hgb : Hid (wq.grownBy wb none) := grown_trans hga.out hg; clear hg)
                | fail)
            have GB := Lib.hid (grown_trans GQ.out hgb.out)
            have GT := Lib.hid (grown_trans GL.out GB.out)
            have Y5 := Lib.hid (Y5.out.grown hgb.out (by simp))
            obtain ⟨k0, k1⟩ := HK.out _ hgb.out
            obtain ⟨x0, x1, x2⟩ := (A1.out.row GT.out (by simp)).three
            obtain ⟨z0, z1, z2⟩ := (A3.out.row GT.out (by simp)).three
            clear HK H16 H17 hga hgb l0 RR
            go_wp2
            have gl : wb.grownBy (wb.alloc (Obj.cells #[.int .i64 p0, .int .i64 b0, .int .i64 f0, .int .i64 p, .int .i64 b, .int .i64 f] 25)) none := World.grownBy_alloc _ _ _
            have CL3 : Hid (∀ q, q < 2 → ∃ pq bq fq, (wb.alloc (Obj.cells #[.int .i64 p0, .int .i64 b0, .int .i64 f0, .int .i64 p, .int .i64 b, .int .i64 f] 25)).cell? ⟨wb.heap.size, q * 3, none⟩ = some (.int .i64 pq) ∧ (wb.alloc (Obj.cells #[.int .i64 p0, .int .i64 b0, .int .i64 f0, .int .i64 p, .int .i64 b, .int .i64 f] 25)).cell? ⟨wb.heap.size, q * 3 + 1, none⟩ = some (.int .i64 bq) ∧ (wb.alloc (Obj.cells #[.int .i64 p0, .int .i64 b0, .int .i64 f0, .int .i64 p, .int .i64 b, .int .i64 f] 25)).cell? ⟨wb.heap.size, q * 3 + 2, none⟩ = some (.int .i64 fq)) := fun q hq => by
              match q, hq with
              | 0, _ => exact ⟨p0, b0, f0, by go_simp, by go_simp, by go_simp⟩
              | 1, _ => exact ⟨p, b, f, by go_simp, by go_simp, by go_simp⟩
            have CK3 := Lib.hid (Cells.mk2 (gl.cell k0 (by simp)) (gl.cell k1 (by simp)))
            have Y5 := Lib.hid (Y5.out.grown gl (by simp))
            have GB3 := Lib.hid (grown_trans GB.out gl)
            obtain ⟨L3, hL3⟩ : ∃ L3, L3 = wb.heap.size := ⟨_, rfl⟩
            rw [← hL3] at CL3 ⊢
            generalize wb.alloc (Obj.cells #[.int .i64 p0, .int .i64 b0, .int .i64 f0, .int .i64 p, .int .i64 b, .int .i64 f] 25) = W13 at *
            clear gl k0 k1 hL3 x0 x1 x2 z0 z1 z2 GB GT
            go_loopw [97] (fun s97 wr => ∃ q : Nat, s97 = .int .i64 q ∧ q ≤ 2 ∧ Hid (W13.grownBy wr none)) (fun s _ => 2 - (intOf s).toNat)
            case atStart => exact ⟨0, rfl, by omega, grown_refl _ _⟩
            case round =>
              obtain ⟨ws, rfl⟩ : ∃ ws : World, ws = wr := ⟨_, rfl⟩
              obtain ⟨q, rfl, hq2, GS⟩ := hrel
              by_cases hlt3 : q < 2
              · obtain ⟨pq, bq, fq, l0, l1, l2⟩ := CL3.out q hlt3
                have l0 := GS.out.cell l0 (by simp)
                have l1 := GS.out.cell l1 (by simp)
                have l2 := GS.out.cell l2 (by simp)
                obtain ⟨k0, k1⟩ := (CK3.out.row GS.out (by simp)).two
                have hTs : T < ws.heap.size := World.block_lt_of_cell? ws ⟨T, 0, none⟩ k0
                obtain ⟨F, K, ee, hpr⟩ := Pm.pr_any vj tj pq bq fq ny y
                have PR := Lib.hid hpr
                clear hpr
                have H18 := Lib.hid (fun w' (hg : ws.grownBy w' none) => prove_any vj tj pq bq fq F ee by_ oy ny cy K ay y w' y1 y2 Y4.out (Y5.out.grown (grown_trans GS.out hg) (by simp)) PR.out)
                have H19 := Lib.hid (fun w' (hg : ws.grownBy w' none) => rprove_any vj tj pq bq fq F ee by_ oy ny cy K ay y w' y1 y2 Y4.out (Y5.out.grown (grown_trans GS.out hg) (by simp)) PR.out)
                unfold pv mv errv at H18 H19
                go_wp2_with fail
                refine (H18.out _ (World.grownBy_alloc _ _ _)).mono ?_
                rintro e wa ⟨rfl, hg⟩
                have GA := Lib.hid (grown_trans (World.grownBy_alloc ws (Obj.cells #[.int .i64 pq, .int .i64 bq, .int .i64 fq] 25) none) hg)
                have k0 := GA.out.cell k0 (by simp)
                have k1 := GA.out.cell k1 (by simp)
                have z0 := hg.cell (a := ⟨ws.heap.size, 0, none⟩) (v := .int .i64 pq) (by go_simp) (by simp)
                have z1 := hg.cell (a := ⟨ws.heap.size, 1, none⟩) (v := .int .i64 bq) (by go_simp) (by simp)
                have z2 := hg.cell (a := ⟨ws.heap.size, 2, none⟩) (v := .int .i64 fq) (by go_simp) (by simp)
                clear hg l0 l1 l2
                go_wp2_with fail
                refine (H19.out _ GA.out).mono ?_
                rintro e wc ⟨rfl, hg⟩
                have GC := Lib.hid (grown_trans GS.out (grown_trans GA.out hg))
                clear hg k0 k1 z0 z1 z2 H18 H19 PR
                go_wp2
                go_roundw
                case rel => first | exact ⟨q + 1, by go_num, by omega, GC⟩ | ((repeat apply Exists.intro); exact ⟨⟨q + 1, by go_num, by omega, GC⟩, rfl⟩)
                case measure => simp [intOf]; omega
              · obtain rfl : q = 2 := by omega
                have GE := Lib.hid (grown_trans GB3.out GS.out)
                go_wp2
                go_roundw
                case rel => first | exact ⟨j + 1, by go_num, by omega, GE⟩ | ((repeat apply Exists.intro); exact ⟨⟨j + 1, by go_num, by omega, GE⟩, rfl⟩)
                case measure => simp [intOf]; omega
          · obtain rfl : j = 4 := by omega
            have GE := Lib.hid (grown_trans GL.out GQ.out)
            go_wp2
            go_roundw
            case rel => first | exact ⟨i + 1, by go_num, by omega, GE⟩ | ((repeat apply Exists.intro); exact ⟨⟨i + 1, by go_num, by omega, GE⟩, rfl⟩)
            case measure => simp [intOf]; omega
      · obtain rfl : i = 3 := by omega
        have GF := Lib.hid (grown_trans G.out GP.out)
        go_wp2_with fail
        refine (awake_any _).mono ?_
        rintro e wz ⟨rfl, hg⟩
        have GZ := Lib.hid (grown_trans GF.out hg)
        clear hg
        go_wp2
        go_ret
        exact ⟨rfl, grown_below GZ.out⟩
end Go.Proofs.Ytjeejdoahhkjbaa
