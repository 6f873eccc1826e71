/- Package boundary: Ahead. -/
import Derived.Test.YtagemdgbnajobaaHc3
import Derived.RangeFuncBox
namespace Go.Proofs.Ytagemdgbnajobaa
open Go.ChangeShapes Go.WideShapes Go.ChangeAt Go.RowKit
attribute [local go_sem] Oper.semAt_some

theorem results_cells2 {fn : Func} {p q : Tmp} {ty tz : TypeId} (h : fn.results = #[.cell p ty, .cell q tz]) (tmps : Array Value) (P : Program) (w : World) :
    (results fn tmps).run P w = ((asAddr (tmps.getD p undef)).run P w).andThen fun a w₁ => ((loadVar ty a).run P w₁).andThen fun x w₂ => ((asAddr (tmps.getD q undef)).run P w₂).andThen fun a' w₃ => ((loadVar tz a').run P w₃).andThen fun y w₄ => .ok (.tuple #[x, y]) w₄ := by
  simp only [results, h]
  simp [Sem.run_bind, Result.andThen]
/-- A box holds v. -/
def Bx (W : World) (B : Nat) (v : Value) : Prop := W.cell? ⟨B, 0, none⟩ = some v ∧ W.frozen? ⟨B, 0, none⟩ = false
theorem bx_new (W : World) (t : TypeId) (v : Value) : Bx (W.alloc (.cells #[v] t)) W.heap.size v := ⟨(Boxed.new W t v).cell, (Boxed.new W t v).frozen⟩
theorem Bx.kept {W W' : World} {B : Nat} {v : Value} {row : Option Nat} (h : Bx W B v) (hg : W.grownBy W' row) (hr : row ≠ some B) : Bx W' B v :=
  ⟨hg.cell h.1 (fun e => hr e.symm), by rw [World.frozen?_of_block (a := ⟨B, 0, none⟩) (hg.block B (World.block_lt_of_cell? _ _ h.1) (fun e => hr e.symm))]; exact h.2⟩
theorem Bx.grown {W W' : World} {B : Nat} {v : Value} (h : Bx W B v) (hg : W.grownBy W' none) : Bx W' B v := h.kept hg (by simp)
theorem Bx.own {W W' : World} {B : Nat} {v : Value} {row : Option Nat} (h : Bx W B v) (hg : W.grownBy W' row) (hr : ∀ r, row = some r → ∃ o : Obj, W.heap[r]? = some o ∧ o.isCells = false) : Bx W' B v := ⟨cell_kept h.1 hg hr, (frozen_kept h.1 hg hr).trans h.2⟩
theorem Bx.set {W : World} {B : Nat} {v : Value} (h : Bx W B v) (u : Value) : Bx (W.setCell ⟨B, 0, none⟩ u) B u := ⟨World.cell?_setCell_same' _ _ _ (by rw [h.1]; rfl), by rw [World.frozen?_setCell]; exact h.2⟩
theorem Bx.other {W : World} {B C : Nat} {v : Value} (h : Bx W B v) (hne : C ≠ B) (u : Value) : Bx (W.setCell ⟨C, 0, none⟩ u) B v := h.kept (grownBy_setCell' W C u) (fun e => hne (by cases e; rfl))
theorem grown_of_row {w W W' : World} {row : Option Nat} (h : w.grownBy W none) (hg : W.grownBy W' row) (hr : ∀ r, row = some r → w.heap.size ≤ r) : w.grownBy W' none :=
  ⟨hg.os.trans h.os, hg.tape.trans h.tape, hg.output.trans h.output, Nat.le_trans h.size hg.size, fun i hi _ => (hg.block i (Nat.lt_of_lt_of_le hi h.size) (fun e => by have := hr i e.symm; omega)).trans (h.block i hi (by simp))⟩
theorem kb_set {K : List Nat} (W : World) (B : Nat) (u : Value) (h : B ∉ K) : KB K W (W.setCell ⟨B, 0, none⟩ u) := fun a v ha hv => (grownBy_setCell' W B u).cell hv (fun e => by injection e with e; exact h (by rw [← e]; exact ha))
/-- The sum as the loop makes it. -/
def vw (l : List Fm.Pc) : Int := l.foldl (fun a p => wrap64 (a + p.2)) 0
theorem vw_snoc (l : List Fm.Pc) (p : Fm.Pc) : vw (l ++ [p]) = wrap64 (vw l + p.2) := by simp [vw]
theorem vw_take {f : List Fm.Pc} (h : ∀ k, 0 ≤ Fm.vol (f.take k) ∧ Fm.vol (f.take k) ≤ 1000000) (k : Nat) (hk : k ≤ f.length) : vw (f.take k) = Fm.vol (f.take k) := by
  induction k with
  | zero => simp [vw, Fm.vol]
  | succ k ih =>
    have h1 := h (k + 1)
    rw [Fm.vol_next (by omega)] at h1
    rw [take_snoc (by omega), vw_snoc, ih (by omega), ← take_snoc (by omega), Fm.vol_next (by omega)]
    unfold wrap64
    omega
theorem ahd_none {d : Int} {l : List Fm.Pc} (h : ∀ p ∈ l, p.1 ≠ d) : ∀ s, Bm.ahd d s l = none := by
  induction l with
  | nil => intro s; rfl
  | cons p r ih => intro s; rw [Bm.ahd, if_neg (h p (by simp))]; exact ih (fun q hq => h q (by simp [hq])) _
theorem ahd_some {d : Int} {l r : List Fm.Pc} {p : Fm.Pc} (h : ∀ q ∈ l, q.1 ≠ d) (hp : p.1 = d) : ∀ s, Bm.ahd d s (l ++ p :: r) = some (s + Fm.vol l) := by
  induction l with
  | nil => intro s; rw [List.nil_append, Bm.ahd, if_pos hp]; simp [Fm.vol]
  | cons q t ih =>
    intro s
    rw [List.cons_append, Bm.ahd, if_neg (h q (by simp)), ih (fun q hq => h q (by simp [hq]))]
    rw [show Fm.vol (q :: t) = q.2 + Fm.vol t from rfl, Int.add_assoc]
/-- What has come is a beginning, the last of it the batch's first piece. -/
theorem ahd_found {d : Int} {f ini : List Fm.Pc} {p : Fm.Pc} {k : Nat} (hb : ∀ k, 0 ≤ Fm.vol (f.take k) ∧ Fm.vol (f.take k) ≤ 1000000) (hk : k ≤ f.length) (e : ini ++ [p] = f.take k) (h : ∀ q ∈ ini, q.1 ≠ d) (hp : p.1 = d) : Bm.ahd d 0 f = some (vw ini) := by
  have hl := congrArg List.length e
  rw [List.length_append, List.length_take, List.length_singleton, Nat.min_eq_left hk] at hl
  have e1 : ini = f.take (k - 1) := by
    have := congrArg (List.take (k - 1)) e
    rw [List.take_append_of_le_length (by omega), List.take_of_length_le (by omega), List.take_take, Nat.min_eq_left (by omega)] at this
    exact this
  have e2 : f = ini ++ p :: f.drop k := by
    have := (List.take_append_drop k f).symm
    rw [← e, List.append_assoc] at this
    exact this
  rw [e2, ahd_some h hp, e1, vw_take hb _ (by omega), Int.zero_add]

set_option maxHeartbeats 1600000 in
theorem bahead_any (s : Sl) (f : List Fm.Pc) (d : Int) (back : Bool) (w : World) (h : FR w s f) (_ : IsI64 d) :
    Calls Try.prog 16 #[s.v, .int .i64 d, .bool back] w (Ret2 (aheadV f d back) (aheadE f d back) w) := by
  have HF := Lib.hid h
  clear h
  unfold aheadV aheadE
  obtain ⟨X, hX⟩ : ∃ X, X = w.heap.size := ⟨_, rfl⟩
  obtain ⟨w0, hw0⟩ : ∃ w0, w0 = ((w.alloc (.cells #[.int .i64 d] 3)).alloc (.cells #[.int .i64 0] 3)).alloc (.cells #[.int .i64 0] 31) := ⟨_, rfl⟩
  have G0 := Lib.hid (show w.grownBy w0 none by subst hw0; exact grown_trans (grown_trans (World.grownBy_alloc _ _ _) (World.grownBy_alloc _ _ _)) (World.grownBy_alloc _ _ _))
  have Z0 := Lib.hid (show w0.heap.size = X + 3 by subst hw0; subst hX; simp)
  have B4 := Lib.hid (show Bx w0 X (.int .i64 d) by subst hw0; subst hX; exact ((bx_new w _ _).grown (World.grownBy_alloc _ _ _)).grown (World.grownBy_alloc _ _ _))
  have B6 := Lib.hid (show Bx w0 (X + 1) (.int .i64 0) by subst hw0; subst hX; have := bx_new (w.alloc (.cells #[.int .i64 d] 3)) 3 (.int .i64 0); rw [World.size_alloc] at this; exact this.grown (World.grownBy_alloc _ _ _))
  have B7 := Lib.hid (show Bx w0 (X + 1 + 1) (.int .i64 0) by subst hw0; subst hX; have := bx_new ((w.alloc (.cells #[.int .i64 d] 3)).alloc (.cells #[.int .i64 0] 3)) 31 (.int .i64 0); rw [World.size_alloc, World.size_alloc] at this; exact this)
  have HX := Lib.hid hX
  cases hv : Fm.valid f with
  | false =>
    have V := Lib.hid hv
    clear hv
    go_enter Try.func16, Try.ntmps16
    go_wp2_with fail
    rw [← hw0]
    simp only [← hX]
    clear hw0 hX
    refine (pvalid_any s f w0 (HF.out.grown G0.out)).mono ?_
    rintro e w1 ⟨rfl, hg⟩
    obtain ⟨c6, f6⟩ := B6.out.grown hg
    obtain ⟨c7, f7⟩ := B7.out.grown hg
    have G1 := Lib.hid hg
    clear hg
    rw [V.out]
    go_wp2
    try simp only [Exit.inBlock, Exit.then]
    refine bodyPost_ret (v := .tuple #[.int .i64 0, .int .i64 9]) ?hr rfl ?hE
    case hr =>
      rw [results_cells2 rfl]
      go_simp
    case hE =>
      exact ⟨ret_two (by simp) (by simp), grown_of_row (grown_of_row (grown_trans G0.out G1.out) (grownBy_setCell' _ _ _) (fun r e => by injection e with e; have := HX.out; omega)) (grownBy_setCell' _ _ _) (fun r e => by injection e with e; have := HX.out; omega)⟩
  | true =>
    have V := Lib.hid hv
    have VV := Lib.hid (Fm.valid_iff.1 hv)
    clear hv
    have hn200 : f.length ≤ 200 := VV.out.len
    obtain ⟨a, n, c⟩ := s
    have hlen := HF.out.len
    have fit := HF.out.fit
    dsimp only [Sl.fit] at hlen fit
    unfold Sl.v
    dsimp only
    cases back with
    | true =>
      have P := Lib.hid (show Fm.Pos f from VV.out.pos)
      have HB := Lib.hid (show ∀ k, 0 ≤ Fm.vol (f.take k) ∧ Fm.vol (f.take k) ≤ 1000000 from fun k => by have h1 := Fm.vol_take_le P.out k; have h2 := VV.out.vol; omega)
      unfold dirOf
      simp only [if_true]
      obtain ⟨V0, hV0⟩ : ∃ V0, V0 = (Bm.ahd d 0 f).getD 0 := ⟨_, rfl⟩
      rw [← hV0]
      obtain ⟨C0, hC0⟩ : ∃ C0, C0 = (if (Bm.ahd d 0 f).isSome = true then (0 : Int) else 8) := ⟨_, rfl⟩
      rw [← hC0]
      have HV0 := Lib.hid hV0
      have HC0 := Lib.hid hC0
      clear hV0 hC0
      refine (callsIn_wide (n := 5)).1 (callsIn_of_wp_marks Try.func16 rfl trivial (wpIn_wide.2 ?_) rfl)
      simp only [Try.ntmps16, List.size_toArray, List.length_cons, List.length_nil, Nat.reduceAdd, Nat.reduceSub, Array.replicate_succ, Array.replicate_zero, List.push_toArray, List.append_toArray, List.nil_append, List.cons_append]
      go_wp2_with fail
      rw [← hw0]
      simp only [← hX]
      clear hw0 hX
      refine (pvalid_any ⟨a, n, c⟩ f w0 (HF.out.grown G0.out)).mono ?_
      rintro e w1 ⟨rfl, hg⟩
      have Y4 := Lib.hid (B4.out.grown hg)
      have Y6 := Lib.hid (B6.out.grown hg)
      have Y7 := Lib.hid (B7.out.grown hg)
      have G1 := Lib.hid (grown_trans G0.out hg)
      have Z1 := Lib.hid (show X + 3 ≤ w1.heap.size by have := hg.size; have := Z0.out; omega)
      clear hg B4 B6 B7 G0 Z0
      rw [V.out]
      obtain ⟨Q, hQ⟩ : ∃ Q, Q = w1.heap.size := ⟨_, rfl⟩
      go_wp2_with fail
      refine (backward_any a n c w1).mono ?_
      rintro e w2 ⟨rfl, rfl⟩
      go_wp2_with fail
      refine (all_any a n c _).mono ?_
      rintro e w2 ⟨rfl, rfl⟩
      go_wp2
      obtain ⟨Wl, hWl⟩ : ∃ Wl, Wl = ((w1.alloc (.cells #[.slice a n c] 22)).alloc (.cells #[.slice a n c] 22)).alloc (.cells #[.int .i64 0] 3) := ⟨_, rfl⟩
      rw [← hWl]
      try simp only [World.size_alloc]
      simp only [← hQ]
      have GL := Lib.hid (show w1.grownBy Wl none by subst hWl; exact grown_trans (grown_trans (World.grownBy_alloc _ _ _) (World.grownBy_alloc _ _ _)) (World.grownBy_alloc _ _ _))
      have ZL := Lib.hid (show Wl.heap.size = Q + 1 + 1 + 1 by subst hWl; subst hQ; simp)
      have Y9 := Lib.hid (show Bx Wl (Q + 1 + 1) (.int .i64 0) by subst hWl; subst hQ; have := bx_new ((w1.alloc (.cells #[.slice a n c] 22)).alloc (.cells #[.slice a n c] 22)) 3 (.int .i64 0); simp only [World.size_alloc] at this; exact this)
      have YS := Lib.hid (show Bx Wl (Q + 1) (.slice a n c) by subst hWl; subst hQ; have := bx_new (w1.alloc (.cells #[.slice a n c] 22)) 22 (.slice a n c); simp only [World.size_alloc] at this; exact this.grown (World.grownBy_alloc _ _ _))
      have ZQ := Lib.hid (show X + 3 ≤ Q by have := Z1.out; omega)
      clear hWl hQ
      obtain ⟨b, off, hA, hPC, hb⟩ : ∃ b off, (0 < n → a = some ⟨b, off, none⟩) ∧ PCs Wl b off f ∧ b ≠ Q + 1 + 1 ∧ b ≠ X + 1 ∧ b ≠ X + 1 + 1 := by
        by_cases h0 : 0 < n
        · obtain ⟨b, off, x0, y0, rfl, hp0, c0, c1⟩ := HF.out.at_ 0 h0
          have hbl := World.block_lt_of_cell? _ _ c0
          have hx := HX.out
          have hz := ZQ.out
          dsimp only at hbl
          refine ⟨b, off, fun _ => rfl, fun j hj => ?_, by omega, by omega, by omega⟩
          obtain ⟨x1, y1, e1, e2, e3⟩ := (HF.out.grown (grown_trans G1.out GL.out)).got j (by omega)
          rw [e1]
          exact ⟨e2, e3⟩
        · have hz := ZQ.out
          exact ⟨Q + 1, 0, fun e => absurd e h0, fun j hj => absurd hj (by omega), by omega, by omega, by omega⟩
      have HA := Lib.hid hA
      have HPC := Lib.hid hPC
      have HNE := Lib.hid hb
      clear hA hPC hb
      refine wpIn_wide.1 (wpIn_rangeFunc_ownH (n := 5) (F := Fence.wide) rfl (by omega) (gf := 45) (lb := #[.pointer (some ⟨Q + 1, 0, none⟩)]) rfl trivial (enters_of Try.func45 (by kernel_rfl) rfl)
        (all_stops 4 (by omega) (Q + 1) b off n c a f hlen fit.1 (by omega) Wl YS.out.1 HA.out HPC.out) (fun h k => h.trans k) (fun W l o o' _ h ho _ => kb_b W l o o' h ho) (Below.refl _ _) (fun _ => rfl)
        (fun pre W => Bx W (Q + 1 + 1) (.int .i64 (vw (pre.map Prod.snd))) ∧ Bx W X (.int .i64 d) ∧ Bx W (X + 1) (.int .i64 0) ∧ Bx W (X + 1 + 1) (.int .i64 0) ∧ (∀ p ∈ pre, p.2.1 ≠ d) ∧ w.grownBy W none)
        (fun cc pre W => cc = .ret ∧ (∃ ini last, pre = ini ++ [last] ∧ (∀ p ∈ ini, p.2.1 ≠ d) ∧ last.2.1 = d ∧ Bx W (X + 1) (.int .i64 (vw (ini.map Prod.snd)))) ∧ Bx W (X + 1 + 1) (.int .i64 0) ∧ w.grownBy W none)
        (fun pre W W' row hs hg hr => ⟨hs.1.own hg (fun r e => (hr r e).2), hs.2.1.own hg (fun r e => (hr r e).2), hs.2.2.1.own hg (fun r e => (hr r e).2), hs.2.2.2.1.own hg (fun r e => (hr r e).2), hs.2.2.2.2.1, grown_of_row hs.2.2.2.2.2 hg (fun r e => by have h1 := (hr r e).1; have h2 := ZL.out; have h3 := ZQ.out; have h4 := HX.out; omega)⟩)
        (fun cc pre W W' row hs hg hr => by
          obtain ⟨e, ⟨ini, last, e1, e2, e3, e4⟩, e5, e6⟩ := hs
          exact ⟨e, ⟨ini, last, e1, e2, e3, e4.own hg (fun r e => (hr r e).2)⟩, e5.own hg (fun r e => (hr r e).2), grown_of_row e6 hg (fun r e => by have h1 := (hr r e).1; have h2 := ZL.out; have h3 := ZQ.out; have h4 := HX.out; omega)⟩)
        ⟨Y9.out, Y4.out.grown GL.out, Y6.out.grown GL.out, Y7.out.grown GL.out, fun p hp => by simp at hp, grown_trans G1.out GL.out⟩
        (fun x a' W => ∃ Bp, W.cell? ⟨Bp, 0, none⟩ = some (.int .i64 x.2.1) ∧ W.cell? ⟨Bp, 1, none⟩ = some (.int .i64 x.2.2) ∧ a' = { tmps := #[.slice a n c, .int .i64 d, .bool true, undef, .pointer (some ⟨X, 0, none⟩), undef, .pointer (some ⟨X + 1, 0, none⟩), .pointer (some ⟨X + 1 + 1, 0, none⟩), .func (.func 45) #[] #[.pointer (some ⟨Q + 1, 0, none⟩)], .pointer (some ⟨Q + 1 + 1, 0, none⟩), undef, .pointer (some ⟨Bp, 0, none⟩), .slice a n c, .bool true, .bool false, .slice a n c, .func (.func 44) #[] #[.pointer (some ⟨Q, 0, none⟩)], .bool true, .slice a n c, .func (.func 45) #[] #[.pointer (some ⟨Q + 1, 0, none⟩)], .func (.func 45) #[] #[.pointer (some ⟨Q + 1, 0, none⟩)], .int .i64 x.1, .agg #[.int .i64 x.2.1, .int .i64 x.2.2], undef, undef, undef, undef, undef, undef, undef, undef, undef], defers := [] })
        (fun x a' u W W' row h hg hr => by
          obtain ⟨Bp, p0, p1, e⟩ := h
          exact ⟨Bp, cell_kept p0 hg (fun r e => (hr r e).2), cell_kept p1 hg (fun r e => (hr r e).2), e⟩)
        ?assign ?body ?done ?stop)
      case assign =>
        rintro l pre ⟨xi, px, py⟩ W K ⟨i9, i4, i6, i7, ne, g⟩ hK
        dsimp only [enp]
        gi_wp2
        have ga := World.grownBy_alloc W (.cells #[.int .i64 px, .int .i64 py] 49) none
        exact hK _ _ ((KeepsOthers.alloc _ _).from _) (KB.of ga) ⟨i9.grown ga, i4.grown ga, i6.grown ga, i7.grown ga, ne, grown_trans g ga⟩ ⟨W.heap.size, by simp, by simp, rfl⟩
      case body =>
        rintro l pre ⟨xi, px, py⟩ a' W hl ⟨r0, hr⟩ ⟨i9, i4, i6, i7, ne, g⟩ ⟨Bp, p0, p1, rfl⟩ hlt
        have I9 := Lib.hid i9
        have I4 := Lib.hid i4
        have I6 := Lib.hid i6
        have I7 := Lib.hid i7
        have GW := Lib.hid g
        have NE := Lib.hid ne
        obtain ⟨c9, f9⟩ := i9
        obtain ⟨c4, f4⟩ := i4
        obtain ⟨c6, f6⟩ := i6
        obtain ⟨c7, f7⟩ := i7
        dsimp only at p0 p1
        obtain ⟨S, hS⟩ : ∃ S, S = vw (pre.map Prod.snd) := ⟨_, rfl⟩
        rw [← hS] at c9 I9
        have HS := Lib.hid hS
        clear hS hl hr r0 ne g hlt
        by_cases hd : px = d
        · have hbd : (px == d) = true := by rw [hd]; exact beq_self_eq_true d
          gi_wp2
          exact ⟨((KeepsOthers.setCell _ _ _).trans (KeepsOthers.setCell _ _ _)).from _, rfl, ⟨pre, (xi, px, py), rfl, NE.out, hd, by rw [← HS.out]; exact (I6.out.set _).other (by omega) _⟩, (I7.out.other (by omega) _).set _, grown_of_row (grown_of_row GW.out (grownBy_setCell' _ _ _) (fun r e => by injection e with e; have h1 := HX.out; have h2 := ZQ.out; omega)) (grownBy_setCell' _ _ _) (fun r e => by injection e with e; have h1 := HX.out; have h2 := ZQ.out; omega)⟩
        · have hbd : (px == d) = false := by rw [beq_eq_false_iff_ne]; exact hd
          gi_wp2
          have hz := ZQ.out
          have hne := HNE.out
          refine ⟨(KeepsOthers.setCell _ _ _).from _, kb_set W _ _ (by simp; omega), by rw [List.map_append, List.map_cons, List.map_nil, vw_snoc, ← HS.out]; exact I9.out.set _, I4.out.other (by omega) _, I6.out.other (by omega) _, I7.out.other (by omega) _, fun p hp => ?_, grown_of_row GW.out (grownBy_setCell' _ _ _) (fun r e => by injection e with e; have h1 := HX.out; have h2 := ZQ.out; omega)⟩
          rcases List.mem_append.1 hp with hp | hp
          · exact NE.out p hp
          · rw [List.mem_singleton] at hp
            subst hp
            exact hd
      case done =>
        rintro D ys W hD hS ⟨i9, i4, i6, i7, ne, g⟩ hKd
        have AH := Lib.hid (show Bm.ahd d 0 f = none by rw [← hS]; exact ahd_none (fun p hp => by obtain ⟨q, hq, rfl⟩ := List.mem_map.1 hp; exact ne q hq) 0)
        have KD := Lib.hid hKd
        have GW := Lib.hid g
        have I6 := Lib.hid i6
        have I7 := Lib.hid i7
        obtain ⟨c6, f6⟩ := i6
        obtain ⟨c7, f7⟩ := i7
        have HD := Lib.hid hD
        clear i9 i4 ne g hKd hS hD
        go_wp2
        have hK := ((KeepsOthers.setCell W ⟨X + 1, 0, none⟩ (.int .i64 0)).trans (KeepsOthers.setCell _ ⟨X + 1 + 1, 0, none⟩ (.int .i64 8))).same D _ KD.out rfl
        have j6 := ((I6.out.set (.int .i64 0)).other (C := X + 1 + 1) (by omega) (.int .i64 8)).own (grownBy_putObj' _ D (.deferred none)) (fun r e => by cases e; exact ⟨_, hK, rfl⟩)
        have j7 := ((I7.out.other (C := X + 1) (by omega) (.int .i64 0)).set (.int .i64 8)).own (grownBy_putObj' _ D (.deferred none)) (fun r e => by cases e; exact ⟨_, hK, rfl⟩)
        have hDl : w.heap.size ≤ D := by
          have h1 := ZL.out; have h2 := ZQ.out; have h3 := HX.out; have h4 := HD.out; omega
        refine ⟨by simp, .inl ⟨_, _, rfl, run_takeDeferred hK, ?_⟩⟩
        refine ⟨.tuple #[.int .i64 0, .int .i64 8], ?_, ret_two ?_ ?_, ?_⟩
        · rw [results_cells2 rfl]
          obtain ⟨k6, k6'⟩ := j6
          obtain ⟨k7, k7'⟩ := j7
          go_simp
        · rw [HV0.out, AH.out]; rfl
        · rw [HC0.out, AH.out]; rfl
        · exact grown_of_row (grown_of_row (grown_of_row GW.out (grownBy_setCell' _ _ _) (fun r e => by injection e with e; have h1 := HX.out; have h2 := ZQ.out; omega)) (grownBy_setCell' _ _ _) (fun r e => by injection e with e; have h1 := HX.out; have h2 := ZQ.out; omega)) (grownBy_putObj' _ D _) (fun r e => by injection e with e; omega)
      case stop =>
        rintro D cc pre W hD ⟨k, hk, hS⟩ ⟨rfl, ⟨ini, last, e1, e2, e3, e4⟩, e5, g⟩ hKd
        obtain ⟨S, hSS⟩ : ∃ S, S = vw (ini.map Prod.snd) := ⟨_, rfl⟩
        rw [← hSS] at e4
        have AH := Lib.hid (show Bm.ahd d 0 f = some S by
          rw [hSS]
          refine ahd_found HB.out hk (by rw [e1, List.map_append] at hS; exact hS) (fun p hp => ?_) e3
          obtain ⟨q, hq, rfl⟩ := List.mem_map.1 hp
          exact e2 q hq)
        have KD := Lib.hid hKd
        have GW := Lib.hid g
        have I6 := Lib.hid e4
        have I7 := Lib.hid e5
        have hDl : w.heap.size ≤ D := by have h1 := ZL.out; have h2 := ZQ.out; have h3 := HX.out; omega
        clear e1 e2 e3 e4 e5 g hKd hS hD hSS hk
        gi_wp2
        have hK := KD.out
        have j6 := I6.out.own (grownBy_putObj' _ D (.deferred none)) (fun r e => by cases e; exact ⟨_, hK, rfl⟩)
        have j7 := I7.out.own (grownBy_putObj' _ D (.deferred none)) (fun r e => by cases e; exact ⟨_, hK, rfl⟩)
        refine ⟨by simp, .inl ⟨_, _, rfl, run_takeDeferred hK, ?_⟩⟩
        refine ⟨.tuple #[.int .i64 S, .int .i64 0], ?_, ret_two ?_ ?_, ?_⟩
        · rw [results_cells2 rfl]
          obtain ⟨k6, k6'⟩ := j6
          obtain ⟨k7, k7'⟩ := j7
          go_simp
        · rw [HV0.out, AH.out]; rfl
        · rw [HC0.out, AH.out]; rfl
        · exact grown_of_row GW.out (grownBy_putObj' _ D _) (fun r e => by injection e with e; omega)
    | false =>
      have P := Lib.hid (show Fm.Pos f.reverse from (fun p hp => VV.out.pos p (List.mem_reverse.1 hp)))
      have HB := Lib.hid (show ∀ k, 0 ≤ Fm.vol (f.reverse.take k) ∧ Fm.vol (f.reverse.take k) ≤ 1000000 from fun k => by have h1 := Fm.vol_take_le P.out k; have h2 := VV.out.vol; rw [Bm.vol_reverse] at h1; omega)
      unfold dirOf
      simp only [if_true, if_false, Bool.false_eq_true]
      obtain ⟨V0, hV0⟩ : ∃ V0, V0 = (Bm.ahd d 0 f.reverse).getD 0 := ⟨_, rfl⟩
      rw [← hV0]
      obtain ⟨C0, hC0⟩ : ∃ C0, C0 = (if (Bm.ahd d 0 f.reverse).isSome = true then (0 : Int) else 8) := ⟨_, rfl⟩
      rw [← hC0]
      have HV0 := Lib.hid hV0
      have HC0 := Lib.hid hC0
      clear hV0 hC0
      refine (callsIn_wide (n := 5)).1 (callsIn_of_wp_marks Try.func16 rfl trivial (wpIn_wide.2 ?_) rfl)
      simp only [Try.ntmps16, List.size_toArray, List.length_cons, List.length_nil, Nat.reduceAdd, Nat.reduceSub, Array.replicate_succ, Array.replicate_zero, List.push_toArray, List.append_toArray, List.nil_append, List.cons_append]
      go_wp2_with fail
      rw [← hw0]
      simp only [← hX]
      clear hw0 hX
      refine (pvalid_any ⟨a, n, c⟩ f w0 (HF.out.grown G0.out)).mono ?_
      rintro e w1 ⟨rfl, hg⟩
      have Y4 := Lib.hid (B4.out.grown hg)
      have Y6 := Lib.hid (B6.out.grown hg)
      have Y7 := Lib.hid (B7.out.grown hg)
      have G1 := Lib.hid (grown_trans G0.out hg)
      have Z1 := Lib.hid (show X + 3 ≤ w1.heap.size by have := hg.size; have := Z0.out; omega)
      clear hg B4 B6 B7 G0 Z0
      rw [V.out]
      obtain ⟨Q, hQ⟩ : ∃ Q, Q = w1.heap.size := ⟨_, rfl⟩
      go_wp2_with fail
      refine (backward_any a n c w1).mono ?_
      rintro e w2 ⟨rfl, rfl⟩
      go_wp2
      obtain ⟨Wl, hWl⟩ : ∃ Wl, Wl = (w1.alloc (.cells #[.slice a n c] 22)).alloc (.cells #[.int .i64 0] 3) := ⟨_, rfl⟩
      rw [← hWl]
      try simp only [World.size_alloc]
      simp only [← hQ]
      have GL := Lib.hid (show w1.grownBy Wl none by subst hWl; exact grown_trans (World.grownBy_alloc _ _ _) (World.grownBy_alloc _ _ _))
      have ZL := Lib.hid (show Wl.heap.size = Q + 1 + 1 by subst hWl; subst hQ; simp)
      have Y9 := Lib.hid (show Bx Wl (Q + 1) (.int .i64 0) by subst hWl; subst hQ; have := bx_new (w1.alloc (.cells #[.slice a n c] 22)) 3 (.int .i64 0); simp only [World.size_alloc] at this; exact this)
      have YS := Lib.hid (show Bx Wl (Q) (.slice a n c) by subst hWl; subst hQ; have := bx_new w1 22 (.slice a n c); exact this.grown (World.grownBy_alloc _ _ _))
      have ZQ := Lib.hid (show X + 3 ≤ Q by have := Z1.out; omega)
      clear hWl hQ
      obtain ⟨b, off, hA, hPC, hb⟩ : ∃ b off, (0 < n → a = some ⟨b, off, none⟩) ∧ PCs Wl b off f ∧ b ≠ Q + 1 ∧ b ≠ X + 1 ∧ b ≠ X + 1 + 1 := by
        by_cases h0 : 0 < n
        · obtain ⟨b, off, x0, y0, rfl, hp0, c0, c1⟩ := HF.out.at_ 0 h0
          have hbl := World.block_lt_of_cell? _ _ c0
          have hx := HX.out
          have hz := ZQ.out
          dsimp only at hbl
          refine ⟨b, off, fun _ => rfl, fun j hj => ?_, by omega, by omega, by omega⟩
          obtain ⟨x1, y1, e1, e2, e3⟩ := (HF.out.grown (grown_trans G1.out GL.out)).got j (by omega)
          rw [e1]
          exact ⟨e2, e3⟩
        · have hz := ZQ.out
          exact ⟨Q, 0, fun e => absurd e h0, fun j hj => absurd hj (by omega), by omega, by omega, by omega⟩
      have HA := Lib.hid hA
      have HPC := Lib.hid hPC
      have HNE := Lib.hid hb
      clear hA hPC hb
      refine wpIn_wide.1 (wpIn_rangeFunc_ownH (n := 5) (F := Fence.wide) rfl (by omega) (gf := 44) (lb := #[.pointer (some ⟨Q, 0, none⟩)]) rfl trivial (enters_of Try.func44 (by kernel_rfl) rfl)
        (back_stops 4 (by omega) (Q) b off n c a f hlen fit.1 (by omega) Wl YS.out.1 HA.out HPC.out) (fun h k => h.trans k) (fun W l o o' _ h ho _ => kb_b W l o o' h ho) (Below.refl _ _) (fun _ => rfl)
        (fun pre W => Bx W (Q + 1) (.int .i64 (vw (pre.map Prod.snd))) ∧ Bx W X (.int .i64 d) ∧ Bx W (X + 1) (.int .i64 0) ∧ Bx W (X + 1 + 1) (.int .i64 0) ∧ (∀ p ∈ pre, p.2.1 ≠ d) ∧ w.grownBy W none)
        (fun cc pre W => cc = .ret ∧ (∃ ini last, pre = ini ++ [last] ∧ (∀ p ∈ ini, p.2.1 ≠ d) ∧ last.2.1 = d ∧ Bx W (X + 1) (.int .i64 (vw (ini.map Prod.snd)))) ∧ Bx W (X + 1 + 1) (.int .i64 0) ∧ w.grownBy W none)
        (fun pre W W' row hs hg hr => ⟨hs.1.own hg (fun r e => (hr r e).2), hs.2.1.own hg (fun r e => (hr r e).2), hs.2.2.1.own hg (fun r e => (hr r e).2), hs.2.2.2.1.own hg (fun r e => (hr r e).2), hs.2.2.2.2.1, grown_of_row hs.2.2.2.2.2 hg (fun r e => by have h1 := (hr r e).1; have h2 := ZL.out; have h3 := ZQ.out; have h4 := HX.out; omega)⟩)
        (fun cc pre W W' row hs hg hr => by
          obtain ⟨e, ⟨ini, last, e1, e2, e3, e4⟩, e5, e6⟩ := hs
          exact ⟨e, ⟨ini, last, e1, e2, e3, e4.own hg (fun r e => (hr r e).2)⟩, e5.own hg (fun r e => (hr r e).2), grown_of_row e6 hg (fun r e => by have h1 := (hr r e).1; have h2 := ZL.out; have h3 := ZQ.out; have h4 := HX.out; omega)⟩)
        ⟨Y9.out, Y4.out.grown GL.out, Y6.out.grown GL.out, Y7.out.grown GL.out, fun p hp => by simp at hp, grown_trans G1.out GL.out⟩
        (fun x a' W => ∃ Bp, W.cell? ⟨Bp, 0, none⟩ = some (.int .i64 x.2.1) ∧ W.cell? ⟨Bp, 1, none⟩ = some (.int .i64 x.2.2) ∧ a' = { tmps := #[.slice a n c, .int .i64 d, .bool false, undef, .pointer (some ⟨X, 0, none⟩), undef, .pointer (some ⟨X + 1, 0, none⟩), .pointer (some ⟨X + 1 + 1, 0, none⟩), .func (.func 44) #[] #[.pointer (some ⟨Q, 0, none⟩)], .pointer (some ⟨Q + 1, 0, none⟩), undef, .pointer (some ⟨Bp, 0, none⟩), .slice a n c, .bool true, .bool false, .slice a n c, .func (.func 44) #[] #[.pointer (some ⟨Q, 0, none⟩)], .bool false, undef, undef, .func (.func 44) #[] #[.pointer (some ⟨Q, 0, none⟩)], .int .i64 x.1, .agg #[.int .i64 x.2.1, .int .i64 x.2.2], undef, undef, undef, undef, undef, undef, undef, undef, undef], defers := [] })
        (fun x a' u W W' row h hg hr => by
          obtain ⟨Bp, p0, p1, e⟩ := h
          exact ⟨Bp, cell_kept p0 hg (fun r e => (hr r e).2), cell_kept p1 hg (fun r e => (hr r e).2), e⟩)
        ?assign ?body ?done ?stop)
      case assign =>
        rintro l pre ⟨xi, px, py⟩ W K ⟨i9, i4, i6, i7, ne, g⟩ hK
        dsimp only [enp]
        gi_wp2
        have ga := World.grownBy_alloc W (.cells #[.int .i64 px, .int .i64 py] 49) none
        exact hK _ _ ((KeepsOthers.alloc _ _).from _) (KB.of ga) ⟨i9.grown ga, i4.grown ga, i6.grown ga, i7.grown ga, ne, grown_trans g ga⟩ ⟨W.heap.size, by simp, by simp, rfl⟩
      case body =>
        rintro l pre ⟨xi, px, py⟩ a' W hl ⟨r0, hr⟩ ⟨i9, i4, i6, i7, ne, g⟩ ⟨Bp, p0, p1, rfl⟩ hlt
        have I9 := Lib.hid i9
        have I4 := Lib.hid i4
        have I6 := Lib.hid i6
        have I7 := Lib.hid i7
        have GW := Lib.hid g
        have NE := Lib.hid ne
        obtain ⟨c9, f9⟩ := i9
        obtain ⟨c4, f4⟩ := i4
        obtain ⟨c6, f6⟩ := i6
        obtain ⟨c7, f7⟩ := i7
        dsimp only at p0 p1
        obtain ⟨S, hS⟩ : ∃ S, S = vw (pre.map Prod.snd) := ⟨_, rfl⟩
        rw [← hS] at c9 I9
        have HS := Lib.hid hS
        clear hS hl hr r0 ne g hlt
        by_cases hd : px = d
        · have hbd : (px == d) = true := by rw [hd]; exact beq_self_eq_true d
          gi_wp2
          exact ⟨((KeepsOthers.setCell _ _ _).trans (KeepsOthers.setCell _ _ _)).from _, rfl, ⟨pre, (xi, px, py), rfl, NE.out, hd, by rw [← HS.out]; exact (I6.out.set _).other (by omega) _⟩, (I7.out.other (by omega) _).set _, grown_of_row (grown_of_row GW.out (grownBy_setCell' _ _ _) (fun r e => by injection e with e; have h1 := HX.out; have h2 := ZQ.out; omega)) (grownBy_setCell' _ _ _) (fun r e => by injection e with e; have h1 := HX.out; have h2 := ZQ.out; omega)⟩
        · have hbd : (px == d) = false := by rw [beq_eq_false_iff_ne]; exact hd
          gi_wp2
          have hz := ZQ.out
          have hne := HNE.out
          refine ⟨(KeepsOthers.setCell _ _ _).from _, kb_set W _ _ (by simp; omega), by rw [List.map_append, List.map_cons, List.map_nil, vw_snoc, ← HS.out]; exact I9.out.set _, I4.out.other (by omega) _, I6.out.other (by omega) _, I7.out.other (by omega) _, fun p hp => ?_, grown_of_row GW.out (grownBy_setCell' _ _ _) (fun r e => by injection e with e; have h1 := HX.out; have h2 := ZQ.out; omega)⟩
          rcases List.mem_append.1 hp with hp | hp
          · exact NE.out p hp
          · rw [List.mem_singleton] at hp
            subst hp
            exact hd
      case done =>
        rintro D ys W hD hS ⟨i9, i4, i6, i7, ne, g⟩ hKd
        have AH := Lib.hid (show Bm.ahd d 0 f.reverse = none by rw [← hS]; exact ahd_none (fun p hp => by obtain ⟨q, hq, rfl⟩ := List.mem_map.1 hp; exact ne q hq) 0)
        have KD := Lib.hid hKd
        have GW := Lib.hid g
        have I6 := Lib.hid i6
        have I7 := Lib.hid i7
        obtain ⟨c6, f6⟩ := i6
        obtain ⟨c7, f7⟩ := i7
        have HD := Lib.hid hD
        clear i9 i4 ne g hKd hS hD
        go_wp2
        have hK := ((KeepsOthers.setCell W ⟨X + 1, 0, none⟩ (.int .i64 0)).trans (KeepsOthers.setCell _ ⟨X + 1 + 1, 0, none⟩ (.int .i64 8))).same D _ KD.out rfl
        have j6 := ((I6.out.set (.int .i64 0)).other (C := X + 1 + 1) (by omega) (.int .i64 8)).own (grownBy_putObj' _ D (.deferred none)) (fun r e => by cases e; exact ⟨_, hK, rfl⟩)
        have j7 := ((I7.out.other (C := X + 1) (by omega) (.int .i64 0)).set (.int .i64 8)).own (grownBy_putObj' _ D (.deferred none)) (fun r e => by cases e; exact ⟨_, hK, rfl⟩)
        have hDl : w.heap.size ≤ D := by
          have h1 := ZL.out; have h2 := ZQ.out; have h3 := HX.out; have h4 := HD.out; omega
        refine ⟨by simp, .inl ⟨_, _, rfl, run_takeDeferred hK, ?_⟩⟩
        refine ⟨.tuple #[.int .i64 0, .int .i64 8], ?_, ret_two ?_ ?_, ?_⟩
        · rw [results_cells2 rfl]
          obtain ⟨k6, k6'⟩ := j6
          obtain ⟨k7, k7'⟩ := j7
          go_simp
        · rw [HV0.out, AH.out]; rfl
        · rw [HC0.out, AH.out]; rfl
        · exact grown_of_row (grown_of_row (grown_of_row GW.out (grownBy_setCell' _ _ _) (fun r e => by injection e with e; have h1 := HX.out; have h2 := ZQ.out; omega)) (grownBy_setCell' _ _ _) (fun r e => by injection e with e; have h1 := HX.out; have h2 := ZQ.out; omega)) (grownBy_putObj' _ D _) (fun r e => by injection e with e; omega)
      case stop =>
        rintro D cc pre W hD ⟨k, hk, hS⟩ ⟨rfl, ⟨ini, last, e1, e2, e3, e4⟩, e5, g⟩ hKd
        obtain ⟨S, hSS⟩ : ∃ S, S = vw (ini.map Prod.snd) := ⟨_, rfl⟩
        rw [← hSS] at e4
        have AH := Lib.hid (show Bm.ahd d 0 f.reverse = some S by
          rw [hSS]
          refine ahd_found HB.out (by rw [List.length_reverse]; exact hk) (by rw [e1, List.map_append] at hS; exact hS) (fun p hp => ?_) e3
          obtain ⟨q, hq, rfl⟩ := List.mem_map.1 hp
          exact e2 q hq)
        have KD := Lib.hid hKd
        have GW := Lib.hid g
        have I6 := Lib.hid e4
        have I7 := Lib.hid e5
        have hDl : w.heap.size ≤ D := by have h1 := ZL.out; have h2 := ZQ.out; have h3 := HX.out; omega
        clear e1 e2 e3 e4 e5 g hKd hS hD hSS hk
        gi_wp2
        have hK := KD.out
        have j6 := I6.out.own (grownBy_putObj' _ D (.deferred none)) (fun r e => by cases e; exact ⟨_, hK, rfl⟩)
        have j7 := I7.out.own (grownBy_putObj' _ D (.deferred none)) (fun r e => by cases e; exact ⟨_, hK, rfl⟩)
        refine ⟨by simp, .inl ⟨_, _, rfl, run_takeDeferred hK, ?_⟩⟩
        refine ⟨.tuple #[.int .i64 S, .int .i64 0], ?_, ret_two ?_ ?_, ?_⟩
        · rw [results_cells2 rfl]
          obtain ⟨k6, k6'⟩ := j6
          obtain ⟨k7, k7'⟩ := j7
          go_simp
        · rw [HV0.out, AH.out]; rfl
        · rw [HC0.out, AH.out]; rfl
        · exact grown_of_row GW.out (grownBy_putObj' _ D _) (fun r e => by injection e with e; omega)
end Go.Proofs.Ytagemdgbnajobaa
