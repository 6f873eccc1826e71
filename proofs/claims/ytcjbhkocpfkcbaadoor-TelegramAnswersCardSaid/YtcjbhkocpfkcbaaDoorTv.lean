/- Contract of some: a telegram that may have one thing that is not valid. -/
import Derived.Test.YtcjbhkocpfkcbaaDoorTt
import Derived.Deep.RegionHeld3
import Derived.Deep.DeepCutAuto
namespace Go.Proofs.YtcjbhkocpfkcbaaDoor.Wr
open Go.ChangeShapes Go.WideShapes Go.ChangeAt Go.RowKit

/-- 'append(s, x...)' of ints; where its row lies. -/
theorem appP_run {base : Nat} {w : World} {A B : Option Addr} {n c m d : Nat} {l news : List Int} (hm : OI base w A n c l) (hb0 : base ≤ w.heap.size) (hr : IR w B m news) (h0 : 0 < m) (hb : n + m ≤ 8796093022208) (ty : TypeId) :
    ∃ A' c' w', (Builtin.append_ #[22, 22] ty #[.slice A n c, .slice B m d]).run Tryd.prog w = .ok (.slice A' (n + m) c') w' ∧ OI base w' A' (n + m) c' (l ++ news) ∧ w.grownBy w' (Value.slice A n c).ownBlock ∧
      ((Value.slice A' (n + m) c').ownBlock = (Value.slice A n c).ownBlock ∨ (Value.slice A' (n + m) c').ownBlock = some w.heap.size) := by
  obtain ⟨i, hi, hz, hs, hby⟩ := info_parts3
  obtain ⟨b, off, rfl, _⟩ := hr.2 0 h0
  obtain ⟨v', w', hrun, hown, hg, _, hbl⟩ := run_append_own_at (P := Tryd.prog) w base 22 ty 3 i (.int .i64 0) 1 8 Tryd.underlying22 hi hz hs hby rfl (by omega) (.slice A n c) n (ivs l) hm ⟨b, off, none⟩ m d (ivs news)
    (by rw [ivs_len, hr.1]; omega) hr.news (ivs_one _) (by unfold maxLen; omega) (by omega) hb0
  have hown' : w'.ownsRow base 3 1 v' (n + m) (ivs (l ++ news)) := by rw [ivs_append]; exact hown
  rcases hown'.2 with ⟨e, hn⟩ | ⟨g, cap, cur, e, _⟩
  · omega
  · subst e
    exact ⟨_, cap, w', hrun, hown', hg, hbl⟩
theorem step_appP {ops : Array Oper} {o : Oper} {a : Act} {w : World} {K : Act → World → Prop} {Q : Exit → Act → World → Prop} {E : Prop} (hgd : o.guard = none) (s x : Operand)
    (ho : o.op = .call { callee := .builtin .append, args := #[s, x], argTypes := #[22, 22] }) {base : Nat} {A B : Option Addr} {n c m d : Nat} {l news : List Int} (hs : a.eval s = .slice A n c) (hx : a.eval x = .slice B m d)
    (hm : OI base w A n c l) (hb0 : base ≤ w.heap.size) (hr : IR w B m news) (h0 : 0 < m) (hb : n + m ≤ 8796093022208) (N : Nat) (hN : n + m = N)
    (h : ∀ A' c' w', OI base w' A' N c' (l ++ news) → w.grownBy w' (Value.slice A n c).ownBlock → ((Value.slice A' N c').ownBlock = (Value.slice A n c).ownBlock ∨ (Value.slice A' N c').ownBlock = some w.heap.size) → K (a.put o.dst (.slice A' N c')) w') :
    if Region.wanted o (yielded ops a.tmps) = true then Oper.wp Tryd.prog o a w K Q else E := by
  subst hN
  have hw : Region.wanted o (yielded ops a.tmps) = true := by simp [Region.wanted, hgd]
  rw [if_pos hw]
  obtain ⟨A', c', w', hrun, h2, h3, h4⟩ := appP_run (d := d) hm hb0 hr h0 hb o.type
  unfold Oper.wp execOp
  simp only [ho, resolve, invoke, builtin, Sem.run_bind, Sem.run_pure, Result.andThen_ok, List.map_toArray, List.map_cons, List.map_nil, hs, hx, hrun]
  exact h A' c' w' h2 h3 h4

/-- A telegram stands in block T: its values are a row of the call's own, elsewhere. -/
structure TS2 (w : World) (S X T : Nat) (t : Tm.Tg) (A : Option Addr) (n c : Nat) (wr : World) : Prop where
  gr : w.grownBy wr (some S)
  src : SrcOK wr S
  res : Six wr X Tm.zero nilV
  tel : Six wr T t (.slice A n c)
  own : OI (X + 1) wr A n c t.vs
  apart : ∀ k, (Value.slice A n c).ownBlock = some k → k ≠ T
  sz : X + 1 ≤ wr.heap.size
section
variable {w wr w' : World} {S X T : Nat} {t : Tm.Tg} {A : Option Addr} {n c : Nat}
theorem TS2.tlt (h : TS2 w S X T t A n c wr) : T < wr.heap.size := World.block_lt_of_cell? _ _ h.tel.1.1
theorem TS2.step (h : TS2 w S X T t A n c wr) (hX : S < X) (hT : S < T) (g : wr.grownBy w' (some S)) (hs : SrcOK w' S) : TS2 w S X T t A n c w' :=
  ⟨grown_trans h.gr g, hs, h.res.grown g (by intro e; injection e; omega), h.tel.grown g (by intro e; injection e; omega), h.own.keep g (by intro k e; injection e; omega), h.apart, Nat.le_trans h.sz g.size⟩
theorem TS2.step0 (h : TS2 w S X T t A n c wr) (hX : S < X) (hT : S < T) (g : wr.grownBy w' none) : TS2 w S X T t A n c w' := h.step hX hT (grown_weak _ g) (h.src.grown g)
theorem OI.not {base k : Nat} {l : List Int} {w1 : World} (h : OI base wr A n c l) (g : wr.grownBy w1 (some k)) (hk : ∀ j, (Value.slice A n c).ownBlock = some j → j ≠ k) : OI base w1 A n c l :=
  World.ownsRow.kept h g (by
    cases hv : (Value.slice A n c).ownBlock with
    | none => exact .inl rfl
    | some j => exact .inr (fun e => hk j hv (by injection e)))
/-- A cell of the telegram is stored. -/
theorem TS2.put (t' : Tm.Tg) (j : Nat) (v : Value) (h : TS2 w S X T t A n c wr) (hw : w.heap.size ≤ X) (hX : S < X) (hT : X < T) (hv : t'.vs = t.vs) (h6 : Six (wr.setCell ⟨T, j, none⟩ v) T t' (.slice A n c)) :
    TS2 w S X T t' A n c (wr.setCell ⟨T, j, none⟩ v) := by
  have gT : wr.grownBy (wr.setCell ⟨T, j, none⟩ v) (some T) := grown_set wr ⟨T, j, none⟩ _
  exact ⟨grown_rowS h.gr gT (fun b e => .inr (by injection e; omega)), h.src.grownRow gT (fun k e => by injection e; omega), h.res.grown gT (by intro e; injection e; omega), h6, by rw [hv]; exact h.own.not gT h.apart, h.apart, Nat.le_trans h.sz gT.size⟩
theorem set_at {wr : World} {T j : Nat} {u : Value} (v : Value) (h : wr.cell? ⟨T, j, none⟩ = some u) (i : Nat) : (wr.setCell ⟨T, j, none⟩ v).cell? ⟨T, i, none⟩ = if i = j then some v else wr.cell? ⟨T, i, none⟩ := by
  by_cases e : i = j
  · subst e
    rw [if_pos rfl]
    exact set_hit v h
  · rw [if_neg e]
    exact World.cell?_setCell_other wr _ _ v (off_ne T (fun h => e h.symm))
theorem six_set {V v : Value} {j : Nat} (h : Six wr T t V) (t' : Tm.Tg) (V' : Value) (hj : j < 6)
    (hs : (∀ i u, i < 6 → [iv t.st, iv t.ep, iv t.sq, iv t.tm, iv t.kd, V][i]? = some u → [iv t'.st, iv t'.ep, iv t'.sq, iv t'.tm, iv t'.kd, V'][i]? = some (if i = j then v else u))) :
    Six (wr.setCell ⟨T, j, none⟩ v) T t' V' := by
  obtain ⟨⟨h0, h1, h2, h3, h4, h5⟩, k0, k1, k2, k3, k4, k5⟩ := h
  obtain ⟨u, hu⟩ : ∃ u, wr.cell? ⟨T, j, none⟩ = some u := by
    match j, hj with
    | 0, _ => exact ⟨_, h0⟩
    | 1, _ => exact ⟨_, h1⟩
    | 2, _ => exact ⟨_, h2⟩
    | 3, _ => exact ⟨_, h3⟩
    | 4, _ => exact ⟨_, h4⟩
    | 5, _ => exact ⟨_, h5⟩
  have q (i : Nat) (hi : i < 6) (u : Value) (hu1 : wr.cell? ⟨T, i, none⟩ = some u) (hu' : [iv t.st, iv t.ep, iv t.sq, iv t.tm, iv t.kd, V][i]? = some u) :
      (wr.setCell ⟨T, j, none⟩ v).cell? ⟨T, i, none⟩ = [iv t'.st, iv t'.ep, iv t'.sq, iv t'.tm, iv t'.kd, V'][i]? := by
    rw [set_at v hu i, hs i u hi hu']
    by_cases e : i = j
    · simp [e]
    · simp [e, hu1]
  refine ⟨⟨q 0 (by omega) _ h0 rfl, q 1 (by omega) _ h1 rfl, q 2 (by omega) _ h2 rfl, q 3 (by omega) _ h3 rfl, q 4 (by omega) _ h4 rfl, q 5 (by omega) _ h5 rfl⟩, ?_⟩
  simp only [World.frozen?_setCell]; exact ⟨k0, k1, k2, k3, k4, k5⟩
theorem TS2.set0 (r : Int) (h : TS2 w S X T t A n c wr) (hw : w.heap.size ≤ X) (hX : S < X) (hT : X < T) : TS2 w S X T ⟨r, t.ep, t.sq, t.tm, t.kd, t.vs⟩ A n c (wr.setCell ⟨T, 0, none⟩ (.int .i64 r)) :=
  h.put _ 0 _ hw hX hT rfl (six_set h.tel _ _ (by omega) (fun i u hi hu => by match i, hi with | 0, _ => rfl | 1, _ => exact hu | 2, _ => exact hu | 3, _ => exact hu | 4, _ => exact hu | 5, _ => exact hu))
theorem TS2.set1 (r : Int) (h : TS2 w S X T t A n c wr) (hw : w.heap.size ≤ X) (hX : S < X) (hT : X < T) : TS2 w S X T ⟨t.st, r, t.sq, t.tm, t.kd, t.vs⟩ A n c (wr.setCell ⟨T, 1, none⟩ (.int .i64 r)) :=
  h.put _ 1 _ hw hX hT rfl (six_set h.tel _ _ (by omega) (fun i u hi hu => by match i, hi with | 0, _ => exact hu | 1, _ => rfl | 2, _ => exact hu | 3, _ => exact hu | 4, _ => exact hu | 5, _ => exact hu))
theorem TS2.set2 (r : Int) (h : TS2 w S X T t A n c wr) (hw : w.heap.size ≤ X) (hX : S < X) (hT : X < T) : TS2 w S X T ⟨t.st, t.ep, r, t.tm, t.kd, t.vs⟩ A n c (wr.setCell ⟨T, 2, none⟩ (.int .i64 r)) :=
  h.put _ 2 _ hw hX hT rfl (six_set h.tel _ _ (by omega) (fun i u hi hu => by match i, hi with | 0, _ => exact hu | 1, _ => exact hu | 2, _ => rfl | 3, _ => exact hu | 4, _ => exact hu | 5, _ => exact hu))
theorem TS2.set3 (r : Int) (h : TS2 w S X T t A n c wr) (hw : w.heap.size ≤ X) (hX : S < X) (hT : X < T) : TS2 w S X T ⟨t.st, t.ep, t.sq, r, t.kd, t.vs⟩ A n c (wr.setCell ⟨T, 3, none⟩ (.int .i64 r)) :=
  h.put _ 3 _ hw hX hT rfl (six_set h.tel _ _ (by omega) (fun i u hi hu => by match i, hi with | 0, _ => exact hu | 1, _ => exact hu | 2, _ => exact hu | 3, _ => rfl | 4, _ => exact hu | 5, _ => exact hu))
theorem TS2.set4 (r : Int) (h : TS2 w S X T t A n c wr) (hw : w.heap.size ≤ X) (hX : S < X) (hT : X < T) : TS2 w S X T ⟨t.st, t.ep, t.sq, t.tm, r, t.vs⟩ A n c (wr.setCell ⟨T, 4, none⟩ (.int .i64 r)) :=
  h.put _ 4 _ hw hX hT rfl (six_set h.tel _ _ (by omega) (fun i u hi hu => by match i, hi with | 0, _ => exact hu | 1, _ => exact hu | 2, _ => exact hu | 3, _ => exact hu | 4, _ => rfl | 5, _ => exact hu))
theorem TS2.push {w6 : World} {A' : Option Addr} {n' c' : Nat} {row : Option Nat} (vs' : List Int) (h : TS2 w S X T t A n c wr) (hw : w.heap.size ≤ X) (hX : S < X) (hT : X < T) (ho : OI (X + 1) w6 A' n' c' vs') (g : wr.grownBy w6 row) (hr : ∀ k, row = some k → X + 1 ≤ k ∧ k ≠ T) (ha : ∀ k, (Value.slice A' n' c').ownBlock = some k → k ≠ T) : TS2 w S X T ⟨t.st, t.ep, t.sq, t.tm, t.kd, vs'⟩ A' n' c' (w6.setCell ⟨T, 5, none⟩ (.slice A' n' c')) := by
  have gT : w6.grownBy (w6.setCell ⟨T, 5, none⟩ (.slice A' n' c')) (some T) := grown_set w6 ⟨T, 5, none⟩ _
  have g6 : w.grownBy w6 (some S) := grown_rowS h.gr g (fun b e => .inr (by have := (hr b e).1; omega))
  have s6 : SrcOK w6 S := h.src.grownRow g (fun k e => by have := (hr k e).1; omega)
  have r6 : Six w6 X Tm.zero nilV := h.res.grown g (fun e => by have := (hr X e.symm).1; omega)
  have t6 : Six w6 T t (.slice A n c) := h.tel.grown g (fun e => (hr T e.symm).2 rfl)
  exact ⟨grown_rowS g6 gT (fun b e => .inr (by injection e; omega)), s6.grownRow gT (fun k e => by injection e; omega), r6.grown gT (by intro e; injection e; omega),
    six_set t6 _ _ (by omega) (fun i u hi hu => by match i, hi with | 0, _ => exact hu | 1, _ => exact hu | 2, _ => exact hu | 3, _ => exact hu | 4, _ => exact hu | 5, _ => rfl), ho.not gT ha, ha, by have := gT.size; have := g.size; have := h.sz; omega⟩
end
theorem made_oi (base : Nat) (w : World) (n : Nat) (hb : base ≤ w.heap.size) (hn : n ≤ 1000) : OI base (w.alloc (.cells (madeCells #[.int .i64 0] n) 3)) (some ⟨w.heap.size, 0, none⟩) n n (List.replicate n 0) := by
  have := World.ownsRow_lit (base := base) (e := 3) (size := 1) w (madeCells #[.int .i64 0] n) n hb (by unfold maxLen; omega) (by rw [← Array.length_toList, toList_madeCells_one, List.length_replicate]; omega)
  rw [toList_madeCells_one] at this
  unfold OI ivs
  rw [List.map_replicate]
  exact this
theorem lit_apart {H T k m c : Nat} (h : T < H) (e : (Value.slice (some ⟨H, 0, none⟩) m c).ownBlock = some k) : k ≠ T := by
  have e : H = k := by injection e
  omega
theorem some_end {w WE : World} {S X T : Nat} {t : Tm.Tg} {A : Option Addr} {n c : Nat} (hX : w.heap.size = X) (hSX : S < X) (h : TS2 w S X T t A n c WE) (hp : t.vs.length ≤ 17) :
    TgEnd S (fun t => t.vs.length ≤ 17) w (.returned (tv t (.slice A n c))) (six WE X t (.slice A n c)) := by
  have gX := six_grown WE X t (.slice A n c)
  refine ⟨t, A, n, c, rfl, grown_rowS h.gr gX (fun b e => .inr (by injection e; omega)), h.src.grownRow gX (fun k e => by injection e; omega), ?_, hp⟩
  have := h.own.keep gX (by intro k e; injection e; omega)
  rw [hX]; exact this

set_option maxRecDepth 100000 in
set_option maxHeartbeats 4000000 in
theorem some_any (S : Nat) (w : World) (hs : SrcOK w S) : Calls Tryd.prog 10 #[.pointer (some ⟨S, 0, none⟩)] w (TgEnd S (fun t => t.vs.length ≤ 17) w) := by
  have hS := src_lt hs
  have HS := Lib.hid hs
  clear hs
  go_enter Tryd.func10, Tryd.ntmps10
  go_wp2_with fail
  obtain ⟨X, hX⟩ : ∃ X, w.heap.size = X := ⟨_, rfl⟩
  have X1 : Hid (Six (w.alloc (tcells Tm.zero nilV)) X Tm.zero nilV) := by rw [← hX]; exact Six.made w _ _
  have G1 : Hid (w.grownBy (w.alloc (tcells Tm.zero nilV)) (some S)) := World.grownBy_alloc _ _ _
  have S1 : Hid (SrcOK (w.alloc (tcells Tm.zero nilV)) S) := HS.out.grown (World.grownBy_alloc _ _ _)
  have Z1 : Hid ((w.alloc (tcells Tm.zero nilV)).heap.size = X + 1) := by
    have : (w.alloc (tcells Tm.zero nilV)).heap.size = X + 1 := by rw [← hX]; simp
    exact this
  rw [hX] at hS ⊢
  have hwX : w.heap.size ≤ X := by omega
  have hSX : S < X := hS
  have hneX : some X ≠ some S := by intro e; injection e; omega
  unfold tcells nilV at X1 G1 S1 Z1
  dsimp only [Tm.zero] at X1 G1 S1 Z1
  generalize (w.alloc (Obj.cells #[.int .i64 0, .int .i64 0, .int .i64 0, .int .i64 0, .int .i64 0, .slice none 0 0] 24)) = W1 at *
  refine Calls.mono (pick_lit S 5 (X + 1) [0, 1, 63, 62, 255] #[.int .i64 0, .int .i64 1, .int .i64 63, .int .i64 62, .int .i64 255] W1 Z1.out S1.out rfl (by omega) (by omega) ?_) ?_
  · intro i hi
    match i, hi with
    | 0, _ => rfl
    | 1, _ => rfl
    | 2, _ => rfl
    | 3, _ => rfl
    | 4, _ => rfl
  rintro e W2 ⟨st, hst, rfl, hg, hs⟩
  have hst2 : 0 ≤ st ∧ st ≤ 255 := by simp at hst; omega
  have X2 : Hid (Six W2 X Tm.zero nilV) := X1.out.grown hg hneX
  have G2 := Lib.hid (grown_trans G1.out hg)
  have S2 := Lib.hid hs
  have z2 := hg.size
  have z2 : X + 1 ≤ W2.heap.size := by have := Z1.out; omega
  clear X1 G1 S1 Z1 hg hs hst
  go_wp2_with fail
  refine (telegram_any S st W2 S2.out hst2.1 hst2.2).mono ?_
  rintro e W3 ⟨⟨ts, te, tq, tt, tk, vs⟩, A, n, c, rfl, hg, hs, ho, -, -, hn⟩
  have hn : n ≤ 3 := by have := ho.len; dsimp only at this hn; omega
  have z3 := hg.size
  obtain ⟨T, hT⟩ : ∃ T, W3.heap.size = T := ⟨_, rfl⟩
  have hXT : X < T := by omega
  have hST : S < T := by omega
  have HWR : Hid (TS2 w S X T ⟨ts, te, tq, tt, tk, vs⟩ A n c (W3.alloc (tcells ⟨ts, te, tq, tt, tk, vs⟩ (.slice A n c)))) := by
    have gA : W3.grownBy (W3.alloc (tcells ⟨ts, te, tq, tt, tk, vs⟩ (.slice A n c))) none := World.grownBy_alloc _ _ _
    refine ⟨grown_trans (grown_trans G2.out hg) (grown_weak _ gA), hs.grown gA, (X2.out.grown hg hneX).grown gA (by simp), ?_, ?_, ?_, ?_⟩
    · rw [← hT]; exact Six.made W3 _ _
    · exact OI.keep (World.ownsRow.mono ho (by omega)) gA (by intro k e; cases e)
    · intro k e; have := (ho.row k e).2; omega
    · have := gA.size; omega
  unfold tv
  dsimp only
  go_wp2_with fail
  unfold tcells at HWR
  dsimp only at HWR
  generalize (W3.alloc (Obj.cells #[.int .i64 ts, .int .i64 te, .int .i64 tq, .int .i64 tt, .int .i64 tk, .slice A n c] 24)) = W4 at *
  clear X2 G2 S2 z2 z3 ho hg hs hT
  refine (n_any S 12 W4 HWR.out.src (by omega) (by omega)).mono ?_
  rintro e wr ⟨k, ⟨hk1, hk2⟩, rfl, hg, hs⟩
  have HWR := Lib.hid (HWR.out.step hSX hST hg hs)
  clear hg hs
  rcases (show k = 0 ∨ k = 1 ∨ k = 2 ∨ k = 3 ∨ k = 4 ∨ k = 5 ∨ k = 6 ∨ 7 ≤ k by omega) with rfl | rfl | rfl | rfl | rfl | rfl | rfl | hk
  · -- field 0
    go_wp2_with fail
    refine Calls.mono (pick_lit S 3 wr.heap.size [-1, 256, 255] #[.int .i64 (-1), .int .i64 256, .int .i64 255] wr rfl HWR.out.src rfl (by omega) (by omega) ?_) ?_
    · intro i hi
      match i, hi with
      | 0, _ => rfl
      | 1, _ => rfl
      | 2, _ => rfl
    rintro e W4 ⟨r, hr, rfl, hg, hs⟩
    have HW4 := Lib.hid (HWR.out.step hSX hST hg hs)
    clear hg hs hr HWR
    obtain ⟨⟨a0, a1, a2, a3, a4, a5⟩, b0, b1, b2, b3, b4, b5⟩ := HW4.out.res
    obtain ⟨⟨d0, d1, d2, d3, d4, d5⟩, e0, e1, e2, e3, e4, e5⟩ := HW4.out.tel
    try dsimp only at d0 d1 d2 d3 d4 d5
    have HP := Lib.hid (HW4.out.set0 r hwX hSX hXT)
    try dsimp only at HP
    go_upto_region 17 with fail
    clear a0 a1 a2 a3 a4 a5 b0 b1 b2 b3 b4 b5 d0 d1 d2 d3 d4 d5 e0 e1 e2 e3 e4 e5
    obtain ⟨⟨a0, a1, a2, a3, a4, a5⟩, b0, b1, b2, b3, b4, b5⟩ := HP.out.res
    obtain ⟨⟨d0, d1, d2, d3, d4, d5⟩, _⟩ := HP.out.tel
    try dsimp only at d0 d1 d2 d3 d4 d5
    generalize (W4.setCell ⟨T, 0, none⟩ (.int .i64 r)) = WE at *
    go_wp2
    obtain ⟨⟨p0, p1, p2, p3, p4, p5⟩, _⟩ := HP.out.res.store ⟨r, te, tq, tt, tk, vs⟩ (.slice A n c)
    unfold six at p0 p1 p2 p3 p4 p5
    dsimp only at p0 p1 p2 p3 p4 p5
    refine bodyPost_ret (v := tv ⟨r, te, tq, tt, tk, vs⟩ (.slice A n c)) (by simp [results, Tryd.results10, go_sem, p0, p1, p2, p3, p4, p5, tv]) rfl (some_end hX hSX HP.out (by have := HP.out.own.len; simp at this ⊢; omega))
  · -- field 1
    go_wp2_with fail
    refine Calls.mono (pick_lit S 3 wr.heap.size [-1, 256, 255] #[.int .i64 (-1), .int .i64 256, .int .i64 255] wr rfl HWR.out.src rfl (by omega) (by omega) ?_) ?_
    · intro i hi
      match i, hi with
      | 0, _ => rfl
      | 1, _ => rfl
      | 2, _ => rfl
    rintro e W4 ⟨r, hr, rfl, hg, hs⟩
    have HW4 := Lib.hid (HWR.out.step hSX hST hg hs)
    clear hg hs hr HWR
    obtain ⟨⟨a0, a1, a2, a3, a4, a5⟩, b0, b1, b2, b3, b4, b5⟩ := HW4.out.res
    obtain ⟨⟨d0, d1, d2, d3, d4, d5⟩, e0, e1, e2, e3, e4, e5⟩ := HW4.out.tel
    try dsimp only at d0 d1 d2 d3 d4 d5
    have HP := Lib.hid (HW4.out.set1 r hwX hSX hXT)
    try dsimp only at HP
    go_upto_region 17 with fail
    clear a0 a1 a2 a3 a4 a5 b0 b1 b2 b3 b4 b5 d0 d1 d2 d3 d4 d5 e0 e1 e2 e3 e4 e5
    obtain ⟨⟨a0, a1, a2, a3, a4, a5⟩, b0, b1, b2, b3, b4, b5⟩ := HP.out.res
    obtain ⟨⟨d0, d1, d2, d3, d4, d5⟩, _⟩ := HP.out.tel
    try dsimp only at d0 d1 d2 d3 d4 d5
    generalize (W4.setCell ⟨T, 1, none⟩ (.int .i64 r)) = WE at *
    go_wp2
    obtain ⟨⟨p0, p1, p2, p3, p4, p5⟩, _⟩ := HP.out.res.store ⟨ts, r, tq, tt, tk, vs⟩ (.slice A n c)
    unfold six at p0 p1 p2 p3 p4 p5
    dsimp only at p0 p1 p2 p3 p4 p5
    refine bodyPost_ret (v := tv ⟨ts, r, tq, tt, tk, vs⟩ (.slice A n c)) (by simp [results, Tryd.results10, go_sem, p0, p1, p2, p3, p4, p5, tv]) rfl (some_end hX hSX HP.out (by have := HP.out.own.len; simp at this ⊢; omega))
  · -- field 2
    go_wp2_with fail
    refine Calls.mono (pick_lit S 3 wr.heap.size [-1, 2147483648, 2147483649] #[.int .i64 (-1), .int .i64 2147483648, .int .i64 2147483649] wr rfl HWR.out.src rfl (by omega) (by omega) ?_) ?_
    · intro i hi
      match i, hi with
      | 0, _ => rfl
      | 1, _ => rfl
      | 2, _ => rfl
    rintro e W4 ⟨r, hr, rfl, hg, hs⟩
    have HW4 := Lib.hid (HWR.out.step hSX hST hg hs)
    clear hg hs hr HWR
    obtain ⟨⟨a0, a1, a2, a3, a4, a5⟩, b0, b1, b2, b3, b4, b5⟩ := HW4.out.res
    obtain ⟨⟨d0, d1, d2, d3, d4, d5⟩, e0, e1, e2, e3, e4, e5⟩ := HW4.out.tel
    try dsimp only at d0 d1 d2 d3 d4 d5
    have HP := Lib.hid (HW4.out.set2 r hwX hSX hXT)
    try dsimp only at HP
    go_upto_region 17 with fail
    clear a0 a1 a2 a3 a4 a5 b0 b1 b2 b3 b4 b5 d0 d1 d2 d3 d4 d5 e0 e1 e2 e3 e4 e5
    obtain ⟨⟨a0, a1, a2, a3, a4, a5⟩, b0, b1, b2, b3, b4, b5⟩ := HP.out.res
    obtain ⟨⟨d0, d1, d2, d3, d4, d5⟩, _⟩ := HP.out.tel
    try dsimp only at d0 d1 d2 d3 d4 d5
    generalize (W4.setCell ⟨T, 2, none⟩ (.int .i64 r)) = WE at *
    go_wp2
    obtain ⟨⟨p0, p1, p2, p3, p4, p5⟩, _⟩ := HP.out.res.store ⟨ts, te, r, tt, tk, vs⟩ (.slice A n c)
    unfold six at p0 p1 p2 p3 p4 p5
    dsimp only at p0 p1 p2 p3 p4 p5
    refine bodyPost_ret (v := tv ⟨ts, te, r, tt, tk, vs⟩ (.slice A n c)) (by simp [results, Tryd.results10, go_sem, p0, p1, p2, p3, p4, p5, tv]) rfl (some_end hX hSX HP.out (by have := HP.out.own.len; simp at this ⊢; omega))
  · -- field 3
    go_wp2_with fail
    refine Calls.mono (pick_lit S 3 wr.heap.size [-1, 1099511627776, 1099511627777] #[.int .i64 (-1), .int .i64 1099511627776, .int .i64 1099511627777] wr rfl HWR.out.src rfl (by omega) (by omega) ?_) ?_
    · intro i hi
      match i, hi with
      | 0, _ => rfl
      | 1, _ => rfl
      | 2, _ => rfl
    rintro e W4 ⟨r, hr, rfl, hg, hs⟩
    have HW4 := Lib.hid (HWR.out.step hSX hST hg hs)
    clear hg hs hr HWR
    obtain ⟨⟨a0, a1, a2, a3, a4, a5⟩, b0, b1, b2, b3, b4, b5⟩ := HW4.out.res
    obtain ⟨⟨d0, d1, d2, d3, d4, d5⟩, e0, e1, e2, e3, e4, e5⟩ := HW4.out.tel
    try dsimp only at d0 d1 d2 d3 d4 d5
    have HP := Lib.hid (HW4.out.set3 r hwX hSX hXT)
    try dsimp only at HP
    go_upto_region 17 with fail
    clear a0 a1 a2 a3 a4 a5 b0 b1 b2 b3 b4 b5 d0 d1 d2 d3 d4 d5 e0 e1 e2 e3 e4 e5
    obtain ⟨⟨a0, a1, a2, a3, a4, a5⟩, b0, b1, b2, b3, b4, b5⟩ := HP.out.res
    obtain ⟨⟨d0, d1, d2, d3, d4, d5⟩, _⟩ := HP.out.tel
    try dsimp only at d0 d1 d2 d3 d4 d5
    generalize (W4.setCell ⟨T, 3, none⟩ (.int .i64 r)) = WE at *
    go_wp2
    obtain ⟨⟨p0, p1, p2, p3, p4, p5⟩, _⟩ := HP.out.res.store ⟨ts, te, tq, r, tk, vs⟩ (.slice A n c)
    unfold six at p0 p1 p2 p3 p4 p5
    dsimp only at p0 p1 p2 p3 p4 p5
    refine bodyPost_ret (v := tv ⟨ts, te, tq, r, tk, vs⟩ (.slice A n c)) (by simp [results, Tryd.results10, go_sem, p0, p1, p2, p3, p4, p5, tv]) rfl (some_end hX hSX HP.out (by have := HP.out.own.len; simp at this ⊢; omega))
  · -- field 4
    go_wp2_with fail
    refine Calls.mono (pick_lit S 3 wr.heap.size [-1, 63, 64] #[.int .i64 (-1), .int .i64 63, .int .i64 64] wr rfl HWR.out.src rfl (by omega) (by omega) ?_) ?_
    · intro i hi
      match i, hi with
      | 0, _ => rfl
      | 1, _ => rfl
      | 2, _ => rfl
    rintro e W4 ⟨r, hr, rfl, hg, hs⟩
    have HW4 := Lib.hid (HWR.out.step hSX hST hg hs)
    clear hg hs hr HWR
    obtain ⟨⟨a0, a1, a2, a3, a4, a5⟩, b0, b1, b2, b3, b4, b5⟩ := HW4.out.res
    obtain ⟨⟨d0, d1, d2, d3, d4, d5⟩, e0, e1, e2, e3, e4, e5⟩ := HW4.out.tel
    try dsimp only at d0 d1 d2 d3 d4 d5
    have HP := Lib.hid (HW4.out.set4 r hwX hSX hXT)
    try dsimp only at HP
    go_upto_region 17 with fail
    clear a0 a1 a2 a3 a4 a5 b0 b1 b2 b3 b4 b5 d0 d1 d2 d3 d4 d5 e0 e1 e2 e3 e4 e5
    obtain ⟨⟨a0, a1, a2, a3, a4, a5⟩, b0, b1, b2, b3, b4, b5⟩ := HP.out.res
    obtain ⟨⟨d0, d1, d2, d3, d4, d5⟩, _⟩ := HP.out.tel
    try dsimp only at d0 d1 d2 d3 d4 d5
    generalize (W4.setCell ⟨T, 4, none⟩ (.int .i64 r)) = WE at *
    go_wp2
    obtain ⟨⟨p0, p1, p2, p3, p4, p5⟩, _⟩ := HP.out.res.store ⟨ts, te, tq, tt, r, vs⟩ (.slice A n c)
    unfold six at p0 p1 p2 p3 p4 p5
    dsimp only at p0 p1 p2 p3 p4 p5
    refine bodyPost_ret (v := tv ⟨ts, te, tq, tt, r, vs⟩ (.slice A n c)) (by simp [results, Tryd.results10, go_sem, p0, p1, p2, p3, p4, p5, tv]) rfl (some_end hX hSX HP.out (by have := HP.out.own.len; simp at this ⊢; omega))
  · -- make
    go_wp2_with fail
    refine Calls.mono (pick_lit S 2 wr.heap.size [16, 17] #[.int .i64 16, .int .i64 17] wr rfl HWR.out.src rfl (by omega) (by omega) ?_) ?_
    · intro i hi
      match i, hi with
      | 0, _ => rfl
      | 1, _ => rfl
    rintro e W4 ⟨r, hr, rfl, hg, hs⟩
    have HW4 := Lib.hid (HWR.out.step hSX hST hg hs)
    clear hg hs HWR
    have hr : r = 16 ∨ r = 17 := by simpa using hr
    rcases hr with rfl | rfl
    · have HM := Lib.hid (made_oi (X + 1) W4 16 HW4.out.sz (by omega))
      have HP := Lib.hid (HW4.out.push (List.replicate 16 0) hwX hSX hXT HM.out (World.grownBy_alloc W4 (Obj.cells (madeCells #[.int .i64 0] 16) 3) none) (fun k e => by cases e) (fun k e => lit_apart HW4.out.tlt e))
      obtain ⟨⟨d0, d1, d2, d3, d4, d5⟩, e0, e1, e2, e3, e4, e5⟩ := HW4.out.tel.grown (World.grownBy_alloc W4 (Obj.cells (madeCells #[.int .i64 0] 16) 3) none) (by simp)
      try dsimp only at HP
      have hmk : ∀ w : World, Sem.run Tryd.prog (Instr.makeSlice 22 (.int .i64 16) (.int .i64 16)) w = _ := fun w => run_make_row' (P := Tryd.prog) 22 3 (.int .i64 0) 8 Tryd.underlying22 info3 rfl .i64 .i64 16 (by omega) (by omega) w
      go_upto_region 17 with fail
      clear hmk d0 d1 d2 d3 d4 d5 e0 e1 e2 e3 e4 e5
      obtain ⟨⟨a0, a1, a2, a3, a4, a5⟩, b0, b1, b2, b3, b4, b5⟩ := HP.out.res
      obtain ⟨⟨d0, d1, d2, d3, d4, d5⟩, _⟩ := HP.out.tel
      try dsimp only at d0 d1 d2 d3 d4 d5
      generalize ((W4.alloc (Obj.cells (madeCells #[.int .i64 0] 16) 3)).setCell ⟨T, 5, none⟩ (.slice (some ⟨W4.heap.size, 0, none⟩) 16 16)) = WE at *
      go_wp2
      obtain ⟨⟨p0, p1, p2, p3, p4, p5⟩, _⟩ := HP.out.res.store ⟨ts, te, tq, tt, tk, List.replicate 16 0⟩ (.slice (some ⟨W4.heap.size, 0, none⟩) 16 16)
      unfold six at p0 p1 p2 p3 p4 p5
      dsimp only at p0 p1 p2 p3 p4 p5
      refine bodyPost_ret (v := tv ⟨ts, te, tq, tt, tk, List.replicate 16 0⟩ (.slice (some ⟨W4.heap.size, 0, none⟩) 16 16)) (by simp [results, Tryd.results10, go_sem, p0, p1, p2, p3, p4, p5, tv]) rfl (some_end hX hSX HP.out (by simp))
    · have HM := Lib.hid (made_oi (X + 1) W4 17 HW4.out.sz (by omega))
      have HP := Lib.hid (HW4.out.push (List.replicate 17 0) hwX hSX hXT HM.out (World.grownBy_alloc W4 (Obj.cells (madeCells #[.int .i64 0] 17) 3) none) (fun k e => by cases e) (fun k e => lit_apart HW4.out.tlt e))
      obtain ⟨⟨d0, d1, d2, d3, d4, d5⟩, e0, e1, e2, e3, e4, e5⟩ := HW4.out.tel.grown (World.grownBy_alloc W4 (Obj.cells (madeCells #[.int .i64 0] 17) 3) none) (by simp)
      try dsimp only at HP
      have hmk : ∀ w : World, Sem.run Tryd.prog (Instr.makeSlice 22 (.int .i64 17) (.int .i64 17)) w = _ := fun w => run_make_row' (P := Tryd.prog) 22 3 (.int .i64 0) 8 Tryd.underlying22 info3 rfl .i64 .i64 17 (by omega) (by omega) w
      go_upto_region 17 with fail
      clear hmk d0 d1 d2 d3 d4 d5 e0 e1 e2 e3 e4 e5
      obtain ⟨⟨a0, a1, a2, a3, a4, a5⟩, b0, b1, b2, b3, b4, b5⟩ := HP.out.res
      obtain ⟨⟨d0, d1, d2, d3, d4, d5⟩, _⟩ := HP.out.tel
      try dsimp only at d0 d1 d2 d3 d4 d5
      generalize ((W4.alloc (Obj.cells (madeCells #[.int .i64 0] 17) 3)).setCell ⟨T, 5, none⟩ (.slice (some ⟨W4.heap.size, 0, none⟩) 17 17)) = WE at *
      go_wp2
      obtain ⟨⟨p0, p1, p2, p3, p4, p5⟩, _⟩ := HP.out.res.store ⟨ts, te, tq, tt, tk, List.replicate 17 0⟩ (.slice (some ⟨W4.heap.size, 0, none⟩) 17 17)
      unfold six at p0 p1 p2 p3 p4 p5
      dsimp only at p0 p1 p2 p3 p4 p5
      refine bodyPost_ret (v := tv ⟨ts, te, tq, tt, tk, List.replicate 17 0⟩ (.slice (some ⟨W4.heap.size, 0, none⟩) 17 17)) (by simp [results, Tryd.results10, go_sem, p0, p1, p2, p3, p4, p5, tv]) rfl (some_end hX hSX HP.out (by simp))
  · -- append
    go_wp2_with fail
    refine wp_region_held_drew (S := fun _ => True) (by kernel_rfl) trivial (fun hHeld => ?_)
    have HWD := Lib.hid (HWR.out.step0 hSX hST (grown_drew wr none))
    generalize wr.drew = WD at *
    try simp only [Act.put, List.setIfInBounds_toArray, List.set_cons_zero, List.set_cons_succ]
    refine wpAnyH_take (i := 0) (oi := { dst := some 50, op := Op.fieldAddr 24 (Operand.tmp 3) 5, type := 0, pos := "law.go:37", after := #[], guard := none }) (v := ?_) rfl (by kernel_rfl) (by kernel_rfl) (by kernel_rfl) (fun _ _ _ h => h) (Or.inl ⟨by rfl, ?_⟩) (by assumption) ?_
    rotate_left 1
    · intro w hSw; first | (go_simp; done) | (go_simp; with_reducible rfl)
    try simp only [Act.put, List.setIfInBounds_toArray, List.set_cons_zero, List.set_cons_succ]
    refine wpAnyH_take (i := 2) (oi := { dst := some 52, op := Op.move (Operand.tmp 0), type := 27, pos := "law.go:37", after := #[], guard := none }) (v := ?_) rfl (by kernel_rfl) (by kernel_rfl) (by kernel_rfl) (fun _ _ _ h => h) (Or.inl ⟨by rfl, ?_⟩) (by assumption) ?_
    rotate_left 1
    · intro w hSw; first | (go_simp; done) | (go_simp; with_reducible rfl)
    try simp only [Act.put, List.setIfInBounds_toArray, List.set_cons_zero, List.set_cons_succ]
    refine wpAnyH_ready (rs := [1, 3]) (by kernel_rfl) (by simp) (AllReadyH.cons (o := { dst := some 51, op := Op.load 22 (Operand.tmp 50), type := 22, pos := "law.go:37", after := #[{ on := 0, ground := Ground.data }], guard := none }) rfl (fun K hK => ?_) (AllReadyH.cons (o := { dst := some 53, op := Op.buildSlice 22 3 #[(0, Operand.const (Value.int IntKind.i64 9007199254740993)), (1, Operand.const (Value.int IntKind.i64 (-9007199254740993))), (2, Operand.const (Value.int IntKind.i64 (-9223372036854775808)))], type := 22, pos := "law.go:37", after := #[], guard := none }) rfl (fun K hK => ?_) AllReadyH.nil))
    · skip
      obtain ⟨⟨_, _, _, _, _, z5⟩, _⟩ := HWD.out.tel
      go_simp
      clear z5
      refine hK.out _ _ trivial (fun hHeld => ?_)
      clear hK K
      try simp only [Act.put, List.setIfInBounds_toArray, List.set_cons_zero, List.set_cons_succ]
      refine wpAnyH_ready (rs := [3]) (by kernel_rfl) (by simp) (AllReadyH.cons (o := { dst := some 53, op := Op.buildSlice 22 3 #[(0, Operand.const (Value.int IntKind.i64 9007199254740993)), (1, Operand.const (Value.int IntKind.i64 (-9007199254740993))), (2, Operand.const (Value.int IntKind.i64 (-9223372036854775808)))], type := 22, pos := "law.go:37", after := #[], guard := none }) rfl (fun K hK => ?_) AllReadyH.nil)
      · skip
        go_simp
        refine hK.out _ _ trivial (fun hHeld => ?_)
        clear hK K
        try simp only [Act.put, List.setIfInBounds_toArray, List.set_cons_zero, List.set_cons_succ]
        refine wpAnyH_ready (rs := [4]) (by kernel_rfl) (by simp) (AllReadyH.cons (o := { dst := some 54, op := Op.call { callee := Callee.value (Operand.func 21), args := #[Operand.tmp 52, Operand.tmp 53], argTypes := #[27, 22] }, type := 3, pos := "law.go:37", after := #[{ on := 2, ground := Ground.data }, { on := 3, ground := Ground.data }], guard := none }) rfl (fun K hK => ?_) AllReadyH.nil)
        · skip
          go_simp
          refine Calls.mono (pick_lit S 3 WD.heap.size [9007199254740993, -9007199254740993, -9223372036854775808] #[.int .i64 9007199254740993, .int .i64 (-9007199254740993), .int .i64 (-9223372036854775808)] WD rfl HWD.out.src rfl (by omega) (by omega) ?_) ?_
          · intro i hi
            match i, hi with
            | 0, _ => rfl
            | 1, _ => rfl
            | 2, _ => rfl
          rintro e W4 ⟨r, hr, rfl, hg, hs⟩
          have HW4 := Lib.hid (HWD.out.step hSX hST hg hs)
          clear hg hs hr
          try dsimp only
          refine hK.out _ _ trivial (fun hHeld => ?_)
          clear hK K
          try simp only [Act.put, List.setIfInBounds_toArray, List.set_cons_zero, List.set_cons_succ]
          refine wpAnyH_ready (rs := [5]) (by kernel_rfl) (by simp) (AllReadyH.cons (o := { dst := some 55, op := Op.buildSlice 22 1 #[(0, Operand.tmp 54)], type := 22, pos := "law.go:37", after := #[{ on := 4, ground := Ground.data }], guard := none }) rfl (fun K hK => ?_) AllReadyH.nil)
          · skip
            go_simp
            refine hK.out _ _ trivial (fun hHeld => ?_)
            clear hK K
            try simp only [Act.put, List.setIfInBounds_toArray, List.set_cons_zero, List.set_cons_succ]
            refine wpAnyH_ready (rs := [6]) (by kernel_rfl) (by simp) (AllReadyH.cons (o := { dst := some 56, op := Op.call { callee := Callee.builtin Builtin.append, args := #[Operand.tmp 51, Operand.tmp 55], argTypes := #[22, 22] }, type := 22, pos := "law.go:37", after := #[{ on := 1, ground := Ground.data }, { on := 5, ground := Ground.data }, { on := 4, ground := Ground.chain }], guard := none }) rfl (fun K hK => ?_) AllReadyH.nil)
            refine step_appP rfl (.tmp 51) (.tmp 55) rfl rfl rfl (HW4.out.step0 hSX hST (World.grownBy_alloc W4 (Obj.cells #[.int .i64 r] 3) none)).own (HW4.out.step0 hSX hST (World.grownBy_alloc W4 (Obj.cells #[.int .i64 r] 3) none)).sz (madeI_lit W4 W4 #[.int .i64 r] 1 [r] rfl rfl (grown_refl _ _) (by omega)).ir (by omega) (by omega) (n + 1) rfl ?_
            intro A6 c6 W6 ho6 hg6 hb6
            have HP := Lib.hid ((HW4.out.step0 hSX hST (World.grownBy_alloc W4 (Obj.cells #[.int .i64 r] 3) none)).push (vs ++ [r]) hwX hSX hXT ho6 hg6 (fun k e => ⟨((HW4.out.step0 hSX hST (World.grownBy_alloc W4 (Obj.cells #[.int .i64 r] 3) none)).own.row k e).1, (HW4.out.step0 hSX hST (World.grownBy_alloc W4 (Obj.cells #[.int .i64 r] 3) none)).apart k e⟩) (fun k e => by rcases hb6 with h | h; exact (HW4.out.step0 hSX hST (World.grownBy_alloc W4 (Obj.cells #[.int .i64 r] 3) none)).apart k (h.symm.trans e); (have h1 := h.symm.trans e; injection h1 with h1; have := (HW4.out.step0 hSX hST (World.grownBy_alloc W4 (Obj.cells #[.int .i64 r] 3) none)).tlt; omega)))
            obtain ⟨⟨_, _, _, _, _, z5⟩, _, _, _, _, _, y5⟩ := (HW4.out.step0 hSX hST (World.grownBy_alloc W4 (Obj.cells #[.int .i64 r] 3) none)).tel.grown hg6 (fun e => (HW4.out.step0 hSX hST (World.grownBy_alloc W4 (Obj.cells #[.int .i64 r] 3) none)).apart T e.symm rfl)
            refine hK.out _ _ trivial (fun hHeld => ?_)
            clear hK K ho6 hg6 hb6
            try simp only [Act.put, List.setIfInBounds_toArray, List.set_cons_zero, List.set_cons_succ]
            refine wpAnyH_take (i := 7) (oi := { dst := some 57, op := Op.fieldAddr 24 (Operand.tmp 3) 5, type := 0, pos := "law.go:37", after := #[{ on := 0, ground := Ground.phase }, { on := 1, ground := Ground.phase }, { on := 2, ground := Ground.phase }, { on := 3, ground := Ground.phase }, { on := 4, ground := Ground.phase }, { on := 5, ground := Ground.phase }, { on := 6, ground := Ground.phase }], guard := none }) (v := ?_) rfl (by kernel_rfl) (by kernel_rfl) (by kernel_rfl) (fun _ _ _ h => h) (Or.inl ⟨by rfl, ?_⟩) (by assumption) ?_
            rotate_left 1
            · intro w hSw; first | (go_simp; done) | (go_simp; with_reducible rfl)
            try simp only [Act.put, List.setIfInBounds_toArray, List.set_cons_zero, List.set_cons_succ]
            refine wpAnyH_ready (rs := [8]) (by kernel_rfl) (by simp) (AllReadyH.cons (o := { dst := none, op := Op.store 22 (Operand.tmp 57) (Operand.tmp 56), type := 0, pos := "law.go:37", after := #[{ on := 7, ground := Ground.data }, { on := 6, ground := Ground.data }, { on := 6, ground := Ground.chain }, { on := 0, ground := Ground.phase }, { on := 1, ground := Ground.phase }, { on := 2, ground := Ground.phase }, { on := 3, ground := Ground.phase }, { on := 4, ground := Ground.phase }, { on := 5, ground := Ground.phase }, { on := 6, ground := Ground.phase }], guard := none }) rfl (fun K hK => ?_) AllReadyH.nil)
            go_simp
            clear z5 y5
            refine hK.out _ _ trivial (fun hHeld => ?_)
            clear hK K
            try simp only [Act.put, List.setIfInBounds_toArray, List.set_cons_zero, List.set_cons_succ]
            refine wpAnyH_done (by kernel_rfl) ?_ _
            obtain ⟨⟨a0, a1, a2, a3, a4, a5⟩, b0, b1, b2, b3, b4, b5⟩ := HP.out.res
            obtain ⟨⟨d0, d1, d2, d3, d4, d5⟩, _⟩ := HP.out.tel
            try dsimp only at d0 d1 d2 d3 d4 d5
            generalize (W6.setCell ⟨T, 5, none⟩ (.slice A6 (n + 1) c6)) = WE at *
            go_wp2
            obtain ⟨⟨p0, p1, p2, p3, p4, p5⟩, _⟩ := HP.out.res.store ⟨ts, te, tq, tt, tk, vs ++ [r]⟩ (.slice A6 (n + 1) c6)
            unfold six at p0 p1 p2 p3 p4 p5
            dsimp only at p0 p1 p2 p3 p4 p5
            refine bodyPost_ret (v := tv ⟨ts, te, tq, tt, tk, vs ++ [r]⟩ (.slice A6 (n + 1) c6)) (by simp [results, Tryd.results10, go_sem, p0, p1, p2, p3, p4, p5, tv]) rfl (some_end hX hSX HP.out (by have := HP.out.own.len; simp at this ⊢; omega))
    · skip
      go_simp
      refine hK.out _ _ trivial (fun hHeld => ?_)
      clear hK K
      try simp only [Act.put, List.setIfInBounds_toArray, List.set_cons_zero, List.set_cons_succ]
      refine wpAnyH_ready (rs := [1, 4]) (by kernel_rfl) (by simp) (AllReadyH.cons (o := { dst := some 51, op := Op.load 22 (Operand.tmp 50), type := 22, pos := "law.go:37", after := #[{ on := 0, ground := Ground.data }], guard := none }) rfl (fun K hK => ?_) (AllReadyH.cons (o := { dst := some 54, op := Op.call { callee := Callee.value (Operand.func 21), args := #[Operand.tmp 52, Operand.tmp 53], argTypes := #[27, 22] }, type := 3, pos := "law.go:37", after := #[{ on := 2, ground := Ground.data }, { on := 3, ground := Ground.data }], guard := none }) rfl (fun K hK => ?_) AllReadyH.nil))
      · skip
        obtain ⟨⟨_, _, _, _, _, z5⟩, _⟩ := HWD.out.tel
        have z5 := (World.grownBy_alloc WD (Obj.cells #[.int .i64 9007199254740993, .int .i64 (-9007199254740993), .int .i64 (-9223372036854775808)] 3) none).cell z5 (by simp)
        go_simp
        clear z5
        refine hK.out _ _ trivial (fun hHeld => ?_)
        clear hK K
        try simp only [Act.put, List.setIfInBounds_toArray, List.set_cons_zero, List.set_cons_succ]
        refine wpAnyH_ready (rs := [4]) (by kernel_rfl) (by simp) (AllReadyH.cons (o := { dst := some 54, op := Op.call { callee := Callee.value (Operand.func 21), args := #[Operand.tmp 52, Operand.tmp 53], argTypes := #[27, 22] }, type := 3, pos := "law.go:37", after := #[{ on := 2, ground := Ground.data }, { on := 3, ground := Ground.data }], guard := none }) rfl (fun K hK => ?_) AllReadyH.nil)
        · skip
          go_simp
          refine Calls.mono (pick_lit S 3 WD.heap.size [9007199254740993, -9007199254740993, -9223372036854775808] #[.int .i64 9007199254740993, .int .i64 (-9007199254740993), .int .i64 (-9223372036854775808)] WD rfl HWD.out.src rfl (by omega) (by omega) ?_) ?_
          · intro i hi
            match i, hi with
            | 0, _ => rfl
            | 1, _ => rfl
            | 2, _ => rfl
          rintro e W4 ⟨r, hr, rfl, hg, hs⟩
          have HW4 := Lib.hid (HWD.out.step hSX hST hg hs)
          clear hg hs hr
          try dsimp only
          refine hK.out _ _ trivial (fun hHeld => ?_)
          clear hK K
          try simp only [Act.put, List.setIfInBounds_toArray, List.set_cons_zero, List.set_cons_succ]
          refine wpAnyH_ready (rs := [5]) (by kernel_rfl) (by simp) (AllReadyH.cons (o := { dst := some 55, op := Op.buildSlice 22 1 #[(0, Operand.tmp 54)], type := 22, pos := "law.go:37", after := #[{ on := 4, ground := Ground.data }], guard := none }) rfl (fun K hK => ?_) AllReadyH.nil)
          · skip
            go_simp
            refine hK.out _ _ trivial (fun hHeld => ?_)
            clear hK K
            try simp only [Act.put, List.setIfInBounds_toArray, List.set_cons_zero, List.set_cons_succ]
            refine wpAnyH_ready (rs := [6]) (by kernel_rfl) (by simp) (AllReadyH.cons (o := { dst := some 56, op := Op.call { callee := Callee.builtin Builtin.append, args := #[Operand.tmp 51, Operand.tmp 55], argTypes := #[22, 22] }, type := 22, pos := "law.go:37", after := #[{ on := 1, ground := Ground.data }, { on := 5, ground := Ground.data }, { on := 4, ground := Ground.chain }], guard := none }) rfl (fun K hK => ?_) AllReadyH.nil)
            refine step_appP rfl (.tmp 51) (.tmp 55) rfl rfl rfl (HW4.out.step0 hSX hST (World.grownBy_alloc W4 (Obj.cells #[.int .i64 r] 3) none)).own (HW4.out.step0 hSX hST (World.grownBy_alloc W4 (Obj.cells #[.int .i64 r] 3) none)).sz (madeI_lit W4 W4 #[.int .i64 r] 1 [r] rfl rfl (grown_refl _ _) (by omega)).ir (by omega) (by omega) (n + 1) rfl ?_
            intro A6 c6 W6 ho6 hg6 hb6
            have HP := Lib.hid ((HW4.out.step0 hSX hST (World.grownBy_alloc W4 (Obj.cells #[.int .i64 r] 3) none)).push (vs ++ [r]) hwX hSX hXT ho6 hg6 (fun k e => ⟨((HW4.out.step0 hSX hST (World.grownBy_alloc W4 (Obj.cells #[.int .i64 r] 3) none)).own.row k e).1, (HW4.out.step0 hSX hST (World.grownBy_alloc W4 (Obj.cells #[.int .i64 r] 3) none)).apart k e⟩) (fun k e => by rcases hb6 with h | h; exact (HW4.out.step0 hSX hST (World.grownBy_alloc W4 (Obj.cells #[.int .i64 r] 3) none)).apart k (h.symm.trans e); (have h1 := h.symm.trans e; injection h1 with h1; have := (HW4.out.step0 hSX hST (World.grownBy_alloc W4 (Obj.cells #[.int .i64 r] 3) none)).tlt; omega)))
            obtain ⟨⟨_, _, _, _, _, z5⟩, _, _, _, _, _, y5⟩ := (HW4.out.step0 hSX hST (World.grownBy_alloc W4 (Obj.cells #[.int .i64 r] 3) none)).tel.grown hg6 (fun e => (HW4.out.step0 hSX hST (World.grownBy_alloc W4 (Obj.cells #[.int .i64 r] 3) none)).apart T e.symm rfl)
            refine hK.out _ _ trivial (fun hHeld => ?_)
            clear hK K ho6 hg6 hb6
            try simp only [Act.put, List.setIfInBounds_toArray, List.set_cons_zero, List.set_cons_succ]
            refine wpAnyH_take (i := 7) (oi := { dst := some 57, op := Op.fieldAddr 24 (Operand.tmp 3) 5, type := 0, pos := "law.go:37", after := #[{ on := 0, ground := Ground.phase }, { on := 1, ground := Ground.phase }, { on := 2, ground := Ground.phase }, { on := 3, ground := Ground.phase }, { on := 4, ground := Ground.phase }, { on := 5, ground := Ground.phase }, { on := 6, ground := Ground.phase }], guard := none }) (v := ?_) rfl (by kernel_rfl) (by kernel_rfl) (by kernel_rfl) (fun _ _ _ h => h) (Or.inl ⟨by rfl, ?_⟩) (by assumption) ?_
            rotate_left 1
            · intro w hSw; first | (go_simp; done) | (go_simp; with_reducible rfl)
            try simp only [Act.put, List.setIfInBounds_toArray, List.set_cons_zero, List.set_cons_succ]
            refine wpAnyH_ready (rs := [8]) (by kernel_rfl) (by simp) (AllReadyH.cons (o := { dst := none, op := Op.store 22 (Operand.tmp 57) (Operand.tmp 56), type := 0, pos := "law.go:37", after := #[{ on := 7, ground := Ground.data }, { on := 6, ground := Ground.data }, { on := 6, ground := Ground.chain }, { on := 0, ground := Ground.phase }, { on := 1, ground := Ground.phase }, { on := 2, ground := Ground.phase }, { on := 3, ground := Ground.phase }, { on := 4, ground := Ground.phase }, { on := 5, ground := Ground.phase }, { on := 6, ground := Ground.phase }], guard := none }) rfl (fun K hK => ?_) AllReadyH.nil)
            go_simp
            clear z5 y5
            refine hK.out _ _ trivial (fun hHeld => ?_)
            clear hK K
            try simp only [Act.put, List.setIfInBounds_toArray, List.set_cons_zero, List.set_cons_succ]
            refine wpAnyH_done (by kernel_rfl) ?_ _
            obtain ⟨⟨a0, a1, a2, a3, a4, a5⟩, b0, b1, b2, b3, b4, b5⟩ := HP.out.res
            obtain ⟨⟨d0, d1, d2, d3, d4, d5⟩, _⟩ := HP.out.tel
            try dsimp only at d0 d1 d2 d3 d4 d5
            generalize (W6.setCell ⟨T, 5, none⟩ (.slice A6 (n + 1) c6)) = WE at *
            go_wp2
            obtain ⟨⟨p0, p1, p2, p3, p4, p5⟩, _⟩ := HP.out.res.store ⟨ts, te, tq, tt, tk, vs ++ [r]⟩ (.slice A6 (n + 1) c6)
            unfold six at p0 p1 p2 p3 p4 p5
            dsimp only at p0 p1 p2 p3 p4 p5
            refine bodyPost_ret (v := tv ⟨ts, te, tq, tt, tk, vs ++ [r]⟩ (.slice A6 (n + 1) c6)) (by simp [results, Tryd.results10, go_sem, p0, p1, p2, p3, p4, p5, tv]) rfl (some_end hX hSX HP.out (by have := HP.out.own.len; simp at this ⊢; omega))
      · skip
        go_simp
        refine Calls.mono (pick_lit S 3 WD.heap.size [9007199254740993, -9007199254740993, -9223372036854775808] #[.int .i64 9007199254740993, .int .i64 (-9007199254740993), .int .i64 (-9223372036854775808)] WD rfl HWD.out.src rfl (by omega) (by omega) ?_) ?_
        · intro i hi
          match i, hi with
          | 0, _ => rfl
          | 1, _ => rfl
          | 2, _ => rfl
        rintro e W4 ⟨r, hr, rfl, hg, hs⟩
        have HW4 := Lib.hid (HWD.out.step hSX hST hg hs)
        clear hg hs hr
        try dsimp only
        refine hK.out _ _ trivial (fun hHeld => ?_)
        clear hK K
        try simp only [Act.put, List.setIfInBounds_toArray, List.set_cons_zero, List.set_cons_succ]
        refine wpAnyH_ready (rs := [1, 5]) (by kernel_rfl) (by simp) (AllReadyH.cons (o := { dst := some 51, op := Op.load 22 (Operand.tmp 50), type := 22, pos := "law.go:37", after := #[{ on := 0, ground := Ground.data }], guard := none }) rfl (fun K hK => ?_) (AllReadyH.cons (o := { dst := some 55, op := Op.buildSlice 22 1 #[(0, Operand.tmp 54)], type := 22, pos := "law.go:37", after := #[{ on := 4, ground := Ground.data }], guard := none }) rfl (fun K hK => ?_) AllReadyH.nil))
        · skip
          obtain ⟨⟨_, _, _, _, _, z5⟩, _⟩ := HW4.out.tel
          go_simp
          clear z5
          refine hK.out _ _ trivial (fun hHeld => ?_)
          clear hK K
          try simp only [Act.put, List.setIfInBounds_toArray, List.set_cons_zero, List.set_cons_succ]
          refine wpAnyH_ready (rs := [5]) (by kernel_rfl) (by simp) (AllReadyH.cons (o := { dst := some 55, op := Op.buildSlice 22 1 #[(0, Operand.tmp 54)], type := 22, pos := "law.go:37", after := #[{ on := 4, ground := Ground.data }], guard := none }) rfl (fun K hK => ?_) AllReadyH.nil)
          · skip
            go_simp
            refine hK.out _ _ trivial (fun hHeld => ?_)
            clear hK K
            try simp only [Act.put, List.setIfInBounds_toArray, List.set_cons_zero, List.set_cons_succ]
            refine wpAnyH_ready (rs := [6]) (by kernel_rfl) (by simp) (AllReadyH.cons (o := { dst := some 56, op := Op.call { callee := Callee.builtin Builtin.append, args := #[Operand.tmp 51, Operand.tmp 55], argTypes := #[22, 22] }, type := 22, pos := "law.go:37", after := #[{ on := 1, ground := Ground.data }, { on := 5, ground := Ground.data }, { on := 4, ground := Ground.chain }], guard := none }) rfl (fun K hK => ?_) AllReadyH.nil)
            refine step_appP rfl (.tmp 51) (.tmp 55) rfl rfl rfl (HW4.out.step0 hSX hST (World.grownBy_alloc W4 (Obj.cells #[.int .i64 r] 3) none)).own (HW4.out.step0 hSX hST (World.grownBy_alloc W4 (Obj.cells #[.int .i64 r] 3) none)).sz (madeI_lit W4 W4 #[.int .i64 r] 1 [r] rfl rfl (grown_refl _ _) (by omega)).ir (by omega) (by omega) (n + 1) rfl ?_
            intro A6 c6 W6 ho6 hg6 hb6
            have HP := Lib.hid ((HW4.out.step0 hSX hST (World.grownBy_alloc W4 (Obj.cells #[.int .i64 r] 3) none)).push (vs ++ [r]) hwX hSX hXT ho6 hg6 (fun k e => ⟨((HW4.out.step0 hSX hST (World.grownBy_alloc W4 (Obj.cells #[.int .i64 r] 3) none)).own.row k e).1, (HW4.out.step0 hSX hST (World.grownBy_alloc W4 (Obj.cells #[.int .i64 r] 3) none)).apart k e⟩) (fun k e => by rcases hb6 with h | h; exact (HW4.out.step0 hSX hST (World.grownBy_alloc W4 (Obj.cells #[.int .i64 r] 3) none)).apart k (h.symm.trans e); (have h1 := h.symm.trans e; injection h1 with h1; have := (HW4.out.step0 hSX hST (World.grownBy_alloc W4 (Obj.cells #[.int .i64 r] 3) none)).tlt; omega)))
            obtain ⟨⟨_, _, _, _, _, z5⟩, _, _, _, _, _, y5⟩ := (HW4.out.step0 hSX hST (World.grownBy_alloc W4 (Obj.cells #[.int .i64 r] 3) none)).tel.grown hg6 (fun e => (HW4.out.step0 hSX hST (World.grownBy_alloc W4 (Obj.cells #[.int .i64 r] 3) none)).apart T e.symm rfl)
            refine hK.out _ _ trivial (fun hHeld => ?_)
            clear hK K ho6 hg6 hb6
            try simp only [Act.put, List.setIfInBounds_toArray, List.set_cons_zero, List.set_cons_succ]
            refine wpAnyH_take (i := 7) (oi := { dst := some 57, op := Op.fieldAddr 24 (Operand.tmp 3) 5, type := 0, pos := "law.go:37", after := #[{ on := 0, ground := Ground.phase }, { on := 1, ground := Ground.phase }, { on := 2, ground := Ground.phase }, { on := 3, ground := Ground.phase }, { on := 4, ground := Ground.phase }, { on := 5, ground := Ground.phase }, { on := 6, ground := Ground.phase }], guard := none }) (v := ?_) rfl (by kernel_rfl) (by kernel_rfl) (by kernel_rfl) (fun _ _ _ h => h) (Or.inl ⟨by rfl, ?_⟩) (by assumption) ?_
            rotate_left 1
            · intro w hSw; first | (go_simp; done) | (go_simp; with_reducible rfl)
            try simp only [Act.put, List.setIfInBounds_toArray, List.set_cons_zero, List.set_cons_succ]
            refine wpAnyH_ready (rs := [8]) (by kernel_rfl) (by simp) (AllReadyH.cons (o := { dst := none, op := Op.store 22 (Operand.tmp 57) (Operand.tmp 56), type := 0, pos := "law.go:37", after := #[{ on := 7, ground := Ground.data }, { on := 6, ground := Ground.data }, { on := 6, ground := Ground.chain }, { on := 0, ground := Ground.phase }, { on := 1, ground := Ground.phase }, { on := 2, ground := Ground.phase }, { on := 3, ground := Ground.phase }, { on := 4, ground := Ground.phase }, { on := 5, ground := Ground.phase }, { on := 6, ground := Ground.phase }], guard := none }) rfl (fun K hK => ?_) AllReadyH.nil)
            go_simp
            clear z5 y5
            refine hK.out _ _ trivial (fun hHeld => ?_)
            clear hK K
            try simp only [Act.put, List.setIfInBounds_toArray, List.set_cons_zero, List.set_cons_succ]
            refine wpAnyH_done (by kernel_rfl) ?_ _
            obtain ⟨⟨a0, a1, a2, a3, a4, a5⟩, b0, b1, b2, b3, b4, b5⟩ := HP.out.res
            obtain ⟨⟨d0, d1, d2, d3, d4, d5⟩, _⟩ := HP.out.tel
            try dsimp only at d0 d1 d2 d3 d4 d5
            generalize (W6.setCell ⟨T, 5, none⟩ (.slice A6 (n + 1) c6)) = WE at *
            go_wp2
            obtain ⟨⟨p0, p1, p2, p3, p4, p5⟩, _⟩ := HP.out.res.store ⟨ts, te, tq, tt, tk, vs ++ [r]⟩ (.slice A6 (n + 1) c6)
            unfold six at p0 p1 p2 p3 p4 p5
            dsimp only at p0 p1 p2 p3 p4 p5
            refine bodyPost_ret (v := tv ⟨ts, te, tq, tt, tk, vs ++ [r]⟩ (.slice A6 (n + 1) c6)) (by simp [results, Tryd.results10, go_sem, p0, p1, p2, p3, p4, p5, tv]) rfl (some_end hX hSX HP.out (by have := HP.out.own.len; simp at this ⊢; omega))
        · skip
          go_simp
          refine hK.out _ _ trivial (fun hHeld => ?_)
          clear hK K
          try simp only [Act.put, List.setIfInBounds_toArray, List.set_cons_zero, List.set_cons_succ]
          refine wpAnyH_ready (rs := [1]) (by kernel_rfl) (by simp) (AllReadyH.cons (o := { dst := some 51, op := Op.load 22 (Operand.tmp 50), type := 22, pos := "law.go:37", after := #[{ on := 0, ground := Ground.data }], guard := none }) rfl (fun K hK => ?_) AllReadyH.nil)
          · skip
            obtain ⟨⟨_, _, _, _, _, z5⟩, _⟩ := HW4.out.tel
            have z5 := (World.grownBy_alloc W4 (Obj.cells #[.int .i64 r] 3) none).cell z5 (by simp)
            go_simp
            clear z5
            refine hK.out _ _ trivial (fun hHeld => ?_)
            clear hK K
            try simp only [Act.put, List.setIfInBounds_toArray, List.set_cons_zero, List.set_cons_succ]
            refine wpAnyH_ready (rs := [6]) (by kernel_rfl) (by simp) (AllReadyH.cons (o := { dst := some 56, op := Op.call { callee := Callee.builtin Builtin.append, args := #[Operand.tmp 51, Operand.tmp 55], argTypes := #[22, 22] }, type := 22, pos := "law.go:37", after := #[{ on := 1, ground := Ground.data }, { on := 5, ground := Ground.data }, { on := 4, ground := Ground.chain }], guard := none }) rfl (fun K hK => ?_) AllReadyH.nil)
            refine step_appP rfl (.tmp 51) (.tmp 55) rfl rfl rfl (HW4.out.step0 hSX hST (World.grownBy_alloc W4 (Obj.cells #[.int .i64 r] 3) none)).own (HW4.out.step0 hSX hST (World.grownBy_alloc W4 (Obj.cells #[.int .i64 r] 3) none)).sz (madeI_lit W4 W4 #[.int .i64 r] 1 [r] rfl rfl (grown_refl _ _) (by omega)).ir (by omega) (by omega) (n + 1) rfl ?_
            intro A6 c6 W6 ho6 hg6 hb6
            have HP := Lib.hid ((HW4.out.step0 hSX hST (World.grownBy_alloc W4 (Obj.cells #[.int .i64 r] 3) none)).push (vs ++ [r]) hwX hSX hXT ho6 hg6 (fun k e => ⟨((HW4.out.step0 hSX hST (World.grownBy_alloc W4 (Obj.cells #[.int .i64 r] 3) none)).own.row k e).1, (HW4.out.step0 hSX hST (World.grownBy_alloc W4 (Obj.cells #[.int .i64 r] 3) none)).apart k e⟩) (fun k e => by rcases hb6 with h | h; exact (HW4.out.step0 hSX hST (World.grownBy_alloc W4 (Obj.cells #[.int .i64 r] 3) none)).apart k (h.symm.trans e); (have h1 := h.symm.trans e; injection h1 with h1; have := (HW4.out.step0 hSX hST (World.grownBy_alloc W4 (Obj.cells #[.int .i64 r] 3) none)).tlt; omega)))
            obtain ⟨⟨_, _, _, _, _, z5⟩, _, _, _, _, _, y5⟩ := (HW4.out.step0 hSX hST (World.grownBy_alloc W4 (Obj.cells #[.int .i64 r] 3) none)).tel.grown hg6 (fun e => (HW4.out.step0 hSX hST (World.grownBy_alloc W4 (Obj.cells #[.int .i64 r] 3) none)).apart T e.symm rfl)
            refine hK.out _ _ trivial (fun hHeld => ?_)
            clear hK K ho6 hg6 hb6
            try simp only [Act.put, List.setIfInBounds_toArray, List.set_cons_zero, List.set_cons_succ]
            refine wpAnyH_take (i := 7) (oi := { dst := some 57, op := Op.fieldAddr 24 (Operand.tmp 3) 5, type := 0, pos := "law.go:37", after := #[{ on := 0, ground := Ground.phase }, { on := 1, ground := Ground.phase }, { on := 2, ground := Ground.phase }, { on := 3, ground := Ground.phase }, { on := 4, ground := Ground.phase }, { on := 5, ground := Ground.phase }, { on := 6, ground := Ground.phase }], guard := none }) (v := ?_) rfl (by kernel_rfl) (by kernel_rfl) (by kernel_rfl) (fun _ _ _ h => h) (Or.inl ⟨by rfl, ?_⟩) (by assumption) ?_
            rotate_left 1
            · intro w hSw; first | (go_simp; done) | (go_simp; with_reducible rfl)
            try simp only [Act.put, List.setIfInBounds_toArray, List.set_cons_zero, List.set_cons_succ]
            refine wpAnyH_ready (rs := [8]) (by kernel_rfl) (by simp) (AllReadyH.cons (o := { dst := none, op := Op.store 22 (Operand.tmp 57) (Operand.tmp 56), type := 0, pos := "law.go:37", after := #[{ on := 7, ground := Ground.data }, { on := 6, ground := Ground.data }, { on := 6, ground := Ground.chain }, { on := 0, ground := Ground.phase }, { on := 1, ground := Ground.phase }, { on := 2, ground := Ground.phase }, { on := 3, ground := Ground.phase }, { on := 4, ground := Ground.phase }, { on := 5, ground := Ground.phase }, { on := 6, ground := Ground.phase }], guard := none }) rfl (fun K hK => ?_) AllReadyH.nil)
            go_simp
            clear z5 y5
            refine hK.out _ _ trivial (fun hHeld => ?_)
            clear hK K
            try simp only [Act.put, List.setIfInBounds_toArray, List.set_cons_zero, List.set_cons_succ]
            refine wpAnyH_done (by kernel_rfl) ?_ _
            obtain ⟨⟨a0, a1, a2, a3, a4, a5⟩, b0, b1, b2, b3, b4, b5⟩ := HP.out.res
            obtain ⟨⟨d0, d1, d2, d3, d4, d5⟩, _⟩ := HP.out.tel
            try dsimp only at d0 d1 d2 d3 d4 d5
            generalize (W6.setCell ⟨T, 5, none⟩ (.slice A6 (n + 1) c6)) = WE at *
            go_wp2
            obtain ⟨⟨p0, p1, p2, p3, p4, p5⟩, _⟩ := HP.out.res.store ⟨ts, te, tq, tt, tk, vs ++ [r]⟩ (.slice A6 (n + 1) c6)
            unfold six at p0 p1 p2 p3 p4 p5
            dsimp only at p0 p1 p2 p3 p4 p5
            refine bodyPost_ret (v := tv ⟨ts, te, tq, tt, tk, vs ++ [r]⟩ (.slice A6 (n + 1) c6)) (by simp [results, Tryd.results10, go_sem, p0, p1, p2, p3, p4, p5, tv]) rfl (some_end hX hSX HP.out (by have := HP.out.own.len; simp at this ⊢; omega))
  · -- nothing
    have x0 : (k == 0) = false := by simp; omega
    have x1 : (k == 1) = false := by simp; omega
    have x2 : (k == 2) = false := by simp; omega
    have x3 : (k == 3) = false := by simp; omega
    have x4 : (k == 4) = false := by simp; omega
    have x5 : (k == 5) = false := by simp; omega
    have x6 : (k == 6) = false := by simp; omega
    go_upto_region 17 with fail
    obtain ⟨⟨a0, a1, a2, a3, a4, a5⟩, b0, b1, b2, b3, b4, b5⟩ := HWR.out.res
    obtain ⟨⟨d0, d1, d2, d3, d4, d5⟩, _⟩ := HWR.out.tel
    try dsimp only at d0 d1 d2 d3 d4 d5
    generalize wr = WE at *
    go_wp2
    obtain ⟨⟨p0, p1, p2, p3, p4, p5⟩, _⟩ := HWR.out.res.store ⟨ts, te, tq, tt, tk, vs⟩ (.slice A n c)
    unfold six at p0 p1 p2 p3 p4 p5
    dsimp only at p0 p1 p2 p3 p4 p5
    refine bodyPost_ret (v := tv ⟨ts, te, tq, tt, tk, vs⟩ (.slice A n c)) (by simp [results, Tryd.results10, go_sem, p0, p1, p2, p3, p4, p5, tv]) rfl (some_end hX hSX HWR.out (by have := HWR.out.own.len; simp at this ⊢; omega))
end Go.Proofs.YtcjbhkocpfkcbaaDoor.Wr
