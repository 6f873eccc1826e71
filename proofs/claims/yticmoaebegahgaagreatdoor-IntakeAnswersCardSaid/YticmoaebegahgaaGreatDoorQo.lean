import Derived.Test.YticmoaebegahgaaGreatDoorKp
import Derived.Test.YticmoaebegahgaaGreatDoorQa
import Derived.Test.YticmoaebegahgaaGreatDoorLe
import Derived.Test.YticmoaebegahgaaGreatDoorKu
import Derived.Test.YticmoaebegahgaaGreatDoorLc
import Derived.Laws.OwnMore
set_option linter.all false
namespace Go.Proofs.YticmoaebegahgaaGreatDoor.Iw
open Go.ChangeShapes Go.WideShapes Go.ChangeAt Go.RowKit
open Wr (IR RB iv ivs bv bvs grown_trans grown_refl grown_alloc ret_int ret_bool tv Ret ret_mk)
def OddE (S : Nat) (w : World) (e : Ending) (w' : World) : Prop :=
  ∃ (T E : Sl) (k : Ik), e = .returned (iv3 k.win T E) ∧ KA w' [S] T E k ∧ T.n ≤ 1000 ∧ k.es.length ≤ 1000 ∧ (∀ x ∈ k.es, x.held.length ≤ 1000) ∧ w.grownBy w' (some S) ∧ Wr.SrcOK w' S
theorem or_litW (w : World) : OR w.heap.size (w.alloc (Obj.cells #[] 32)) 32 4 ⟨some ⟨w.heap.size, 0, none⟩, 0, 0⟩ [] :=
  ⟨World.ownsRow_lit (base := w.heap.size) (e := 32) (size := 4) w #[] 0 (Nat.le_refl _) (by unfold maxLen; omega) (by simp)⟩
theorem chgS {S : Nat} {w w' : World} (g : w.grownBy w' (some S)) : Chg [S] w w' := Chg.of g (fun b hb => by injection hb with hb; subst hb; exact List.mem_singleton_self _)
theorem Chg.grown0 {w w' : World} (c : Chg [] w w') : w.grownBy w' none := ⟨c.os, c.tape, c.output, c.size, fun i hi _ => c.block i hi (by simp)⟩
theorem RL.less {w : World} {L L' : List Nat} {A : Option Addr} {n : Nat} {l : List UInt8} (h : RL w L A n l) (hL : ∀ b ∈ L', b ∈ L) : RL w L' A n l := ⟨h.1, fun x hx h0 hm => h.2 x hx h0 (hL _ hm)⟩
structure Od (w : World) (S X : Nat) (win : Int) (T R : Sl) (tl : List UInt8) (ys : List EV) (W : World) : Prop where
  g : w.grownBy W (some S)
  src : Wr.SrcOK W S
  bx : Tri W X (.int .i64 win) T.v R.v
  bz : Tri W (X + 1) (.int .i64 0) (.slice none 0 0) (.slice none 0 0)
  row : OR (X + 2) W 32 4 R (f4 ys)
  tfit : T.fit
  tlr : RL W (S :: X :: (X + 1) :: R.blk.toList) T.a T.n tl
  held : ∀ y ∈ ys, TL W (S :: X :: (X + 1) :: R.blk.toList) y.2 y.1.held
  few : T.n ≤ 400 ∧ ys.length ≤ 64 ∧ (∀ y ∈ ys, y.1.held.length ≤ 17) ∧ S < X ∧ w.heap.size = X
def OddQ (w : World) (S X : Nat) (W : World) : Prop :=
  ∃ (T E : Sl) (k : Ik), Hid (Tri W X (.int .i64 k.win) T.v E.v) ∧ Hid (Tri W (X + 1) (.int .i64 0) (.slice none 0 0) (.slice none 0 0)) ∧ Hid (KA W [S, X, X + 1] T E k) ∧ Hid (T.n ≤ 1000 ∧ k.es.length ≤ 1000 ∧ ∀ x ∈ k.es, x.held.length ≤ 1000) ∧ Hid (w.grownBy W (some S)) ∧ Hid (Wr.SrcOK W S)
section
variable {w : World} {S X : Nat} {win : Int} {T R : Sl} {tl : List UInt8} {ys : List EV} {W : World}
theorem Od.step (h : Od w S X win T R tl ys W) {W' : World} (g : W.grownBy W' (some S)) (hs : Wr.SrcOK W' S) : Od w S X win T R tl ys W' := by
  have hf := h.few
  have c := chgS g
  have hM : ∀ b ∈ [S], b ∈ S :: X :: (X + 1) :: R.blk.toList ∨ W.heap.size ≤ b := fun b hb => .inl (by rw [List.mem_singleton] at hb; rw [hb]; exact List.mem_cons_self)
  exact ⟨grown_trans h.g g, hs, h.bx.step c (fun hm => by rw [List.mem_singleton] at hm; omega), h.bz.step c (fun hm => by rw [List.mem_singleton] at hm; omega), h.row.chg c (fun b hb hm => by rw [List.mem_singleton] at hm; have := (h.row.blk b hb).1; omega), h.tfit, h.tlr.step c hM (fun b hb => .inl hb), fun y hy => (h.held y hy).step c hM (fun b hb => .inl hb), hf⟩
theorem Od.grown (h : Od w S X win T R tl ys W) {W' : World} (g : W.grownBy W' none) : Od w S X win T R tl ys W' := h.step (Wr.grown_weak _ g) (h.src.grown g)
theorem Od.set (h : Od w S X win T R tl ys W) (j : Nat) (v : Value) : w.grownBy (W.setCell ⟨X, j, none⟩ v) (some S) ∧ Wr.SrcOK (W.setCell ⟨X, j, none⟩ v) S ∧ Tri (W.setCell ⟨X, j, none⟩ v) (X + 1) (.int .i64 0) (.slice none 0 0) (.slice none 0 0) ∧ OR (X + 2) (W.setCell ⟨X, j, none⟩ v) 32 4 R (f4 ys) ∧ RL (W.setCell ⟨X, j, none⟩ v) [S, X, X + 1] T.a T.n tl ∧ ∀ y ∈ ys, TL (W.setCell ⟨X, j, none⟩ v) [S, X, X + 1] y.2 y.1.held := by
  have hf := h.few
  have c : Chg [X] W (W.setCell ⟨X, j, none⟩ v) := chg_set W X j v
  have hM : ∀ b ∈ [X], b ∈ S :: X :: (X + 1) :: R.blk.toList ∨ W.heap.size ≤ b := fun b hb => .inl (by rw [List.mem_singleton] at hb; rw [hb]; exact List.mem_cons_of_mem _ List.mem_cons_self)
  have hL : ∀ b ∈ [S, X, X + 1], b ∈ S :: X :: (X + 1) :: R.blk.toList := fun b hb => by
    simp only [List.mem_cons, List.not_mem_nil, or_false] at hb
    rcases hb with rfl | rfl | rfl <;> simp
  refine ⟨Wr.grown_rowS h.g (by1 c) (fun b hb => .inr (by injection hb with hb; omega)), src_chg h.src c (by omega), h.bz.step c (fun hm => by rw [List.mem_singleton] at hm; omega), h.row.chg c (fun b hb hm => by rw [List.mem_singleton] at hm; have := (h.row.blk b hb).1; omega), h.tlr.step c hM (fun b hb => .inl (hL b hb)), fun y hy => (h.held y hy).step c hM (fun b hb => .inl (hL b hb))⟩
theorem oddQ_mk (hw : w.heap.size = X) (hb : Tri W X (.int .i64 win) T.v R.v) (hz : Tri W (X + 1) (.int .i64 0) (.slice none 0 0) (.slice none 0 0)) (hS : S < X) (hT : T.fit) (hl : RL W [S, X, X + 1] T.a T.n tl) (hr : OR (X + 2) W 32 4 R (f4 ys)) (hy : ∀ y ∈ ys, TL W [S, X, X + 1] y.2 y.1.held) (h1 : T.n ≤ 1000) (h2 : ys.length ≤ 1000) (h3 : ∀ y ∈ ys, y.1.held.length ≤ 1000) (g : w.grownBy W (some S)) (hs : Wr.SrcOK W S) : OddQ w S X W :=
  ⟨T, R, ⟨win, tl, ys.map Prod.fst⟩, hb, hz, ⟨hT, hl, EL.to hr (fun b hb hm => by
    have h4 := (hr.blk b hb).1
    simp only [List.mem_cons, List.not_mem_nil, or_false] at hm
    omega) hy⟩, ⟨h1, by rw [List.length_map]; exact h2, fun x hx => by
      obtain ⟨y, hy1, rfl⟩ := List.mem_map.1 hx
      exact h3 y hy1⟩, g, hs⟩
theorem Od.q0 (h : Od w S X win T R tl ys W) (v : Int) : OddQ w S X (W.setCell ⟨X, 0, none⟩ (.int .i64 v)) := by
  obtain ⟨f1, f2, f3, f4, f5⟩ := h.few
  obtain ⟨a1, a2, a3, a4, a5, a6⟩ := h.set 0 (.int .i64 v)
  exact oddQ_mk f5 (h.bx.set0 _) a3 f4 h.tfit a5 a4 a6 (by omega) (by omega) (fun y hy => by have := f3 y hy; omega) a1 a2
theorem Od.q1 (h : Od w S X win T R tl ys W) {T2 : Sl} {tl2 : List UInt8} (hT : T2.fit) (hl : RL W [S, X, X + 1] T2.a T2.n tl2) (hn : T2.n ≤ 1000) : OddQ w S X (W.setCell ⟨X, 1, none⟩ T2.v) := by
  obtain ⟨f1, f2, f3, f4, f5⟩ := h.few
  obtain ⟨a1, a2, a3, a4, a5, a6⟩ := h.set 1 T2.v
  exact oddQ_mk f5 (h.bx.set1 _) a3 f4 hT (hl.step (chg_set W X 1 T2.v) (fun b hb => .inl (by rw [List.mem_singleton] at hb; rw [hb]; simp)) (fun b hb => .inl hb)) a4 a6 hn (by omega) (fun y hy => by have := f3 y hy; omega) a1 a2
structure Ob (w : World) (S X : Nat) (win : Int) (T R : Sl) (tl : List UInt8) (ys : List EV) (W : World) : Prop where
  g : w.grownBy W (some S)
  src : Wr.SrcOK W S
  bx : Tri W X (.int .i64 win) T.v R.v
  bz : Tri W (X + 1) (.int .i64 0) (.slice none 0 0) (.slice none 0 0)
  tfit : T.fit
  tlr : RL W [S, X, X + 1] T.a T.n tl
  held : ∀ y ∈ ys, TL W [S, X, X + 1] y.2 y.1.held
  few : T.n ≤ 400 ∧ ys.length ≤ 64 ∧ (∀ y ∈ ys, y.1.held.length ≤ 17) ∧ S < X ∧ w.heap.size = X
theorem Od.ob (h : Od w S X win T R tl ys W) {W' : World} (c : Chg R.blk.toList W W') : Ob w S X win T R tl ys W' := by
  have hf := h.few
  have hR : ∀ b ∈ R.blk.toList, X + 2 ≤ b := fun b hb => (h.row.blk b (by simpa using hb)).1
  have hM : ∀ b ∈ R.blk.toList, b ∈ S :: X :: (X + 1) :: R.blk.toList ∨ W.heap.size ≤ b := fun b hb => .inl (List.mem_cons_of_mem _ (List.mem_cons_of_mem _ (List.mem_cons_of_mem _ hb)))
  have hL : ∀ b ∈ [S, X, X + 1], b ∈ S :: X :: (X + 1) :: R.blk.toList := fun b hb => by
    simp only [List.mem_cons, List.not_mem_nil, or_false] at hb
    rcases hb with rfl | rfl | rfl <;> simp
  refine ⟨⟨c.os.trans h.g.os, c.tape.trans h.g.tape, c.output.trans h.g.output, Nat.le_trans h.g.size c.size, fun i hi hn => (c.block i (Nat.lt_of_lt_of_le hi h.g.size) (fun hm => by have := hR i hm; omega)).trans (h.g.block i hi hn)⟩, ?_, h.bx.step c (fun hm => by have := hR X hm; omega), h.bz.step c (fun hm => by have := hR _ hm; omega), h.tfit, h.tlr.step c hM (fun b hb => .inl (hL b hb)), fun y hy => (h.held y hy).step c hM (fun b hb => .inl (hL b hb)), hf⟩
  rcases hRb : R.blk with _ | rb
  · rw [hRb] at c
    exact h.src.grown (Chg.grown0 c)
  · rw [hRb] at c
    have h1 := hR rb (by rw [hRb]; simp)
    exact src_chg h.src (x := rb) (by simpa using c) (by omega)
theorem Ob.q2 (h : Ob w S X win T R tl ys W) {R2 : Sl} {x : Im.Wt} (hx : x.held = []) (hr : OR (X + 2) W 32 4 R2 (f4 (ys ++ [(x, nilS)]))) : OddQ w S X (W.setCell ⟨X, 2, none⟩ R2.v) := by
  obtain ⟨f1, f2, f3, f4, f5⟩ := h.few
  have c : Chg [X] W (W.setCell ⟨X, 2, none⟩ R2.v) := chg_set W X 2 R2.v
  have hM : ∀ b ∈ [X], b ∈ [S, X, X + 1] ∨ W.heap.size ≤ b := fun b hb => .inl (by rw [List.mem_singleton] at hb; rw [hb]; simp)
  refine oddQ_mk f5 (h.bx.set2 _) (h.bz.step c (fun hm => by rw [List.mem_singleton] at hm; omega)) f4 h.tfit (h.tlr.step c hM (fun b hb => .inl hb)) (hr.chg c (fun b hb hm => by rw [List.mem_singleton] at hm; have := (hr.blk b hb).1; omega)) (fun y hy => ?_) (by omega) (by rw [List.length_append]; simp; omega) (fun y hy => ?_) (Wr.grown_rowS h.g (by1 c) (fun b hb => .inr (by injection hb with hb; omega))) (src_chg h.src c (by omega))
  · rcases List.mem_append.1 hy with hy | hy
    · exact (h.held y hy).step c hM (fun b hb => .inl hb)
    · rw [List.mem_singleton] at hy
      subst hy
      rw [hx]
      exact TL.nil _ _ _ _ (by omega)
  · rcases List.mem_append.1 hy with hy | hy
    · have := f3 y hy; omega
    · rw [List.mem_singleton] at hy
      subst hy
      rw [hx]; simp
theorem Od.q3 (h : Od w S X win T R tl ys W) : OddQ w S X W := by
  obtain ⟨f1, f2, f3, f4, f5⟩ := h.few
  have hL : ∀ b ∈ [S, X, X + 1], b ∈ S :: X :: (X + 1) :: R.blk.toList := fun b hb => by
    simp only [List.mem_cons, List.not_mem_nil, or_false] at hb
    rcases hb with rfl | rfl | rfl <;> simp
  exact oddQ_mk f5 h.bx h.bz f4 h.tfit (h.tlr.less hL) h.row (fun y hy => (h.held y hy).same hL) (by omega) (by omega) (fun y hy => by have := f3 y hy; omega) h.g h.src
end
theorem made0 (n : Nat) : (madeCells #[Value.int .u8 0] n).toList = bvs (List.replicate n 0) := by
  unfold madeCells Wr.bvs
  rw [Array.toList_map, List.map_replicate]
  refine List.ext_getElem (by simp) (fun i h1 h2 => ?_)
  simp only [List.getElem_map, List.getElem_replicate, Array.size, List.size_toArray, List.length_cons, List.length_nil, Nat.zero_add, Nat.mod_one]
  rfl
theorem made401 : (madeCells (Value.int .u8 0).cells (401 * 1)).toList = bvs (List.replicate 401 0) := made0 401
def Bq (S X : Nat) (W : World) (u : Value) : Prop := ∃ (B : Sl) (l : List UInt8), u = B.v ∧ B.fit ∧ B.n ≤ 1000 ∧ RL W [S, X, X + 1] B.a B.n l
theorem Bq.step {S X : Nat} {W W' : World} {u : Value} (h : Bq S X W u) (g : W.grownBy W' (some S)) : Bq S X W' u := by
  obtain ⟨B, l, h1, h2, h3, h4⟩ := h
  exact ⟨B, l, h1, h2, h3, h4.step (chgS g) (fun b hb => .inl (by rw [List.mem_singleton] at hb; rw [hb]; exact List.mem_cons_self)) (fun b hb => .inl hb)⟩
theorem bq_lit {S X : Nat} {W : World} (cs : Array Value) (n : Nat) (l : List UInt8) (hl : cs.toList = bvs l) (hn : l.length = n) (hs : n ≤ 1000) (h1 : S < W.heap.size) (h2 : X + 1 < W.heap.size) : Bq S X (W.alloc (.cells cs 5)) (.slice (some ⟨W.heap.size, 0, none⟩) n n) :=
  ⟨⟨some ⟨W.heap.size, 0, none⟩, n, n⟩, l, rfl, ⟨Nat.le_refl _, by dsimp only; omega⟩, hs, Wr.rb_lit W cs n l hl hn hs, fun x hx _ hm => by
    injection hx with hx
    subst hx
    simp only [List.mem_cons, List.not_mem_nil, or_false] at hm
    omega⟩
def Q4 (S X : Nat) (W : World) (u : Value) : Prop := ∃ p, u = .slice (some ⟨p, 0, none⟩) 4 4 ∧ p ≠ S ∧ ∀ i, i < 4 → ∃ y, W.cell? ⟨p, i, none⟩ = some y ∧ Bq S X W y
theorem Q4.step {S X : Nat} {W W' : World} {u : Value} (h : Q4 S X W u) (g : W.grownBy W' (some S)) : Q4 S X W' u := by
  obtain ⟨p, h1, h2, h3⟩ := h
  refine ⟨p, h1, h2, fun i hi => ?_⟩
  obtain ⟨y, h4, h5⟩ := h3 i hi
  exact ⟨y, g.cell h4 (fun e => by injection e with e; exact h2 e), h5.step g⟩
def P7 (S X : Nat) (W : World) (u : Value) : Prop := ∃ p y, u = .pointer (some p) ∧ p.block ≠ S ∧ W.cell? p = some y ∧ Bq S X W y
theorem P7.step {S X : Nat} {W W' : World} {u : Value} (h : P7 S X W u) (g : W.grownBy W' (some S)) : P7 S X W' u := by
  obtain ⟨p, y, h1, h2, h3, h4⟩ := h
  exact ⟨p, y, h1, h2, g.cell h3 (fun e => by injection e with e; exact h2 e), h4.step g⟩
def J9 (S X : Nat) (OD : World → Prop) (b0 b1 b2 b3 b4 b5 b6 b7 b8 b9 : Bool) (v0 v1 v2 v3 v4 v5 v6 v7 v8 v9 : Value) (W : World) : Prop :=
  OD W ∧ (b0 = true → Bq S X W v0) ∧ (b1 = true → Bq S X W v1) ∧ (b2 = true → Bq S X W v2) ∧ (b3 = true → Bq S X W v3) ∧ (b4 = true → Q4 S X W v4) ∧ (b5 = true → v5 = .pointer (some ⟨S, 0, none⟩)) ∧ (b6 = true → ∃ q : Nat, v6 = .int .i64 q ∧ q < 4) ∧ (b7 = true → P7 S X W v7) ∧ (b8 = true → Bq S X W v8) ∧ (b9 = true → v9 = .pointer (some ⟨X, 1, none⟩))
theorem J9.step {S X : Nat} {OD : World → Prop} {b0 b1 b2 b3 b4 b5 b6 b7 b8 b9 : Bool} {v0 v1 v2 v3 v4 v5 v6 v7 v8 v9 : Value} {W W' : World} (h : J9 S X OD b0 b1 b2 b3 b4 b5 b6 b7 b8 b9 v0 v1 v2 v3 v4 v5 v6 v7 v8 v9 W) (g : W.grownBy W' (some S)) (ho : OD W') : J9 S X OD b0 b1 b2 b3 b4 b5 b6 b7 b8 b9 v0 v1 v2 v3 v4 v5 v6 v7 v8 v9 W' := by
  obtain ⟨_, h0, h1, h2, h3, h4, h5, h6, h7, h8, h9⟩ := h
  exact ⟨ho, fun e => (h0 e).step g, fun e => (h1 e).step g, fun e => (h2 e).step g, fun e => (h3 e).step g, fun e => (h4 e).step g, h5, h6, fun e => (h7 e).step g, fun e => (h8 e).step g, h9⟩
def I9 (w : World) (S X : Nat) (OD : World → Prop) (bs : List Bool) (vs : List Value) (W : World) : Prop :=
  ∃ b0 b1 b2 b3 b4 b5 b6 b7 b8 b9 b10 : Bool, ∃ v0 v1 v2 v3 v4 v5 v6 v7 v8 v9 : Value, bs = [b0, b1, b2, b3, b4, b5, b6, b7, b8, b9, b10] ∧ vs = [v0, v1, v2, v3, v4, v5, v6, v7, v8, v9] ∧
    ((b10 = false ∧ J9 S X OD b0 b1 b2 b3 b4 b5 b6 b7 b8 b9 v0 v1 v2 v3 v4 v5 v6 v7 v8 v9 W) ∨ (bs = [true, true, true, true, true, true, true, true, true, true, true] ∧ OddQ w S X W))
def Li (S : Nat) (W : World) (u : Value) (xs : List Int) : Prop := ∃ p, u = .slice (some ⟨p, 0, none⟩) xs.length xs.length ∧ p ≠ S ∧ ∀ i, i < xs.length → W.cell? ⟨p, 0 + i, none⟩ = some (.int .i64 (xs.getD i 0))
theorem Li.step {S : Nat} {W W' : World} {u : Value} {xs : List Int} (h : Li S W u xs) (g : W.grownBy W' (some S)) : Li S W' u xs := by
  obtain ⟨p, h1, h2, h3⟩ := h
  exact ⟨p, h1, h2, fun i hi => g.cell (h3 i hi) (fun e => by injection e with e; exact h2 e)⟩
def Wq (S : Nat) (W : World) (u : Value) : Prop := ∃ (p : Nat) (r1 r2 r3 : Int), u = .slice (some ⟨p, 0, none⟩) 1 1 ∧ p ≠ S ∧ CR W ⟨some ⟨p, 0, none⟩, 1, 1⟩ (ecs (⟨r1, r2, r3, []⟩, nilS))
theorem Wq.step {S : Nat} {W W' : World} {u : Value} (h : Wq S W u) (g : W.grownBy W' (some S)) : Wq S W' u := by
  obtain ⟨p, r1, r2, r3, h1, h2, h3⟩ := h
  refine ⟨p, r1, r2, r3, h1, h2, fun j y hy => ?_⟩
  obtain ⟨b, off, e, hc⟩ := h3 j y hy
  injection e with e
  injection e with e1 e2 _
  subst e1; subst e2
  exact ⟨p, 0, rfl, g.cell hc (fun e => by injection e with e; exact h2 e)⟩
def J11 (S X : Nat) (R : Sl) (OD : World → Prop) (b0 b1 b2 b3 b4 b5 b6 b7 b8 b9 b10 b11 b12 : Bool) (v0 v1 v2 v3 v4 v5 v6 v7 v8 v9 v10 v11 v12 : Value) (W : World) : Prop :=
  OD W ∧ (b0 = true → v0 = .pointer (some ⟨X, 2, none⟩)) ∧ (b1 = true → v1 = R.v) ∧ (b2 = true → v2 = .pointer (some ⟨S, 0, none⟩)) ∧ (b3 = true → Li S W v3 [0, -1, 256, 255]) ∧ (b4 = true → ∃ r : Int, v4 = .int .i64 r) ∧ (b5 = true → v5 = .pointer (some ⟨S, 0, none⟩)) ∧ (b6 = true → Li S W v6 [0, 256]) ∧ (b7 = true → ∃ r : Int, v7 = .int .i64 r) ∧ (b8 = true → v8 = .pointer (some ⟨S, 0, none⟩)) ∧ (b9 = true → Li S W v9 [0, 2147483649, 2147483650]) ∧ (b10 = true → ∃ r : Int, v10 = .int .i64 r) ∧ (b11 = true → ∃ r1 r2 r3 : Int, v11 = .agg #[.int .i64 r1, .int .i64 r2, .int .i64 r3, .slice none 0 0]) ∧ (b12 = true → Wq S W v12)
theorem J11.step {S X : Nat} {R : Sl} {OD : World → Prop} {b0 b1 b2 b3 b4 b5 b6 b7 b8 b9 b10 b11 b12 : Bool} {v0 v1 v2 v3 v4 v5 v6 v7 v8 v9 v10 v11 v12 : Value} {W W' : World} (h : J11 S X R OD b0 b1 b2 b3 b4 b5 b6 b7 b8 b9 b10 b11 b12 v0 v1 v2 v3 v4 v5 v6 v7 v8 v9 v10 v11 v12 W) (g : W.grownBy W' (some S)) (ho : OD W') : J11 S X R OD b0 b1 b2 b3 b4 b5 b6 b7 b8 b9 b10 b11 b12 v0 v1 v2 v3 v4 v5 v6 v7 v8 v9 v10 v11 v12 W' := by
  obtain ⟨_, h0, h1, h2, h3, h4, h5, h6, h7, h8, h9, h10, h11, h12⟩ := h
  exact ⟨ho, h0, h1, h2, fun e => (h3 e).step g, h4, h5, fun e => (h6 e).step g, h7, h8, fun e => (h9 e).step g, h10, h11, fun e => (h12 e).step g⟩
def I11 (w : World) (S X : Nat) (win : Int) (T R : Sl) (tl : List UInt8) (ys : List EV) (bs : List Bool) (vs : List Value) (W : World) : Prop :=
  ∃ b0 b1 b2 b3 b4 b5 b6 b7 b8 b9 b10 b11 b12 b13 b14 b15 : Bool, ∃ v0 v1 v2 v3 v4 v5 v6 v7 v8 v9 v10 v11 v12 v13 v14 : Value, bs = [b0, b1, b2, b3, b4, b5, b6, b7, b8, b9, b10, b11, b12, b13, b14, b15] ∧ vs = [v0, v1, v2, v3, v4, v5, v6, v7, v8, v9, v10, v11, v12, v13, v14] ∧
    ((b13 = false ∧ b14 = false ∧ b15 = false ∧ J11 S X R (fun W => Od w S X win T R tl ys W) b0 b1 b2 b3 b4 b5 b6 b7 b8 b9 b10 b11 b12 v0 v1 v2 v3 v4 v5 v6 v7 v8 v9 v10 v11 v12 W) ∨
     ((b0 && b1 && b2 && b3 && b4 && b5 && b6 && b7 && b8 && b9 && b10 && b11 && b12 && b13) = true ∧ b15 = false ∧ Ob w S X win T R tl ys W ∧ (∃ (R2 : Sl) (x : Im.Wt), v13 = R2.v ∧ x.held = [] ∧ OR (X + 2) W 32 4 R2 (f4 (ys ++ [(x, nilS)]))) ∧ (b14 = true → v14 = .pointer (some ⟨X, 2, none⟩))) ∨
     (bs = [true, true, true, true, true, true, true, true, true, true, true, true, true, true, true, true] ∧ OddQ w S X W))
set_option maxRecDepth 100000 in
set_option maxHeartbeats 8000000 in
theorem odd_any (S : Nat) (T E : Sl) (k : Ik) (w : World) (hs : Wr.SrcOK w S) (hk : KA w [S] T E k) (ho : k.ok = true) :
    Calls Tryz.prog 14 #[.pointer (some ⟨S, 0, none⟩), iv3 k.win T E] w (OddE S w) := by
  have HK := Hi hk
  have HS := Hi hs
  have HOK := Hi (Ik.ok_iff.1 ho)
  have HSL := Hi (Wr.src_lt hs)
  clear hk hs ho
  obtain ⟨win, tl, es⟩ := k
  obtain ⟨Ta, Tn, Tc⟩ := T
  obtain ⟨Ea, En, Ec⟩ := E
  have hEn : es.length = En := HK.out.es.len
  have hTn : tl.length = Tn := HK.out.tl.1.1
  have hE64 : En ≤ 64 := by have h9 : es.length ≤ 64 := HOK.out.2.2.2.len; omega
  have hT4 : Tn ≤ 400 := by have h9 : tl.length ≤ 400 := HOK.out.2.1; omega
  obtain ⟨ys, hys, hcr, hyv, hyl⟩ := HK.out.es.list
  dsimp only at hys hyl
  have HYS := Hi hys
  have HCR := Hi hcr
  have HYV := Hi hyv
  have HYL := Hi hyl
  clear hys hcr hyv hyl
  obtain ⟨I, hI, hz, hsz, hby⟩ := parts_w
  dsimp only [iv3, Sl.v]
  obtain ⟨X, hX⟩ : ∃ X, X = w.heap.size := ⟨_, rfl⟩
  obtain ⟨w1, hw1⟩ : ∃ w1, w1 = w.alloc (Obj.cells #[.int .i64 win, .slice Ta Tn Tc, .slice Ea En Ec] 25) := ⟨_, rfl⟩
  obtain ⟨w2, hw2⟩ : ∃ w2, w2 = w1.alloc (Obj.cells #[.int .i64 0, .slice none 0 0, .slice none 0 0] 25) := ⟨_, rfl⟩
  have z1 : w1.heap.size = X + 1 := by subst hw1; subst hX; simp
  have z2 : w2.heap.size = X + 2 := by subst hw2; simp [z1]
  have g1 : w.grownBy w1 none := by subst hw1; exact grown_alloc _ _ _
  have g2 : w1.grownBy w2 none := by subst hw2; exact grown_alloc _ _ _
  have G := Hi (grown_trans g1 g2)
  have BX := Hi (show Tri w2 X (.int .i64 win) (.slice Ta Tn Tc) (.slice Ea En Ec) from (show Tri w1 X _ _ _ by subst hw1; subst hX; exact tri_made _ _ _ _ _).grown g2)
  have BZ := Hi (show Tri w2 (X + 1) (.int .i64 0) (.slice none 0 0) (.slice none 0 0) by subst hw2; rw [← z1]; exact tri_made _ _ _ _ _)
  have HZX := Hi (show w2.heap.size = X + 2 ∧ w.heap.size = X from ⟨z2, hX.symm⟩)
  go_enter Tryz.func14, Tryz.ntmps14
  go_upto_region 1 with fail
  rw [← hw1, ← hw2]
  simp only [← hX]
  try simp only [z1]
  clear hX hw1 hw2 g1 g2 z1 z2
  obtain ⟨wl, hwl⟩ : ∃ z, z = w2.alloc (Obj.cells #[] 32) := ⟨_, rfl⟩
  obtain ⟨bq, hbq⟩ : ∃ b, b = w2.heap.size := ⟨_, rfl⟩
  have gl : w2.grownBy wl none := by subst hwl; exact grown_alloc _ _ _
  have R0 := Hi (show OR bq wl 32 4 ⟨some ⟨bq, 0, none⟩, 0, 0⟩ [] from by subst hwl; subst hbq; exact or_litW w2)
  have HCL := Hi (show CR wl ⟨Ea, En, Ec⟩ (f4 ys) from fun j v hv => by obtain ⟨b, off, e, hc⟩ := HCR.out j v hv; exact ⟨b, off, e, (grown_trans G.out gl).cell hc (by simp)⟩)
  have HLN := Hi (show (f4 ys).length = En * 4 by rw [f4_len, HYL.out])
  have HBQ := Hi (show bq ≤ wl.heap.size by rw [hbq]; exact gl.size)
  have HBW := Hi (show w2.heap.size = bq from hbq.symm)
  have Gl := Hi (grown_trans G.out gl)
  have BXl := Hi (BX.out.grown gl)
  have BZl := Hi (BZ.out.grown gl)
  clear gl
  rw [hwl, hbq] at R0 HBQ
  rw [hwl] at HCL
  have BXa := BXl.out
  rw [hwl] at BXa
  obtain ⟨⟨c0, c1, c2⟩, cF⟩ := BXa
  have f2 := cF 2
  clear cF
  go_wp2_with (first
    | (at_builtin
       refine wpList_appV rfl (.tmp 6) (.tmp 8) 23 rfl (S := ⟨some ⟨w2.heap.size, 0, none⟩, 0, 0⟩) (V := ⟨Ea, En, Ec⟩) Tryz.underlying23 hI hz hsz hby (by rfl) (by omega) rfl rfl R0.out HBQ.out HLN.out HCL.out (f4_one ys) (by dsimp only; omega) (by dsimp only; omega) ?_
       intro r w5 hrn hr gr hrb
       rw [← hwl, ← hbq] at gr
       rw [← hwl, ← hbq] at hrb
       rw [← hbq] at hr
       have cf : Chg [bq] wl w5 := Chg.of gr (fun b hb => by injection hb with hb; subst hb; exact List.mem_singleton_self _)
       have R5 := Hi (show OR bq w5 32 4 r (f4 ys) from hr)
       have RN := Hi (show r.n = En by rw [hrn]; dsimp only; omega)
       have BX5 := Hi (BXl.out.step cf (fun hm => by rw [List.mem_singleton] at hm; have h1 := HBW.out; have h2 := HZX.out.1; omega))
       have BZ5 := Hi (BZl.out.step cf (fun hm => by rw [List.mem_singleton] at hm; have h1 := HBW.out; have h2 := HZX.out.1; omega))
       have G5 := Hi (cf.grown Gl.out (fun b hb => by rw [List.mem_singleton] at hb; have h1 := HBW.out; have h2 := HZX.out; omega))
       obtain ⟨⟨c0, c1, c2⟩, cF⟩ := BX5.out
       have f2 := cF 2
       clear cF hrn hr gr hrb cf
       obtain ⟨ra, rn, rc⟩ := r
       dsimp only [Sl.v] at RN ⊢)
    | fail)
  have OD0 : Od w S X win ⟨Ta, Tn, Tc⟩ ⟨ra, rn, rc⟩ tl ys (w5.setCell ⟨X, 2, none⟩ (.slice ra rn rc)) := by
    have c5 : Chg [X] w5 (w5.setCell ⟨X, 2, none⟩ (.slice ra rn rc)) := chg_set w5 X 2 _
    have hzx := HZX.out
    have hbw := HBW.out
    have gg : w.grownBy (w5.setCell ⟨X, 2, none⟩ (.slice ra rn rc)) none := c5.grown G5.out (fun b hb => by rw [List.mem_singleton] at hb; omega)
    have hrb := R5.out.blk
    have hL : ∀ b ∈ S :: X :: (X + 1) :: (Sl.blk ⟨ra, rn, rc⟩).toList, b ∈ [S] ∨ w.heap.size ≤ b := fun b hb => by
      rcases List.mem_cons.1 hb with e | hb
      · exact .inl (by rw [e]; exact List.mem_singleton_self _)
      · right
        rcases List.mem_cons.1 hb with e | hb
        · omega
        · rcases List.mem_cons.1 hb with e | hb
          · omega
          · have := (hrb b (by simpa using hb)).1; omega
    refine ⟨Wr.grown_weak _ gg, HS.out.grown gg, BX5.out.set2 _, BZ5.out.step c5 (fun hm => by rw [List.mem_singleton] at hm; omega), (R5.out.base_ (by omega)).chg c5 (fun b hb hm => by rw [List.mem_singleton] at hm; have := (hrb b hb).1; omega), HK.out.fit, HK.out.tl.step (M := []) (Chg.of0 gg) (fun _ h => by cases h) hL, fun y hy => (HYV.out y hy).step (M := []) (Chg.of0 gg) (fun _ h => by cases h) hL, ⟨hT4, by have := HYL.out; omega, fun y hy => ?_, by have := HSL.out; omega, hzx.2⟩⟩
    have h1 := (HOK.out.2.2.2.all y.1 (by rw [← HYS.out]; exact List.mem_map_of_mem hy)).len
    have h2 := HOK.out.1
    omega
  have OD := Hi OD0
  clear OD0 R5 RN BX5 BZ5 G5 c0 c1 c2 f2 HK HS HSL HYS HCR HYV HYL HOK BX BZ G HZX R0 HCL HLN HBQ HBW Gl BXl BZl hwl hbq
  generalize w5.setCell ⟨X, 2, none⟩ (.slice ra rn rc) = w6 at *
  refine (Wr.n_any S 4 w6 OD.out.src (by omega) (by omega)).mono ?_
  rintro e w7 ⟨nq, hnq, rfl, g7, s7⟩
  have OD := Hi (OD.out.step g7 s7)
  clear g7 s7
  go_upto_block 0 with fail
  go_cut [] (fun wd => OddQ w S X wd)
  case first =>
    obtain rfl | rfl | rfl | rfl : nq = 0 ∨ nq = 1 ∨ nq = 2 ∨ nq = 3 := by omega
    · go_wp2_with fail
      refine (Wr.pick_lit S 3 w7.heap.size [-1, 0, 17] #[.int .i64 (-1), .int .i64 0, .int .i64 17] w7 rfl OD.out.src rfl (by omega) (by omega) (fun i hi => by
        obtain rfl | rfl | rfl : i = 0 ∨ i = 1 ∨ i = 2 := by omega
        all_goals rfl)).mono ?_
      rintro e w8 ⟨r, -, rfl, g8, s8⟩
      have OD := Hi (OD.out.step g8 s8)
      clear g8 s8
      obtain ⟨⟨c0, c1, c2⟩, cF⟩ := OD.out.bx
      have f0 := cF 0
      clear cF
      go_wp2_with fail
      go_meet
      case rel => exact OD.out.q0 r
    · go_upto_region 9 with fail
      obtain ⟨IB, hIB, hzB, hszB, hbyB⟩ := parts_b
      refine wp_region_keeps (I9 w S X (fun W => Od w S X win ⟨Ta, Tn, Tc⟩ ⟨ra, rn, rc⟩ tl ys W)) [49, 50, 51, 52, 53, 54, 55, 56, 57, 58] [undef, undef, undef, undef, undef, undef, undef, undef, undef, undef] (by kernel_rfl) ?hac ?hv ?start ?step ?fin
      case hac => kernel_rfl
      case hv => simp only [puts, Act.put, lsA, lsB, lsC]
      case start =>
        exact ⟨false, false, false, false, false, false, false, false, false, false, false, _, _, _, _, _, _, _, _, _, _, rfl, rfl, .inl ⟨rfl, OD.out.grown (Wr.grown_drew w7 none), (fun h => by cases h), (fun h => by cases h), (fun h => by cases h), (fun h => by cases h), (fun h => by cases h), (fun h => by cases h), (fun h => by cases h), (fun h => by cases h), (fun h => by cases h), (fun h => by cases h)⟩⟩
      case step =>
        rintro bs' vs' W' i ⟨b0, b1, b2, b3, b4, b5, b6, b7, b8, b9, b10, v0, v1, v2, v3, v4, v5, v6, v7, v8, v9, rfl, rfl, ⟨rfl, hJ⟩ | ⟨hb, -⟩⟩ hi hr
        · have hi : i < 11 := hi
          have hsz : S < W'.heap.size ∧ X + 1 < W'.heap.size := ⟨Wr.src_lt hJ.1.src, hJ.1.bz.lt⟩
          obtain rfl | rfl | rfl | rfl | rfl | rfl | rfl | rfl | rfl | rfl | rfl : i = 0 ∨ i = 1 ∨ i = 2 ∨ i = 3 ∨ i = 4 ∨ i = 5 ∨ i = 6 ∨ i = 7 ∨ i = 8 ∨ i = 9 ∨ i = 10 := by omega
          · apply op_at
            · rfl
            intro K hK
            simp only [puts, Act.put, lsA, lsB, lsC]
            go_simp
            have hJ2 := hJ.step (Wr.grown_weak (some S) (grown_alloc W' (Obj.cells #[.int .u8 126, .int .u8 126] 5) none)) (hJ.1.grown (grown_alloc W' _ none))
            obtain ⟨od, q0, q1, q2, q3, q4, q5, q6, q7, q8, q9⟩ := hJ2
            exact hK.out _ _ ⟨[true, b1, b2, b3, b4, b5, b6, b7, b8, b9, false], [.slice (some ⟨W'.heap.size, 0, none⟩) 2 2, v1, v2, v3, v4, v5, v6, v7, v8, v9], by simp only [lsA, lsB, lsC], by simp only [puts, Act.put, lsA, lsB, lsC], true, b1, b2, b3, b4, b5, b6, b7, b8, b9, false, .slice (some ⟨W'.heap.size, 0, none⟩) 2 2, v1, v2, v3, v4, v5, v6, v7, v8, v9, rfl, rfl, .inl ⟨rfl, od, (fun _ => bq_lit #[.int .u8 126, .int .u8 126] 2 [126, 126] rfl rfl (by omega) hsz.1 hsz.2), q1, q2, q3, q4, q5, q6, q7, q8, q9⟩⟩
          · apply op_at
            · rfl
            intro K hK
            simp only [puts, Act.put, lsA, lsB, lsC]
            go_simp
            have hJ2 := hJ.step (Wr.grown_weak (some S) (grown_alloc W' (Obj.cells #[.int .u8 1] 5) none)) (hJ.1.grown (grown_alloc W' _ none))
            obtain ⟨od, q0, q1, q2, q3, q4, q5, q6, q7, q8, q9⟩ := hJ2
            exact hK.out _ _ ⟨[b0, true, b2, b3, b4, b5, b6, b7, b8, b9, false], [v0, .slice (some ⟨W'.heap.size, 0, none⟩) 1 1, v2, v3, v4, v5, v6, v7, v8, v9], by simp only [lsA, lsB, lsC], by simp only [puts, Act.put, lsA, lsB, lsC], b0, true, b2, b3, b4, b5, b6, b7, b8, b9, false, v0, .slice (some ⟨W'.heap.size, 0, none⟩) 1 1, v2, v3, v4, v5, v6, v7, v8, v9, rfl, rfl, .inl ⟨rfl, od, q0, (fun _ => bq_lit #[.int .u8 1] 1 [1] rfl rfl (by omega) hsz.1 hsz.2), q2, q3, q4, q5, q6, q7, q8, q9⟩⟩
          · apply op_at
            · rfl
            intro K hK
            simp only [puts, Act.put, lsA, lsB, lsC]
            go_simp
            have hJ2 := hJ.step (Wr.grown_weak (some S) (grown_alloc W' (Obj.cells #[.int .u8 126, .int .u8 124] 5) none)) (hJ.1.grown (grown_alloc W' _ none))
            obtain ⟨od, q0, q1, q2, q3, q4, q5, q6, q7, q8, q9⟩ := hJ2
            exact hK.out _ _ ⟨[b0, b1, true, b3, b4, b5, b6, b7, b8, b9, false], [v0, v1, .slice (some ⟨W'.heap.size, 0, none⟩) 2 2, v3, v4, v5, v6, v7, v8, v9], by simp only [lsA, lsB, lsC], by simp only [puts, Act.put, lsA, lsB, lsC], b0, b1, true, b3, b4, b5, b6, b7, b8, b9, false, v0, v1, .slice (some ⟨W'.heap.size, 0, none⟩) 2 2, v3, v4, v5, v6, v7, v8, v9, rfl, rfl, .inl ⟨rfl, od, q0, q1, (fun _ => bq_lit #[.int .u8 126, .int .u8 124] 2 [126, 124] rfl rfl (by omega) hsz.1 hsz.2), q3, q4, q5, q6, q7, q8, q9⟩⟩
          · obtain ⟨w2', hrun, hown, g2⟩ := run_makeSlice_full (P := Tryz.prog) (w := W') W'.heap.size 22 5 IB (.int .u8 0) 1 Tryz.underlying22 hIB hzB hszB .i64 .i64 401 (by omega) (by rw [hbyB]; omega) (by unfold maxLen; omega) (Nat.le_refl _)
            have hrun' : Sem.run Tryz.prog (Instr.makeSlice 22 (.int .i64 401) (.int .i64 401)) W' = .ok (.slice (some ⟨W'.heap.size, 0, none⟩) 401 401) w2' := hrun
            have hJ2 := hJ.step (Wr.grown_weak (some S) g2) (hJ.1.grown g2)
            obtain ⟨od, q0, q1, q2, q3, q4, q5, q6, q7, q8, q9⟩ := hJ2
            rw [made401] at hown
            have hB3 : Bq S X w2' (.slice (some ⟨W'.heap.size, 0, none⟩) 401 401) := ⟨⟨some ⟨W'.heap.size, 0, none⟩, 401, 401⟩, List.replicate 401 0, rfl, ⟨Nat.le_refl _, by dsimp only; omega⟩, by dsimp only; omega, rl_of (L := [S, X, X + 1]) (⟨hown⟩ : OR W'.heap.size w2' 5 1 ⟨some ⟨W'.heap.size, 0, none⟩, 401, 401⟩ (bvs (List.replicate 401 0))) (fun b hb => by
              simp only [List.mem_cons, List.not_mem_nil, or_false] at hb
              omega)⟩
            clear hrun hown
            apply op_at
            · rfl
            intro K hK
            simp only [puts, Act.put, lsA, lsB, lsC]
            go_simp
            exact hK.out _ _ ⟨[b0, b1, b2, true, b4, b5, b6, b7, b8, b9, false], [v0, v1, v2, .slice (some ⟨W'.heap.size, 0, none⟩) 401 401, v4, v5, v6, v7, v8, v9], by simp only [lsA, lsB, lsC], by simp only [puts, Act.put, lsA, lsB, lsC], b0, b1, b2, true, b4, b5, b6, b7, b8, b9, false, v0, v1, v2, .slice (some ⟨W'.heap.size, 0, none⟩) 401 401, v4, v5, v6, v7, v8, v9, rfl, rfl, .inl ⟨rfl, od, q0, q1, q2, (fun _ => hB3), q4, q5, q6, q7, q8, q9⟩⟩
          · have d0 : b0 = true := dep_at hr (o := _) rfl ⟨0, .data⟩ (by simp) rfl
            have d1 : b1 = true := dep_at hr (o := _) rfl ⟨1, .data⟩ (by simp) rfl
            have d2 : b2 = true := dep_at hr (o := _) rfl ⟨2, .data⟩ (by simp) rfl
            have d3 : b3 = true := dep_at hr (o := _) rfl ⟨3, .data⟩ (by simp) rfl
            obtain ⟨⟨a0, n0, c0⟩, l0, e0, hf0, hn0, hl0⟩ := hJ.2.1 d0
            subst e0
            obtain ⟨⟨a1, n1, c1⟩, l1, e1, hf1, hn1, hl1⟩ := hJ.2.2.1 d1
            subst e1
            obtain ⟨⟨a2, n2, c2⟩, l2, e2, hf2, hn2, hl2⟩ := hJ.2.2.2.1 d2
            subst e2
            obtain ⟨⟨a3, n3, c3⟩, l3, e3, hf3, hn3, hl3⟩ := hJ.2.2.2.2.1 d3
            subst e3
            try dsimp only [Sl.v] at hJ ⊢
            have ga := grown_alloc W' (Obj.cells #[.slice a0 n0 c0, .slice a1 n1 c1, .slice a2 n2 c2, .slice a3 n3 c3] 22) none
            have hJ2 := hJ.step (Wr.grown_weak (some S) ga) (hJ.1.grown ga)
            have hq := hJ2
            obtain ⟨od, q0, q1, q2, q3, q4, q5, q6, q7, q8, q9⟩ := hJ2
            have hQ4 : Q4 S X (W'.alloc (Obj.cells #[.slice a0 n0 c0, .slice a1 n1 c1, .slice a2 n2 c2, .slice a3 n3 c3] 22)) (.slice (some ⟨W'.heap.size, 0, none⟩) 4 4) := ⟨W'.heap.size, rfl, by omega, fun i hi => by
              obtain rfl | rfl | rfl | rfl : i = 0 ∨ i = 1 ∨ i = 2 ∨ i = 3 := by omega
              · exact ⟨_, World.cell?_alloc_new _ _ _ _, q0 d0⟩
              · exact ⟨_, World.cell?_alloc_new _ _ _ _, q1 d1⟩
              · exact ⟨_, World.cell?_alloc_new _ _ _ _, q2 d2⟩
              · exact ⟨_, World.cell?_alloc_new _ _ _ _, q3 d3⟩⟩
            clear ga hq
            apply op_at
            · rfl
            intro K hK
            simp only [puts, Act.put, lsA, lsB, lsC]
            go_simp
            exact hK.out _ _ ⟨[b0, b1, b2, b3, true, b5, b6, b7, b8, b9, false], [.slice a0 n0 c0, .slice a1 n1 c1, .slice a2 n2 c2, .slice a3 n3 c3, .slice (some ⟨W'.heap.size, 0, none⟩) 4 4, v5, v6, v7, v8, v9], by simp only [lsA, lsB, lsC], by simp only [puts, Act.put, lsA, lsB, lsC], b0, b1, b2, b3, true, b5, b6, b7, b8, b9, false, .slice a0 n0 c0, .slice a1 n1 c1, .slice a2 n2 c2, .slice a3 n3 c3, .slice (some ⟨W'.heap.size, 0, none⟩) 4 4, v5, v6, v7, v8, v9, rfl, rfl, .inl ⟨rfl, od, q0, q1, q2, q3, (fun _ => hQ4), q5, q6, q7, q8, q9⟩⟩
          · obtain ⟨od, q0, q1, q2, q3, q4, q5, q6, q7, q8, q9⟩ := hJ
            apply op_at
            · rfl
            intro K hK
            simp only [puts, Act.put, lsA, lsB, lsC]
            go_simp
            exact hK.out _ _ ⟨[b0, b1, b2, b3, b4, true, b6, b7, b8, b9, false], [v0, v1, v2, v3, v4, .pointer (some ⟨S, 0, none⟩), v6, v7, v8, v9], by simp only [lsA, lsB, lsC], by simp only [puts, Act.put, lsA, lsB, lsC], b0, b1, b2, b3, b4, true, b6, b7, b8, b9, false, v0, v1, v2, v3, v4, .pointer (some ⟨S, 0, none⟩), v6, v7, v8, v9, rfl, rfl, .inl ⟨rfl, od, q0, q1, q2, q3, q4, (fun _ => rfl), q6, q7, q8, q9⟩⟩
          · have d5 : b5 = true := dep_at hr (o := _) rfl ⟨5, .data⟩ (by simp) rfl
            obtain rfl := hJ.2.2.2.2.2.2.1 d5
            apply op_at
            · rfl
            intro K hK
            simp only [puts, Act.put, lsA, lsB, lsC]
            go_simp
            refine (Wr.n_any S 4 _ hJ.1.src (by omega) (by omega)).mono ?_
            rintro e W2 ⟨qi, hqi, rfl, g2, s2⟩
            obtain ⟨q, rfl⟩ : ∃ k : Nat, qi = k := ⟨qi.toNat, by omega⟩
            have hq : q < 4 := by omega
            have hJ2 := hJ.step g2 (hJ.1.step g2 s2)
            obtain ⟨od, q0, q1, q2, q3, q4, q5, q6, q7, q8, q9⟩ := hJ2
            exact hK.out _ _ ⟨[b0, b1, b2, b3, b4, b5, true, b7, b8, b9, false], [v0, v1, v2, v3, v4, .pointer (some ⟨S, 0, none⟩), .int .i64 q, v7, v8, v9], by simp only [lsA, lsB, lsC], by simp only [puts, Act.put, lsA, lsB, lsC], b0, b1, b2, b3, b4, b5, true, b7, b8, b9, false, v0, v1, v2, v3, v4, .pointer (some ⟨S, 0, none⟩), .int .i64 q, v7, v8, v9, rfl, rfl, .inl ⟨rfl, od, q0, q1, q2, q3, q4, q5, (fun _ => ⟨q, rfl, hq⟩), q7, q8, q9⟩⟩
          · have d4 : b4 = true := dep_at hr (o := _) rfl ⟨4, .data⟩ (by simp) rfl
            have d6 : b6 = true := dep_at hr (o := _) rfl ⟨6, .data⟩ (by simp) rfl
            obtain ⟨p, rfl, hp, hcl⟩ := hJ.2.2.2.2.2.1 d4
            obtain ⟨q, rfl, hq⟩ := hJ.2.2.2.2.2.2.2.1 d6
            obtain ⟨y, hy, hby2⟩ := hcl q hq
            have hq1 : (q : Int) < 4 := by omega
            obtain ⟨od, q0, q1, q2, q3, q4, q5, q6, q7, q8, q9⟩ := hJ
            apply op_at
            · rfl
            intro K hK
            simp only [puts, Act.put, lsA, lsB, lsC]
            go_simp
            exact hK.out _ _ ⟨[b0, b1, b2, b3, b4, b5, b6, true, b8, b9, false], [v0, v1, v2, v3, .slice (some ⟨p, 0, none⟩) 4 4, v5, .int .i64 q, .pointer (some ⟨p, q, none⟩), v8, v9], by simp only [lsA, lsB, lsC], by simp only [puts, Act.put, lsA, lsB, lsC], b0, b1, b2, b3, b4, b5, b6, true, b8, b9, false, v0, v1, v2, v3, .slice (some ⟨p, 0, none⟩) 4 4, v5, .int .i64 q, .pointer (some ⟨p, q, none⟩), v8, v9, rfl, rfl, .inl ⟨rfl, od, q0, q1, q2, q3, q4, q5, q6, (fun _ => ⟨⟨p, q, none⟩, y, rfl, hp, hy, hby2⟩), q8, q9⟩⟩
          · have d7 : b7 = true := dep_at hr (o := _) rfl ⟨7, .data⟩ (by simp) rfl
            obtain ⟨p, y, rfl, hp, hy, hby2⟩ := hJ.2.2.2.2.2.2.2.2.1 d7
            have hby3 := hby2
            obtain ⟨⟨ya, yn, yc⟩, yl, rfl, -⟩ := hby3
            try dsimp only [Sl.v] at hy hby2 ⊢
            obtain ⟨od, q0, q1, q2, q3, q4, q5, q6, q7, q8, q9⟩ := hJ
            apply op_at
            · rfl
            intro K hK
            simp only [puts, Act.put, lsA, lsB, lsC]
            go_simp
            exact hK.out _ _ ⟨[b0, b1, b2, b3, b4, b5, b6, b7, true, b9, false], [v0, v1, v2, v3, v4, v5, v6, .pointer (some p), .slice ya yn yc, v9], by simp only [lsA, lsB, lsC], by simp only [puts, Act.put, lsA, lsB, lsC], b0, b1, b2, b3, b4, b5, b6, b7, true, b9, false, v0, v1, v2, v3, v4, v5, v6, .pointer (some p), .slice ya yn yc, v9, rfl, rfl, .inl ⟨rfl, od, q0, q1, q2, q3, q4, q5, q6, q7, (fun _ => hby2), q9⟩⟩
          · obtain ⟨od, q0, q1, q2, q3, q4, q5, q6, q7, q8, q9⟩ := hJ
            apply op_at
            · rfl
            intro K hK
            simp only [puts, Act.put, lsA, lsB, lsC]
            go_simp
            exact hK.out _ _ ⟨[b0, b1, b2, b3, b4, b5, b6, b7, b8, true, false], [v0, v1, v2, v3, v4, v5, v6, v7, v8, .pointer (some ⟨X, 1, none⟩)], by simp only [lsA, lsB, lsC], by simp only [puts, Act.put, lsA, lsB, lsC], b0, b1, b2, b3, b4, b5, b6, b7, b8, true, false, v0, v1, v2, v3, v4, v5, v6, v7, v8, .pointer (some ⟨X, 1, none⟩), rfl, rfl, .inl ⟨rfl, od, q0, q1, q2, q3, q4, q5, q6, q7, q8, (fun _ => rfl)⟩⟩
          · have d0 : b0 = true := dep_at hr (o := _) rfl ⟨0, .phase⟩ (by simp) rfl
            have d1 : b1 = true := dep_at hr (o := _) rfl ⟨1, .phase⟩ (by simp) rfl
            have d2 : b2 = true := dep_at hr (o := _) rfl ⟨2, .phase⟩ (by simp) rfl
            have d3 : b3 = true := dep_at hr (o := _) rfl ⟨3, .phase⟩ (by simp) rfl
            have d4 : b4 = true := dep_at hr (o := _) rfl ⟨4, .phase⟩ (by simp) rfl
            have d5 : b5 = true := dep_at hr (o := _) rfl ⟨5, .phase⟩ (by simp) rfl
            have d6 : b6 = true := dep_at hr (o := _) rfl ⟨6, .phase⟩ (by simp) rfl
            have d7 : b7 = true := dep_at hr (o := _) rfl ⟨7, .phase⟩ (by simp) rfl
            have d8 : b8 = true := dep_at hr (o := _) rfl ⟨8, .phase⟩ (by simp) rfl
            have d9 : b9 = true := dep_at hr (o := _) rfl ⟨9, .data⟩ (by simp) rfl
            subst d0 d1 d2 d3 d4 d5 d6 d7 d8 d9
            obtain ⟨⟨ya, yn, yc⟩, yl, rfl, hyf, hyn, hyl⟩ := hJ.2.2.2.2.2.2.2.2.2.1 rfl
            obtain rfl := hJ.2.2.2.2.2.2.2.2.2.2 rfl
            try dsimp only [Sl.v] at hJ hyn hyl ⊢
            have hQ := hJ.1.q1 hyf hyl hyn
            obtain ⟨⟨m0, m1, m2⟩, mF⟩ := hJ.1.bx
            have f1 := mF 1
            clear mF
            apply op_at
            · rfl
            intro K hK
            simp only [puts, Act.put, lsA, lsB, lsC]
            go_simp
            exact hK.out _ _ ⟨[true, true, true, true, true, true, true, true, true, true, true], [v0, v1, v2, v3, v4, v5, v6, v7, .slice ya yn yc, .pointer (some ⟨X, 1, none⟩)], by simp only [lsA, lsB, lsC], by simp only [puts, Act.put, lsA, lsB, lsC], true, true, true, true, true, true, true, true, true, true, true, v0, v1, v2, v3, v4, v5, v6, v7, .slice ya yn yc, .pointer (some ⟨X, 1, none⟩), rfl, rfl, .inr ⟨rfl, hQ⟩⟩
        · exfalso
          rw [hb] at hr
          have h1 := ready_un hr
          have hi : i < 11 := hi
          obtain rfl | rfl | rfl | rfl | rfl | rfl | rfl | rfl | rfl | rfl | rfl : i = 0 ∨ i = 1 ∨ i = 2 ∨ i = 3 ∨ i = 4 ∨ i = 5 ∨ i = 6 ∨ i = 7 ∨ i = 8 ∨ i = 9 ∨ i = 10 := by omega
          all_goals cases h1
      case fin =>
        rintro bs' vs' W' ⟨b0, b1, b2, b3, b4, b5, b6, b7, b8, b9, b10, v0, v1, v2, v3, v4, v5, v6, v7, v8, v9, rfl, rfl, ⟨rfl, -⟩ | ⟨-, hQ⟩⟩ hall
        · cases hall 10 (by simp)
        · have HQ := Hi hQ
          simp only [puts, Act.put, lsA, lsB, lsC]
          clear hQ hall
          go_wp2
          go_meet
          case rel => exact HQ.out
    · go_upto_region 11 with fail
      have hsz2 := hsz
      refine wp_region_keeps2 (I11 w S X win ⟨Ta, Tn, Tc⟩ ⟨ra, rn, rc⟩ tl ys) [61, 62, 63, 64, 65, 66, 67, 68, 69, 70, 71, 72, 73, 74, 75] [undef, undef, undef, undef, undef, undef, undef, undef, undef, undef, undef, undef, undef, undef, undef] (by kernel_rfl) ?hac ?hv ?start ?step ?fin
      case hac => kernel_rfl
      case hv => simp only [puts, Act.put, lsA, lsB, lsC]
      case start =>
        exact ⟨false, false, false, false, false, false, false, false, false, false, false, false, false, false, false, false, _, _, _, _, _, _, _, _, _, _, _, _, _, _, _, rfl, rfl, .inl ⟨rfl, rfl, rfl, OD.out.grown (Wr.grown_drew w7 none), (fun h => by cases h), (fun h => by cases h), (fun h => by cases h), (fun h => by cases h), (fun h => by cases h), (fun h => by cases h), (fun h => by cases h), (fun h => by cases h), (fun h => by cases h), (fun h => by cases h), (fun h => by cases h), (fun h => by cases h), (fun h => by cases h)⟩⟩
      case step =>
        rintro bs' vs' W' i ⟨b0, b1, b2, b3, b4, b5, b6, b7, b8, b9, b10, b11, b12, b13, b14, b15, v0, v1, v2, v3, v4, v5, v6, v7, v8, v9, v10, v11, v12, v13, v14, rfl, rfl, ⟨rfl, rfl, rfl, hJ⟩ | ⟨hb, rfl, hO, hR, hP⟩ | ⟨hb, -⟩⟩ hi hr hs
        · have hi : i < 16 := hi
          have hsz : S < W'.heap.size ∧ X + 1 < W'.heap.size := ⟨Wr.src_lt hJ.1.src, hJ.1.bz.lt⟩
          obtain rfl | rfl | rfl | rfl | rfl | rfl | rfl | rfl | rfl | rfl | rfl | rfl | rfl | rfl | rfl | rfl : i = 0 ∨ i = 1 ∨ i = 2 ∨ i = 3 ∨ i = 4 ∨ i = 5 ∨ i = 6 ∨ i = 7 ∨ i = 8 ∨ i = 9 ∨ i = 10 ∨ i = 11 ∨ i = 12 ∨ i = 13 ∨ i = 14 ∨ i = 15 := by omega
          · obtain ⟨od, q0, q1, q2, q3, q4, q5, q6, q7, q8, q9, q10, q11, q12⟩ := hJ
            apply op_at
            · rfl
            intro K hK
            simp only [puts, Act.put, lsA, lsB, lsC]
            go_simp
            exact hK.out _ _ ⟨[true, b1, b2, b3, b4, b5, b6, b7, b8, b9, b10, b11, b12, false, false, false], [.pointer (some ⟨X, 2, none⟩), v1, v2, v3, v4, v5, v6, v7, v8, v9, v10, v11, v12, v13, v14], by simp only [lsA, lsB, lsC], by simp only [puts, Act.put, lsA, lsB, lsC], true, b1, b2, b3, b4, b5, b6, b7, b8, b9, b10, b11, b12, false, false, false, .pointer (some ⟨X, 2, none⟩), v1, v2, v3, v4, v5, v6, v7, v8, v9, v10, v11, v12, v13, v14, rfl, rfl, .inl ⟨rfl, rfl, rfl, od, (fun _ => rfl), q1, q2, q3, q4, q5, q6, q7, q8, q9, q10, q11, q12⟩⟩
          · have d0 : b0 = true := dep_at hr (o := _) rfl ⟨0, .data⟩ (by simp) rfl
            obtain rfl := hJ.2.1 d0
            obtain ⟨⟨m0, m1, m2⟩, -⟩ := hJ.1.bx
            obtain ⟨od, q0, q1, q2, q3, q4, q5, q6, q7, q8, q9, q10, q11, q12⟩ := hJ
            try dsimp only [Sl.v] at m2
            apply op_at
            · rfl
            intro K hK
            simp only [puts, Act.put, lsA, lsB, lsC]
            go_simp
            exact hK.out _ _ ⟨[b0, true, b2, b3, b4, b5, b6, b7, b8, b9, b10, b11, b12, false, false, false], [.pointer (some ⟨X, 2, none⟩), .slice ra rn rc, v2, v3, v4, v5, v6, v7, v8, v9, v10, v11, v12, v13, v14], by simp only [lsA, lsB, lsC], by simp only [puts, Act.put, lsA, lsB, lsC], b0, true, b2, b3, b4, b5, b6, b7, b8, b9, b10, b11, b12, false, false, false, .pointer (some ⟨X, 2, none⟩), .slice ra rn rc, v2, v3, v4, v5, v6, v7, v8, v9, v10, v11, v12, v13, v14, rfl, rfl, .inl ⟨rfl, rfl, rfl, od, q0, (fun _ => rfl), q2, q3, q4, q5, q6, q7, q8, q9, q10, q11, q12⟩⟩
          · obtain ⟨od, q0, q1, q2, q3, q4, q5, q6, q7, q8, q9, q10, q11, q12⟩ := hJ
            apply op_at
            · rfl
            intro K hK
            simp only [puts, Act.put, lsA, lsB, lsC]
            go_simp
            exact hK.out _ _ ⟨[b0, b1, true, b3, b4, b5, b6, b7, b8, b9, b10, b11, b12, false, false, false], [v0, v1, .pointer (some ⟨S, 0, none⟩), v3, v4, v5, v6, v7, v8, v9, v10, v11, v12, v13, v14], by simp only [lsA, lsB, lsC], by simp only [puts, Act.put, lsA, lsB, lsC], b0, b1, true, b3, b4, b5, b6, b7, b8, b9, b10, b11, b12, false, false, false, v0, v1, .pointer (some ⟨S, 0, none⟩), v3, v4, v5, v6, v7, v8, v9, v10, v11, v12, v13, v14, rfl, rfl, .inl ⟨rfl, rfl, rfl, od, q0, q1, (fun _ => rfl), q3, q4, q5, q6, q7, q8, q9, q10, q11, q12⟩⟩
          · apply op_at
            · rfl
            intro K hK
            simp only [puts, Act.put, lsA, lsB, lsC]
            go_simp
            have ga := grown_alloc W' (Obj.cells #[.int .i64 0, .int .i64 (-1), .int .i64 256, .int .i64 255] 3) none
            have hJ2 := hJ.step (Wr.grown_weak (some S) ga) (hJ.1.grown ga)
            obtain ⟨od, q0, q1, q2, q3, q4, q5, q6, q7, q8, q9, q10, q11, q12⟩ := hJ2
            have hLi : Li S (W'.alloc (Obj.cells #[.int .i64 0, .int .i64 (-1), .int .i64 256, .int .i64 255] 3)) (.slice (some ⟨W'.heap.size, 0, none⟩) 4 4) [0, -1, 256, 255] := ⟨W'.heap.size, rfl, by omega, fun i hi => by
              have hi : i < 4 := hi
              rw [Nat.zero_add, World.cell?_alloc_new]
              obtain rfl | rfl | rfl | rfl : i = 0 ∨ i = 1 ∨ i = 2 ∨ i = 3 := by omega
              all_goals rfl⟩
            exact hK.out _ _ ⟨[b0, b1, b2, true, b4, b5, b6, b7, b8, b9, b10, b11, b12, false, false, false], [v0, v1, v2, .slice (some ⟨W'.heap.size, 0, none⟩) 4 4, v4, v5, v6, v7, v8, v9, v10, v11, v12, v13, v14], by simp only [lsA, lsB, lsC], by simp only [puts, Act.put, lsA, lsB, lsC], b0, b1, b2, true, b4, b5, b6, b7, b8, b9, b10, b11, b12, false, false, false, v0, v1, v2, .slice (some ⟨W'.heap.size, 0, none⟩) 4 4, v4, v5, v6, v7, v8, v9, v10, v11, v12, v13, v14, rfl, rfl, .inl ⟨rfl, rfl, rfl, od, q0, q1, q2, (fun _ => hLi), q4, q5, q6, q7, q8, q9, q10, q11, q12⟩⟩
          · have d2 : b2 = true := dep_at hr (o := _) rfl ⟨2, .data⟩ (by simp) rfl
            have d3 : b3 = true := dep_at hr (o := _) rfl ⟨3, .data⟩ (by simp) rfl
            obtain rfl := hJ.2.2.2.1 d2
            obtain ⟨p, rfl, hp, hcl⟩ := hJ.2.2.2.2.1 d3
            apply op_at
            · rfl
            intro K hK
            simp only [puts, Act.put, lsA, lsB, lsC]
            go_simp
            refine (Wr.pick_any S p 0 4 4 [0, -1, 256, 255] _ hJ.1.src hp rfl (by omega) (by omega) hcl).mono ?_
            rintro e W2 ⟨rr, -, rfl, g2, s2⟩
            have hJ2 := hJ.step g2 (hJ.1.step g2 s2)
            obtain ⟨od, q0, q1, q2, q3, q4, q5, q6, q7, q8, q9, q10, q11, q12⟩ := hJ2
            exact hK.out _ _ ⟨[b0, b1, b2, b3, true, b5, b6, b7, b8, b9, b10, b11, b12, false, false, false], [v0, v1, .pointer (some ⟨S, 0, none⟩), .slice (some ⟨p, 0, none⟩) 4 4, .int .i64 rr, v5, v6, v7, v8, v9, v10, v11, v12, v13, v14], by simp only [lsA, lsB, lsC], by simp only [puts, Act.put, lsA, lsB, lsC], b0, b1, b2, b3, true, b5, b6, b7, b8, b9, b10, b11, b12, false, false, false, v0, v1, .pointer (some ⟨S, 0, none⟩), .slice (some ⟨p, 0, none⟩) 4 4, .int .i64 rr, v5, v6, v7, v8, v9, v10, v11, v12, v13, v14, rfl, rfl, .inl ⟨rfl, rfl, rfl, od, q0, q1, q2, q3, (fun _ => ⟨rr, rfl⟩), q5, q6, q7, q8, q9, q10, q11, q12⟩⟩
          · obtain ⟨od, q0, q1, q2, q3, q4, q5, q6, q7, q8, q9, q10, q11, q12⟩ := hJ
            apply op_at
            · rfl
            intro K hK
            simp only [puts, Act.put, lsA, lsB, lsC]
            go_simp
            exact hK.out _ _ ⟨[b0, b1, b2, b3, b4, true, b6, b7, b8, b9, b10, b11, b12, false, false, false], [v0, v1, v2, v3, v4, .pointer (some ⟨S, 0, none⟩), v6, v7, v8, v9, v10, v11, v12, v13, v14], by simp only [lsA, lsB, lsC], by simp only [puts, Act.put, lsA, lsB, lsC], b0, b1, b2, b3, b4, true, b6, b7, b8, b9, b10, b11, b12, false, false, false, v0, v1, v2, v3, v4, .pointer (some ⟨S, 0, none⟩), v6, v7, v8, v9, v10, v11, v12, v13, v14, rfl, rfl, .inl ⟨rfl, rfl, rfl, od, q0, q1, q2, q3, q4, (fun _ => rfl), q6, q7, q8, q9, q10, q11, q12⟩⟩
          · apply op_at
            · rfl
            intro K hK
            simp only [puts, Act.put, lsA, lsB, lsC]
            go_simp
            have ga := grown_alloc W' (Obj.cells #[.int .i64 0, .int .i64 256] 3) none
            have hJ2 := hJ.step (Wr.grown_weak (some S) ga) (hJ.1.grown ga)
            obtain ⟨od, q0, q1, q2, q3, q4, q5, q6, q7, q8, q9, q10, q11, q12⟩ := hJ2
            have hLi : Li S (W'.alloc (Obj.cells #[.int .i64 0, .int .i64 256] 3)) (.slice (some ⟨W'.heap.size, 0, none⟩) 2 2) [0, 256] := ⟨W'.heap.size, rfl, by omega, fun i hi => by
              have hi : i < 2 := hi
              rw [Nat.zero_add, World.cell?_alloc_new]
              obtain rfl | rfl : i = 0 ∨ i = 1 := by omega
              all_goals rfl⟩
            exact hK.out _ _ ⟨[b0, b1, b2, b3, b4, b5, true, b7, b8, b9, b10, b11, b12, false, false, false], [v0, v1, v2, v3, v4, v5, .slice (some ⟨W'.heap.size, 0, none⟩) 2 2, v7, v8, v9, v10, v11, v12, v13, v14], by simp only [lsA, lsB, lsC], by simp only [puts, Act.put, lsA, lsB, lsC], b0, b1, b2, b3, b4, b5, true, b7, b8, b9, b10, b11, b12, false, false, false, v0, v1, v2, v3, v4, v5, .slice (some ⟨W'.heap.size, 0, none⟩) 2 2, v7, v8, v9, v10, v11, v12, v13, v14, rfl, rfl, .inl ⟨rfl, rfl, rfl, od, q0, q1, q2, q3, q4, q5, (fun _ => hLi), q7, q8, q9, q10, q11, q12⟩⟩
          · have d5 : b5 = true := dep_at hr (o := _) rfl ⟨5, .data⟩ (by simp) rfl
            have d6 : b6 = true := dep_at hr (o := _) rfl ⟨6, .data⟩ (by simp) rfl
            obtain rfl := hJ.2.2.2.2.2.2.1 d5
            obtain ⟨p, rfl, hp, hcl⟩ := hJ.2.2.2.2.2.2.2.1 d6
            apply op_at
            · rfl
            intro K hK
            simp only [puts, Act.put, lsA, lsB, lsC]
            go_simp
            refine (Wr.pick_any S p 0 2 2 [0, 256] _ hJ.1.src hp rfl (by omega) (by omega) hcl).mono ?_
            rintro e W2 ⟨rr, -, rfl, g2, s2⟩
            have hJ2 := hJ.step g2 (hJ.1.step g2 s2)
            obtain ⟨od, q0, q1, q2, q3, q4, q5, q6, q7, q8, q9, q10, q11, q12⟩ := hJ2
            exact hK.out _ _ ⟨[b0, b1, b2, b3, b4, b5, b6, true, b8, b9, b10, b11, b12, false, false, false], [v0, v1, v2, v3, v4, .pointer (some ⟨S, 0, none⟩), .slice (some ⟨p, 0, none⟩) 2 2, .int .i64 rr, v8, v9, v10, v11, v12, v13, v14], by simp only [lsA, lsB, lsC], by simp only [puts, Act.put, lsA, lsB, lsC], b0, b1, b2, b3, b4, b5, b6, true, b8, b9, b10, b11, b12, false, false, false, v0, v1, v2, v3, v4, .pointer (some ⟨S, 0, none⟩), .slice (some ⟨p, 0, none⟩) 2 2, .int .i64 rr, v8, v9, v10, v11, v12, v13, v14, rfl, rfl, .inl ⟨rfl, rfl, rfl, od, q0, q1, q2, q3, q4, q5, q6, (fun _ => ⟨rr, rfl⟩), q8, q9, q10, q11, q12⟩⟩
          · obtain ⟨od, q0, q1, q2, q3, q4, q5, q6, q7, q8, q9, q10, q11, q12⟩ := hJ
            apply op_at
            · rfl
            intro K hK
            simp only [puts, Act.put, lsA, lsB, lsC]
            go_simp
            exact hK.out _ _ ⟨[b0, b1, b2, b3, b4, b5, b6, b7, true, b9, b10, b11, b12, false, false, false], [v0, v1, v2, v3, v4, v5, v6, v7, .pointer (some ⟨S, 0, none⟩), v9, v10, v11, v12, v13, v14], by simp only [lsA, lsB, lsC], by simp only [puts, Act.put, lsA, lsB, lsC], b0, b1, b2, b3, b4, b5, b6, b7, true, b9, b10, b11, b12, false, false, false, v0, v1, v2, v3, v4, v5, v6, v7, .pointer (some ⟨S, 0, none⟩), v9, v10, v11, v12, v13, v14, rfl, rfl, .inl ⟨rfl, rfl, rfl, od, q0, q1, q2, q3, q4, q5, q6, q7, (fun _ => rfl), q9, q10, q11, q12⟩⟩
          · apply op_at
            · rfl
            intro K hK
            simp only [puts, Act.put, lsA, lsB, lsC]
            go_simp
            have ga := grown_alloc W' (Obj.cells #[.int .i64 0, .int .i64 2147483649, .int .i64 2147483650] 3) none
            have hJ2 := hJ.step (Wr.grown_weak (some S) ga) (hJ.1.grown ga)
            obtain ⟨od, q0, q1, q2, q3, q4, q5, q6, q7, q8, q9, q10, q11, q12⟩ := hJ2
            have hLi : Li S (W'.alloc (Obj.cells #[.int .i64 0, .int .i64 2147483649, .int .i64 2147483650] 3)) (.slice (some ⟨W'.heap.size, 0, none⟩) 3 3) [0, 2147483649, 2147483650] := ⟨W'.heap.size, rfl, by omega, fun i hi => by
              have hi : i < 3 := hi
              rw [Nat.zero_add, World.cell?_alloc_new]
              obtain rfl | rfl | rfl : i = 0 ∨ i = 1 ∨ i = 2 := by omega
              all_goals rfl⟩
            exact hK.out _ _ ⟨[b0, b1, b2, b3, b4, b5, b6, b7, b8, true, b10, b11, b12, false, false, false], [v0, v1, v2, v3, v4, v5, v6, v7, v8, .slice (some ⟨W'.heap.size, 0, none⟩) 3 3, v10, v11, v12, v13, v14], by simp only [lsA, lsB, lsC], by simp only [puts, Act.put, lsA, lsB, lsC], b0, b1, b2, b3, b4, b5, b6, b7, b8, true, b10, b11, b12, false, false, false, v0, v1, v2, v3, v4, v5, v6, v7, v8, .slice (some ⟨W'.heap.size, 0, none⟩) 3 3, v10, v11, v12, v13, v14, rfl, rfl, .inl ⟨rfl, rfl, rfl, od, q0, q1, q2, q3, q4, q5, q6, q7, q8, (fun _ => hLi), q10, q11, q12⟩⟩
          · have d8 : b8 = true := dep_at hr (o := _) rfl ⟨8, .data⟩ (by simp) rfl
            have d9 : b9 = true := dep_at hr (o := _) rfl ⟨9, .data⟩ (by simp) rfl
            obtain rfl := hJ.2.2.2.2.2.2.2.2.2.1 d8
            obtain ⟨p, rfl, hp, hcl⟩ := hJ.2.2.2.2.2.2.2.2.2.2.1 d9
            apply op_at
            · rfl
            intro K hK
            simp only [puts, Act.put, lsA, lsB, lsC]
            go_simp
            refine (Wr.pick_any S p 0 3 3 [0, 2147483649, 2147483650] _ hJ.1.src hp rfl (by omega) (by omega) hcl).mono ?_
            rintro e W2 ⟨rr, -, rfl, g2, s2⟩
            have hJ2 := hJ.step g2 (hJ.1.step g2 s2)
            obtain ⟨od, q0, q1, q2, q3, q4, q5, q6, q7, q8, q9, q10, q11, q12⟩ := hJ2
            exact hK.out _ _ ⟨[b0, b1, b2, b3, b4, b5, b6, b7, b8, b9, true, b11, b12, false, false, false], [v0, v1, v2, v3, v4, v5, v6, v7, .pointer (some ⟨S, 0, none⟩), .slice (some ⟨p, 0, none⟩) 3 3, .int .i64 rr, v11, v12, v13, v14], by simp only [lsA, lsB, lsC], by simp only [puts, Act.put, lsA, lsB, lsC], b0, b1, b2, b3, b4, b5, b6, b7, b8, b9, true, b11, b12, false, false, false, v0, v1, v2, v3, v4, v5, v6, v7, .pointer (some ⟨S, 0, none⟩), .slice (some ⟨p, 0, none⟩) 3 3, .int .i64 rr, v11, v12, v13, v14, rfl, rfl, .inl ⟨rfl, rfl, rfl, od, q0, q1, q2, q3, q4, q5, q6, q7, q8, q9, (fun _ => ⟨rr, rfl⟩), q11, q12⟩⟩
          · have d4 : b4 = true := dep_at hr (o := _) rfl ⟨4, .data⟩ (by simp) rfl
            have d7 : b7 = true := dep_at hr (o := _) rfl ⟨7, .data⟩ (by simp) rfl
            have d10 : b10 = true := dep_at hr (o := _) rfl ⟨10, .data⟩ (by simp) rfl
            obtain ⟨r1, rfl⟩ := hJ.2.2.2.2.2.1 d4
            obtain ⟨r2, rfl⟩ := hJ.2.2.2.2.2.2.2.2.1 d7
            obtain ⟨r3, rfl⟩ := hJ.2.2.2.2.2.2.2.2.2.2.2.1 d10
            obtain ⟨od, q0, q1, q2, q3, q4, q5, q6, q7, q8, q9, q10, q11, q12⟩ := hJ
            apply op_at
            · rfl
            intro K hK
            simp only [puts, Act.put, lsA, lsB, lsC]
            go_simp
            exact hK.out _ _ ⟨[b0, b1, b2, b3, b4, b5, b6, b7, b8, b9, b10, true, b12, false, false, false], [v0, v1, v2, v3, .int .i64 r1, v5, v6, .int .i64 r2, v8, v9, .int .i64 r3, .agg #[.int .i64 r1, .int .i64 r2, .int .i64 r3, .slice none 0 0], v12, v13, v14], by simp only [lsA, lsB, lsC], by simp only [puts, Act.put, lsA, lsB, lsC], b0, b1, b2, b3, b4, b5, b6, b7, b8, b9, b10, true, b12, false, false, false, v0, v1, v2, v3, .int .i64 r1, v5, v6, .int .i64 r2, v8, v9, .int .i64 r3, .agg #[.int .i64 r1, .int .i64 r2, .int .i64 r3, .slice none 0 0], v12, v13, v14, rfl, rfl, .inl ⟨rfl, rfl, rfl, od, q0, q1, q2, q3, q4, q5, q6, q7, q8, q9, q10, (fun _ => ⟨r1, r2, r3, rfl⟩), q12⟩⟩
          · have d11 : b11 = true := dep_at hr (o := _) rfl ⟨11, .data⟩ (by simp) rfl
            obtain ⟨r1, r2, r3, rfl⟩ := hJ.2.2.2.2.2.2.2.2.2.2.2.2.1 d11
            apply op_at
            · rfl
            intro K hK
            simp only [puts, Act.put, lsA, lsB, lsC]
            go_simp
            have ga := grown_alloc W' (Obj.cells #[.int .i64 r1, .int .i64 r2, .int .i64 r3, .slice none 0 0] 32) none
            have hJ2 := hJ.step (Wr.grown_weak (some S) ga) (hJ.1.grown ga)
            obtain ⟨od, q0, q1, q2, q3, q4, q5, q6, q7, q8, q9, q10, q11, q12⟩ := hJ2
            have hWq : Wq S (W'.alloc (Obj.cells #[.int .i64 r1, .int .i64 r2, .int .i64 r3, .slice none 0 0] 32)) (.slice (some ⟨W'.heap.size, 0, none⟩) 1 1) := ⟨W'.heap.size, r1, r2, r3, rfl, by omega, (or_lit4 W' (⟨r1, r2, r3, []⟩, nilS)).cr⟩
            exact hK.out _ _ ⟨[b0, b1, b2, b3, b4, b5, b6, b7, b8, b9, b10, b11, true, false, false, false], [v0, v1, v2, v3, v4, v5, v6, v7, v8, v9, v10, .agg #[.int .i64 r1, .int .i64 r2, .int .i64 r3, .slice none 0 0], .slice (some ⟨W'.heap.size, 0, none⟩) 1 1, v13, v14], by simp only [lsA, lsB, lsC], by simp only [puts, Act.put, lsA, lsB, lsC], b0, b1, b2, b3, b4, b5, b6, b7, b8, b9, b10, b11, true, false, false, false, v0, v1, v2, v3, v4, v5, v6, v7, v8, v9, v10, .agg #[.int .i64 r1, .int .i64 r2, .int .i64 r3, .slice none 0 0], .slice (some ⟨W'.heap.size, 0, none⟩) 1 1, v13, v14, rfl, rfl, .inl ⟨rfl, rfl, rfl, od, q0, q1, q2, q3, q4, q5, q6, q7, q8, q9, q10, q11, (fun _ => hWq)⟩⟩
          · have d1 : b1 = true := dep_at hr (o := _) rfl ⟨1, .data⟩ (by simp) rfl
            have d12 : b12 = true := dep_at hr (o := _) rfl ⟨12, .data⟩ (by simp) rfl
            have d10 : b10 = true := dep_at hr (o := _) rfl ⟨10, .chain⟩ (by simp) rfl
            have d0 : b0 = true := shut_at hs (i := 1) d1 (o := _) rfl ⟨0, .data⟩ (by simp) rfl
            have d11 : b11 = true := shut_at hs (i := 12) d12 (o := _) rfl ⟨11, .data⟩ (by simp) rfl
            have d4 : b4 = true := shut_at hs (i := 11) d11 (o := _) rfl ⟨4, .data⟩ (by simp) rfl
            have d7 : b7 = true := shut_at hs (i := 11) d11 (o := _) rfl ⟨7, .data⟩ (by simp) rfl
            have d2 : b2 = true := shut_at hs (i := 4) d4 (o := _) rfl ⟨2, .data⟩ (by simp) rfl
            have d3 : b3 = true := shut_at hs (i := 4) d4 (o := _) rfl ⟨3, .data⟩ (by simp) rfl
            have d5 : b5 = true := shut_at hs (i := 7) d7 (o := _) rfl ⟨5, .data⟩ (by simp) rfl
            have d6 : b6 = true := shut_at hs (i := 7) d7 (o := _) rfl ⟨6, .data⟩ (by simp) rfl
            have d8 : b8 = true := shut_at hs (i := 10) d10 (o := _) rfl ⟨8, .data⟩ (by simp) rfl
            have d9 : b9 = true := shut_at hs (i := 10) d10 (o := _) rfl ⟨9, .data⟩ (by simp) rfl
            subst d0 d1 d2 d3 d4 d5 d6 d7 d8 d9 d10 d11 d12
            obtain rfl := hJ.2.2.1 rfl
            obtain ⟨p, r1, r2, r3, rfl, hp, hcr⟩ := hJ.2.2.2.2.2.2.2.2.2.2.2.2.2 rfl
            have hrow := hJ.1.row
            have hrl := hrow.len
            rw [f4_len] at hrl
            dsimp only at hrl
            have hyl := hJ.1.few.2.1
            have hx2 : X + 2 ≤ W'.heap.size := by omega
            have hOB : ∀ W2 : World, Chg (Sl.blk ⟨ra, rn, rc⟩).toList W' W2 → Ob w S X win ⟨Ta, Tn, Tc⟩ ⟨ra, rn, rc⟩ tl ys W2 := fun W2 c => hJ.1.ob c
            try dsimp only [Sl.v]
            clear hJ
            simp only [puts, Act.put, lsA, lsB, lsC]
            apply op_at
            · rfl
            intro K hK
            refine step_appV rfl (.tmp 62) (.tmp 73) 23 rfl (S := ⟨ra, rn, rc⟩) (V := ⟨some ⟨p, 0, none⟩, 1, 1⟩) Tryz.underlying23 hI hz hsz2 hby (by rfl) (by omega) rfl rfl hrow hx2 (by rfl) hcr (ecs_one _) (by dsimp only; omega) (by dsimp only; omega) ?_
            intro r W2 hrn hr2 hg hrb
            have c2 : Chg (Sl.blk ⟨ra, rn, rc⟩).toList W' W2 := Chg.of hg (fun b hb => by simpa using hb)
            have hO := hOB W2 c2
            have hr3 : OR (X + 2) W2 32 4 r (f4 (ys ++ [(⟨r1, r2, r3, []⟩, nilS)])) := by
              rw [show f4 (ys ++ [((⟨r1, r2, r3, []⟩ : Im.Wt), nilS)]) = f4 ys ++ ecs (⟨r1, r2, r3, []⟩, nilS) by simp [f4]]
              exact hr2
            exact hK.out _ _ ⟨[true, true, true, true, true, true, true, true, true, true, true, true, true, true, false, false], [v0, .slice ra rn rc, v2, v3, v4, v5, v6, v7, v8, v9, v10, v11, .slice (some ⟨p, 0, none⟩) 1 1, r.v, v14], by first | rfl | (simp only [lsA, lsB, lsC]), by simp only [puts, Act.put, lsA, lsB, lsC], true, true, true, true, true, true, true, true, true, true, true, true, true, true, false, false, v0, .slice ra rn rc, v2, v3, v4, v5, v6, v7, v8, v9, v10, v11, .slice (some ⟨p, 0, none⟩) 1 1, r.v, v14, rfl, rfl, .inr (.inl ⟨rfl, rfl, hO, ⟨r, ⟨r1, r2, r3, []⟩, rfl, rfl, hr3⟩, fun h => by cases h⟩)⟩
          · exfalso
            have d13 : false = true := dep_at hr (o := _) rfl ⟨13, .phase⟩ (by simp) rfl
            cases d13
          · exfalso
            have d13 : false = true := dep_at hr (o := _) rfl ⟨13, .phase⟩ (by simp) rfl
            cases d13
        · have hi : i < 16 := hi
          have hsz : S < W'.heap.size ∧ X + 1 < W'.heap.size := ⟨Wr.src_lt hO.src, hO.bz.lt⟩
          simp only [Bool.and_eq_true] at hb
          obtain ⟨⟨⟨⟨⟨⟨⟨⟨⟨⟨⟨⟨⟨rfl, rfl⟩, rfl⟩, rfl⟩, rfl⟩, rfl⟩, rfl⟩, rfl⟩, rfl⟩, rfl⟩, rfl⟩, rfl⟩, rfl⟩, rfl⟩ := hb
          obtain rfl | rfl | rfl | rfl | rfl | rfl | rfl | rfl | rfl | rfl | rfl | rfl | rfl | rfl | rfl | rfl : i = 0 ∨ i = 1 ∨ i = 2 ∨ i = 3 ∨ i = 4 ∨ i = 5 ∨ i = 6 ∨ i = 7 ∨ i = 8 ∨ i = 9 ∨ i = 10 ∨ i = 11 ∨ i = 12 ∨ i = 13 ∨ i = 14 ∨ i = 15 := by omega
          · exact absurd (ready_un hr) (by simp)
          · exact absurd (ready_un hr) (by simp)
          · exact absurd (ready_un hr) (by simp)
          · exact absurd (ready_un hr) (by simp)
          · exact absurd (ready_un hr) (by simp)
          · exact absurd (ready_un hr) (by simp)
          · exact absurd (ready_un hr) (by simp)
          · exact absurd (ready_un hr) (by simp)
          · exact absurd (ready_un hr) (by simp)
          · exact absurd (ready_un hr) (by simp)
          · exact absurd (ready_un hr) (by simp)
          · exact absurd (ready_un hr) (by simp)
          · exact absurd (ready_un hr) (by simp)
          · exact absurd (ready_un hr) (by simp)
          · apply op_at
            · rfl
            intro K hK
            simp only [puts, Act.put, lsA, lsB, lsC]
            go_simp
            exact hK.out _ _ ⟨[true, true, true, true, true, true, true, true, true, true, true, true, true, true, true, false], [v0, v1, v2, v3, v4, v5, v6, v7, v8, v9, v10, v11, v12, v13, .pointer (some ⟨X, 2, none⟩)], by simp only [lsA, lsB, lsC], by simp only [puts, Act.put, lsA, lsB, lsC], true, true, true, true, true, true, true, true, true, true, true, true, true, true, true, false, v0, v1, v2, v3, v4, v5, v6, v7, v8, v9, v10, v11, v12, v13, .pointer (some ⟨X, 2, none⟩), rfl, rfl, .inr (.inl ⟨rfl, rfl, hO, hR, fun _ => rfl⟩)⟩
          · have d14 : b14 = true := dep_at hr (o := _) rfl ⟨14, .data⟩ (by simp) rfl
            subst d14
            obtain rfl := hP rfl
            obtain ⟨R2, x, rfl, hx, hr2⟩ := hR
            have hQ := hO.q2 hx hr2
            obtain ⟨⟨m0, m1, m2⟩, mF⟩ := hO.bx
            have f2 := mF 2
            clear mF
            obtain ⟨r2a, r2n, r2c⟩ := R2
            try dsimp only [Sl.v] at hQ m2 ⊢
            apply op_at
            · rfl
            intro K hK
            simp only [puts, Act.put, lsA, lsB, lsC]
            go_simp
            exact hK.out _ _ ⟨[true, true, true, true, true, true, true, true, true, true, true, true, true, true, true, true], [v0, v1, v2, v3, v4, v5, v6, v7, v8, v9, v10, v11, v12, .slice r2a r2n r2c, .pointer (some ⟨X, 2, none⟩)], by simp only [lsA, lsB, lsC], by simp only [puts, Act.put, lsA, lsB, lsC], true, true, true, true, true, true, true, true, true, true, true, true, true, true, true, true, v0, v1, v2, v3, v4, v5, v6, v7, v8, v9, v10, v11, v12, .slice r2a r2n r2c, .pointer (some ⟨X, 2, none⟩), rfl, rfl, .inr (.inr ⟨rfl, hQ⟩)⟩
        · exfalso
          rw [hb] at hr
          have h1 := ready_un hr
          have hi : i < 16 := hi
          obtain rfl | rfl | rfl | rfl | rfl | rfl | rfl | rfl | rfl | rfl | rfl | rfl | rfl | rfl | rfl | rfl : i = 0 ∨ i = 1 ∨ i = 2 ∨ i = 3 ∨ i = 4 ∨ i = 5 ∨ i = 6 ∨ i = 7 ∨ i = 8 ∨ i = 9 ∨ i = 10 ∨ i = 11 ∨ i = 12 ∨ i = 13 ∨ i = 14 ∨ i = 15 := by omega
          all_goals cases h1
      case fin =>
        rintro bs' vs' W' ⟨b0, b1, b2, b3, b4, b5, b6, b7, b8, b9, b10, b11, b12, b13, b14, b15, v0, v1, v2, v3, v4, v5, v6, v7, v8, v9, v10, v11, v12, v13, v14, rfl, rfl, ⟨-, -, rfl, -⟩ | ⟨-, rfl, -⟩ | ⟨-, hQ⟩⟩ hall
        · cases hall 15 (by simp)
        · cases hall 15 (by simp)
        · have HQ := Hi hQ
          simp only [puts, Act.put, lsA, lsB, lsC]
          clear hQ hall
          go_wp2
          go_meet
          case rel => exact HQ.out
    · obtain ⟨⟨c0, c1, c2⟩, -⟩ := OD.out.bx
      dsimp only [Sl.v] at c2
      have hrow := OD.out.row
      have hrl := hrow.len
      rw [f4_len] at hrl
      dsimp only at hrl
      have hyl := OD.out.few.2.1
      by_cases hr0 : rn = 0
      · have b0 : ¬ ((0 : Int) < (rn : Int)) := by omega
        go_wp2_with fail
        go_meet
        case rel => exact OD.out.q3
      · have b0 : (0 : Int) < (rn : Int) := by omega
        obtain ⟨rb, hra, hrb0, -⟩ : ∃ rb, ra = some ⟨rb, 0, none⟩ ∧ X + 2 ≤ rb ∧ rb < w7.heap.size := by
          rcases hrow.form with ⟨_, h0, _⟩ | ⟨g, hg1, _, _⟩
          · exact absurd h0 hr0
          · have h1 := hrow.blk g (by rw [Sl.blk, hg1]; rfl)
            exact ⟨g, hg1, h1.1, h1.2⟩
        subst hra
        have HRL := Hi (show ys.length = rn ∧ rn ≤ 64 ∧ X + 2 ≤ rb by omega)
        clear hrow hrl hyl hrb0
        go_wp2_with fail
        refine (Wr.n_any S rn _ OD.out.src (by omega) (by have := HRL.out; omega)).mono ?_
        rintro e w8 ⟨kq, hkq, rfl, g8, s8⟩
        obtain ⟨kk, rfl⟩ : ∃ k : Nat, kq = k := ⟨kq.toNat, by omega⟩
        have OD := Hi (OD.out.step g8 s8)
        have hkr : kk < rn := by omega
        have hkr2 : (kk : Int) < (rn : Int) := by omega
        clear g8 s8 c0 c1 c2 hkq hr0 b0
        obtain ⟨y, hy⟩ : ∃ y, ys[kk]? = some y := ⟨_, List.getElem?_eq_getElem (by have := HRL.out.1; omega)⟩
        obtain ⟨⟨yst, yep, ynx, yhe⟩, ⟨ha, hn, hc⟩⟩ := y
        have HY := Hi hy
        obtain ⟨rb', off', e', hcell⟩ := OD.out.row.cr (kk * 4 + 3) (.slice ha hn hc) (by rw [f4, flat_get ecs_len ys kk 3 (by omega) _ hy]; rfl)
        injection e' with e'
        injection e' with e1 e2 _
        subst e1; subst e2
        rw [Nat.zero_add] at hcell
        have HTL := Hi (OD.out.held _ (List.mem_of_getElem? hy))
        dsimp only at HTL
        have HHN := Hi (show hn ≤ 17 by
          have h1 := OD.out.few.2.2.1 _ (List.mem_of_getElem? hy)
          have h2 := HTL.out.len
          dsimp only at h1 h2; omega)
        clear hy
        go_upto_region 5 with fail
        obtain ⟨⟨c0, c1, c2⟩, -⟩ := OD.out.bx
        dsimp only [Sl.v] at c2
        have gd := Wr.grown_drew w8 none
        refine wp_region_M 19 (fun w' => w'.cell? ⟨X, 2, none⟩ = some (.slice (some ⟨rb, 0, none⟩) rn rc) ∧ w'.cell? ⟨rb, kk * 4 + 3, none⟩ = some (.slice ha hn hc)) (by kernel_rfl) ?_ (fun hHeld => ?_)
        · exact ⟨gd.cell c2 (by simp), gd.cell hcell (by simp)⟩
        try simp only [Act.put, lsA, lsB, lsC]
        have OD := Hi (OD.out.grown gd)
        have HTL := Hi (HTL.out.grown gd)
        have hcell := gd.cell hcell (by simp)
        clear gd c0 c1 c2
        generalize w8.drew = wd at *
        refine takeM (i := 0) (v := ?_) rfl (by kernel_rfl) (by kernel_rfl) (by kernel_rfl) (by kernel_rfl) (by kernel_rfl) (by kernel_rfl) (fun _ _ _ h => h) (Or.inl ⟨by rfl, ?_⟩) (by assumption) ?_
        rotate_left 1
        · intro w hSw; obtain ⟨s0, s1⟩ := hSw; first | (go_simp; done) | (go_simp; with_reducible rfl)
        try simp only [Act.put, lsA, lsB, lsC]
        refine takeM (i := 1) (v := ?_) rfl (by kernel_rfl) (by kernel_rfl) (by kernel_rfl) (by kernel_rfl) (by kernel_rfl) (by kernel_rfl) (fun _ _ _ h => h) (Or.inl ⟨by rfl, ?_⟩) (by assumption) ?_
        rotate_left 1
        · intro w hSw; obtain ⟨s0, s1⟩ := hSw; first | (go_simp; done) | (go_simp; with_reducible rfl)
        try simp only [Act.put, lsA, lsB, lsC]
        refine takeM (i := 2) (v := ?_) rfl (by kernel_rfl) (by kernel_rfl) (by kernel_rfl) (by kernel_rfl) (by kernel_rfl) (by kernel_rfl) (fun _ _ _ h => h) (Or.inl ⟨by rfl, ?_⟩) (by assumption) ?_
        rotate_left 1
        · intro w hSw; obtain ⟨s0, s1⟩ := hSw; first | (go_simp; done) | (go_simp; with_reducible rfl)
        try simp only [Act.put, lsA, lsB, lsC]
        refine takeM (i := 4) (v := ?_) rfl (by kernel_rfl) (by kernel_rfl) (by kernel_rfl) (by kernel_rfl) (by kernel_rfl) (by kernel_rfl) (fun _ _ _ h => h) (Or.inl ⟨by rfl, ?_⟩) (by assumption) ?_
        rotate_left 1
        · intro w hSw; obtain ⟨s0, s1⟩ := hSw; first | (go_simp; done) | (go_simp; with_reducible rfl)
        try simp only [Act.put, lsA, lsB, lsC]
        refine takeM (i := 5) (v := ?_) rfl (by kernel_rfl) (by kernel_rfl) (by kernel_rfl) (by kernel_rfl) (by kernel_rfl) (by kernel_rfl) (fun _ _ _ h => h) (Or.inl ⟨by rfl, ?_⟩) (by assumption) ?_
        rotate_left 1
        · intro w hSw; obtain ⟨s0, s1⟩ := hSw; first | (go_simp; done) | (go_simp; with_reducible rfl)
        try simp only [Act.put, lsA, lsB, lsC]
        refine takeM (i := 6) (v := ?_) rfl (by kernel_rfl) (by kernel_rfl) (by kernel_rfl) (by kernel_rfl) (by kernel_rfl) (by kernel_rfl) (fun _ _ _ h => h) (Or.inl ⟨by rfl, ?_⟩) (by assumption) ?_
        rotate_left 1
        · intro w hSw; obtain ⟨s0, s1⟩ := hSw; first | (go_simp; done) | (go_simp; with_reducible rfl)
        try simp only [Act.put, lsA, lsB, lsC]
        refine takeM (i := 7) (v := ?_) rfl (by kernel_rfl) (by kernel_rfl) (by kernel_rfl) (by kernel_rfl) (by kernel_rfl) (by kernel_rfl) (fun _ _ _ h => h) (Or.inl ⟨by rfl, ?_⟩) (by assumption) ?_
        rotate_left 1
        · intro w hSw; obtain ⟨s0, s1⟩ := hSw; first | (go_simp; done) | (go_simp; with_reducible rfl)
        try simp only [Act.put, lsA, lsB, lsC]
        refine takeM (i := 8) (v := ?_) rfl (by kernel_rfl) (by kernel_rfl) (by kernel_rfl) (by kernel_rfl) (by kernel_rfl) (by kernel_rfl) (fun _ _ _ h => h) (Or.inl ⟨by rfl, ?_⟩) (by assumption) ?_
        rotate_left 1
        · intro w hSw; obtain ⟨s0, s1⟩ := hSw; first | (go_simp; done) | (go_simp; with_reducible rfl)
        try simp only [Act.put, lsA, lsB, lsC]
        refine takeM (i := 9) (v := ?_) rfl (by kernel_rfl) (by kernel_rfl) (by kernel_rfl) (by kernel_rfl) (by kernel_rfl) (by kernel_rfl) (fun _ _ _ h => h) (Or.inl ⟨by rfl, ?_⟩) (by assumption) ?_
        rotate_left 1
        · intro w hSw; obtain ⟨s0, s1⟩ := hSw; first | (go_simp; done) | (go_simp; with_reducible rfl)
        try simp only [Act.put, lsA, lsB, lsC]
        refine takeM (i := 11) (v := ?_) rfl (by kernel_rfl) (by kernel_rfl) (by kernel_rfl) (by kernel_rfl) (by kernel_rfl) (by kernel_rfl) (fun _ _ _ h => h) (Or.inl ⟨by rfl, ?_⟩) (by assumption) ?_
        rotate_left 1
        · intro w hSw; obtain ⟨s0, s1⟩ := hSw; first | (go_simp; done) | (go_simp; with_reducible rfl)
        try simp only [Act.put, lsA, lsB, lsC]
        refine takeM (i := 12) (v := ?_) rfl (by kernel_rfl) (by kernel_rfl) (by kernel_rfl) (by kernel_rfl) (by kernel_rfl) (by kernel_rfl) (fun _ _ _ h => h) (Or.inl ⟨by rfl, ?_⟩) (by assumption) ?_
        rotate_left 1
        · intro w hSw; obtain ⟨s0, s1⟩ := hSw; first | (go_simp; done) | (go_simp; with_reducible rfl)
        try simp only [Act.put, lsA, lsB, lsC]
        obtain ⟨hs, hh1, hh2, hh3, hh4⟩ := HTL.out.list
        dsimp only at hh1 hh4
        obtain ⟨IT, hIT, hzT, hszT, hbyT⟩ := parts_t
        have hHN := HHN.out
        have hWX : S < wd.heap.size ∧ X + 1 < wd.heap.size ∧ rb < wd.heap.size := ⟨Wr.src_lt OD.out.src, OD.out.bz.lt, World.block_lt_of_cell? _ _ hcell⟩
        obtain ⟨⟨c0, c1, c2⟩, -⟩ := OD.out.bx
        dsimp only [Sl.v] at c2
        refine oneM (i := 3) rfl (by kernel_rfl) (fun K hK => ?_)
        go_simp
        obtain ⟨B0, hB0⟩ : ∃ b, b = wd.heap.size := ⟨_, rfl⟩
        obtain ⟨wl, hwl⟩ : ∃ z, z = wd.alloc (Obj.cells #[] 28) := ⟨_, rfl⟩
        have gl : wd.grownBy wl none := by subst hwl; exact grown_alloc _ _ _
        have R0 := Hi (show OR B0 wl 28 6 ⟨some ⟨B0, 0, none⟩, 0, 0⟩ [] from by subst hwl; subst hB0; exact or_lit0 wd)
        rw [← hwl, ← hB0]
        refine hK.out _ _ ?_ (fun hHeld => ?_)
        · exact ⟨gl.cell c2 (by simp), gl.cell hcell (by simp)⟩
        clear hK K
        try simp only [Act.put, lsA, lsB, lsC]
        have HCH := Hi (show CR wl ⟨ha, hn, hc⟩ (f6 hs) from hh2.grown gl)
        have HBZ := Hi (show B0 ≤ wl.heap.size by rw [hB0]; exact gl.size)
        have HBW := Hi (show wd.heap.size = B0 from hB0.symm)
        have GL := Hi gl
        clear hB0 hwl gl
        refine oneM (i := 10) rfl (by kernel_rfl) (fun K hK => ?_)
        refine step_appV rfl (.tmp 25) (.tmp 31) 30 rfl (S := ⟨some ⟨B0, 0, none⟩, 0, 0⟩) (V := ⟨ha, hn, hc⟩) Tryz.underlying30 hIT hzT hszT hbyT (by rfl) (by omega) rfl rfl R0.out HBZ.out (by rw [f6_len, hh4]) HCH.out (f6_one _) (by dsimp only; omega) (by dsimp only; omega) ?_
        intro r1 w2 hrn hr1 hg1 hrb1
        have c1' : Chg [B0] wl w2 := Chg.of hg1 (fun b hb => by injection hb with hb; subst hb; exact List.mem_singleton_self _)
        have g2 : wd.grownBy w2 none := c1'.grown GL.out (fun b hb => by rw [List.mem_singleton] at hb; have := HBW.out; omega)
        have R1 := Hi (show OR B0 w2 28 6 r1 (f6 hs) from hr1)
        have HR1 := Hi (show r1.n = hn by rw [hrn]; dsimp only; omega)
        have G2 := Hi g2
        obtain ⟨r1a, r1n, r1c⟩ := r1
        dsimp only [Sl.v] at HR1 ⊢
        refine hK.out _ _ ?_ (fun hHeld => ?_)
        · exact ⟨g2.cell c2 (by simp), g2.cell hcell (by simp)⟩
        clear hK K c1' hrn hr1 hg1 hrb1 g2 R0 HCH GL HBZ
        try simp only [Act.put, lsA, lsB, lsC]
        refine oneM (i := 13) rfl (by kernel_rfl) (fun K hK => ?_)
        go_simp
        refine (Wr.n_any S 3 _ (OD.out.src.grown G2.out) (by omega) (by omega)).mono ?_
        rintro e w3 ⟨st, hst, rfl, g3, s3⟩
        have G3 := Hi (show wd.grownBy w3 (some S) from grown_trans (Wr.grown_weak _ G2.out) g3)
        have S3 := Hi s3
        have R3 := Hi (R1.out.chg (chgS g3) (fun b hb hm => by rw [List.mem_singleton] at hm; have h1 := (R1.out.blk b hb).1; have h2 := HBW.out; omega))
        refine hK.out _ _ ?_ (fun hHeld => ?_)
        · exact ⟨(OD.out.step G3.out s3).bx.1.2.2, G3.out.cell hcell (fun e => by injection e with e; dsimp only at e; have := HRL.out.2.2; have := OD.out.few.2.2.2.1; omega)⟩
        clear hK K g3 s3 G2 R1
        try simp only [Act.put, lsA, lsB, lsC]
        refine oneM (i := 14) rfl (by kernel_rfl) (fun K hK => ?_)
        go_simp
        refine (Wr.telegram_any S st w3 S3.out hst.1 (by omega)).mono ?_
        rintro e w4 ⟨t, VA, vn, vc, rfl, g4, s4, ho, htg⟩
        have VT := Hi (vi_own ho (by have := htg.2.2; omega))
        have hw34 : wd.heap.size ≤ w3.heap.size := G3.out.size
        have G4 := Hi (show wd.grownBy w4 (some S) from grown_trans G3.out g4)
        have S4 := Hi s4
        have R4 := Hi (R3.out.chg (chgS g4) (fun b hb hm => by rw [List.mem_singleton] at hm; have h1 := (R3.out.blk b hb).1; have h2 := HBW.out; omega))
        have VL := Hi (show VI w4 (S :: X :: (X + 1) :: rb :: (Sl.blk ⟨r1a, r1n, r1c⟩).toList) ⟨VA, vn, vc⟩ t.vs from VT.out.less (fun b hb => List.mem_range.2 (by
          rcases List.mem_cons.1 hb with e | hb
          · omega
          · rcases List.mem_cons.1 hb with e | hb
            · omega
            · rcases List.mem_cons.1 hb with e | hb
              · omega
              · rcases List.mem_cons.1 hb with e | hb
                · omega
                · have := (R3.out.blk b (by simpa using hb)).2; omega)))
        obtain ⟨tst, tep, tsq, ttm, tkd, tvs⟩ := t
        dsimp only [tv] at VL ⊢
        refine hK.out _ _ ?_ (fun hHeld => ?_)
        · exact ⟨(OD.out.step G4.out s4).bx.1.2.2, G4.out.cell hcell (fun e => by injection e with e; dsimp only at e; have := HRL.out.2.2; have := OD.out.few.2.2.2.1; omega)⟩
        clear hK K g4 s4 G3 R3 S3 ho htg VT hst
        try simp only [Act.put, lsA, lsB, lsC]
        refine oneM (i := 15) rfl (by kernel_rfl) (fun K hK => ?_)
        go_simp
        obtain ⟨B1, hB1⟩ : ∃ b, b = w4.heap.size := ⟨_, rfl⟩
        obtain ⟨w5', hw5⟩ : ∃ z, z = w4.alloc (Obj.cells #[.int .i64 tst, .int .i64 tep, .int .i64 tsq, .int .i64 ttm, .int .i64 tkd, .slice VA vn vc] 28) := ⟨_, rfl⟩
        have g5 : w4.grownBy w5' none := by subst hw5; exact grown_alloc _ _ _
        have C5 := Hi (show OR B1 w5' 28 6 ⟨some ⟨B1, 0, none⟩, 1, 1⟩ (tcs (⟨tst, tep, tsq, ttm, tkd, tvs⟩, ⟨VA, vn, vc⟩)) from by subst hw5; subst hB1; exact or_lit w4 (⟨tst, tep, tsq, ttm, tkd, tvs⟩, ⟨VA, vn, vc⟩))
        rw [← hw5, ← hB1]
        have G5 := Hi (show wd.grownBy w5' (some S) from grown_trans G4.out (Wr.grown_weak _ g5))
        have S5 := Hi (S4.out.grown g5)
        have R5 := Hi (R4.out.grown g5)
        have VL5 := Hi (VL.out.grown g5)
        refine hK.out _ _ ?_ (fun hHeld => ?_)
        · exact ⟨(OD.out.step G5.out S5.out).bx.1.2.2, G5.out.cell hcell (fun e => by injection e with e; dsimp only at e; have := HRL.out.2.2; have := OD.out.few.2.2.2.1; omega)⟩
        clear hK K hB1 hw5 g5 G4 S4 R4 VL
        try simp only [Act.put, lsA, lsB, lsC]
        have hwz : B0 ≤ w5'.heap.size := by have h1 := G5.out.size; have h2 := HBW.out; omega
        have hr1n := HR1.out
        refine oneM (i := 16) rfl (by kernel_rfl) (fun K hK => ?_)
        refine step_appV rfl (.tmp 32) (.tmp 37) 30 rfl (S := ⟨r1a, r1n, r1c⟩) (V := ⟨some ⟨B1, 0, none⟩, 1, 1⟩) Tryz.underlying30 hIT hzT hszT hbyT (by rfl) (by omega) rfl rfl R5.out hwz C5.out.len C5.out.cr (tcs_one _) (by dsimp only; omega) (by dsimp only; omega) ?_
        intro r2 w6' hrn hr2 hg2 hrb2
        have G6 := Hi (show wd.grownBy w6' (some S) from Wr.grown_rowS G5.out hg2 (fun b hb => .inr (by have h1 := (R5.out.blk b hb).1; have h2 := HBW.out; omega)))
        have c6 : Chg (Sl.blk ⟨r1a, r1n, r1c⟩).toList w5' w6' := Chg.of hg2 (fun b hb => by simpa using hb)
        have hr1b : ∀ b ∈ (Sl.blk ⟨r1a, r1n, r1c⟩).toList, B0 ≤ b := fun b hb => (R5.out.blk b (by simpa using hb)).1
        have S6 := Hi (show Wr.SrcOK w6' S from by
          rcases hbk : Sl.blk ⟨r1a, r1n, r1c⟩ with _ | q
          · rw [hbk] at c6; exact S5.out.grown c6.grown0
          · have h1 := hr1b q (by rw [hbk]; simp)
            have h2 := HBW.out
            rw [hbk] at c6
            exact src_chg S5.out (x := q) (by simpa using c6) (by omega))
        have VL6 := Hi (show VI w6' (S :: X :: (X + 1) :: rb :: (Sl.blk ⟨r1a, r1n, r1c⟩).toList) ⟨VA, vn, vc⟩ tvs from VL5.out.step (c6.weak (fun b hb => List.mem_cons_of_mem _ (List.mem_cons_of_mem _ (List.mem_cons_of_mem _ (List.mem_cons_of_mem _ hb))))) (fun b hb => .inl hb))
        have R6 := Hi (show OR B0 w6' 28 6 r2 (f6 (hs ++ [(⟨tst, tep, tsq, ttm, tkd, tvs⟩, ⟨VA, vn, vc⟩)])) from by
          rw [show f6 (hs ++ [((⟨tst, tep, tsq, ttm, tkd, tvs⟩ : Tm.Tg), (⟨VA, vn, vc⟩ : Sl))]) = f6 hs ++ tcs (⟨tst, tep, tsq, ttm, tkd, tvs⟩, ⟨VA, vn, vc⟩) by simp [f6]]
          exact hr2)
        have HR2 := Hi (show r2.n ≤ 18 by rw [hrn]; dsimp only; omega)
        obtain ⟨r2a, r2n, r2c⟩ := r2
        dsimp only [Sl.v] at HR2 ⊢
        have hcell6 := G6.out.cell hcell (fun e => by injection e with e; dsimp only at e; have := HRL.out.2.2; have := OD.out.few.2.2.2.1; omega)
        refine hK.out _ _ ?_ (fun hHeld => ?_)
        · exact ⟨(OD.out.step G6.out S6.out).bx.1.2.2, hcell6⟩
        clear hK K hrn hr2 hg2 hrb2 c6 hr1b G5 S5 R5 VL5 C5 hwz hr1n
        try simp only [Act.put, lsA, lsB, lsC]
        refine oneM (i := 17) rfl (by kernel_rfl) (fun K hK => ?_)
        go_simp
        refine hK.out _ _ ?_ (fun hHeld => ?_)
        · exact ⟨(OD.out.step G6.out S6.out).bx.1.2.2, hcell6⟩
        clear hK K
        try simp only [Act.put, lsA, lsB, lsC]
        refine oneM (i := 18) rfl (by kernel_rfl) (fun K hK => ?_)
        go_simp
        refine hK.out _ _ ?_ (fun hHeld => ?_)
        · exact ⟨(OD.out.step G6.out S6.out).bx.1.2.2, hcell6⟩
        clear hK K
        try simp only [Act.put, lsA, lsB, lsC]
        have OD6 := OD.out.step G6.out S6.out
        have fz := OD6.row.open_ (kk * 4 + 3)
        have HQ : OddQ w S X (w6'.setCell ⟨rb, kk * 4 + 3, none⟩ (.slice r2a r2n r2c)) := by
          obtain ⟨f1, f2, f3, f4', f5⟩ := OD6.few
          have hX2 := HRL.out.2.2
          have cs : Chg [rb] w6' (w6'.setCell ⟨rb, kk * 4 + 3, none⟩ (.slice r2a r2n r2c)) := chg_set w6' rb (kk * 4 + 3) _
          have hLs : ∀ b ∈ [S, X, X + 1], b ∈ S :: X :: (X + 1) :: (Sl.blk ⟨some ⟨rb, 0, none⟩, rn, rc⟩).toList := fun b hb => by
            simp only [List.mem_cons, List.not_mem_nil, or_false] at hb
            rcases hb with rfl | rfl | rfl <;> simp
          have hMs : ∀ b ∈ [rb], b ∈ S :: X :: (X + 1) :: (Sl.blk ⟨some ⟨rb, 0, none⟩, rn, rc⟩).toList ∨ w6'.heap.size ≤ b := fun b hb => .inl (by rw [List.mem_singleton] at hb; rw [hb]; simp [Sl.blk])
          have hrow := OR.put1 (f := ecs) ecs_len OD6.row (i := kk) (j := 3) (by omega) (u := .slice r2a r2n r2c) (x := (⟨yst, yep, ynx, yhe⟩, ⟨ha, hn, hc⟩)) (y := (⟨yst, yep, ynx, yhe ++ [⟨tst, tep, tsq, ttm, tkd, tvs⟩]⟩, ⟨r2a, r2n, r2c⟩)) HY.out rfl
          have hr2B : ∀ b, Sl.blk ⟨r2a, r2n, r2c⟩ = some b → B0 ≤ b := fun b hb => (R6.out.blk b hb).1
          have hbw := HBW.out
          have hto : TO B0 (w6'.setCell ⟨rb, kk * 4 + 3, none⟩ (.slice r2a r2n r2c)) [S, X, X + 1] ⟨r2a, r2n, r2c⟩ (yhe ++ [⟨tst, tep, tsq, ttm, tkd, tvs⟩]) := by
            refine ⟨hs ++ [(⟨tst, tep, tsq, ttm, tkd, tvs⟩, ⟨VA, vn, vc⟩)], by rw [List.map_append, hh1]; rfl, R6.out.chg cs (fun b hb hm => by rw [List.mem_singleton] at hm; have := hr2B b hb; omega), fun x hx => ?_⟩
            rcases List.mem_append.1 hx with hx | hx
            · have v1 := (hh3 x hx).step ((chgS G6.out).weak (fun b hb => by rw [List.mem_singleton] at hb; rw [hb]; exact List.mem_cons_self)) (fun b hb => .inl hb)
              have v2 := v1.step (cs.weak (fun b hb => by rw [List.mem_singleton] at hb; rw [hb]; simp [Sl.blk])) (fun b hb => .inl hb)
              exact v2.less hLs
            · rw [List.mem_singleton] at hx
              subst hx
              have v2 := VL6.out.step (cs.weak (fun b hb => by rw [List.mem_singleton] at hb; rw [hb]; simp)) (fun b hb => .inl hb)
              exact v2.less (fun b hb => by
                simp only [List.mem_cons, List.not_mem_nil, or_false] at hb
                rcases hb with rfl | rfl | rfl <;> simp)
          have hhl := HTL.out.len
          dsimp only at hhl
          refine oddQ_mk f5 (OD6.bx.step cs (fun hm => by rw [List.mem_singleton] at hm; omega)) (OD6.bz.step cs (fun hm => by rw [List.mem_singleton] at hm; omega)) f4' OD6.tfit ((OD6.tlr.step cs hMs (fun b hb => .inl hb)).less hLs) hrow (fun y hy => ?_) (by omega) (by rw [List.length_set]; omega) (fun y hy => ?_) (Wr.grown_rowS OD6.g (by1 cs) (fun b hb => .inr (by injection hb with hb; omega))) (src_chg OD6.src cs (by omega))
          · rcases mem_set hy with rfl | ⟨j, -, hj⟩
            · exact TL.to hto (fun b hb hm => by
                have h1 := hr2B b hb
                simp only [List.mem_cons, List.not_mem_nil, or_false] at hm
                omega)
            · exact ((OD6.held y (List.mem_of_getElem? hj)).step cs hMs (fun b hb => .inl hb)).same hLs
          · rcases mem_set hy with rfl | ⟨j, -, hj⟩
            · dsimp only
              rw [List.length_append, List.length_singleton]
              omega
            · have := f3 y (List.mem_of_getElem? hj); omega
        refine lastM rfl (by kernel_rfl) (by kernel_rfl) (fun K hK => ?_)
        go_simp
        have HQH := Hi HQ
        clear HQ fz OD6 hcell6
        refine hK.out _ _ ?_
        clear hK K
        try simp only [Act.put, lsA, lsB, lsC]
        refine wpAnyM_done (by kernel_rfl) ?_ _
        go_wp2
        go_meet
        case rel => exact HQH.out
  case rest =>
    obtain ⟨⟨Ua, Un, Uc⟩, ⟨Fa, Fn, Fc⟩, ⟨win', tl', es'⟩, BX, BZ, KAk, FEW, G, SR⟩ := hcut
    dsimp only [Sl.v] at BX FEW
    have HX := Hi (show w.heap.size = X ∧ S < X from ⟨OD.out.few.2.2.2.2, OD.out.few.2.2.2.1⟩)
    have FIN := Hi (fun (wz : World) (gz : Chg [X + 1] wc wz) => show OddE S w (.returned (iv3 win' ⟨Ua, Un, Uc⟩ ⟨Fa, Fn, Fc⟩)) wz from
      ⟨⟨Ua, Un, Uc⟩, ⟨Fa, Fn, Fc⟩, ⟨win', tl', es'⟩, rfl, KAk.out.step gz (fun b hb => .inl (by rw [List.mem_singleton] at hb; rw [hb]; simp)) (fun b hb => .inl (by rw [List.mem_singleton] at hb; rw [hb]; simp)), FEW.out.1, FEW.out.2.1, FEW.out.2.2, Wr.grown_rowS G.out (by1 gz) (fun b hb => .inr (by injection hb with hb; have := HX.out.1; omega)), src_chg SR.out gz (by have := HX.out.2; omega)⟩)
    obtain ⟨⟨c0, c1, c2⟩, -⟩ := BX.out
    obtain ⟨⟨z0, z1, z2⟩, zF⟩ := BZ.out
    have y0 := zF 0
    have y1 := zF 1
    have y2 := zF 2
    clear zF OD
    go_wp2_with fail
    try simp only [Exit.inBlock, Exit.then]
    refine bodyPost_ret (v := iv3 win' ⟨Ua, Un, Uc⟩ ⟨Fa, Fn, Fc⟩) ?hr rfl ?hE
    case hr =>
      rw [results_cell rfl]
      go_simp
      first | rfl | exact ⟨rfl, rfl⟩
    case hE =>
      exact FIN.out _ ((((Chg.refl _ wc).set ⟨X + 1, 0, none⟩ (.int .i64 win') (by simp)).set ⟨X + 1, 1, none⟩ (.slice Ua Un Uc) (by simp)).set ⟨X + 1, 2, none⟩ (.slice Fa Fn Fc) (by simp))
end Go.Proofs.YticmoaebegahgaaGreatDoor.Iw
