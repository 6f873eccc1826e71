/- Telegrams that are made from a reader of numbers: what is kept on the way. -/
import Derived.Test.YtcjbhkocpfkcbaaDoorTr
import Derived.Test.YtcjbhkocpfkcbaaDoorWireKeep
namespace Go.Proofs.YtcjbhkocpfkcbaaDoor.Wr
open Go.ChangeShapes Go.WideShapes Go.ChangeAt Go.RowKit

theorem src_lt {w : World} {S : Nat} (h : SrcOK w S) : S < w.heap.size := by
  obtain ⟨a, b, off, cap, k, l, h0, _⟩ := h
  exact World.block_lt_of_cell? w ⟨S, 0, none⟩ h0

theorem pick_lit (S n X : Nat) (xs : List Int) (C : Array Value) (w : World) (hX : w.heap.size = X) (hs : SrcOK w S) (hn : xs.length = n) (h0 : 0 < n) (hl : n ≤ 1000000)
    (hC : ∀ i, i < n → C[i]? = some (.int .i64 (xs.getD i 0))) :
    Calls Tryd.prog 21 #[.pointer (some ⟨S, 0, none⟩), .slice (some ⟨X, 0, none⟩) n n] (w.alloc (.cells C 3))
      fun e w' => ∃ r : Int, r ∈ xs ∧ e = .returned (.int .i64 r) ∧ w.grownBy w' (some S) ∧ SrcOK w' S := by
  subst hX
  have hS := src_lt hs
  refine (pick_any S w.heap.size 0 n n xs _ (hs.grown (World.grownBy_alloc _ _ _)) (by omega) hn h0 hl ?_).mono ?_
  · intro i hi
    rw [Nat.zero_add, World.cell?_alloc_new]
    exact hC i hi
  · rintro e w1 ⟨r, ⟨j, hj, rfl⟩, rfl, hg, hs1⟩
    refine ⟨_, ?_, rfl, grown_trans (World.grownBy_alloc _ _ _) hg, hs1⟩
    have hj2 : j < xs.length := by omega
    rw [List.getD_eq_getElem?_getD, List.getElem?_eq_getElem hj2]
    exact List.getElem_mem hj2

/-- A row of numbers whose block is not below base. -/
def OI (base : Nat) (w : World) (A : Option Addr) (n c : Nat) (l : List Int) : Prop := w.ownsRow base 3 1 (.slice A n c) n (ivs l)
section
variable {base : Nat} {w w' : World} {A : Option Addr} {n c : Nat} {l : List Int}
theorem OI.len (h : OI base w A n c l) : l.length = n := by have := h.1; rw [ivs_len] at this; omega
theorem OI.row (h : OI base w A n c l) : ∀ k, (Value.slice A n c).ownBlock = some k → base ≤ k ∧ k < w.heap.size := World.ownsRow.lt h
theorem OI.keep (h : OI base w A n c l) {row : Option Nat} (hg : w.grownBy w' row) (hr : ∀ k, row = some k → k < base) : OI base w' A n c l :=
  World.ownsRow.kept h hg (by
    cases hv : (Value.slice A n c).ownBlock with
    | none => exact .inl rfl
    | some k => exact .inr (fun e => by have := h.row k hv; have := hr k e.symm; omega))
theorem OI.shape (h : OI base w A n c l) : n ≤ c ∧ c ≤ 9223372036854775807 ∧ (0 < n → ∃ g, A = some ⟨g, 0, none⟩ ∧ base ≤ g ∧ g < w.heap.size) := by
  rcases h.2 with ⟨e, rfl⟩ | ⟨g, cap, cur, e, hb, hg, hc, hm, _⟩
  · injection e with e1 e2 e3
    subst e3; exact ⟨by omega, by omega, fun h => absurd h (by omega)⟩
  · injection e with e1 e2 e3
    subst e3
    exact ⟨hc, by unfold maxLen at hm; exact hm, fun _ => ⟨g, e1, hb, (Array.getElem?_eq_some_iff.1 hg).1⟩⟩
theorem OI.ir (h : OI base w A n c l) : IR w A n l := by
  refine ⟨h.len, fun i hi => ?_⟩
  obtain ⟨g, rfl, _, _⟩ := h.shape.2.2 (by omega)
  exact ⟨g, 0, rfl, by rw [Nat.zero_add, World.ownsRow.cellAt h i (by omega), ivs_get l i (by rw [h.len]; exact hi)]; rfl⟩
end
theorem oi_nil (base : Nat) (w : World) : OI base w none 0 0 [] := World.ownsRow_nil _ _ _ _

/-- 'append(s, x...)' of ints, s a row that is not below base. -/
theorem appO_run {base : Nat} {w : World} {A B : Option Addr} {n c m d : Nat} {l news : List Int} (hm : OI base w A n c l) (hb0 : base ≤ w.heap.size) (hr : IR w B m news) (h0 : 0 < m) (hb : n + m ≤ 8796093022208) (ty : TypeId) :
    ∃ A' c' w', (Builtin.append_ #[22, 22] ty #[.slice A n c, .slice B m d]).run Tryd.prog w = .ok (.slice A' (n + m) c') w' ∧ OI base w' A' (n + m) c' (l ++ news) ∧ w.grownBy w' (Value.slice A n c).ownBlock := by
  obtain ⟨i, hi, hz, hs, hby⟩ := info_parts3
  obtain ⟨b, off, rfl, _⟩ := hr.2 0 h0
  obtain ⟨v', w', hrun, hown, hg, _, _⟩ := run_append_own_at (P := Tryd.prog) w base 22 ty 3 i (.int .i64 0) 1 8 Tryd.underlying22 hi hz hs hby rfl (by omega) (.slice A n c) n (ivs l) hm ⟨b, off, none⟩ m d (ivs news)
    (by rw [ivs_len, hr.1]; omega) hr.news (ivs_one _) (by unfold maxLen; omega) (by omega) hb0
  have hown' : w'.ownsRow base 3 1 v' (n + m) (ivs (l ++ news)) := by rw [ivs_append]; exact hown
  rcases hown'.2 with ⟨e, hn⟩ | ⟨g, cap, cur, e, _⟩
  · omega
  · subst e
    exact ⟨_, cap, w', hrun, hown', hg⟩
/-- The same at a step of a region that draws. -/
theorem step_appO {ops : Array Oper} {o : Oper} {a : Act} {w : World} {K : Act → World → Prop} {Q : Exit → Act → World → Prop} {E : Prop} (hgd : o.guard = none) (s x : Operand)
    (ho : o.op = .call { callee := .builtin .append, args := #[s, x], argTypes := #[22, 22] }) {base : Nat} {A B : Option Addr} {n c m d : Nat} {l news : List Int} (hs : a.eval s = .slice A n c) (hx : a.eval x = .slice B m d)
    (hm : OI base w A n c l) (hb0 : base ≤ w.heap.size) (hr : IR w B m news) (h0 : 0 < m) (hb : n + m ≤ 8796093022208) (N : Nat) (hN : n + m = N)
    (h : ∀ A' c' w', OI base w' A' N c' (l ++ news) → w.grownBy w' (Value.slice A n c).ownBlock → K (a.put o.dst (.slice A' N c')) w') :
    if Region.wanted o (yielded ops a.tmps) = true then Oper.wp Tryd.prog o a w K Q else E := by
  subst hN
  have hw : Region.wanted o (yielded ops a.tmps) = true := by simp [Region.wanted, hgd]
  rw [if_pos hw]
  obtain ⟨A', c', w', hrun, h2, h3⟩ := appO_run (d := d) hm hb0 hr h0 hb o.type
  unfold Oper.wp execOp
  simp only [ho, resolve, invoke, builtin, Sem.run_bind, Sem.run_pure, Result.andThen_ok, List.map_toArray, List.map_cons, List.map_nil, hs, hx, hrun]
  exact h A' c' w' h2 h3

theorem grown_rowS {w wr w' : World} {S : Nat} {row : Option Nat} (h : w.grownBy wr (some S)) (k : wr.grownBy w' row) (hr : ∀ b, row = some b → b = S ∨ w.heap.size ≤ b) : w.grownBy w' (some S) :=
  ⟨k.os.trans h.os, k.tape.trans h.tape, k.output.trans h.output, Nat.le_trans h.size k.size, fun i hi hne => (k.block i (Nat.lt_of_lt_of_le hi h.size) (by
    intro e
    rcases hr i e.symm with e1 | e1
    · exact hne (by rw [e1])
    · omega)).trans (h.block i hi hne)⟩

/-- A telegram is being made in block T: its values are a row of the call's own. -/
structure TS (w : World) (S X T : Nat) (t : Tm.Tg) (A : Option Addr) (n c : Nat) (wr : World) : Prop where
  gr : w.grownBy wr (some S)
  src : SrcOK wr S
  res : Six wr X Tm.zero nilV
  tel : Six wr T t (.slice A n c)
  own : OI (T + 1) wr A n c t.vs
  sz : T + 1 ≤ wr.heap.size
section
variable {w wr w' : World} {S X T : Nat} {t : Tm.Tg} {A : Option Addr} {n c : Nat}
theorem TS.step (h : TS w S X T t A n c wr) (hX : S < X) (hT : S < T) (g : wr.grownBy w' (some S)) (hs : SrcOK w' S) : TS w S X T t A n c w' :=
  ⟨grown_trans h.gr g, hs, h.res.grown g (by intro e; injection e; omega), h.tel.grown g (by intro e; injection e; omega), h.own.keep g (by intro k e; injection e; omega), Nat.le_trans h.sz g.size⟩
theorem TS.step0 (h : TS w S X T t A n c wr) (hX : S < X) (hT : S < T) (g : wr.grownBy w' none) : TS w S X T t A n c w' := h.step hX hT (grown_weak _ g) (h.src.grown g)
/-- The row has been appended to, and is stored. -/
theorem TS.push {w6 : World} {A' : Option Addr} {n' c' : Nat} {row : Option Nat} (vs' : List Int) (h : TS w S X T t A n c wr) (hw : w.heap.size ≤ X) (hX : S < X) (hT : X < T) (ho : OI (T + 1) w6 A' n' c' vs') (g : wr.grownBy w6 row) (hr : ∀ k, row = some k → T + 1 ≤ k) :
    TS w S X T ⟨t.st, t.ep, t.sq, t.tm, t.kd, vs'⟩ A' n' c' (w6.setCell ⟨T, 5, none⟩ (.slice A' n' c')) := by
  have gT : w6.grownBy (w6.setCell ⟨T, 5, none⟩ (.slice A' n' c')) (some T) := grown_set w6 ⟨T, 5, none⟩ _
  have g6 : w.grownBy w6 (some S) := grown_rowS h.gr g (fun b e => .inr (by have := hr b e; omega))
  have s6 : SrcOK w6 S := h.src.grownRow g (fun k e => by have := hr k e; omega)
  have r6 : Six w6 X Tm.zero nilV := h.res.grown g (fun e => by have := hr X e.symm; omega)
  have t6 : Six w6 T t (.slice A n c) := h.tel.grown g (fun e => by have := hr T e.symm; omega)
  refine ⟨grown_rowS g6 gT (fun b e => .inr (by injection e; omega)), s6.grownRow gT (fun k e => by injection e; omega), r6.grown gT (by intro e; injection e; omega), ?_, ho.keep gT (by intro k e; injection e; omega), by have := gT.size; have := g.size; have := h.sz; omega⟩
  obtain ⟨⟨h0, h1, h2, h3, h4, h5⟩, k0, k1, k2, k3, k4, k5⟩ := t6
  have d (j : Nat) (e : 5 ≠ j) := off_ne T e
  refine ⟨⟨set_miss _ (d 0 (by omega)) h0, set_miss _ (d 1 (by omega)) h1, set_miss _ (d 2 (by omega)) h2, set_miss _ (d 3 (by omega)) h3, set_miss _ (d 4 (by omega)) h4, set_hit _ h5⟩, ?_⟩
  simp only [World.frozen?_setCell]; exact ⟨k0, k1, k2, k3, k4, k5⟩
end
/-- A function that makes a telegram out of the reader in block S. -/
def TgEnd (S : Nat) (P : Tm.Tg → Prop) (w : World) (e : Ending) (w' : World) : Prop :=
  ∃ t A n c, e = .returned (tv t (.slice A n c)) ∧ w.grownBy w' (some S) ∧ SrcOK w' S ∧ OI (w.heap.size + 1) w' A n c t.vs ∧ P t
end Go.Proofs.YtcjbhkocpfkcbaaDoor.Wr
