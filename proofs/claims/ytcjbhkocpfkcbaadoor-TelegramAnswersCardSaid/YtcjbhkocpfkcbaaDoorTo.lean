/- Rows of ints that the call itself made. -/
import Derived.Test.YtcjbhkocpfkcbaaDoorTg
import Derived.Deep.OwnRows
namespace Go.Proofs.YtcjbhkocpfkcbaaDoor.Wr
open Go.ChangeShapes Go.WideShapes Go.ChangeAt Go.RowKit

def iv (x : Int) : Value := .int .i64 x
def ivs (l : List Int) : List Value := l.map iv
theorem ivs_len (l : List Int) : (ivs l).length = l.length := by simp [ivs]
theorem ivs_get (l : List Int) (i : Nat) (h : i < l.length) : (ivs l)[i]? = some (iv (l.getD i 0)) := by simp [ivs, List.getD, h]
theorem ivs_append (a b : List Int) : ivs (a ++ b) = ivs a ++ ivs b := by simp [ivs]
theorem ivs_one (l : List Int) : ∀ u ∈ ivs l, u.oneCell' = true := by
  intro u hu
  simp [ivs] at hu
  obtain ⟨x, _, rfl⟩ := hu
  rfl
theorem IR.news {w : World} {b off n : Nat} {l : List Int} (h : IR w (some ⟨b, off, none⟩) n l) : ∀ j u, (ivs l)[j]? = some u → w.cell? ((⟨b, off, none⟩ : Addr).add j) = some u := by
  intro j u hu
  have hj : j < n := by
    rw [← h.1]
    have := (List.getElem?_eq_some_iff.1 hu).1
    rw [ivs_len] at this; exact this
  obtain ⟨b', off', e, hc⟩ := h.2 j hj
  injection e with e
  injection e with e1 e2
  subst e1; subst e2
  rw [addr_add _ b off rfl, hc, ← hu, ivs_get l j (by rw [h.1]; exact hj)]
  rfl
theorem info3p : (Tryd.prog.info? 3).map (fun i => (i.zero, i.size, i.bytes)) = some (some (.int .i64 0), 1, 8) := by kernel_rfl
theorem info_parts3 : ∃ i, Tryd.prog.info? 3 = some i ∧ i.zero = some (.int .i64 0) ∧ i.size = 1 ∧ i.bytes = 8 := by
  obtain ⟨i, hi, hz⟩ := Option.map_eq_some_iff.1 info3p
  simp only [Prod.mk.injEq] at hz
  exact ⟨i, hi, hz.1, hz.2.1, hz.2.2⟩

/-- Since the world w0 nothing old was changed, and the slice (A, n, c) was made, which holds the numbers l. -/
structure MadeI (w0 w : World) (A : Option Addr) (n c : Nat) (l : List Int) : Prop where
  own : w.ownsRow w0.heap.size 3 1 (.slice A n c) n (ivs l)
  gr : w0.grownBy w none
section
variable {w0 w w' : World} {A : Option Addr} {n c : Nat} {l : List Int}
theorem MadeI.len (h : MadeI w0 w A n c l) : l.length = n := by have := h.own.1; rw [ivs_len] at this; omega
theorem MadeI.shape (h : MadeI w0 w A n c l) : n ≤ c ∧ c ≤ 9223372036854775807 ∧ (0 < n → ∃ g, A = some ⟨g, 0, none⟩ ∧ w0.heap.size ≤ g ∧ g < w.heap.size) := by
  rcases h.own.2 with ⟨e, rfl⟩ | ⟨g, cap, cur, e, hb, hg, hc, hm, _⟩
  · injection e with e1 e2 e3
    subst e3; exact ⟨by omega, by omega, fun h => absurd h (by omega)⟩
  · injection e with e1 e2 e3
    subst e3
    exact ⟨hc, by unfold maxLen at hm; exact hm, fun _ => ⟨g, e1, hb, (Array.getElem?_eq_some_iff.1 hg).1⟩⟩
theorem MadeI.at0 (h : MadeI w0 w A n c l) (i : Nat) (hi : i < n) : ∃ g, A = some ⟨g, 0, none⟩ ∧ w0.heap.size ≤ g ∧ g < w.heap.size ∧ w.cell? ⟨g, i, none⟩ = some (.int .i64 (l.getD i 0)) ∧ w.frozen? ⟨g, i, none⟩ = false := by
  obtain ⟨_, _, h3⟩ := h.shape
  obtain ⟨g, rfl, hb, hl⟩ := h3 (by omega)
  exact ⟨g, rfl, hb, hl, by rw [h.own.cellAt i (by omega), ivs_get l i (by rw [h.len]; exact hi)]; rfl, h.own.frozenAt i⟩
theorem MadeI.ir (h : MadeI w0 w A n c l) : IR w A n l :=
  ⟨h.len, fun i hi => by obtain ⟨g, e, _, _, hc, _⟩ := h.at0 i hi; exact ⟨g, 0, e, by rw [Nat.zero_add]; exact hc⟩⟩
theorem MadeI.row (h : MadeI w0 w A n c l) : ∀ k, (Value.slice A n c).ownBlock = some k → w0.heap.size ≤ k ∧ k < w.heap.size := h.own.lt
theorem MadeI.keep (h : MadeI w0 w A n c l) (hg : w.grownBy w' none) : MadeI w0 w' A n c l :=
  ⟨h.own.kept hg (by cases (Value.slice A n c).ownBlock <;> simp), grown_trans h.gr hg⟩
theorem MadeI.alloc (h : MadeI w0 w A n c l) (o : Obj) : MadeI w0 (w.alloc o) A n c l := h.keep (grown_alloc _ _ _)
theorem MadeI.base {w1 : World} (h : MadeI w1 w A n c l) (g : w0.grownBy w1 none) : MadeI w0 w A n c l := ⟨h.own.mono g.size, grown_trans g h.gr⟩
end
theorem madeI_nil (w0 w : World) (h : w0.grownBy w none) : MadeI w0 w none 0 0 [] := ⟨World.ownsRow_nil _ _ _ _, h⟩
theorem madeI_lit (w0 w : World) (cs : Array Value) (n : Nat) (l : List Int) (hl : cs.toList = ivs l) (hn : l.length = n) (hg : w0.grownBy w none) (hs : n ≤ 1000) : MadeI w0 (w.alloc (.cells cs 3)) (some ⟨w.heap.size, 0, none⟩) n n l := by
  refine ⟨?_, grown_trans hg (grown_alloc _ _ _)⟩
  have hsz : cs.size = n * 1 := by rw [← Array.length_toList, hl, ivs_len]; omega
  have := World.ownsRow_lit (base := w0.heap.size) (e := 3) (size := 1) w cs n hg.size (by unfold maxLen; omega) hsz
  rw [hl] at this
  exact this

section
variable {P : Program}
/-- 'append(s, x...)' of ints, s made by the call itself. -/
theorem appI_run {w0 w : World} {A B : Option Addr} {n c m d : Nat} {l news : List Int} (hm : MadeI w0 w A n c l) (hr : IR w B m news) (hb : n + m ≤ 8796093022208) (ty : TypeId) :
    ∃ A' c' w', (Builtin.append_ #[22, 22] ty #[.slice A n c, .slice B m d]).run Tryd.prog w = .ok (.slice A' (n + m) c') w' ∧ MadeI w0 w' A' (n + m) c' (l ++ news) ∧ w.grownBy w' (Value.slice A n c).ownBlock := by
  obtain ⟨i, hi, hz, hs, hby⟩ := info_parts3
  cases B with
  | none =>
    have h0 : m = 0 := by
      rcases Nat.eq_zero_or_pos m with h0 | h0
      · exact h0
      · obtain ⟨b, off, e, _⟩ := hr.2 0 h0; cases e
    subst h0
    obtain rfl : news = [] := List.eq_nil_of_length_eq_zero hr.1
    refine ⟨A, c, w, ?_, by simpa using hm, grown_refl _ _⟩
    rcases hm.own.2 with ⟨e, hn⟩ | ⟨g, cap, cur, e, _, _, hnc, _⟩
    · injection e with e1 e2 e3
      subst e1; subst e3; subst hn
      simp [Builtin.append_, run_underlying Tryd.underlying22, sizeOf, typeInfo, hi, Builtin.lenOf, Builtin.firstCells]
    · injection e with e1 e2 e3
      subst e1; subst e3
      simp [Builtin.append_, run_underlying Tryd.underlying22, sizeOf, typeInfo, hi, Builtin.lenOf, Builtin.firstCells, hnc, storeCells]
  | some p =>
    have hnews : ∀ j u, (ivs news)[j]? = some u → w.cell? (p.add j) = some u := by
      rcases Nat.eq_zero_or_pos m with h0 | h0
      · intro j u hu
        obtain rfl : news = [] := List.eq_nil_of_length_eq_zero (by rw [hr.1, h0])
        simp [ivs] at hu
      · obtain ⟨b, off, e, _⟩ := hr.2 0 h0
        injection e with e
        subst e
        exact hr.news
    obtain ⟨v', w', hrun, hown, hg, _, _⟩ := run_append_own_at (P := Tryd.prog) w w0.heap.size 22 ty 3 i (.int .i64 0) 1 8 Tryd.underlying22 hi hz hs hby rfl (by omega) (.slice A n c) n (ivs l) hm.own p m d (ivs news)
      (by rw [ivs_len, hr.1]; omega) hnews (ivs_one _) (by unfold maxLen; omega) (by omega) hm.gr.size
    have hown' : w'.ownsRow w0.heap.size 3 1 v' (n + m) (ivs (l ++ news)) := by rw [ivs_append]; exact hown
    have hg' := grown_row hm.gr hg (fun k hk => (hm.row k hk).1)
    rcases hown'.2 with ⟨e, hn⟩ | ⟨g, cap, cur, e, _⟩
    · subst e
      exact ⟨none, 0, w', by rw [hn]; exact hrun, ⟨by rw [hn] at hown' ⊢; exact hown', hg'⟩, hg⟩
    · subst e
      exact ⟨_, cap, w', hrun, ⟨hown', hg'⟩, hg⟩

/-- The same at the list of a plain region's operations. -/
theorem wpList_appI {w0 w : World} {ops : Array Oper} {rest : List Oper} {o : Oper} {a : Act} {Q : Exit → Act → World → Prop} (hgd : o.guard = none) (s x : Operand)
    (ho : o.op = .call { callee := .builtin .append, args := #[s, x], argTypes := #[22, 22] }) {A B : Option Addr} {n c m d : Nat} {l news : List Int} (hs : a.eval s = .slice A n c) (hx : a.eval x = .slice B m d)
    (hm : MadeI w0 w A n c l) (hr : IR w B m news) (hb : n + m ≤ 8796093022208) (N : Nat) (hN : n + m = N)
    (h : ∀ A' c' w', MadeI w0 w' A' N c' (l ++ news) → w.grownBy w' (Value.slice A n c).ownBlock → wpList Tryd.prog ops Q rest (a.put o.dst (.slice A' N c')) w') : wpList Tryd.prog ops Q (o :: rest) a w := by
  subst hN
  refine wpList_plain hgd fun K hK => ?_
  obtain ⟨A', c', w', hrun, h2, h3⟩ := appI_run (d := d) hm hr hb o.type
  unfold Oper.wp execOp
  simp only [ho, resolve, invoke, builtin, Sem.run_bind, Sem.run_pure, Result.andThen_ok, List.map_toArray, List.map_cons, List.map_nil, hs, hx, hrun]
  exact hK _ _ (h A' c' w' h2 h3)
end
end Go.Proofs.YtcjbhkocpfkcbaaDoor.Wr
