/- A row of rows of pieces that a call makes. -/
import Derived.Test.YtafkagaakjfkoaaDe
namespace Go.Proofs.Ytafkagaakjfkoaa
open Go.ChangeShapes Go.WideShapes Go.ChangeAt Go.RowKit

theorem info_r : (Try.prog.info? 23).map (fun i => (i.zero, i.size, i.bytes)) = some (some (.slice none 0 0), 1, 24) := by kernel_rfl
theorem parts_r : ∃ i, Try.prog.info? 23 = some i ∧ i.zero = some (.slice none 0 0) ∧ i.size = 1 ∧ i.bytes = 24 := by
  obtain ⟨i, hi, hz⟩ := Option.map_eq_some_iff.1 info_r
  simp only [Prod.mk.injEq] at hz
  exact ⟨i, hi, hz.1, hz.2.1, hz.2.2⟩
def upd {α : Type} (f : Nat → α) (i : Nat) (x : α) (j : Nat) : α := if j = i then x else f j
theorem upd_same {α : Type} (f : Nat → α) (i : Nat) (x : α) : upd f i x i = x := if_pos rfl
theorem upd_other {α : Type} (f : Nat → α) {i j : Nat} (x : α) (h : j ≠ i) : upd f i x j = f j := if_neg h
/-- The slices as cells. -/
def vl (vs : Nat → Sl) (n : Nat) : List Value := (List.range n).map fun i => (vs i).v
theorem vl_len (vs : Nat → Sl) (n : Nat) : (vl vs n).length = n := by simp [vl]
theorem vl_get (vs : Nat → Sl) {n i : Nat} (hi : i < n) : (vl vs n)[i]? = some (vs i).v := by simp [vl, hi]
theorem vl_set (vs : Nat → Sl) (n i : Nat) (r : Sl) : (vl vs n).set i r.v = vl (upd vs i r) n := by
  apply List.ext_getElem?
  intro j
  rw [List.getElem?_set]
  by_cases hj : j < n
  · by_cases e : i = j
    · subst e
      rw [if_pos rfl, if_pos (by rw [vl_len]; exact hj), vl_get _ hj, upd_same]
    · rw [if_neg e, vl_get _ hj, vl_get _ hj, upd_other _ _ (fun h => e h.symm)]
  · have h1 : (vl (upd vs i r) n)[j]? = none := List.getElem?_eq_none (by rw [vl_len]; omega)
    have h2 : (vl vs n)[j]? = none := List.getElem?_eq_none (by rw [vl_len]; omega)
    rw [h1, h2]
    by_cases e : i = j
    · rw [if_pos e, if_neg (by rw [vl_len]; omega)]
    · rw [if_neg e]
structure RO (base : Nat) (w : World) (O n : Nat) (vs : Nat → Sl) (fs : Nat → List Fm.Pc) : Prop where
  row : OR base w 23 1 ⟨some ⟨O, 0, none⟩, n, n⟩ (vl vs n)
  each : ∀ i, i < n → OP base w (vs i) (fs i)
  off : ∀ i, i < n → (vs i).blk ≠ some O
  apart : ∀ i j, i < n → j < n → i ≠ j → ∀ b, (vs i).blk = some b → (vs j).blk ≠ some b
section
variable {base : Nat} {w w' : World} {O n : Nat} {vs : Nat → Sl} {fs : Nat → List Fm.Pc}
theorem RO.chg (h : RO base w O n vs fs) {L : List Nat} (g : Chg L w w') (hO : O ∉ L) (hL : ∀ i, i < n → ∀ b, (vs i).blk = some b → b ∉ L) : RO base w' O n vs fs :=
  ⟨h.row.chg g (fun b hb => by injection hb with hb; subst hb; exact hO), fun i hi => (h.each i hi).chg g (hL i hi), h.off, h.apart⟩
theorem RO.grown (h : RO base w O n vs fs) (g : w.grownBy w' none) : RO base w' O n vs fs := h.chg (L := []) (Chg.of0 g) (by simp) (fun _ _ _ _ => by simp)
theorem RO.cell (h : RO base w O n vs fs) {i : Nat} (hi : i < n) : w.cell? ⟨O, i, none⟩ = some (vs i).v := by
  obtain ⟨b, off, e, hc⟩ := h.row.cr i _ (vl_get vs hi)
  cases e
  rw [Nat.zero_add] at hc
  exact hc
theorem RO.frozen (h : RO base w O n vs fs) (i : Nat) : w.frozen? ⟨O, i, none⟩ = false := h.row.own.frozenAt i
theorem RO.lt (h : RO base w O n vs fs) : base ≤ O ∧ O < w.heap.size := h.row.blk O rfl
theorem RO.rr (h : RO base w O n vs fs) : RR w ⟨some ⟨O, 0, none⟩, n, n⟩ ((List.range n).map fs) :=
  ⟨h.row.fit, by simp, fun i hi => ⟨O, 0, vs i, rfl, by rw [Nat.zero_add]; exact h.cell hi, by
    have e : ((List.range n).map fs).getD i [] = fs i := by
      dsimp only at hi
      simp [List.getD_eq_getElem?_getD, hi]
    rw [e]
    exact (h.each i hi).fr⟩⟩
/-- One of them is written anew. -/
theorem RO.put (h : RO base w O n vs fs) {wb : World} {i : Nat} (hi : i < n) {r : Sl} {l : List Fm.Pc} {row : Option Nat} (hr : OP base wb r l) (g : w.grownBy wb row) (hrow : row = none ∨ row = (vs i).blk) (hb : ∀ b, r.blk = some b → (vs i).blk = some b ∨ w.heap.size ≤ b) :
    RO base (wb.setCell ⟨O, i, none⟩ r.v) O n (upd vs i r) (upd fs i l) ∧ w.grownBy wb row := by
  have hO := h.lt
  have hrO : r.blk ≠ some O := fun e => by
    rcases hb O e with e2 | e2
    · exact h.off i hi e2
    · omega
  have c : Chg row.toList w wb := Chg.of g (fun b hb => by simp [hb])
  have hin : ∀ b, b ∈ row.toList → (vs i).blk = some b := fun b hm => by
    rcases hrow with e | e
    · rw [e] at hm; simp at hm
    · rw [e] at hm; simpa using hm
  have row1 : OR base wb 23 1 ⟨some ⟨O, 0, none⟩, n, n⟩ (vl vs n) := h.row.chg c (fun b hb hm => by
    injection hb with hb; subst hb
    exact h.off i hi (hin _ hm))
  have ST := row1.stored i r.v
  rw [vl_set] at ST
  have cs : Chg [O] wb (wb.setCell ⟨O, i, none⟩ r.v) := (Chg.refl [O] wb).set ⟨O, i, none⟩ r.v (by simp)
  refine ⟨⟨ST.1, fun j hj => ?_, fun j hj => ?_, fun j k hj hk hjk b hb1 => ?_⟩, g⟩
  · by_cases e : j = i
    · subst e
      rw [upd_same, upd_same]
      exact hr.chg cs (fun b hb hm => by rw [List.mem_singleton] at hm; subst hm; exact hrO hb)
    · rw [upd_other _ _ e, upd_other _ _ e]
      exact ((h.each j hj).chg c (fun b hb hm => h.apart j i hj hi e b hb (hin b hm))).chg cs (fun b hb hm => by rw [List.mem_singleton] at hm; subst hm; exact h.off j hj hb)
  · by_cases e : j = i
    · subst e; rw [upd_same]; exact hrO
    · rw [upd_other _ _ e]; exact h.off j hj
  · by_cases e : j = i
    · subst e
      rw [upd_same] at hb1
      rw [upd_other _ _ (fun e => hjk e.symm)]
      rcases hb b hb1 with e2 | e2
      · exact h.apart j k hj hk hjk b e2
      · intro e3
        have := ((h.each k hk).blk b e3).2
        omega
    · rw [upd_other _ _ e] at hb1
      by_cases e2 : k = i
      · subst e2
        rw [upd_same]
        intro e3
        rcases hb b e3 with e4 | e4
        · exact h.apart j k hj hk hjk b hb1 e4
        · have := ((h.each j hj).blk b hb1).2
          omega
      · rw [upd_other _ _ e2]
        exact h.apart j k hj hk hjk b hb1
end
theorem made_rows (n : Nat) : (madeCells (Value.slice none 0 0).cells (n * 1)).toList = vl (fun _ => ⟨none, 0, 0⟩) n := by
  rw [Nat.mul_one, show (Value.slice none 0 0).cells = #[Value.slice none 0 0] from rfl, toList_madeCells_one]
  apply List.ext_getElem?
  intro j
  by_cases hj : j < n
  · rw [vl_get _ hj]; simp [hj]; rfl
  · rw [List.getElem?_eq_none (by simp; omega), List.getElem?_eq_none (by rw [vl_len]; omega)]
theorem RO.of {base : Nat} {w : World} {O n : Nat} (h : OR base w 23 1 ⟨some ⟨O, 0, none⟩, n, n⟩ (vl (fun _ => ⟨none, 0, 0⟩) n)) : RO base w O n (fun _ => ⟨none, 0, 0⟩) (fun _ => []) :=
  ⟨h, fun _ _ => or_nil _ _ _ _, fun _ _ e => (by cases e), fun _ _ _ _ _ _ e => (by cases e)⟩
section
variable {w : World} {ops : Array Oper} {rest : List Oper} {o : Oper} {a : Act} {Q : Exit → Act → World → Prop}
/-- 'make([][]api.Piece, n)'. -/
theorem wpList_mkr (hgd : o.guard = none) (lo co : Operand) (hop : o.op = Op.makeSlice 39 lo co) (n : Nat) (hl : a.eval lo = .int .i64 n) (hc : a.eval co = .int .i64 n) (hn : n ≤ 1000)
    (h : ∀ w', RO w.heap.size w' w.heap.size n (fun _ => ⟨none, 0, 0⟩) (fun _ => []) → w.grownBy w' none → wpList Try.prog ops Q rest (a.put o.dst (.slice (some ⟨w.heap.size, 0, none⟩) n n)) w') : wpList Try.prog ops Q (o :: rest) a w := by
  obtain ⟨i, hi, hz, hs, hby⟩ := parts_r
  refine wpList_make_full w hgd lo co 39 hop w.heap.size 23 i (.slice none 0 0) 1 Try.underlying39 hi hz hs .i64 .i64 n n n hl hc rfl rfl (by rw [hby]; omega) (by unfold maxLen; omega) (Nat.le_refl _) ?_
  intro w' ho hg
  rw [made_rows] at ho
  exact h w' (RO.of ⟨ho⟩) hg
end
end Go.Proofs.Ytafkagaakjfkoaa
