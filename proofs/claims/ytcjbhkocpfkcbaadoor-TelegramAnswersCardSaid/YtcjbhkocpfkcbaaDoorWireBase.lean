/- Bytes in memory: what a slice of bytes reads as, what the call itself made, an append to that, and a string of it. -/
import Derived.Test.YtcjbhkocpfkcbaaDoorRows
import Derived.Test.YtcjbhkocpfkcbaaDoorWireMath
import Derived.Test.YtcjbhkocpfkcbaaDoorWireCrc
import Derived.WalkKit
import Derived.ProofKit
import Derived.OpenShut
import Derived.Outline
import Derived.Lib.Hide
import Derived.Below
import Derived.Maps.AppendAt
import Derived.Deep.AppendLies
import Derived.Laws.OwnMore
import Derived.Laws.AppendOwnNone
import Derived.Laws.IdiomStrings
import Derived.Laws.BytesArg
import Derived.Laws.BitsAllLaws
import Derived.IntWalk
import Derived.Deep.QuietTactic
import Derived.BigQuiet
namespace Go.Proofs.YtcjbhkocpfkcbaaDoor.Wr
open Go.ChangeShapes Go.WideShapes Go.ChangeAt Go.RowKit

theorem ret_int {k : IntKind} {a b : Int} (h : a = b) : Ending.returned (.int k a) = .returned (.int k b) := by rw [h]
theorem ret_bool {a b : Bool} (h : a = b) : Ending.returned (.bool a) = .returned (.bool b) := by rw [h]

/-! ## Worlds -/
theorem grown_refl (w : World) (row : Option Nat) : w.grownBy w row := ⟨rfl, rfl, rfl, Nat.le_refl _, fun _ _ _ => rfl⟩
theorem grown_drewN (w : World) (q : Nat) (row : Option Nat) : w.grownBy (w.drewN q) row := ⟨rfl, rfl, rfl, Nat.le_refl _, fun _ _ _ => rfl⟩
theorem grown_drew (w : World) (row : Option Nat) : w.grownBy w.drew row := ⟨rfl, rfl, rfl, Nat.le_refl _, fun _ _ _ => rfl⟩
theorem grown_trans {a b c : World} {row : Option Nat} (h : a.grownBy b row) (k : b.grownBy c row) : a.grownBy c row :=
  ⟨k.os.trans h.os, k.tape.trans h.tape, k.output.trans h.output, Nat.le_trans h.size k.size, fun i hi hr => (k.block i (Nat.lt_of_lt_of_le hi h.size) hr).trans (h.block i hi hr)⟩
theorem grown_weak {a b : World} (row : Option Nat) (h : a.grownBy b none) : a.grownBy b row := ⟨h.os, h.tape, h.output, h.size, fun i hi _ => h.block i hi (by simp)⟩
theorem grown_below {a b : World} (h : a.grownBy b none) : Below a.heap.size a b := ⟨h.os, h.tape, h.output, h.size, fun i hi => h.block i hi (by simp)⟩
theorem grown_alloc (w : World) (o : Obj) (row : Option Nat) : w.grownBy (w.alloc o) row := World.grownBy_alloc _ _ _
theorem grown_off {w wr w' : World} {B : Nat} (h : w.grownBy wr none) (k : wr.grownBy w' (some B)) (hB : w.heap.size ≤ B) : w.grownBy w' none :=
  ⟨k.os.trans h.os, k.tape.trans h.tape, k.output.trans h.output, Nat.le_trans h.size k.size, fun i hi _ => (k.block i (Nat.lt_of_lt_of_le hi h.size) (by intro e; injection e with e; omega)).trans (h.block i hi (by simp))⟩
/-- The row that was written lies among the new blocks, if there is one. -/
theorem grown_row {w wr w' : World} {row : Option Nat} (h : w.grownBy wr none) (k : wr.grownBy w' row) (hB : ∀ b, row = some b → w.heap.size ≤ b) : w.grownBy w' none := by
  cases row with
  | none => exact grown_trans h k
  | some b => exact grown_off h k (hB b rfl)

theorem addr_add (a : Addr) (b off : Nat) (h : a = ⟨b, off, none⟩) (i : Nat) : a.add i = ⟨b, off + i, none⟩ := by subst h; unfold Addr.add; split <;> simp_all

/-! ## Bytes -/
def bv (x : UInt8) : Value := .int .u8 (x.toNat : Int)
def bvs (l : List UInt8) : List Value := l.map bv
theorem bvs_len (l : List UInt8) : (bvs l).length = l.length := by simp [bvs]
theorem bvs_get (l : List UInt8) (i : Nat) (h : i < l.length) : (bvs l)[i]? = some (bv (l.getD i 0)) := by simp [bvs, List.getD, h]
theorem bvs_append (a b : List UInt8) : bvs (a ++ b) = bvs a ++ bvs b := by simp [bvs]
theorem bvs_one (l : List UInt8) : ∀ u ∈ bvs l, u.oneCell' = true := by
  intro u hu
  simp [bvs] at hu
  obtain ⟨x, _, rfl⟩ := hu
  rfl

/-- In the world w the n places from A on read as the bytes l. -/
def RB (w : World) (A : Option Addr) (n : Nat) (l : List UInt8) : Prop :=
  l.length = n ∧ ∀ i, i < n → ∃ b off, A = some ⟨b, off, none⟩ ∧ w.cell? ⟨b, off + i, none⟩ = some (.int .u8 ((l.getD i 0).toNat : Int))
theorem RB.grown {w w' : World} {A : Option Addr} {n : Nat} {l : List UInt8} (h : RB w A n l) (hg : w.grownBy w' none) : RB w' A n l :=
  ⟨h.1, fun i hi => by obtain ⟨b, off, e, hc⟩ := h.2 i hi; exact ⟨b, off, e, hg.cell hc (by simp)⟩⟩
theorem RB.nil (w : World) (A : Option Addr) : RB w A 0 [] := ⟨rfl, fun i hi => absurd hi (by omega)⟩

theorem RB.news {w : World} {b off n : Nat} {l : List UInt8} (h : RB w (some ⟨b, off, none⟩) n l) : ∀ j u, (bvs l)[j]? = some u → w.cell? ((⟨b, off, none⟩ : Addr).add j) = some u := by
  intro j u hu
  have hj : j < n := by
    rw [← h.1]
    have := (List.getElem?_eq_some_iff.1 hu).1
    rw [bvs_len] at this; exact this
  obtain ⟨b', off', e, hc⟩ := h.2 j hj
  injection e with e
  injection e with e1 e2
  subst e1; subst e2
  rw [addr_add _ b off rfl, hc, ← hu, bvs_get l j (by rw [h.1]; exact hj)]
  rfl

/-- 'string(b)'. -/
theorem conv_str (w : World) (A : Option Addr) (n c : Nat) (l : List UInt8) (h : RB w A n l) :
    (convert 25 9 (.slice A n c)).run Tryd.prog w = .ok (.string ⟨l.toArray⟩) w := by
  obtain ⟨rfl, h2⟩ := h
  cases A with
  | none =>
    have : l = [] := by
      cases l with
      | nil => rfl
      | cons x t => obtain ⟨b, off, e, _⟩ := h2 0 (by simp); cases e
    subst this
    exact run_convert_bytes_nil w 25 5 Tryd.underlying25 Tryd.underlying5 _ c 9 Tryd.underlying9
  | some a =>
    refine run_convert_bytes_back w 25 9 5 a c l Tryd.underlying25 Tryd.underlying5 Tryd.underlying9 (fun j hj => ?_)
    obtain ⟨b, off, e, hc⟩ := h2 j hj
    injection e with e
    subst e
    rw [addr_add _ b off rfl, hc]
    simp [List.getD, hj]

theorem info5 : (Tryd.prog.info? 5).map (fun i => (i.zero, i.size, i.bytes)) = some (some (.int .u8 0), 1, 1) := by kernel_rfl
theorem info_parts5 : ∃ i, Tryd.prog.info? 5 = some i ∧ i.zero = some (.int .u8 0) ∧ i.size = 1 ∧ i.bytes = 1 := by
  obtain ⟨i, hi, hz⟩ := Option.map_eq_some_iff.1 info5
  simp only [Prod.mk.injEq] at hz
  exact ⟨i, hi, hz.1, hz.2.1, hz.2.2⟩

/-! ## What the call itself made -/
/-- Since the world w0 nothing old was changed, and the slice (A, n, c) was made, which holds the bytes l. -/
structure Made (w0 w : World) (A : Option Addr) (n c : Nat) (l : List UInt8) : Prop where
  own : w.ownsRow w0.heap.size 5 1 (.slice A n c) n (bvs l)
  gr : w0.grownBy w none
section
variable {w0 w w' : World} {A : Option Addr} {n c : Nat} {l : List UInt8}
theorem Made.len (h : Made w0 w A n c l) : l.length = n := by have := h.own.1; rw [bvs_len] at this; omega
theorem Made.shape (h : Made w0 w A n c l) : n ≤ c ∧ c ≤ 9223372036854775807 ∧ (0 < n → ∃ g, A = some ⟨g, 0, none⟩ ∧ w0.heap.size ≤ g ∧ g < w.heap.size) := by
  rcases h.own.2 with ⟨e, rfl⟩ | ⟨g, cap, cur, e, hb, hg, hc, hm, _⟩
  · injection e with e1 e2 e3
    subst e3; exact ⟨by omega, by omega, fun h => absurd h (by omega)⟩
  · injection e with e1 e2 e3
    subst e3
    exact ⟨hc, by unfold maxLen at hm; exact hm, fun _ => ⟨g, e1, hb, (Array.getElem?_eq_some_iff.1 hg).1⟩⟩
theorem Made.at0 (h : Made w0 w A n c l) (i : Nat) (hi : i < n) : ∃ g, A = some ⟨g, 0, none⟩ ∧ w0.heap.size ≤ g ∧ g < w.heap.size ∧ w.cell? ⟨g, i, none⟩ = some (.int .u8 ((l.getD i 0).toNat : Int)) ∧ w.frozen? ⟨g, i, none⟩ = false := by
  obtain ⟨_, _, h3⟩ := h.shape
  obtain ⟨g, rfl, hb, hl⟩ := h3 (by omega)
  exact ⟨g, rfl, hb, hl, by rw [h.own.cellAt i (by omega), bvs_get l i (by rw [h.len]; exact hi)]; rfl, h.own.frozenAt i⟩
theorem Made.rb (h : Made w0 w A n c l) : RB w A n l :=
  ⟨h.len, fun i hi => by obtain ⟨g, e, _, _, hc, _⟩ := h.at0 i hi; exact ⟨g, 0, e, by rw [Nat.zero_add]; exact hc⟩⟩
theorem Made.row (h : Made w0 w A n c l) : ∀ k, (Value.slice A n c).ownBlock = some k → w0.heap.size ≤ k ∧ k < w.heap.size := h.own.lt
theorem Made.keep (h : Made w0 w A n c l) (hg : w.grownBy w' none) : Made w0 w' A n c l :=
  ⟨h.own.kept hg (by cases (Value.slice A n c).ownBlock <;> simp), grown_trans h.gr hg⟩
theorem Made.alloc (h : Made w0 w A n c l) (o : Obj) : Made w0 (w.alloc o) A n c l := h.keep (grown_alloc _ _ _)
end
theorem made_nil (w0 w : World) (h : w0.grownBy w none) : Made w0 w none 0 0 [] := ⟨World.ownsRow_nil _ _ _ _, h⟩
theorem made_lit (w0 w : World) (cs : Array Value) (n : Nat) (l : List UInt8) (hl : cs.toList = bvs l) (hn : l.length = n) (hg : w0.grownBy w none) (hs : n ≤ 1000) : Made w0 (w.alloc (.cells cs 5)) (some ⟨w.heap.size, 0, none⟩) n n l := by
  refine ⟨?_, grown_trans hg (grown_alloc _ _ _)⟩
  have hsz : cs.size = n * 1 := by rw [← Array.length_toList, hl, bvs_len]; omega
  have := World.ownsRow_lit (base := w0.heap.size) (e := 5) (size := 1) w cs n hg.size (by unfold maxLen; omega) hsz
  rw [hl] at this
  exact this
theorem made_start (w w1 : World) (A : Option Addr) (c : Nat) (h : w1.ownsRow w.heap.size 5 1 (.slice A 0 c) 0 []) (hg : w.grownBy w1 none) : Made w w1 A 0 c [] := ⟨h, hg⟩
/-- The cells of a literal. -/
theorem rb_lit (w : World) (cs : Array Value) (n : Nat) (l : List UInt8) (hl : cs.toList = bvs l) (hn : l.length = n) (hs : n ≤ 1000) : RB (w.alloc (.cells cs 5)) (some ⟨w.heap.size, 0, none⟩) n l :=
  (made_lit w w cs n l hl hn (grown_refl _ _) hs).rb

section
variable {P : Program}
/-- 'append(s, x...)', s made by the call itself, x whatever bytes. -/
theorem app_run {w0 w : World} {A B : Option Addr} {n c m d : Nat} {l news : List UInt8} (hm : Made w0 w A n c l) (hr : RB w B m news) (hb : n + m ≤ 140737488355328) (ty : TypeId) :
    ∃ A' c' w', (Builtin.append_ #[25, 25] ty #[.slice A n c, .slice B m d]).run Tryd.prog w = .ok (.slice A' (n + m) c') w' ∧ Made w0 w' A' (n + m) c' (l ++ news) ∧ w.grownBy w' (Value.slice A n c).ownBlock := by
  obtain ⟨i, hi, hz, hs, hby⟩ := info_parts5
  cases B with
  | none =>
    have h0 : m = 0 := by
      rcases Nat.eq_zero_or_pos m with h0 | h0
      · exact h0
      · obtain ⟨b, off, e, _⟩ := hr.2 0 h0; cases e
    subst h0
    obtain rfl : news = [] := List.eq_nil_of_length_eq_zero hr.1
    refine ⟨A, c, w, ?_, by simpa using hm, grown_refl _ _⟩
    rcases hm.own.2 with ⟨e, hn⟩ | ⟨g, cap, cur, e, _, _, hnc, _⟩
    · injection e with e1 e2 e3
      subst e1; subst e3; subst hn
      simp [Builtin.append_, run_underlying Tryd.underlying25, sizeOf, typeInfo, hi, Builtin.lenOf, Builtin.firstCells]
    · injection e with e1 e2 e3
      subst e1; subst e3
      simp [Builtin.append_, run_underlying Tryd.underlying25, sizeOf, typeInfo, hi, Builtin.lenOf, Builtin.firstCells, hnc, storeCells]
  | some p =>
    have hnews : ∀ j u, (bvs news)[j]? = some u → w.cell? (p.add j) = some u := by
      rcases Nat.eq_zero_or_pos m with h0 | h0
      · intro j u hu
        obtain rfl : news = [] := List.eq_nil_of_length_eq_zero (by rw [hr.1, h0])
        simp [bvs] at hu
      · obtain ⟨b, off, e, _⟩ := hr.2 0 h0
        injection e with e
        subst e
        exact hr.news
    obtain ⟨v', w', hrun, hown, hg, _, _⟩ := run_append_own_at (P := Tryd.prog) w w0.heap.size 25 ty 5 i (.int .u8 0) 1 1 Tryd.underlying25 hi hz hs hby rfl (by omega) (.slice A n c) n (bvs l) hm.own p m d (bvs news)
      (by rw [bvs_len, hr.1]; omega) hnews (bvs_one _) (by unfold maxLen; omega) (by omega) hm.gr.size
    have hown' : w'.ownsRow w0.heap.size 5 1 v' (n + m) (bvs (l ++ news)) := by rw [bvs_append]; exact hown
    have hg' := grown_row hm.gr hg (fun k hk => (hm.row k hk).1)
    rcases hown'.2 with ⟨e, hn⟩ | ⟨g, cap, cur, e, _⟩
    · subst e
      exact ⟨none, 0, w', by rw [hn]; exact hrun, ⟨by rw [hn] at hown' ⊢; exact hown', hg'⟩, hg⟩
    · subst e
      exact ⟨_, cap, w', hrun, ⟨hown', hg'⟩, hg⟩

/-- The same at the list of a plain region's operations. -/
theorem wpList_app {w0 w : World} {ops : Array Oper} {rest : List Oper} {o : Oper} {a : Act} {Q : Exit → Act → World → Prop} (hgd : o.guard = none) (s x : Operand)
    (ho : o.op = .call { callee := .builtin .append, args := #[s, x], argTypes := #[25, 25] }) {A B : Option Addr} {n c m d : Nat} {l news : List UInt8} (hs : a.eval s = .slice A n c) (hx : a.eval x = .slice B m d)
    (hm : Made w0 w A n c l) (hr : RB w B m news) (hb : n + m ≤ 140737488355328) (N : Nat) (hN : n + m = N)
    (h : ∀ A' c' w', Made w0 w' A' N c' (l ++ news) → w.grownBy w' (Value.slice A n c).ownBlock → wpList Tryd.prog ops Q rest (a.put o.dst (.slice A' N c')) w') : wpList Tryd.prog ops Q (o :: rest) a w := by
  subst hN
  refine wpList_plain hgd fun K hK => ?_
  obtain ⟨A', c', w', hrun, h2, h3⟩ := app_run (d := d) hm hr hb o.type
  unfold Oper.wp execOp
  simp only [ho, resolve, invoke, builtin, Sem.run_bind, Sem.run_pure, Result.andThen_ok, List.map_toArray, List.map_cons, List.map_nil, hs, hx, hrun]
  exact hK _ _ (h A' c' w' h2 h3)
/-- 'make([]byte, 0, n)'. -/
theorem wpList_mk {w : World} {ops : Array Oper} {rest : List Oper} {o : Oper} {a : Act} {Q : Exit → Act → World → Prop} (hgd : o.guard = none) (lo co : Operand) (hop : o.op = Op.makeSlice 25 lo co)
    (C : Int) (n : Nat) (hl : a.eval lo = .int .i64 0) (hc : a.eval co = .int .i64 C) (hC : C = (n : Int)) (hn : n ≤ 281474976710656)
    (h : ∀ w', Made w w' (some ⟨w.heap.size, 0, none⟩) 0 n [] → wpList Tryd.prog ops Q rest (a.put o.dst (.slice (some ⟨w.heap.size, 0, none⟩) 0 n)) w') : wpList Tryd.prog ops Q (o :: rest) a w := by
  obtain ⟨i, hi, hz, hs, hby⟩ := info_parts5
  refine wpList_make_own w hgd lo co 25 hop w.heap.size 5 i (.int .u8 0) 1 Tryd.underlying25 hi hz hs .i64 .i64 C n hl hc hC (by rw [hby]; omega) (by unfold maxLen; omega) (Nat.le_refl _) ?_
  intro w' ho hg
  exact h w' ⟨ho, hg⟩
end
/-- What a function that makes bytes leaves. -/
def OwnEnd (l : List UInt8) (w : World) (e : Ending) (w' : World) : Prop := ∃ A n c, e = .returned (.slice A n c) ∧ Made w w' A n c l
end Go.Proofs.YtcjbhkocpfkcbaaDoor.Wr
