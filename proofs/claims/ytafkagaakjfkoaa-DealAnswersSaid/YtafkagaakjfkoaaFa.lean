/- Rows of structs that a call owns: storing, copying, clearing; worlds that differ in some rows alone; rows of pieces. -/
import Derived.WalkKit
import Derived.ProofKit
import Derived.Below
import Derived.Laws.OwnMore
import Derived.Laws.IdiomCopy
import Derived.Maps.AppendAt
import Derived.Deep.DeepAppendRoom
import Derived.Lib.AppendZerosOnto
import Derived.Lib.Hide
import Derived.Deep.RegionHeld3
import Derived.Deep.AppendLies
import Derived.Laws.AppendOwnNone
import Derived.Lib.SliceRun
import Derived.Test.YtafkagaakjfkoaaFk
import Derived.Test.YtafkagaakjfkoaaFm
namespace Go.Proofs.Ytafkagaakjfkoaa
open Go.ChangeShapes Go.WideShapes Go.ChangeAt Go.RowKit

/-! ## Worlds that differ in some rows -/
/-- What lay in w lies in w' as it was, but for the blocks L. -/
structure Chg (L : List Nat) (w w' : World) : Prop where
  os : w'.os = w.os
  tape : w'.tape = w.tape
  output : w'.output = w.output
  size : w.heap.size ≤ w'.heap.size
  block : ∀ i, i < w.heap.size → i ∉ L → w'.heap[i]? = w.heap[i]?
theorem Chg.refl (L : List Nat) (w : World) : Chg L w w := ⟨rfl, rfl, rfl, Nat.le_refl _, fun _ _ _ => rfl⟩
theorem Chg.weak {L M : List Nat} {w w' : World} (h : Chg L w w') (hs : ∀ b ∈ L, b ∈ M) : Chg M w w' := ⟨h.os, h.tape, h.output, h.size, fun i hi hn => h.block i hi (fun hl => hn (hs i hl))⟩
theorem Chg.then {L M : List Nat} {w w1 w2 : World} (h : Chg L w w1) (k : Chg M w1 w2) (hM : ∀ b ∈ M, b ∈ L ∨ w.heap.size ≤ b) : Chg L w w2 :=
  ⟨k.os.trans h.os, k.tape.trans h.tape, k.output.trans h.output, Nat.le_trans h.size k.size, fun i hi hn =>
    (k.block i (Nat.lt_of_lt_of_le hi h.size) (fun hm => by rcases hM i hm with e | e; exact hn e; omega)).trans (h.block i hi hn)⟩
theorem Chg.trans {L : List Nat} {w w1 w2 : World} (h : Chg L w w1) (k : Chg L w1 w2) : Chg L w w2 := h.then k (fun _ hb => .inl hb)
theorem Chg.of {L : List Nat} {w w' : World} {row : Option Nat} (h : w.grownBy w' row) (hr : ∀ b, row = some b → b ∈ L) : Chg L w w' :=
  ⟨h.os, h.tape, h.output, h.size, fun i hi hn => h.block i hi (fun e => hn (hr i e.symm))⟩
theorem Chg.of0 {L : List Nat} {w w' : World} (h : w.grownBy w' none) : Chg L w w' := Chg.of h (by simp)
theorem Chg.cell {L : List Nat} {w w' : World} (h : Chg L w w') {a : Addr} {v : Value} (k : w.cell? a = some v) (hn : a.block ∉ L) : w'.cell? a = some v :=
  (World.cell?_of_block (h.block a.block (World.block_lt_of_cell? w a k) hn)).trans k
theorem Chg.frozen {L : List Nat} {w w' : World} (h : Chg L w w') {a : Addr} (k : a.block < w.heap.size) (hn : a.block ∉ L) : w'.frozen? a = w.frozen? a :=
  World.frozen?_of_block (h.block a.block k hn)
/-- The changed rows lie among what was made since w0. -/
theorem Chg.grown {L : List Nat} {w0 w w' : World} (h : Chg L w w') (g : w0.grownBy w none) (hL : ∀ b ∈ L, w0.heap.size ≤ b) : w0.grownBy w' none :=
  ⟨h.os.trans g.os, h.tape.trans g.tape, h.output.trans g.output, Nat.le_trans g.size h.size, fun i hi _ =>
    (h.block i (Nat.lt_of_lt_of_le hi g.size) (fun hl => by have := hL i hl; omega)).trans (g.block i hi (by simp))⟩
theorem Chg.row {L : List Nat} {w w' : World} (h : Chg L w w') {base : Nat} {e : TypeId} {size : Nat} {v : Value} {n : Nat} {xs : List Value} (k : w.ownsRow base e size v n xs) (hn : ∀ b, v.ownBlock = some b → b ∉ L) : w'.ownsRow base e size v n xs := by
  refine ⟨k.1, ?_⟩
  rcases k.2 with hz | ⟨g, cap, cur, rfl, hb, hg, rest⟩
  · exact .inl hz
  · exact .inr ⟨g, cap, cur, rfl, hb, (h.block g (Array.getElem?_eq_some_iff.1 hg).1 (hn g rfl)).trans hg, rest⟩
theorem Chg.set {L : List Nat} {w w1 : World} (h : Chg L w w1) (a : Addr) (v : Value) (ha : a.block ∈ L) : Chg L w (w1.setCell a v) :=
  ⟨h.os, h.tape, h.output, by simp only [World.size_setCell]; exact h.size, fun i hi hn => (heap_setCell_other w1 a i v (fun e => hn (e ▸ ha))).trans (h.block i hi hn)⟩
theorem Chg.alloc {L : List Nat} {w w1 : World} (h : Chg L w w1) (o : Obj) : Chg L w (w1.alloc o) := h.trans (Chg.of0 (World.grownBy_alloc _ _ _))
/-- A change of new blocks alone. -/
theorem Chg.new {L : List Nat} {w w' : World} (h : Chg L w w') (hL : ∀ b ∈ L, w.heap.size ≤ b) : w.grownBy w' none := h.grown ⟨rfl, rfl, rfl, Nat.le_refl _, fun _ _ _ => rfl⟩ hL

/-! ## Rows -/
section
variable {w : World} {base : Nat} {e : TypeId} {size : Nat}
theorem own_set {g cap n : Nat} (vs : List Value) : ∀ {w : World} {us : List Value} (o : Nat), w.ownsRow base e size (.slice (some ⟨g, 0, none⟩) n cap) n us → o + vs.length ≤ n * size →
    (w.setCells g o vs).ownsRow base e size (.slice (some ⟨g, 0, none⟩) n cap) n (us.take o ++ (vs ++ us.drop (o + vs.length))) ∧ w.grownBy (w.setCells g o vs) (some g) := by
  induction vs with
  | nil =>
    intro w us o h _
    exact ⟨by simpa [World.setCells] using h, ⟨rfl, rfl, rfl, Nat.le_refl _, fun _ _ _ => rfl⟩⟩
  | cons v r ih =>
    intro w us o h ho
    simp only [List.length_cons] at ho
    have hl := h.1
    obtain ⟨h1, g1⟩ := h.stored o v
    obtain ⟨h2, g2⟩ := ih (o + 1) h1 (by omega)
    refine ⟨?_, ⟨g2.os.trans g1.os, g2.tape.trans g1.tape, g2.output.trans g1.output, Nat.le_trans g1.size g2.size, fun i hi hr => (g2.block i (Nat.lt_of_lt_of_le hi g1.size) hr).trans (g1.block i hi hr)⟩⟩
    have e1 : (us.set o v).take (o + 1) ++ (r ++ (us.set o v).drop (o + 1 + r.length)) = us.take o ++ (v :: r ++ us.drop (o + (v :: r).length)) := by
      rw [List.drop_set_of_lt (by omega), List.take_set, List.take_add_one, List.getElem?_eq_getElem (by omega)]
      simp only [Option.toList_some, List.length_cons]
      rw [List.set_append_right _ _ (by rw [List.length_take]; omega), List.length_take, Nat.min_eq_left (by omega), Nat.sub_self]
      simp [show o + 1 + r.length = o + (r.length + 1) by omega]
    rw [e1] at h2
    exact h2
theorem own_some {a : Option Addr} {c n : Nat} {us : List Value} (h : w.ownsRow base e size (.slice a n c) n us) (hn : 0 < n) : ∃ g, a = some ⟨g, 0, none⟩ ∧ base ≤ g ∧ g < w.heap.size := by
  rcases h.2 with ⟨e1, rfl⟩ | ⟨g, cap, cur, e1, hb, hg, _⟩
  · omega
  · injection e1 with e1 e2 e3
    exact ⟨g, e1, hb, (Array.getElem?_eq_some_iff.1 hg).1⟩
theorem own_caps {a : Option Addr} {c n : Nat} {us : List Value} (h : w.ownsRow base e size (.slice a n c) n us) : n ≤ c ∧ c ≤ 9223372036854775807 ∧ us.length = n * size := by
  refine ⟨?_, ?_, h.1⟩
  all_goals
    rcases h.2 with ⟨e1, rfl⟩ | ⟨g, cap, cur, e1, _, _, h1, h2, _⟩
    · injection e1 with e1 e2 e3; omega
    · injection e1 with e1 e2 e3; unfold maxLen at h2; omega
/-- A part from the front. -/
theorem own_front {g cap n m : Nat} {us : List Value} (h : w.ownsRow base e size (.slice (some ⟨g, 0, none⟩) n cap) n us) (hm : m ≤ n) : w.ownsRow base e size (.slice (some ⟨g, 0, none⟩) m cap) m (us.take (m * size)) := by
  have hl := h.1
  have hmn : m * size ≤ n * size := Nat.mul_le_mul_right _ hm
  refine ⟨by rw [List.length_take]; omega, ?_⟩
  rcases h.2 with ⟨e1, _⟩ | ⟨g', cap', cur, e1, hb, hg, h1, h2, h3, h4⟩
  · cases e1
  · injection e1 with e1 e2 e3
    injection e1 with e1
    injection e1 with e1 _ _
    subst e1; subst e3
    exact .inr ⟨g, cap, cur, rfl, hb, hg, by omega, h2, h3, by rw [← h4, List.take_take, Nat.min_eq_left hmn]⟩
/-- Into the spare capacity. -/
theorem own_wider {g cap n m : Nat} {us : List Value} (h : w.ownsRow base e size (.slice (some ⟨g, 0, none⟩) n cap) n us) (hm : n ≤ m) (hc : m ≤ cap) : ∃ xs, xs.length = (m - n) * size ∧ w.ownsRow base e size (.slice (some ⟨g, 0, none⟩) m cap) m (us ++ xs) := by
  rcases h.2 with ⟨e1, _⟩ | ⟨g', cap', cur, e1, hb, hg, h1, h2, h3, h4⟩
  · cases e1
  · injection e1 with e1 e2 e3
    injection e1 with e1
    injection e1 with e1 _ _
    subst e1; subst e3
    have hmc : m * size ≤ cap * size := Nat.mul_le_mul_right _ hc
    have hnm : n * size ≤ m * size := Nat.mul_le_mul_right _ hm
    have hd : (m - n) * size = m * size - n * size := Nat.sub_mul _ _ _
    have e5 : cur.toList.take (m * size) = us ++ (cur.toList.drop (n * size)).take ((m - n) * size) := by
      rw [← h4, hd, ← List.take_add]
      congr 1; omega
    refine ⟨(cur.toList.drop (n * size)).take ((m - n) * size), ?_, ?_, .inr ⟨g, cap, cur, rfl, hb, hg, hc, h2, h3, e5⟩⟩
    · rw [List.length_take, List.length_drop, Array.length_toList, h3]; omega
    · rw [← e5, List.length_take, Array.length_toList, h3]; omega
theorem own_cell {g cap n : Nat} {us : List Value} (h : w.ownsRow base e size (.slice (some ⟨g, 0, none⟩) n cap) n us) (j : Nat) (u : Value) (hu : us[j]? = some u) : w.cell? ⟨g, j, none⟩ = some u := by
  have hj : j < us.length := by rcases Nat.lt_or_ge j us.length with h' | h'; exact h'; rw [List.getElem?_eq_none h'] at hu; cases hu
  rw [h.cellAt j (by rw [← h.1]; exact hj), hu]
theorem own_news {g cap n o : Nat} {us : List Value} (h : w.ownsRow base e size (.slice (some ⟨g, 0, none⟩) n cap) n us) : ∀ j u, (us.drop o)[j]? = some u → w.cell? ((⟨g, o, none⟩ : Addr).add j) = some u := by
  intro j u hu
  rw [List.getElem?_drop] at hu
  have := own_cell h (o + j) u hu
  have e1 : (⟨g, o, none⟩ : Addr).add j = ⟨g, o + j, none⟩ := by unfold Addr.add; split <;> simp_all
  rw [e1]; exact this
theorem own_base {b' n : Nat} {v : Value} {us : List Value} (h : w.ownsRow base e size v n us) (hb : b' ≤ base) : w.ownsRow b' e size v n us := by
  refine ⟨h.1, ?_⟩
  rcases h.2 with hz | ⟨g, cap, cur, e1, h1, rest⟩
  · exact .inl hz
  · exact .inr ⟨g, cap, cur, e1, Nat.le_trans hb h1, rest⟩
end

/-! ## Builtins at rows of structs -/
section
variable {P : Program}
/-- 'copy(d, s)', elements of k cells. -/
theorem copyK_run (w : World) (dT sT ty elem : TypeId) (k : Nat) (b o dLen dCap : Nat) (a : Addr) (sLen sCap : Nat) (cs : List Value)
    (hu : P.underlying dT = some (.slice elem)) (hs : (P.info? elem).map (·.size) = some k) (hn : cs.length = Nat.min sLen dLen * k)
    (hsrc : ∀ j v, cs[j]? = some v → w.cell? (a.add j) = some v) (hc : ∀ j, j < cs.length → (w.cell? ⟨b, o + j, none⟩).isSome = true) (hf : ∀ j, j < cs.length → w.frozen? ⟨b, o + j, none⟩ = false) (h1 : ∀ v ∈ cs, v.oneCell' = true) :
    (Builtin.copy_ #[dT, sT] ty #[.slice (some ⟨b, o, none⟩) dLen dCap, .slice (some a) sLen sCap]).run P w = .ok (goInt (Nat.min sLen dLen)) (w.setCells b o cs) := by
  have hl := run_loadCells_list (P := P) w a cs hsrc
  have hst := run_storeCells_cells (P := P) b o cs 0 w (by simpa using hc) (by simpa using hf) h1
  cases hq : P.info? elem with
  | none => simp [hq] at hs
  | some i =>
    have hi : i.size = k := by simpa [hq] using hs
    simp [Builtin.copy_, run_underlying hu, Builtin.lenOf, Builtin.firstCells, sizeOf, typeInfo, hq, hi, ← hn, hl, hst]
/-- .. within a row that the call owns. -/
theorem copyK_own {w : World} {base : Nat} {e : TypeId} {k g cap n : Nat} {us : List Value} (h : w.ownsRow base e k (.slice (some ⟨g, 0, none⟩) n cap) n us) (dT sT ty : TypeId) (o dLen dCap : Nat) (a : Addr) (sLen sCap : Nat) (cs : List Value)
    (hu : P.underlying dT = some (.slice e)) (hs : (P.info? e).map (·.size) = some k) (hn : cs.length = Nat.min sLen dLen * k) (ho : o + cs.length ≤ n * k)
    (hsrc : ∀ j v, cs[j]? = some v → w.cell? (a.add j) = some v) (h1 : ∀ v ∈ cs, v.oneCell' = true) :
    ∃ w', (Builtin.copy_ #[dT, sT] ty #[.slice (some ⟨g, o, none⟩) dLen dCap, .slice (some a) sLen sCap]).run P w = .ok (goInt (Nat.min sLen dLen)) w' ∧
      w'.ownsRow base e k (.slice (some ⟨g, 0, none⟩) n cap) n (us.take o ++ (cs ++ us.drop (o + cs.length))) ∧ w.grownBy w' (some g) := by
  obtain ⟨h2, h3⟩ := own_set cs o h ho
  refine ⟨_, copyK_run w dT sT ty e k g o dLen dCap a sLen sCap cs hu hs hn hsrc (fun j hj => ?_) (fun j _ => h.frozenAt _) h1, h2, h3⟩
  rw [h.cellAt _ (by omega), List.getElem?_eq_getElem (by rw [h.1]; omega)]; rfl
theorem wpList_copyK {w : World} {ops : Array Oper} {rest : List Oper} {o : Oper} {a : Act} {Q : Exit → Act → World → Prop} (hgd : o.guard = none) (d s : Operand) (dT sT : TypeId)
    (ho : o.op = .call { callee := .builtin .copy, args := #[d, s], argTypes := #[dT, sT] }) {base : Nat} {e : TypeId} {k g cap n : Nat} {us : List Value} (h : w.ownsRow base e k (.slice (some ⟨g, 0, none⟩) n cap) n us)
    (of dLen dCap : Nat) (ad : Addr) (sLen sCap : Nat) (cs : List Value) (hd : a.eval d = .slice (some ⟨g, of, none⟩) dLen dCap) (hs : a.eval s = .slice (some ad) sLen sCap)
    (hu : P.underlying dT = some (.slice e)) (hz : (P.info? e).map (·.size) = some k) (hn : cs.length = Nat.min sLen dLen * k) (hof : of + cs.length ≤ n * k)
    (hsrc : ∀ j v, cs[j]? = some v → w.cell? (ad.add j) = some v) (h1 : ∀ v ∈ cs, v.oneCell' = true)
    (hk : ∀ w', w'.ownsRow base e k (.slice (some ⟨g, 0, none⟩) n cap) n (us.take of ++ (cs ++ us.drop (of + cs.length))) → w.grownBy w' (some g) → wpList P ops Q rest (a.put o.dst (goInt (Nat.min sLen dLen))) w') : wpList P ops Q (o :: rest) a w := by
  refine wpList_plain hgd fun K hK => ?_
  obtain ⟨w', hr, h2, h3⟩ := copyK_own h dT sT o.type of dLen dCap ad sLen sCap cs hu hz hn hof hsrc h1
  unfold Oper.wp execOp
  simp only [ho, resolve, invoke, builtin, Sem.run_bind, Sem.run_pure, Result.andThen_ok, List.map_toArray, List.map_cons, List.map_nil, hd, hs, hr]
  exact hK _ _ (hk w' h2 h3)
/-- 'clear(s)' of the last elements of a row. -/
theorem clearK_own {w : World} {base : Nat} {e : TypeId} {k g cap n : Nat} {us : List Value} (h : w.ownsRow base e k (.slice (some ⟨g, 0, none⟩) n cap) n us) (t ty : TypeId) (z : Value) (ht : P.underlying t = some (.slice e)) (hv : ∀ w, (zeroValue e).run P w = .ok z w)
    (hz : z.cells.size = k) (h1 : ∀ v ∈ z.cells.toList, v.oneCell' = true) (m c : Nat) (hm : m ≤ n) (hm0 : 0 < n - m) :
    ∃ w', (Builtin.clear_ #[t] ty #[.slice (some ⟨g, m * k, none⟩) (n - m) c]).run P w = .ok (.tuple #[]) w' ∧ w'.ownsRow base e k (.slice (some ⟨g, 0, none⟩) m cap) m (us.take (m * k)) ∧ w.grownBy w' (some g) := by
  have hzl : (Builtin.zeroCells z.cells (n - m)).toList.length = (n - m) * k := by simp [Builtin.zeroCells, hz]
  have hle : m * k + (n - m) * k ≤ n * k := by rw [← Nat.add_mul]; exact Nat.mul_le_mul_right _ (by omega)
  have hmk : m * k ≤ n * k := Nat.mul_le_mul_right _ hm
  obtain ⟨h2, h3⟩ := own_set (Builtin.zeroCells z.cells (n - m)).toList (m * k) h (by omega)
  have hst := run_storeCells_cells (P := P) g (m * k) (Builtin.zeroCells z.cells (n - m)).toList 0 w
    (fun j hj => by rw [Nat.add_zero, h.cellAt _ (by omega), List.getElem?_eq_getElem (by rw [h.1]; omega)]; rfl) (fun j _ => h.frozenAt _)
    (by
      intro v hv'
      simp only [Builtin.zeroCells, Array.toList_map, List.mem_map, Array.mem_toList_iff, Array.mem_range] at hv'
      obtain ⟨i, hi, rfl⟩ := hv'
      have hp : i % z.cells.size < z.cells.size := Nat.mod_lt _ (by rcases Nat.eq_zero_or_pos z.cells.size with e0 | e0; rw [e0] at hi; omega; exact e0)
      exact h1 _ (by simp [hp]))
  refine ⟨_, ?_, ?_, h3⟩
  · simp only [Nat.add_zero] at hst
    obtain ⟨x, hx⟩ : ∃ x, n - m = x + 1 := ⟨n - m - 1, by omega⟩
    rw [hx] at hst ⊢
    simp [Builtin.clear_, run_underlying ht, hv, hst]
  · have h4 := own_front h2 hm
    rw [List.take_append_of_le_length (by rw [List.length_take, h.1]; omega), List.take_take, Nat.min_self] at h4
    exact h4
end
theorem grown_row0 {w wr w' : World} {row : Option Nat} (h : w.grownBy wr none) (k : wr.grownBy w' row) (hB : ∀ b, row = some b → w.heap.size ≤ b) : w.grownBy w' none := by
  cases row with
  | none => exact grown_trans h k
  | some b => exact ⟨k.os.trans h.os, k.tape.trans h.tape, k.output.trans h.output, Nat.le_trans h.size k.size, fun i hi hr => (k.block i (Nat.lt_of_lt_of_le hi h.size) (by intro e; injection e with e; have := hB b rfl; omega)).trans (h.block i hi hr)⟩
/-! ## Lists of cells -/
section
variable {α : Type} {f : α → List Value} {k : Nat}
theorem flat_len (hf : ∀ x, (f x).length = k) (xs : List α) : (xs.flatMap f).length = xs.length * k := by
  induction xs with
  | nil => simp
  | cons x r ih => rw [List.flatMap_cons, List.length_append, hf, ih, List.length_cons, Nat.add_mul]; omega
theorem flat_take (hf : ∀ x, (f x).length = k) (xs : List α) (m : Nat) : (xs.flatMap f).take (m * k) = (xs.take m).flatMap f := by
  induction xs generalizing m with
  | nil => simp
  | cons x r ih =>
    cases m with
    | zero => simp
    | succ m =>
      rw [List.flatMap_cons, List.take_succ_cons, List.flatMap_cons, Nat.succ_mul, Nat.add_comm (m * k) k, ← hf x, List.take_length_add_append, hf x, ih]
theorem flat_drop (hf : ∀ x, (f x).length = k) (xs : List α) (m : Nat) : (xs.flatMap f).drop (m * k) = (xs.drop m).flatMap f := by
  induction xs generalizing m with
  | nil => simp
  | cons x r ih =>
    cases m with
    | zero => simp
    | succ m =>
      rw [List.flatMap_cons, List.drop_succ_cons, Nat.succ_mul, Nat.add_comm (m * k) k, ← hf x, List.drop_length_add_append, hf x, ih]
theorem flat_get (hf : ∀ x, (f x).length = k) (xs : List α) (i j : Nat) (hj : j < k) (x : α) (hx : xs[i]? = some x) : (xs.flatMap f)[i * k + j]? = (f x)[j]? := by
  have h := flat_drop hf xs i
  have e : (xs.flatMap f)[i * k + j]? = ((xs.flatMap f).drop (i * k))[j]? := by rw [List.getElem?_drop]
  rw [e, h]
  have e2 : xs.drop i = x :: xs.drop (i + 1) := by
    have hi : i < xs.length := by rcases Nat.lt_or_ge i xs.length with h' | h'; exact h'; rw [List.getElem?_eq_none h'] at hx; cases hx
    rw [List.getElem?_eq_getElem hi] at hx
    injection hx with hx
    rw [List.drop_eq_getElem_cons hi, hx]
  rw [e2, List.flatMap_cons, List.getElem?_append_left (by rw [hf]; exact hj)]
theorem flat_app (a b : List α) : (a ++ b).flatMap f = a.flatMap f ++ b.flatMap f := List.flatMap_append
theorem flat_one (h : ∀ x, ∀ v ∈ f x, v.oneCell' = true) (xs : List α) : ∀ v ∈ xs.flatMap f, v.oneCell' = true := by
  intro v hv
  obtain ⟨x, _, hx⟩ := List.mem_flatMap.1 hv
  exact h x v hx
end

/-- A slice's value. -/
structure Sl where
  a : Option Addr
  n : Nat
  c : Nat
def Sl.v (s : Sl) : Value := .slice s.a s.n s.c
def Sl.blk (s : Sl) : Option Nat := s.a.map (·.block)
/-- Its sizes are a slice's. -/
def Sl.fit (s : Sl) : Prop := s.n ≤ s.c ∧ s.c ≤ 9223372036854775807
/-- The cells us lie at the slice s. -/
def CR (w : World) (s : Sl) (us : List Value) : Prop := ∀ j u, us[j]? = some u → ∃ b off, s.a = some ⟨b, off, none⟩ ∧ w.cell? ⟨b, off + j, none⟩ = some u
theorem CR.grown {w w' : World} {s : Sl} {us : List Value} (h : CR w s us) (g : w.grownBy w' none) : CR w' s us := fun j u hu => by
  obtain ⟨b, off, e, hc⟩ := h j u hu
  exact ⟨b, off, e, g.cell hc (by simp)⟩
theorem CR.nil_ {w : World} {n c : Nat} {us : List Value} (h : CR w ⟨none, n, c⟩ us) : us = [] := by
  cases us with
  | nil => rfl
  | cons u r => obtain ⟨b, off, e, _⟩ := h 0 u rfl; cases e
theorem add_lit (b off j : Nat) : (⟨b, off, none⟩ : Addr).add j = ⟨b, off + j, none⟩ := by unfold Addr.add; split <;> simp_all
theorem CR.news {w : World} {b off n c : Nat} {us : List Value} (h : CR w ⟨some ⟨b, off, none⟩, n, c⟩ us) : ∀ j u, us[j]? = some u → w.cell? ((⟨b, off, none⟩ : Addr).add j) = some u := by
  intro j u hu
  obtain ⟨b', off', e, hc⟩ := h j u hu
  injection e with e
  injection e with e1 e2
  subst e1; subst e2
  rw [add_lit]; exact hc
/-- A row that the call made since base. -/
structure OR (base : Nat) (w : World) (e : TypeId) (k : Nat) (s : Sl) (us : List Value) : Prop where
  own : w.ownsRow base e k s.v s.n us
theorem OR.fit {base : Nat} {w : World} {e : TypeId} {k : Nat} {s : Sl} {us : List Value} (h : OR base w e k s us) : s.fit := ⟨(own_caps h.own).1, (own_caps h.own).2.1⟩
theorem OR.len {base : Nat} {w : World} {e : TypeId} {k : Nat} {s : Sl} {us : List Value} (h : OR base w e k s us) : us.length = s.n * k := h.own.1
theorem OR.blk {base : Nat} {w : World} {e : TypeId} {k : Nat} {s : Sl} {us : List Value} (h : OR base w e k s us) : ∀ b, s.blk = some b → base ≤ b ∧ b < w.heap.size := by
  intro b hb
  refine h.own.lt b ?_
  unfold Sl.v
  unfold Sl.blk at hb
  cases ha : s.a with
  | none => rw [ha] at hb; cases hb
  | some a => rw [ha] at hb; exact hb
theorem blk_own {s : Sl} : s.v.ownBlock = s.blk := by
  unfold Sl.v Sl.blk
  cases s.a <;> rfl
theorem OR.chg {base : Nat} {w w' : World} {e : TypeId} {k : Nat} {s : Sl} {us : List Value} {L : List Nat} (h : OR base w e k s us) (g : Chg L w w') (hn : ∀ b, s.blk = some b → b ∉ L) : OR base w' e k s us :=
  ⟨g.row h.own (fun b hb => hn b (by rw [← blk_own]; exact hb))⟩
theorem OR.grown {base : Nat} {w w' : World} {e : TypeId} {k : Nat} {s : Sl} {us : List Value} (h : OR base w e k s us) (g : w.grownBy w' none) : OR base w' e k s us := h.chg (L := []) (Chg.of0 g) (fun _ _ hb => by cases hb)
theorem OR.base_ {base b' : Nat} {w : World} {e : TypeId} {k : Nat} {s : Sl} {us : List Value} (h : OR base w e k s us) (hb : b' ≤ base) : OR b' w e k s us := ⟨own_base h.own hb⟩
theorem OR.form {base : Nat} {w : World} {e : TypeId} {k : Nat} {s : Sl} {us : List Value} (h : OR base w e k s us) : (s.a = none ∧ s.n = 0 ∧ s.c = 0 ∧ us = []) ∨ ∃ g, s.a = some ⟨g, 0, none⟩ ∧ base ≤ g ∧ g < w.heap.size := by
  rcases h.own.2 with ⟨e1, hz⟩ | ⟨g, cap, cur, e1, hb, hg, _⟩
  · injection e1 with e1 e2 e3
    have hl := h.own.1
    rw [e2, Nat.zero_mul] at hl
    exact .inl ⟨e1, e2, e3, List.eq_nil_of_length_eq_zero hl⟩
  · injection e1 with e1 e2 e3
    exact .inr ⟨g, e1, hb, (Array.getElem?_eq_some_iff.1 hg).1⟩
theorem OR.cr {base : Nat} {w : World} {e : TypeId} {k : Nat} {s : Sl} {us : List Value} (h : OR base w e k s us) : CR w s us := by
  intro j u hu
  rcases h.form with ⟨_, _, _, rfl⟩ | ⟨g, hg, _, _⟩
  · simp at hu
  · refine ⟨g, 0, hg, ?_⟩
    have ho := h.own
    unfold Sl.v at ho
    rw [hg] at ho
    rw [Nat.zero_add]
    exact own_cell ho j u hu
theorem or_nil (base : Nat) (w : World) (e : TypeId) (k : Nat) : OR base w e k ⟨none, 0, 0⟩ [] := ⟨World.ownsRow_nil _ _ _ _⟩
/-- What a function that makes a row leaves. -/
def RowEnd (e : TypeId) (k : Nat) (us : List Value) (w : World) (en : Ending) (w' : World) : Prop := ∃ r : Sl, en = .returned r.v ∧ OR w.heap.size w' e k r us ∧ w.grownBy w' none

section
variable {P : Program}
/-- 'append([]T{}, s...)', elements of k cells. -/
theorem wpList_fresh {w : World} {ops : Array Oper} {rest : List Oper} {o : Oper} {a : Act} {Q : Exit → Act → World → Prop} (hgd : o.guard = none) (s x : Operand) (t : TypeId)
    (ho : o.op = .call { callee := .builtin .append, args := #[s, x], argTypes := #[t, t] }) {e : TypeId} {i : TypeInfo} {z : Value} {k bytes m c g : Nat} {ad : Addr} {us : List Value}
    (ht : P.underlying t = some (.slice e)) (hi : P.info? e = some i) (hz : i.zero = some z) (hsz : i.size = k) (hby : i.bytes = bytes) (hzs : z.cells.size = k) (hk : 0 < k)
    (hs : a.eval s = .slice (some ⟨g, 0, none⟩) 0 0) (hx : a.eval x = .slice (some ad) m c) {W : World} (hW : w = W.alloc (.cells #[] e)) (hg : g = W.heap.size) (hl : us.length = m * k) (hu : ∀ j u, us[j]? = some u → w.cell? (ad.add j) = some u) (h1 : ∀ u ∈ us, u.oneCell' = true)
    (h63 : m ≤ 9223372036854775807) (hb : m * bytes ≤ 140737488355328)
    (hq : ∀ (r : Sl) (w' : World), r.n = m → OR W.heap.size w' e k r us → W.grownBy w' none → wpList P ops Q rest (a.put o.dst r.v) w') : wpList P ops Q (o :: rest) a w := by
  refine wpList_plain hgd fun K hK => ?_
  subst hW; subst hg
  have hown : (W.alloc (.cells #[] e)).ownsRow W.heap.size e k (.slice (some ⟨W.heap.size, 0, none⟩) 0 0) 0 [] := by
    have := World.ownsRow_lit (base := W.heap.size) (e := e) (size := k) W #[] 0 (Nat.le_refl _) (by unfold maxLen; omega) (by simp)
    simpa using this
  obtain ⟨v', w', hr, hown', hgr, _, _⟩ := run_append_own_at (P := P) (W.alloc (.cells #[] e)) W.heap.size t o.type e i z k bytes ht hi hz hsz hby hzs hk _ 0 [] hown ad m c us hl hu h1 (by unfold maxLen; omega) (by rw [Nat.zero_add]; exact hb) (by simp)
  have hv : ∃ r : Sl, v' = r.v ∧ r.n = m := by
    rcases hown'.2 with ⟨e1, e2⟩ | ⟨g, cap, cur, e1, _⟩
    · exact ⟨⟨none, 0, 0⟩, e1, by simp at e2; exact e2.symm⟩
    · exact ⟨⟨some ⟨g, 0, none⟩, m, cap⟩, by rw [e1, Nat.zero_add]; rfl, rfl⟩
  obtain ⟨r, rfl, hn⟩ := hv
  unfold Oper.wp execOp
  simp only [ho, resolve, invoke, builtin, Sem.run_bind, Sem.run_pure, Result.andThen_ok, List.map_toArray, List.map_cons, List.map_nil, hs, hx, hr]
  refine hK _ _ (hq r w' hn ⟨by rw [hn]; rw [Nat.zero_add, List.nil_append] at hown'; exact hown'⟩ ?_)
  exact grown_row0 (World.grownBy_alloc W _ none) hgr (fun b hb => by simp [Value.ownBlock] at hb; omega)
end

section
variable {P : Program} {w : World} {ops : Array Oper} {rest : List Oper} {o : Oper} {a : Act} {Q : Exit → Act → World → Prop}
theorem run_append_none_c (base : Nat) (t ty e : TypeId) (i : TypeInfo) (size : Nat) (ht : P.underlying t = some (.slice e)) (hi : P.info? e = some i) (v : Value) (n c : Nat) (xs : List Value) (hown : w.ownsRow base e size v n xs) :
    (Builtin.append_ #[t, t] ty #[v, .slice none 0 c]).run P w = .ok v w := by
  rcases hown.2 with ⟨rfl, rfl⟩ | ⟨g, cap, cur, rfl, _, _, hnc, _⟩
  · simp [Builtin.append_, run_underlying ht, sizeOf, typeInfo, hi, Builtin.lenOf, Builtin.firstCells]
  · simp [Builtin.append_, run_underlying ht, sizeOf, typeInfo, hi, Builtin.lenOf, Builtin.firstCells, hnc, storeCells]
/-- 'append(s, v...)', s of the call's own, v any row. -/
theorem appV_run {base : Nat} {e : TypeId} {i : TypeInfo} {z : Value} {k bytes : Nat} {S V : Sl} {us vs : List Value} (t ty : TypeId)
    (ht : P.underlying t = some (.slice e)) (hi : P.info? e = some i) (hz : i.zero = some z) (hsz : i.size = k) (hby : i.bytes = bytes) (hzs : z.cells.size = k) (hk : 0 < k)
    (own : OR base w e k S us) (hb0 : base ≤ w.heap.size) (hl : vs.length = V.n * k) (hv : CR w V vs) (h1 : ∀ u ∈ vs, u.oneCell' = true) (hb : (S.n + V.n) * bytes ≤ 140737488355328) (h63 : S.n + V.n ≤ 1000000000) :
    ∃ (r : Sl) (w' : World), (Builtin.append_ #[t, t] ty #[S.v, V.v]).run P w = .ok r.v w' ∧ r.n = S.n + V.n ∧ OR base w' e k r (us ++ vs) ∧ w.grownBy w' S.blk ∧ (∀ b, r.blk = some b → S.blk = some b ∨ b = w.heap.size) := by
  obtain ⟨va, vn, vc⟩ := V
  cases va with
  | none =>
    have e1 := hv.nil_
    subst e1
    have e2 : vn = 0 := by
      rcases Nat.eq_zero_or_pos vn with h | h
      · exact h
      · have := Nat.mul_pos h hk; dsimp only at hl; simp at hl; omega
    subst e2
    refine ⟨S, w, run_append_none_c base t ty e i k ht hi S.v S.n vc us own.own, by simp, by simpa using own, grown_refl _ _, fun b hb => .inl hb⟩
  | some ad =>
    have hu : ∀ j u, vs[j]? = some u → w.cell? (ad.add j) = some u := by
      intro j u hj
      obtain ⟨b, off, e1, hc⟩ := hv j u hj
      injection e1 with e1
      subst e1
      rw [add_lit]; exact hc
    obtain ⟨v', w', hr, hown', hgr, _, hblk⟩ := run_append_own_at (P := P) w base t ty e i z k bytes ht hi hz hsz hby hzs hk S.v S.n us own.own ad vn vc vs hl hu h1 (by unfold maxLen; dsimp only at h63; omega) hb hb0
    have hv' : ∃ r : Sl, v' = r.v ∧ r.n = S.n + vn := by
      rcases hown'.2 with ⟨q1, q2⟩ | ⟨g, cap, cur, q1, _⟩
      · exact ⟨⟨none, 0, 0⟩, q1, q2.symm⟩
      · exact ⟨⟨some ⟨g, 0, none⟩, S.n + vn, cap⟩, q1, rfl⟩
    obtain ⟨r, rfl, hn⟩ := hv'
    rw [blk_own] at hgr hblk
    rw [blk_own] at hblk
    refine ⟨r, w', hr, hn, ⟨by rw [hn]; exact hown'⟩, hgr, fun b hb => ?_⟩
    rcases hblk with q | q
    · left; rw [← q]; exact hb
    · right; rw [q] at hb; injection hb with hb; exact hb.symm
theorem wpList_appV (hgd : o.guard = none) (s x : Operand) (t : TypeId) (ho : o.op = .call { callee := .builtin .append, args := #[s, x], argTypes := #[t, t] })
    {base : Nat} {e : TypeId} {i : TypeInfo} {z : Value} {k bytes : Nat} {S V : Sl} {us vs : List Value}
    (ht : P.underlying t = some (.slice e)) (hi : P.info? e = some i) (hz : i.zero = some z) (hsz : i.size = k) (hby : i.bytes = bytes) (hzs : z.cells.size = k) (hk : 0 < k)
    (hs : a.eval s = S.v) (hx : a.eval x = V.v) (own : OR base w e k S us) (hb0 : base ≤ w.heap.size) (hl : vs.length = V.n * k) (hv : CR w V vs) (h1 : ∀ u ∈ vs, u.oneCell' = true) (hb : (S.n + V.n) * bytes ≤ 140737488355328) (h63 : S.n + V.n ≤ 1000000000)
    (hq : ∀ (r : Sl) (w' : World), r.n = S.n + V.n → OR base w' e k r (us ++ vs) → w.grownBy w' S.blk → (∀ b, r.blk = some b → S.blk = some b ∨ b = w.heap.size) → wpList P ops Q rest (a.put o.dst r.v) w') : wpList P ops Q (o :: rest) a w := by
  refine wpList_plain hgd fun K hK => ?_
  obtain ⟨r, w', hr, h2, h3, h4, h5⟩ := appV_run (P := P) t o.type ht hi hz hsz hby hzs hk own hb0 hl hv h1 hb h63
  unfold Oper.wp execOp
  simp only [ho, resolve, invoke, builtin, Sem.run_bind, Sem.run_pure, Result.andThen_ok, List.map_toArray, List.map_cons, List.map_nil, hs, hx, hr]
  exact hK _ _ (hq r w' h2 h3 h4 h5)
theorem step_appV {K : Act → World → Prop} {E : Prop} (hgd : o.guard = none) (s x : Operand) (t : TypeId) (ho : o.op = .call { callee := .builtin .append, args := #[s, x], argTypes := #[t, t] })
    {base : Nat} {e : TypeId} {i : TypeInfo} {z : Value} {k bytes : Nat} {S V : Sl} {us vs : List Value}
    (ht : P.underlying t = some (.slice e)) (hi : P.info? e = some i) (hz : i.zero = some z) (hsz : i.size = k) (hby : i.bytes = bytes) (hzs : z.cells.size = k) (hk : 0 < k)
    (hs : a.eval s = S.v) (hx : a.eval x = V.v) (own : OR base w e k S us) (hb0 : base ≤ w.heap.size) (hl : vs.length = V.n * k) (hv : CR w V vs) (h1 : ∀ u ∈ vs, u.oneCell' = true) (hb : (S.n + V.n) * bytes ≤ 140737488355328) (h63 : S.n + V.n ≤ 1000000000)
    (hq : ∀ (r : Sl) (w' : World), r.n = S.n + V.n → OR base w' e k r (us ++ vs) → w.grownBy w' S.blk → (∀ b, r.blk = some b → S.blk = some b ∨ b = w.heap.size) → K (a.put o.dst r.v) w') :
    if Region.wanted o (yielded ops a.tmps) = true then Oper.wp P o a w K Q else E := by
  have hw : Region.wanted o (yielded ops a.tmps) = true := by simp [Region.wanted, hgd]
  rw [if_pos hw]
  obtain ⟨r, w', hr, h2, h3, h4, h5⟩ := appV_run (P := P) t o.type ht hi hz hsz hby hzs hk own hb0 hl hv h1 hb h63
  unfold Oper.wp execOp
  simp only [ho, resolve, invoke, builtin, Sem.run_bind, Sem.run_pure, Result.andThen_ok, List.map_toArray, List.map_cons, List.map_nil, hs, hx, hr]
  exact hq r w' h2 h3 h4 h5
end

/-! ## Worlds -/
theorem grown_skip {w wr w' : World} {S B : Nat} (h : w.grownBy wr (some S)) (k : wr.grownBy w' (some B)) (hB : w.heap.size ≤ B) : w.grownBy w' (some S) :=
  ⟨k.os.trans h.os, k.tape.trans h.tape, k.output.trans h.output, Nat.le_trans h.size k.size, fun i hi hr => (k.block i (Nat.lt_of_lt_of_le hi h.size) (by intro e; injection e with e; omega)).trans (h.block i hi hr)⟩
theorem src_lt {w : World} {S : Nat} (h : SrcOK w S) : S < w.heap.size := by
  obtain ⟨a, b, off, cap, k, l, h0, _⟩ := h
  exact World.block_lt_of_cell? w _ h0
/-- The call returned v and made memory at most. -/
def Ret (v : Value) (w : World) (e : Ending) (w' : World) : Prop := e = .returned v ∧ w.grownBy w' none

theorem quiet_same {P : Program} {f : FuncId} {args : Array Value} {w : World} {n : Nat} {v : Value}
    (h : Calls P f args (w.drewN n) fun e w' => e = .returned v ∧ w.drewN n = w') : Calls P f args (w.drewN n) fun e w'' => e = .returned v ∧ ∃ m, w'' = w.drewN m :=
  h.mono fun _ _ ⟨he, hm⟩ => ⟨he, n, hm.symm⟩

/-! ## Rows of pieces -/
def pcs (p : Fm.Pc) : List Value := [.int .i64 p.1, .int .i64 p.2]
def f2 (f : List Fm.Pc) : List Value := f.flatMap pcs
theorem pcs_len (p : Fm.Pc) : (pcs p).length = 2 := rfl
theorem pcs_one (p : Fm.Pc) : ∀ v ∈ pcs p, v.oneCell' = true := by
  intro v hv
  simp only [pcs, List.mem_cons, List.not_mem_nil, or_false] at hv
  rcases hv with rfl | rfl <;> rfl
theorem f2_len (f : List Fm.Pc) : (f2 f).length = f.length * 2 := flat_len pcs_len f
theorem f2_one (f : List Fm.Pc) : ∀ v ∈ f2 f, v.oneCell' = true := flat_one pcs_one f
theorem f2_app (f g : List Fm.Pc) : f2 (f ++ g) = f2 f ++ f2 g := flat_app f g
theorem f2_snoc (f : List Fm.Pc) (p : Fm.Pc) : f2 f ++ [.int .i64 p.1, .int .i64 p.2] = f2 (f ++ [p]) := by rw [f2_app]; rfl
theorem f2_get (f : List Fm.Pc) (i : Nat) (hi : i < f.length) : (f2 f)[i * 2]? = some (.int .i64 (f.getD i Fm.zp).1) ∧ (f2 f)[i * 2 + 1]? = some (.int .i64 (f.getD i Fm.zp).2) := by
  have hx : f[i]? = some (f.getD i Fm.zp) := by simp [List.getD_eq_getElem?_getD, List.getElem?_eq_getElem hi]
  exact ⟨flat_get pcs_len f i 0 (by omega) _ hx, flat_get pcs_len f i 1 (by omega) _ hx⟩
/-- The pieces f lie at the slice s. -/
structure FR (w : World) (s : Sl) (f : List Fm.Pc) : Prop where
  fit : s.fit
  len : f.length = s.n
  cr : CR w s (f2 f)
theorem FR.grown {w w' : World} {s : Sl} {f : List Fm.Pc} (h : FR w s f) (g : w.grownBy w' none) : FR w' s f := ⟨h.fit, h.len, h.cr.grown g⟩
theorem FR.chg {L : List Nat} {w w' : World} {s : Sl} {f : List Fm.Pc} (h : FR w s f) (g : Chg L w w') (hn : ∀ b, s.blk = some b → b ∉ L) : FR w' s f :=
  ⟨h.fit, h.len, fun j u hu => by
    obtain ⟨b, off, e, hc⟩ := h.cr j u hu
    exact ⟨b, off, e, g.cell hc (hn b (by rw [Sl.blk, e]; rfl))⟩⟩
theorem FR.row {w w' : World} {s : Sl} {f : List Fm.Pc} {S : Nat} (h : FR w s f) (g : w.grownBy w' (some S)) (hn : s.blk ≠ some S) : FR w' s f :=
  h.chg (L := [S]) (Chg.of g (fun b hb => by cases hb; simp)) (fun b hb hm => by rw [List.mem_singleton] at hm; subst hm; exact hn hb)
/-- The piece with the number i. -/
theorem FR.at_ {w : World} {s : Sl} {f : List Fm.Pc} (h : FR w s f) (i : Nat) (hi : i < s.n) :
    ∃ b off x y, s.a = some ⟨b, off, none⟩ ∧ f.getD i Fm.zp = (x, y) ∧ w.cell? ⟨b, off + i * 2, none⟩ = some (.int .i64 x) ∧ w.cell? ⟨b, off + i * 2 + 1, none⟩ = some (.int .i64 y) := by
  obtain ⟨h0, h1⟩ := f2_get f i (by rw [h.len]; exact hi)
  obtain ⟨b, off, e, c0⟩ := h.cr _ _ h0
  obtain ⟨b', off', e', c1⟩ := h.cr _ _ h1
  rw [e] at e'
  cases e'
  exact ⟨b, off, _, _, e, rfl, c0, c1⟩
/-- .. at a known address. -/
theorem FR.got {w : World} {b off n c : Nat} {f : List Fm.Pc} (h : FR w ⟨some ⟨b, off, none⟩, n, c⟩ f) (i : Nat) (hi : i < n) :
    ∃ x y, f.getD i Fm.zp = (x, y) ∧ w.cell? ⟨b, off + i * 2, none⟩ = some (.int .i64 x) ∧ w.cell? ⟨b, off + i * 2 + 1, none⟩ = some (.int .i64 y) := by
  obtain ⟨b', off', x, y, e, h1, h2, h3⟩ := h.at_ i hi
  cases e
  exact ⟨x, y, h1, h2, h3⟩
theorem FR.nil {w : World} : FR w ⟨none, 0, 0⟩ [] := ⟨⟨Nat.le_refl _, by dsimp only; omega⟩, rfl, fun j u hu => by simp [f2] at hu⟩
theorem OR.fr {base : Nat} {w : World} {T : TypeId} {s : Sl} {f : List Fm.Pc} (h : OR base w T 2 s (f2 f)) : FR w s f :=
  ⟨h.fit, by have := h.len; rw [f2_len] at this; omega, h.cr⟩
theorem CR.app {w : World} {s : Sl} {us vs : List Value} (h : CR w s (us ++ vs)) : CR w s us := fun j u hu => h j u (by rw [List.getElem?_append_left]; exact hu; rcases Nat.lt_or_ge j us.length with e | e; exact e; rw [List.getElem?_eq_none e] at hu; cases hu)
end Go.Proofs.Ytafkagaakjfkoaa
