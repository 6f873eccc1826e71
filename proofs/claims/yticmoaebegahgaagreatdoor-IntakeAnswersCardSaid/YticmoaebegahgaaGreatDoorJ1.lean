import Derived.WalkKit
import Derived.ProofKit
import Derived.Below
import Derived.Laws.OwnMore
import Derived.Laws.IdiomCopy
import Derived.Maps.AppendAt
import Derived.Deep.DeepAppendRoom
import Derived.Lib.AppendZerosOnto
import Derived.Lib.Hide
import Derived.Deep.RegionHeld3
import Derived.Test.YticmoaebegahgaaGreatDoorP1
import Derived.Test.YticmoaebegahgaaGreatDoorT1
import Derived.Test.YticmoaebegahgaaGreatDoorW1
import Derived.Lib.BytesEntry
import Derived.Laws.Externs
import Derived.Test.YticmoaebegahgaaGreatDoorT2
import Derived.Test.YticmoaebegahgaaGreatDoorAl
set_option linter.all false
namespace Go.Proofs.YticmoaebegahgaaGreatDoor.Iw
structure Chg (L : List Nat) (w w' : World) : Prop where
  os : w'.os = w.os
  tape : w'.tape = w.tape
  output : w'.output = w.output
  size : w.heap.size ≤ w'.heap.size
  block : ∀ i, i < w.heap.size → i ∉ L → w'.heap[i]? = w.heap[i]?
theorem Chg.refl (L : List Nat) (w : World) : Chg L w w := ⟨rfl, rfl, rfl, Nat.le_refl _, fun _ _ _ => rfl⟩
theorem Chg.weak {L M : List Nat} {w w' : World} (h : Chg L w w') (hs : ∀ b ∈ L, b ∈ M) : Chg M w w' := ⟨h.os, h.tape, h.output, h.size, fun i hi hn => h.block i hi (fun hl => hn (hs i hl))⟩
theorem Chg.then {L M : List Nat} {w w1 w2 : World} (h : Chg L w w1) (k : Chg M w1 w2) (hM : ∀ b ∈ M, b ∈ L ∨ w.heap.size ≤ b) : Chg L w w2 :=
  ⟨k.os.trans h.os, k.tape.trans h.tape, k.output.trans h.output, Nat.le_trans h.size k.size, fun i hi hn =>
    (k.block i (Nat.lt_of_lt_of_le hi h.size) (fun hm => by rcases hM i hm with e | e; exact hn e; omega)).trans (h.block i hi hn)⟩
theorem Chg.trans {L : List Nat} {w w1 w2 : World} (h : Chg L w w1) (k : Chg L w1 w2) : Chg L w w2 := h.then k (fun _ hb => .inl hb)
theorem Chg.of {L : List Nat} {w w' : World} {row : Option Nat} (h : w.grownBy w' row) (hr : ∀ b, row = some b → b ∈ L) : Chg L w w' :=
  ⟨h.os, h.tape, h.output, h.size, fun i hi hn => h.block i hi (fun e => hn (hr i e.symm))⟩
theorem Chg.of0 {L : List Nat} {w w' : World} (h : w.grownBy w' none) : Chg L w w' := Chg.of h (by simp)
theorem Chg.cell {L : List Nat} {w w' : World} (h : Chg L w w') {a : Addr} {v : Value} (k : w.cell? a = some v) (hn : a.block ∉ L) : w'.cell? a = some v :=
  (World.cell?_of_block (h.block a.block (World.block_lt_of_cell? w a k) hn)).trans k
theorem Chg.frozen {L : List Nat} {w w' : World} (h : Chg L w w') {a : Addr} (k : a.block < w.heap.size) (hn : a.block ∉ L) : w'.frozen? a = w.frozen? a :=
  World.frozen?_of_block (h.block a.block k hn)
theorem Chg.grown {L : List Nat} {w0 w w' : World} (h : Chg L w w') (g : w0.grownBy w none) (hL : ∀ b ∈ L, w0.heap.size ≤ b) : w0.grownBy w' none :=
  ⟨h.os.trans g.os, h.tape.trans g.tape, h.output.trans g.output, Nat.le_trans g.size h.size, fun i hi _ =>
    (h.block i (Nat.lt_of_lt_of_le hi g.size) (fun hl => by have := hL i hl; omega)).trans (g.block i hi (by simp))⟩
theorem Chg.row {L : List Nat} {w w' : World} (h : Chg L w w') {base : Nat} {e : TypeId} {size : Nat} {v : Value} {n : Nat} {xs : List Value} (k : w.ownsRow base e size v n xs) (hn : ∀ b, v.ownBlock = some b → b ∉ L) : w'.ownsRow base e size v n xs := by
  refine ⟨k.1, ?_⟩
  rcases k.2 with hz | ⟨g, cap, cur, rfl, hb, hg, rest⟩
  · exact .inl hz
  · exact .inr ⟨g, cap, cur, rfl, hb, (h.block g (Array.getElem?_eq_some_iff.1 hg).1 (hn g rfl)).trans hg, rest⟩
theorem Chg.set {L : List Nat} {w w1 : World} (h : Chg L w w1) (a : Addr) (v : Value) (ha : a.block ∈ L) : Chg L w (w1.setCell a v) :=
  ⟨h.os, h.tape, h.output, by simp only [World.size_setCell]; exact h.size, fun i hi hn => (heap_setCell_other w1 a i v (fun e => hn (e ▸ ha))).trans (h.block i hi hn)⟩
section
variable {w : World} {base : Nat} {e : TypeId} {size : Nat}
theorem own_set {g cap n : Nat} (vs : List Value) : ∀ {w : World} {us : List Value} (o : Nat), w.ownsRow base e size (.slice (some ⟨g, 0, none⟩) n cap) n us → o + vs.length ≤ n * size →
    (w.setCells g o vs).ownsRow base e size (.slice (some ⟨g, 0, none⟩) n cap) n (us.take o ++ (vs ++ us.drop (o + vs.length))) ∧ w.grownBy (w.setCells g o vs) (some g) := by
  induction vs with
  | nil =>
    intro w us o h _
    exact ⟨by simpa [World.setCells] using h, ⟨rfl, rfl, rfl, Nat.le_refl _, fun _ _ _ => rfl⟩⟩
  | cons v r ih =>
    intro w us o h ho
    simp only [List.length_cons] at ho
    have hl := h.1
    obtain ⟨h1, g1⟩ := h.stored o v
    obtain ⟨h2, g2⟩ := ih (o + 1) h1 (by omega)
    refine ⟨?_, ⟨g2.os.trans g1.os, g2.tape.trans g1.tape, g2.output.trans g1.output, Nat.le_trans g1.size g2.size, fun i hi hr => (g2.block i (Nat.lt_of_lt_of_le hi g1.size) hr).trans (g1.block i hi hr)⟩⟩
    have e1 : (us.set o v).take (o + 1) ++ (r ++ (us.set o v).drop (o + 1 + r.length)) = us.take o ++ (v :: r ++ us.drop (o + (v :: r).length)) := by
      rw [List.drop_set_of_lt (by omega), List.take_set, List.take_add_one, List.getElem?_eq_getElem (by omega)]
      simp only [Option.toList_some, List.length_cons]
      rw [List.set_append_right _ _ (by rw [List.length_take]; omega), List.length_take, Nat.min_eq_left (by omega), Nat.sub_self]
      simp [show o + 1 + r.length = o + (r.length + 1) by omega]
    rw [e1] at h2
    exact h2
theorem own_caps {a : Option Addr} {c n : Nat} {us : List Value} (h : w.ownsRow base e size (.slice a n c) n us) : n ≤ c ∧ c ≤ 9223372036854775807 ∧ us.length = n * size := by
  refine ⟨?_, ?_, h.1⟩
  all_goals
    rcases h.2 with ⟨e1, rfl⟩ | ⟨g, cap, cur, e1, _, _, h1, h2, _⟩
    · injection e1 with e1 e2 e3; omega
    · injection e1 with e1 e2 e3; unfold maxLen at h2; omega
theorem own_front {g cap n m : Nat} {us : List Value} (h : w.ownsRow base e size (.slice (some ⟨g, 0, none⟩) n cap) n us) (hm : m ≤ n) : w.ownsRow base e size (.slice (some ⟨g, 0, none⟩) m cap) m (us.take (m * size)) := by
  have hl := h.1
  have hmn : m * size ≤ n * size := Nat.mul_le_mul_right _ hm
  refine ⟨by rw [List.length_take]; omega, ?_⟩
  rcases h.2 with ⟨e1, _⟩ | ⟨g', cap', cur, e1, hb, hg, h1, h2, h3, h4⟩
  · cases e1
  · injection e1 with e1 e2 e3
    injection e1 with e1
    injection e1 with e1 _ _
    subst e1; subst e3
    exact .inr ⟨g, cap, cur, rfl, hb, hg, by omega, h2, h3, by rw [← h4, List.take_take, Nat.min_eq_left hmn]⟩
theorem own_wider {g cap n m : Nat} {us : List Value} (h : w.ownsRow base e size (.slice (some ⟨g, 0, none⟩) n cap) n us) (hm : n ≤ m) (hc : m ≤ cap) : ∃ xs, xs.length = (m - n) * size ∧ w.ownsRow base e size (.slice (some ⟨g, 0, none⟩) m cap) m (us ++ xs) := by
  rcases h.2 with ⟨e1, _⟩ | ⟨g', cap', cur, e1, hb, hg, h1, h2, h3, h4⟩
  · cases e1
  · injection e1 with e1 e2 e3
    injection e1 with e1
    injection e1 with e1 _ _
    subst e1; subst e3
    have hmc : m * size ≤ cap * size := Nat.mul_le_mul_right _ hc
    have hnm : n * size ≤ m * size := Nat.mul_le_mul_right _ hm
    have hd : (m - n) * size = m * size - n * size := Nat.sub_mul _ _ _
    have e5 : cur.toList.take (m * size) = us ++ (cur.toList.drop (n * size)).take ((m - n) * size) := by
      rw [← h4, hd, ← List.take_add]
      congr 1; omega
    refine ⟨(cur.toList.drop (n * size)).take ((m - n) * size), ?_, ?_, .inr ⟨g, cap, cur, rfl, hb, hg, hc, h2, h3, e5⟩⟩
    · rw [List.length_take, List.length_drop, Array.length_toList, h3]; omega
    · rw [← e5, List.length_take, Array.length_toList, h3]; omega
theorem own_cell {g cap n : Nat} {us : List Value} (h : w.ownsRow base e size (.slice (some ⟨g, 0, none⟩) n cap) n us) (j : Nat) (u : Value) (hu : us[j]? = some u) : w.cell? ⟨g, j, none⟩ = some u := by
  have hj : j < us.length := by rcases Nat.lt_or_ge j us.length with h' | h'; exact h'; rw [List.getElem?_eq_none h'] at hu; cases hu
  rw [h.cellAt j (by rw [← h.1]; exact hj), hu]
theorem own_news {g cap n o : Nat} {us : List Value} (h : w.ownsRow base e size (.slice (some ⟨g, 0, none⟩) n cap) n us) : ∀ j u, (us.drop o)[j]? = some u → w.cell? ((⟨g, o, none⟩ : Addr).add j) = some u := by
  intro j u hu
  rw [List.getElem?_drop] at hu
  have := own_cell h (o + j) u hu
  have e1 : (⟨g, o, none⟩ : Addr).add j = ⟨g, o + j, none⟩ := by unfold Addr.add; split <;> simp_all
  rw [e1]; exact this
theorem own_base {b' n : Nat} {v : Value} {us : List Value} (h : w.ownsRow base e size v n us) (hb : b' ≤ base) : w.ownsRow b' e size v n us := by
  refine ⟨h.1, ?_⟩
  rcases h.2 with hz | ⟨g, cap, cur, e1, h1, rest⟩
  · exact .inl hz
  · exact .inr ⟨g, cap, cur, e1, Nat.le_trans hb h1, rest⟩
end
section
variable {P : Program}
theorem copyK_run (w : World) (dT sT ty elem : TypeId) (k : Nat) (b o dLen dCap : Nat) (a : Addr) (sLen sCap : Nat) (cs : List Value)
    (hu : P.underlying dT = some (.slice elem)) (hs : (P.info? elem).map (·.size) = some k) (hn : cs.length = Nat.min sLen dLen * k)
    (hsrc : ∀ j v, cs[j]? = some v → w.cell? (a.add j) = some v) (hc : ∀ j, j < cs.length → (w.cell? ⟨b, o + j, none⟩).isSome = true) (hf : ∀ j, j < cs.length → w.frozen? ⟨b, o + j, none⟩ = false) (h1 : ∀ v ∈ cs, v.oneCell' = true) :
    (Builtin.copy_ #[dT, sT] ty #[.slice (some ⟨b, o, none⟩) dLen dCap, .slice (some a) sLen sCap]).run P w = .ok (goInt (Nat.min sLen dLen)) (w.setCells b o cs) := by
  have hl := run_loadCells_list (P := P) w a cs hsrc
  have hst := run_storeCells_cells (P := P) b o cs 0 w (by simpa using hc) (by simpa using hf) h1
  cases hq : P.info? elem with
  | none => simp [hq] at hs
  | some i =>
    have hi : i.size = k := by simpa [hq] using hs
    simp [Builtin.copy_, run_underlying hu, Builtin.lenOf, Builtin.firstCells, sizeOf, typeInfo, hq, hi, ← hn, hl, hst]
theorem copyK_own {w : World} {base : Nat} {e : TypeId} {k g cap n : Nat} {us : List Value} (h : w.ownsRow base e k (.slice (some ⟨g, 0, none⟩) n cap) n us) (dT sT ty : TypeId) (o dLen dCap : Nat) (a : Addr) (sLen sCap : Nat) (cs : List Value)
    (hu : P.underlying dT = some (.slice e)) (hs : (P.info? e).map (·.size) = some k) (hn : cs.length = Nat.min sLen dLen * k) (ho : o + cs.length ≤ n * k)
    (hsrc : ∀ j v, cs[j]? = some v → w.cell? (a.add j) = some v) (h1 : ∀ v ∈ cs, v.oneCell' = true) :
    ∃ w', (Builtin.copy_ #[dT, sT] ty #[.slice (some ⟨g, o, none⟩) dLen dCap, .slice (some a) sLen sCap]).run P w = .ok (goInt (Nat.min sLen dLen)) w' ∧
      w'.ownsRow base e k (.slice (some ⟨g, 0, none⟩) n cap) n (us.take o ++ (cs ++ us.drop (o + cs.length))) ∧ w.grownBy w' (some g) := by
  obtain ⟨h2, h3⟩ := own_set cs o h ho
  refine ⟨_, copyK_run w dT sT ty e k g o dLen dCap a sLen sCap cs hu hs hn hsrc (fun j hj => ?_) (fun j _ => h.frozenAt _) h1, h2, h3⟩
  rw [h.cellAt _ (by omega), List.getElem?_eq_getElem (by rw [h.1]; omega)]; rfl
theorem clearK_own {w : World} {base : Nat} {e : TypeId} {k g cap n : Nat} {us : List Value} (h : w.ownsRow base e k (.slice (some ⟨g, 0, none⟩) n cap) n us) (t ty : TypeId) (z : Value) (ht : P.underlying t = some (.slice e)) (hv : ∀ w, (zeroValue e).run P w = .ok z w)
    (hz : z.cells.size = k) (h1 : ∀ v ∈ z.cells.toList, v.oneCell' = true) (m c : Nat) (hm : m ≤ n) (hm0 : 0 < n - m) :
    ∃ w', (Builtin.clear_ #[t] ty #[.slice (some ⟨g, m * k, none⟩) (n - m) c]).run P w = .ok (.tuple #[]) w' ∧ w'.ownsRow base e k (.slice (some ⟨g, 0, none⟩) m cap) m (us.take (m * k)) ∧ w.grownBy w' (some g) := by
  have hzl : (Builtin.zeroCells z.cells (n - m)).toList.length = (n - m) * k := by simp [Builtin.zeroCells, hz]
  have hle : m * k + (n - m) * k ≤ n * k := by rw [← Nat.add_mul]; exact Nat.mul_le_mul_right _ (by omega)
  have hmk : m * k ≤ n * k := Nat.mul_le_mul_right _ hm
  obtain ⟨h2, h3⟩ := own_set (Builtin.zeroCells z.cells (n - m)).toList (m * k) h (by omega)
  have hst := run_storeCells_cells (P := P) g (m * k) (Builtin.zeroCells z.cells (n - m)).toList 0 w
    (fun j hj => by rw [Nat.add_zero, h.cellAt _ (by omega), List.getElem?_eq_getElem (by rw [h.1]; omega)]; rfl) (fun j _ => h.frozenAt _)
    (by
      intro v hv'
      simp only [Builtin.zeroCells, Array.toList_map, List.mem_map, Array.mem_toList_iff, Array.mem_range] at hv'
      obtain ⟨i, hi, rfl⟩ := hv'
      have hp : i % z.cells.size < z.cells.size := Nat.mod_lt _ (by rcases Nat.eq_zero_or_pos z.cells.size with e0 | e0; rw [e0] at hi; omega; exact e0)
      exact h1 _ (by simp [hp]))
  refine ⟨_, ?_, ?_, h3⟩
  · simp only [Nat.add_zero] at hst
    obtain ⟨x, hx⟩ : ∃ x, n - m = x + 1 := ⟨n - m - 1, by omega⟩
    rw [hx] at hst ⊢
    simp [Builtin.clear_, run_underlying ht, hv, hst]
  · have h4 := own_front h2 hm
    rw [List.take_append_of_le_length (by rw [List.length_take, h.1]; omega), List.take_take, Nat.min_self] at h4
    exact h4
end
section
variable {P : Program} {md : Region.Mode} {l : List Oper} {Q : Exit → Act → World → Prop} {S : World → Prop} {fuel : Nat} {listed : Array Bool} {a : Act} {w : World}
theorem takeL {i : Nat} {oi : Oper} {v : Value} (hi : l[i]? = some oi)
    (hs : Region.noSelect l.toArray = true) (hf : Region.free md l.toArray listed i = true) (hr : (Region.ready md l.toArray listed).contains i = true)
    (hQ : ∀ c a w, Q (.panic c) (a.put oi.dst v) w → Q (.panic c) a w) (hy : YieldsIf P l.toArray S oi v a) (hS : S w)
    (h : wpAnyH P md l.toArray Q S fuel (listed.setIfInBounds i true) (a.put oi.dst v) w) : wpAnyH P md l.toArray Q S (fuel + 1) listed a w :=
  wpAnyH_take (by simpa using hi) hs hf hr hQ hy hS h
theorem consL {i : Nat} {o : Oper} {rs : List Nat} (ho : l[i]? = some o)
    (h : ∀ K' : Act → World → Prop, Shut (∀ a w, S w → (S w → wpAnyH P md l.toArray Q S fuel (listed.setIfInBounds i true) a w) → K' a w) → if Region.wanted o (yielded l.toArray a.tmps) = true then Oper.wp P o a w K' Q else K' (a.put o.dst undef) w)
    (hs : AllReadyH P md l.toArray Q S fuel listed a w rs) : AllReadyH P md l.toArray Q S fuel listed a w (i :: rs) :=
  AllReadyH.cons (by simpa using ho) h hs
end
end Go.Proofs.YticmoaebegahgaaGreatDoor.Iw
namespace Go.Proofs.YticmoaebegahgaaGreatDoor.Iw
open Go.ChangeShapes Go.WideShapes Go.ChangeAt Go.RowKit
open Wr (IR RB iv ivs grown_trans grown_refl)
section
variable {α : Type} {f : α → List Value} {k : Nat}
theorem flat_len (hf : ∀ x, (f x).length = k) (xs : List α) : (xs.flatMap f).length = xs.length * k := by
  induction xs with
  | nil => simp
  | cons x r ih => rw [List.flatMap_cons, List.length_append, hf, ih, List.length_cons, Nat.add_mul]; omega
theorem flat_take (hf : ∀ x, (f x).length = k) (xs : List α) (m : Nat) : (xs.flatMap f).take (m * k) = (xs.take m).flatMap f := by
  induction xs generalizing m with
  | nil => simp
  | cons x r ih =>
    cases m with
    | zero => simp
    | succ m =>
      rw [List.flatMap_cons, List.take_succ_cons, List.flatMap_cons, Nat.succ_mul, Nat.add_comm (m * k) k, ← hf x, List.take_length_add_append, hf x, ih]
theorem flat_drop (hf : ∀ x, (f x).length = k) (xs : List α) (m : Nat) : (xs.flatMap f).drop (m * k) = (xs.drop m).flatMap f := by
  induction xs generalizing m with
  | nil => simp
  | cons x r ih =>
    cases m with
    | zero => simp
    | succ m =>
      rw [List.flatMap_cons, List.drop_succ_cons, Nat.succ_mul, Nat.add_comm (m * k) k, ← hf x, List.drop_length_add_append, hf x, ih]
theorem flat_get (hf : ∀ x, (f x).length = k) (xs : List α) (i j : Nat) (hj : j < k) (x : α) (hx : xs[i]? = some x) : (xs.flatMap f)[i * k + j]? = (f x)[j]? := by
  have h := flat_drop hf xs i
  have e : (xs.flatMap f)[i * k + j]? = ((xs.flatMap f).drop (i * k))[j]? := by rw [List.getElem?_drop]
  rw [e, h]
  have e2 : xs.drop i = x :: xs.drop (i + 1) := by
    have hi : i < xs.length := by rcases Nat.lt_or_ge i xs.length with h' | h'; exact h'; rw [List.getElem?_eq_none h'] at hx; cases hx
    rw [List.getElem?_eq_getElem hi] at hx
    injection hx with hx
    rw [List.drop_eq_getElem_cons hi, hx]
  rw [e2, List.flatMap_cons, List.getElem?_append_left (by rw [hf]; exact hj)]
theorem flat_app (a b : List α) : (a ++ b).flatMap f = a.flatMap f ++ b.flatMap f := List.flatMap_append
theorem flat_one (h : ∀ x, ∀ v ∈ f x, v.oneCell' = true) (xs : List α) : ∀ v ∈ xs.flatMap f, v.oneCell' = true := by
  intro v hv
  obtain ⟨x, _, hx⟩ := List.mem_flatMap.1 hv
  exact h x v hx
end
structure Sl where
  a : Option Addr
  n : Nat
  c : Nat
def Sl.v (s : Sl) : Value := .slice s.a s.n s.c
def Sl.blk (s : Sl) : Option Nat := s.a.map (·.block)
def Sl.fit (s : Sl) : Prop := s.n ≤ s.c ∧ s.c ≤ 9223372036854775807
abbrev TV := Tm.Tg × Sl
abbrev EV := Im.Wt × Sl
def tcs (x : TV) : List Value := [.int .i64 x.1.st, .int .i64 x.1.ep, .int .i64 x.1.sq, .int .i64 x.1.tm, .int .i64 x.1.kd, x.2.v]
def ecs (x : EV) : List Value := [.int .i64 x.1.st, .int .i64 x.1.ep, .int .i64 x.1.nx, x.2.v]
theorem tcs_len (x : TV) : (tcs x).length = 6 := rfl
theorem ecs_len (x : EV) : (ecs x).length = 4 := rfl
theorem tcs_one (x : TV) : ∀ v ∈ tcs x, v.oneCell' = true := by
  intro v hv
  simp only [tcs, List.mem_cons, List.not_mem_nil, or_false] at hv
  rcases hv with rfl | rfl | rfl | rfl | rfl | rfl <;> rfl
theorem ecs_one (x : EV) : ∀ v ∈ ecs x, v.oneCell' = true := by
  intro v hv
  simp only [ecs, List.mem_cons, List.not_mem_nil, or_false] at hv
  rcases hv with rfl | rfl | rfl | rfl <;> rfl
def f6 (xs : List TV) : List Value := xs.flatMap tcs
def f4 (xs : List EV) : List Value := xs.flatMap ecs
structure VI (w : World) (L : List Nat) (s : Sl) (vs : List Int) : Prop where
  fit : s.fit
  big : s.n ≤ 17592186044416
  ir : IR w s.a s.n vs
  off : ∀ b, s.blk = some b → 0 < s.n → b ∉ L
theorem VI.step {w w' : World} {L L' : List Nat} {s : Sl} {vs : List Int} (h : VI w L s vs) (g : Chg L w w') (hL : ∀ b ∈ L', b ∈ L ∨ w.heap.size ≤ b) : VI w' L' s vs := by
  refine ⟨h.fit, h.big, ⟨h.ir.1, fun i hi => ?_⟩, fun b hb hn hl => ?_⟩
  · obtain ⟨b, off, e, hc⟩ := h.ir.2 i hi
    exact ⟨b, off, e, g.cell hc (h.off b (by rw [Sl.blk, e]; rfl) (by omega))⟩
  · rcases hL b hl with k | k
    · exact h.off b hb hn k
    · obtain ⟨b', off, e, hc⟩ := h.ir.2 0 hn
      have hb' : b = b' := by rw [Sl.blk, e] at hb; injection hb with hb; exact hb.symm
      have := World.block_lt_of_cell? _ _ hc
      simp only at this
      omega
theorem VI.grown {w w' : World} {L : List Nat} {s : Sl} {vs : List Int} (h : VI w L s vs) (g : w.grownBy w' none) : VI w' L s vs := h.step (Chg.of0 g) (fun _ hb => .inl hb)
theorem VI.free {w : World} {L : List Nat} {s : Sl} {vs : List Int} (h : VI w L s vs) : VI w [] s vs := ⟨h.fit, h.big, h.ir, fun _ _ _ h => by cases h⟩
theorem VI.fresh {w : World} {L : List Nat} {s : Sl} {vs : List Int} (h : VI w [] s vs) (hf : 0 < s.n → ∀ b, s.blk = some b → b ∉ L) : VI w L s vs := ⟨h.fit, h.big, h.ir, fun b hb hn => hf hn b hb⟩
structure TR (w : World) (s : Sl) (ts : List Tm.Tg) : Prop where
  fit : s.fit
  len : ts.length = s.n
  at_ : ∀ i, i < s.n → ∃ b off V, s.a = some ⟨b, off, none⟩ ∧ VI w [] V (ts.getD i Tm.zero).vs ∧ ∀ j u, (tcs (ts.getD i Tm.zero, V))[j]? = some u → w.cell? ⟨b, off + (i * 6 + j), none⟩ = some u
theorem TR.grown {w w' : World} {s : Sl} {ts : List Tm.Tg} (h : TR w s ts) (g : w.grownBy w' none) : TR w' s ts :=
  ⟨h.fit, h.len, fun i hi => by obtain ⟨b, off, V, e, hv, hc⟩ := h.at_ i hi; exact ⟨b, off, V, e, hv.grown g, fun j u hu => g.cell (hc j u hu) (by simp)⟩⟩
structure ER (w : World) (s : Sl) (es : List Im.Wt) : Prop where
  fit : s.fit
  len : es.length = s.n
  at_ : ∀ i, i < s.n → ∃ b off H, s.a = some ⟨b, off, none⟩ ∧ TR w H (es.getD i ⟨0, 0, 0, []⟩).held ∧ ∀ j u, (ecs (es.getD i ⟨0, 0, 0, []⟩, H))[j]? = some u → w.cell? ⟨b, off + (i * 4 + j), none⟩ = some u
theorem ER.grown {w w' : World} {s : Sl} {es : List Im.Wt} (h : ER w s es) (g : w.grownBy w' none) : ER w' s es :=
  ⟨h.fit, h.len, fun i hi => by obtain ⟨b, off, H, e, ht, hc⟩ := h.at_ i hi; exact ⟨b, off, H, e, ht.grown g, fun j u hu => g.cell (hc j u hu) (by simp)⟩⟩
structure Ik where
  win : Int
  tail : List UInt8
  es : List Im.Wt
def iv3 (win : Int) (T E : Sl) : Value := .agg #[.int .i64 win, T.v, E.v]
structure KR (w : World) (T E : Sl) (k : Ik) : Prop where
  fit : T.fit
  tl : RB w T.a T.n k.tail
  es : ER w E k.es
theorem KR.grown {w w' : World} {T E : Sl} {k : Ik} (h : KR w T E k) (g : w.grownBy w' none) : KR w' T E k := ⟨h.fit, h.tl.grown g, h.es.grown g⟩
def heldOk (st ep : Int) : Int → List Tm.Tg → Bool
  | _, [] => true
  | last, t :: r => t.ok && (decide (t.st = st) && (decide (t.ep = ep) && (decide (last < t.sq) && heldOk st ep t.sq r)))
def waitOk (win : Int) (w : Im.Wt) : Bool := Tm.upTo w.st 255 && (Tm.upTo w.ep 255 && (Tm.upTo w.nx 2147483649 && (decide ((w.held.length : Int) ≤ win) && heldOk w.st w.ep w.nx w.held)))
def rowOk (win : Int) : Int → List Im.Wt → Bool
  | _, [] => true
  | least, w :: r => decide (least ≤ w.st) && (waitOk win w && rowOk win (w.st + 1) r)
def plain (c : List UInt8) : Bool := c.all fun x => decide (x ≠ 126 ∧ x ≠ 124)
def tailOk : List UInt8 → Bool
  | [] => true
  | x :: r => decide (x = 126) && plain r
def Ik.ok (k : Ik) : Bool := Tm.upTo k.win 16 && (decide (k.tail.length ≤ 400) && (tailOk k.tail && (decide (k.es.length ≤ 64) && rowOk k.win 0 k.es)))
theorem heldOk_iff {st ep last : Int} {l : List Tm.Tg} : heldOk st ep last l = true ↔ Im.Asc last l ∧ ∀ t ∈ l, t.ok = true ∧ t.st = st ∧ t.ep = ep := by
  induction l generalizing last with
  | nil => simp [heldOk, Im.Asc]
  | cons t r ih =>
    simp only [heldOk, Bool.and_eq_true, decide_eq_true_eq, ih, Im.Asc, List.mem_cons, forall_eq_or_imp]
    constructor
    · rintro ⟨h1, h2, h3, h4, h5, h6⟩; exact ⟨⟨h4, h5⟩, ⟨h1, h2, h3⟩, h6⟩
    · rintro ⟨⟨h4, h5⟩, ⟨h1, h2, h3⟩, h6⟩; exact ⟨h1, h2, h3, h4, h5, h6⟩
theorem waitOk_iff {win : Int} {w : Im.Wt} : waitOk win w = true ↔ Im.WOk win w := by
  simp only [waitOk, Bool.and_eq_true, decide_eq_true_eq, Tm.upTo_iff, heldOk_iff]
  constructor
  · rintro ⟨h1, h2, h3, h4, h5, h6⟩; exact ⟨h5, h6, h4, h1, h2, h3⟩
  · rintro ⟨h5, h6, h4, h1, h2, h3⟩; exact ⟨h1, h2, h3, h4, h5, h6⟩
theorem rowOk_iff {win least : Int} {l : List Im.Wt} : rowOk win least l = true ↔ Im.SAsc (least - 1) l ∧ ∀ w ∈ l, Im.WOk win w := by
  induction l generalizing least with
  | nil => simp [rowOk, Im.SAsc]
  | cons w r ih =>
    simp only [rowOk, Bool.and_eq_true, decide_eq_true_eq, ih, waitOk_iff, Im.SAsc, List.mem_cons, forall_eq_or_imp, Int.add_sub_cancel]
    constructor
    · rintro ⟨h1, h2, h3, h4⟩; exact ⟨⟨by omega, h3⟩, h2, h4⟩
    · rintro ⟨⟨h1, h3⟩, h2, h4⟩; exact ⟨by omega, h2, h3, h4⟩
theorem tailOk_iff {c : List UInt8} : tailOk c = true ↔ c = [] ∨ Im.IsTail c := by
  cases c with
  | nil => simp [tailOk]
  | cons x r =>
    simp only [tailOk, plain, Bool.and_eq_true, decide_eq_true_eq, List.all_eq_true, Im.IsTail]
    constructor
    · rintro ⟨rfl, h⟩; exact .inr ⟨r, rfl, h⟩
    · rintro (h | ⟨r', e, h⟩)
      · cases h
      · injection e with e1 e2; subst e1; subst e2; exact ⟨rfl, h⟩
theorem Ik.ok_iff {k : Ik} : k.ok = true ↔ (0 ≤ k.win ∧ k.win ≤ 16) ∧ k.tail.length ≤ 400 ∧ (k.tail = [] ∨ Im.IsTail k.tail) ∧ Im.SOk k.win k.es := by
  simp only [Ik.ok, Bool.and_eq_true, decide_eq_true_eq, Tm.upTo_iff, tailOk_iff, rowOk_iff]
  constructor
  · rintro ⟨h1, h2, h3, h4, h5, h6⟩; exact ⟨h1, h2, h3, h5, h6, h4⟩
  · rintro ⟨h1, h2, h3, h5, h6, h4⟩; exact ⟨h1, h2, h3, h4, h5, h6⟩
end Go.Proofs.YticmoaebegahgaaGreatDoor.Iw
namespace Go.Proofs.YticmoaebegahgaaGreatDoor.Iw
open Go.ChangeShapes Go.WideShapes Go.ChangeAt Go.RowKit
open Wr (IR RB iv ivs grown_trans grown_refl ret_int ret_bool)
theorem iupto_any (n m : Int) (w : World) : Calls Tryz.prog 28 #[.int .i64 n, .int .i64 m] w fun e w' => e = .returned (.bool (Tm.upTo n m)) ∧ w = w' := by
  by_cases h : 0 ≤ n
  · by_cases h2 : n ≤ m
    · have E := Hi (Tm.upTo_iff.2 ⟨h, h2⟩)
      go_enter Tryz.func28, Tryz.ntmps28
      go_wp2
      go_ret
      exact ⟨ret_bool E.out.symm, rfl⟩
    · have E := Hi (show Tm.upTo n m = false by simp [Tm.upTo, h2])
      go_enter Tryz.func28, Tryz.ntmps28
      go_wp2
      go_ret
      exact ⟨ret_bool E.out.symm, rfl⟩
  · have E := Hi (show Tm.upTo n m = false by simp [Tm.upTo, h])
    go_enter Tryz.func28, Tryz.ntmps28
    go_wp2
    go_ret
    exact ⟨ret_bool E.out.symm, rfl⟩
theorem iupto_at {n m : Int} {b : Bool} (w : World) (h : Tm.upTo n m = b) : Calls Tryz.prog 28 #[.int .i64 n, .int .i64 m] w fun e w' => e = .returned (.bool b) ∧ w = w' := by
  subst h; exact iupto_any n m w
def LastIs (l : List UInt8) (r : Int) : Prop := (r = -1 ∧ ∀ j, j < l.length → l.getD j 0 ≠ 126) ∨ ∃ i : Nat, r = i ∧ i < l.length ∧ l.getD i 0 = 126 ∧ ∀ j, i < j → j < l.length → l.getD j 0 ≠ 126
theorem ub (x : UInt8) (k : Nat) (hk : k < 256) : ((x.toNat : Int) = (k : Int)) ↔ x = UInt8.ofNat k := by
  constructor
  · intro h
    apply UInt8.toNat_inj.1
    rw [UInt8.toNat_ofNat_of_lt' (by simpa using hk)]
    omega
  · rintro rfl
    rw [UInt8.toNat_ofNat_of_lt' (by simpa using hk)]
theorem lastix_any (A : Option Addr) (n c : Nat) (l : List UInt8) (w : World) (h : RB w A n l) (hn : n ≤ 4611686018427387904) :
    Calls Tryz.prog 68 #[.slice A n c, .int .u8 126] w fun e w' => (∃ r, e = .returned (.int .i64 r) ∧ LastIs l r) ∧ w = w' := by
  have HB := Hi h
  clear h
  go_enter Tryz.func68, Tryz.ntmps68
  go_wp2
  go_loopw [5] (fun i wr => ∃ k : Nat, i = .int .i64 ((k : Int) - 1) ∧ k ≤ n ∧ w = wr ∧ Hid (∀ j, k ≤ j → j < n → l.getD j 0 ≠ 126)) (fun i _ => (intOf i + 1).toNat)
  case atStart => exact ⟨n, rfl, by omega, rfl, fun j h1 h2 => by omega⟩
  case round =>
    obtain ⟨k, rfl, hk, rfl, P⟩ := hrel
    rcases Nat.eq_zero_or_pos k with rfl | h0
    · have P := P.out
      have hl := HB.out.1
      go_wp2
      go_ret
      exact ⟨⟨_, rfl, .inl ⟨rfl, fun j hj => P j (by omega) (by omega)⟩⟩, rfl⟩
    · obtain ⟨q, rfl⟩ : ∃ q, k = q + 1 := ⟨k - 1, by omega⟩
      obtain ⟨b, off, rfl, cc⟩ := HB.out.2 q (by omega)
      have e1 : (((q + 1 : Nat) : Int) - 1) = (q : Int) := by omega
      simp only [e1]
      have hl := Hi HB.out.1
      obtain ⟨x, hx0⟩ : ∃ x, x = l.getD q 0 := ⟨_, rfl⟩
      rw [← hx0] at cc
      have hx := Hi hx0
      clear hx0
      by_cases h1 : x = 126
      · have cc : w.cell? ⟨b, off + q, none⟩ = some (.int .u8 126) := by rw [cc, h1]; rfl
        have h1 := Hi h1
        go_wp2
        go_ret
        refine ⟨⟨_, rfl, .inr ⟨q, rfl, ?_, ?_, ?_⟩⟩, rfl⟩
        · have := hl.out; omega
        · rw [← hx.out]; exact h1.out
        · intro j h2 h3; exact P.out j (by omega) (by have := hl.out; omega)
      · have h2 : ¬ ((x.toNat : Int) = 126) := fun e => h1 ((ub x 126 (by omega)).1 e)
        have h1 := Hi h1
        go_wp2
        go_roundw
        case rel =>
          refine ⟨q, by go_num, by omega, by trivial, fun j h3 h4 => ?_⟩
          by_cases e : j = q
          · subst e; rw [← hx.out]; exact h1.out
          · exact P.out j (by omega) h4
        case measure => simp [intOf]
theorem lastindex_any (A : Option Addr) (n c : Nat) (l : List UInt8) (w : World) (h : RB w A n l) (hn : n ≤ 4611686018427387904) :
    Calls Tryz.prog 46 #[.slice A n c, .int .u8 126] w fun e w' => (∃ r, e = .returned (.int .i64 r) ∧ LastIs l r) ∧ w = w' := by
  have H := Hi (lastix_any A n c l w h hn)
  clear h
  go_enter Tryz.func46, Tryz.ntmps46
  go_wp2_with fail
  refine (H.out).mono ?_
  rintro e w1 ⟨⟨r, rfl, hr⟩, rfl⟩
  have hr := Hi hr
  go_wp2
  go_ret
  exact ⟨⟨_, rfl, hr.out⟩, rfl⟩
theorem indexByte_neg (l : List UInt8) (x : UInt8) : Lib.indexByte l x = -1 ↔ ∀ y ∈ l, y ≠ x := by
  induction l with
  | nil => simp [Lib.indexByte]
  | cons b t ih =>
    have g := Lib.indexByte_ge t x
    unfold Lib.indexByte
    by_cases h : b = x
    · simp [h]
    · simp only [beq_iff_eq, h, if_false, List.mem_cons, forall_eq_or_imp, ne_eq, not_false_eq_true, true_and]
      rw [← ih]
      split <;> omega
def nums (l : List UInt8) : List Int := l.map fun x => (x.toNat : Int)
theorem bytesOf_nums (l : List UInt8) : Lib.bytesOf (nums l) = l := by
  induction l with
  | nil => rfl
  | cons x t ih =>
    have e : Lib.bytesOf (nums (x :: t)) = UInt8.ofNat ((x.toNat : Int).toNat) :: Lib.bytesOf (nums t) := rfl
    rw [e, ih]; simp
def FirstIs (l : List UInt8) (r : Int) : Prop := -1 ≤ r ∧ (r = -1 ↔ ∀ y ∈ l, y ≠ 124)
set_option maxRecDepth 100000 in
theorem index_any (b off n c : Nat) (l : List UInt8) (w : World) (h : RB w (some ⟨b, off, none⟩) n l) :
    Calls Tryz.prog 47 #[.slice (some ⟨b, off, none⟩) n c, .int .u8 124] w fun e w' => (∃ r, e = .returned (.int .i64 r) ∧ FirstIs l r) ∧ w = w' := by
  have hx : (nums l).length = n := by rw [nums, List.length_map]; exact h.1
  have hc : ∀ i, i < n → w.cell? ⟨b, off + i, none⟩ = some (.int .u8 ((nums l).getD i 0)) := by
    intro i hi
    obtain ⟨b', off', e, cc⟩ := h.2 i hi
    injection e with e
    injection e with e1 e2
    subst e1; subst e2
    rw [cc]
    have hl := h.1
    simp [nums, List.getD, List.getElem?_eq_getElem (show i < l.length by omega)]
  have hr := Lib.run_indexByteSlice (P := Tryz.prog) w b off n c (nums l) hx hc 124
  rw [bytesOf_nums] at hr
  have F := Hi (show FirstIs l (Lib.indexByte l 124) from ⟨Lib.indexByte_ge l 124, indexByte_neg l 124⟩)
  have e1 : (124 : Int).toNat.toUInt8 = 124 := rfl
  rw [e1] at hr
  generalize Lib.indexByte l 124 = r at hr F
  clear h hx hc
  go_enter Tryz.func47, Tryz.ntmps47
  go_wp2
  rw [run_callFunc_extern Tryz.func69 (by kernel_rfl) (by kernel_rfl) (by kernel_rfl) (e := Extern.BytealgIndexByte.indexByte) (by kernel_rfl), hr]
  simp only [Result.andThen]
  rw [Oper.upon_value]
  go_wp2
  go_ret
  exact ⟨⟨_, rfl, F.out⟩, rfl⟩
theorem gd {l : List UInt8} {i : Nat} (h : i < l.length) : l.getD i 0 = l[i] := by simp [List.getD, h]
theorem scan_none {l : List UInt8} (h : ∀ j, j < l.length → l.getD j 0 ≠ 126) : (Im.scan none l).cur = none := by
  rw [Im.scan_noise]
  intro x hx
  obtain ⟨i, hi, rfl⟩ := List.mem_iff_getElem.1 hx
  have := h i hi
  rwa [gd hi] at this
theorem fscan_last (o : List (List UInt8)) (c : Option (List UInt8)) (r : List UInt8) (h : ∀ x ∈ r, x ≠ 126) : (Im.fscan ⟨o, c⟩ r).cur = if ∀ y ∈ r, y ≠ 124 then c.map (· ++ r) else none := by
  induction r generalizing o c with
  | nil => cases c <;> simp [Im.fscan]
  | cons x t ih =>
    have hx := h x (by simp)
    have ht := fun y hy => h y (List.mem_cons_of_mem x hy)
    rw [Im.fscan_cons]
    by_cases e : x = 124
    · subst e
      have e2 : (Im.fstep ⟨o, c⟩ 124).cur = none := by cases c <;> simp [Im.fstep]
      obtain ⟨o', hs⟩ : ∃ o', Im.fstep ⟨o, c⟩ 124 = ⟨o', none⟩ := ⟨_, by rw [← e2]⟩
      rw [hs, ih _ _ ht]
      simp
    · have e2 : (Im.fstep ⟨o, c⟩ x) = ⟨o, c.map (· ++ [x])⟩ := by cases c <;> simp [Im.fstep, hx, e]
      rw [e2, ih _ _ ht]
      cases c <;> simp [e]
theorem scan_last {l : List UInt8} {i : Nat} (hi : i < l.length) (h : l.getD i 0 = 126) (hn : ∀ j, i < j → j < l.length → l.getD j 0 ≠ 126) :
    (Im.scan none l).cur = if ∀ y ∈ l.drop i, y ≠ 124 then some (l.drop i) else none := by
  have e1 : l = l.take i ++ (126 :: l.drop (i + 1)) := by
    rw [gd hi] at h
    rw [← h, ← List.drop_eq_getElem_cons hi, List.take_append_drop]
  have e2 : l.drop i = 126 :: l.drop (i + 1) := by
    rw [gd hi] at h
    rw [List.drop_eq_getElem_cons hi, h]
  have h3 : ∀ x ∈ l.drop (i + 1), x ≠ 126 := by
    intro x hx
    obtain ⟨j, hj, rfl⟩ := List.mem_iff_getElem.1 hx
    rw [List.length_drop] at hj
    rw [List.getElem_drop]
    have := hn (i + 1 + j) (by omega) (by omega)
    rwa [gd (by omega)] at this
  conv => lhs; rw [e1]
  unfold Im.scan
  rw [Im.fscan_append, Im.fscan_cons]
  obtain ⟨o, ho⟩ : ∃ o, Im.fstep (Im.fscan ⟨[], none⟩ (l.take i)) 126 = ⟨o, some [126]⟩ := ⟨_, by unfold Im.fstep; rw [if_pos rfl]⟩
  rw [ho, fscan_last _ _ _ h3, e2]
  simp
def TlEnd (A : Option Addr) (n c : Nat) (l : List UInt8) (w : World) (e : Ending) (w' : World) : Prop :=
  w = w' ∧ ((e = .returned (.slice none 0 0) ∧ (Im.scan none l).cur = none) ∨ ∃ (b off i : Nat), A = some ⟨b, off, none⟩ ∧ i < n ∧ e = .returned (.slice (some ⟨b, off + i, none⟩) (n - i) (c - i)) ∧ (Im.scan none l).cur = some (l.drop i))
theorem rb_drop {w : World} {b off n : Nat} {l : List UInt8} (h : RB w (some ⟨b, off, none⟩) n l) (i : Nat) : RB w (some ⟨b, off + i, none⟩) (n - i) (l.drop i) := by
  refine ⟨by rw [List.length_drop, h.1], fun j hj => ?_⟩
  obtain ⟨b', off', e, cc⟩ := h.2 (i + j) (by omega)
  injection e with e
  injection e with e1 e2
  subst e1; subst e2
  refine ⟨_, _, rfl, ?_⟩
  rw [Nat.add_assoc, cc]
  simp [List.getD, List.getElem?_drop]
theorem tailof_any (A : Option Addr) (n c : Nat) (l : List UInt8) (w : World) (h : RB w A n l) (hc : n ≤ c) (hn : n ≤ 4611686018427387904) :
    Calls Tryz.prog 25 #[.slice A n c] w (TlEnd A n c l w) := by
  have HB := Hi h
  have H := Hi (lastindex_any A n c l w h hn)
  clear h
  go_enter Tryz.func25, Tryz.ntmps25
  go_wp2_with fail
  refine (H.out).mono ?_
  rintro e w1 ⟨⟨r, rfl, hr⟩, rfl⟩
  rcases hr with ⟨rfl, hr⟩ | ⟨i, rfl, hi, hx, hj⟩
  · have hr := Hi hr
    go_wp2
    go_ret
    exact ⟨rfl, .inl ⟨rfl, scan_none hr.out⟩⟩
  · have hl := HB.out.1
    have hi2 : i < n := by omega
    obtain ⟨b, off, rfl, _⟩ := HB.out.2 i hi2
    have S := Hi (scan_last hi hx hj)
    have I := Hi (fun c' => index_any b (off + i) (n - i) c' (l.drop i) w (rb_drop HB.out i))
    clear hx hj hl
    have hb : ¬ ((c : Nat) = i) := by omega
    go_wp2_with fail
    refine (I.out _).mono ?_
    rintro e w1 ⟨⟨r, rfl, hr⟩, rfl⟩
    obtain ⟨h1, h2⟩ := hr
    by_cases h3 : r = -1
    · subst h3
      have S := Hi ((show (Im.scan none l).cur = some (l.drop i) by rw [S.out, if_pos (h2.1 rfl)]))
      clear h1 h2
      go_wp2
      go_ret
      exact ⟨rfl, .inr ⟨b, off, i, rfl, hi2, rfl, S.out⟩⟩
    · have h4 : 0 ≤ r := by omega
      have S := Hi ((show (Im.scan none l).cur = none by rw [S.out, if_neg (fun k => h3 (h2.2 k))]))
      clear h1 h2
      go_wp2
      go_ret
      exact ⟨rfl, .inl ⟨rfl, S.out⟩⟩
theorem tail_of_cur {l : List UInt8} {i : Nat} (h : (Im.scan none l).cur = some (l.drop i)) (hi : i < l.length) : tailOk l = decide (l.length - i = l.length) := by
  by_cases e : i = 0
  · subst e
    have ht := Im.fscan_tail l ⟨[], none⟩ (by intro t ht; cases ht) l h
    rw [tailOk_iff.2 (.inr ht)]; simp
  · have : tailOk l = false := by
      rcases Bool.eq_false_or_eq_true (tailOk l) with k | k
      · rcases tailOk_iff.1 k with rfl | k
        · simp at hi
        · rw [Im.scan_tail k] at h
          injection h with h
          have := congrArg List.length h
          rw [List.length_drop] at this
          omega
      · exact k
    rw [this]; symm; simp; omega
theorem tail_of_none {l : List UInt8} (h : (Im.scan none l).cur = none) : tailOk l = decide (0 = l.length) := by
  cases l with
  | nil => rfl
  | cons x r =>
    rcases Bool.eq_false_or_eq_true (tailOk (x :: r)) with k | k
    · rcases tailOk_iff.1 k with k' | k'
      · cases k'
      · rw [Im.scan_tail k'] at h; cases h
    · rw [k]; rfl
set_option maxHeartbeats 1000000 in
theorem istail_any (A : Option Addr) (n c : Nat) (l : List UInt8) (w : World) (h : RB w A n l) (hc : n ≤ c) (hn : n ≤ 4611686018427387904) :
    Calls Tryz.prog 51 #[.slice A n c] w fun e w' => e = .returned (.bool (decide (l.length ≤ 400) && tailOk l)) ∧ w = w' := by
  have H := Hi (tailof_any A n c l w h hc hn)
  have hl := h.1
  clear h
  by_cases h4 : n ≤ 400
  · go_enter Tryz.func51, Tryz.ntmps51
    go_wp2_with fail
    refine (H.out).mono ?_
    rintro e w1 ⟨rfl, hr⟩
    rcases hr with ⟨rfl, hr⟩ | ⟨b, off, i, rfl, hi, rfl, hr⟩
    · have E := Hi (show (decide (l.length ≤ 400) && tailOk l) = ((0 : Int) == (n : Int)) by rw [tail_of_none hr, hl, Bool.eq_iff_iff]; simp [h4]; omega)
      clear hr hl
      go_wp2
      go_ret
      exact ⟨ret_bool E.out.symm, rfl⟩
    · have E := Hi (show (decide (l.length ≤ 400) && tailOk l) = (((n - i : Nat) : Int) == (n : Int)) by rw [tail_of_cur hr (by omega), hl, Bool.eq_iff_iff]; simp [h4]; omega)
      clear hr hl
      go_wp2
      go_ret
      exact ⟨ret_bool E.out.symm, rfl⟩
  · have E := Hi (show (decide (l.length ≤ 400) && tailOk l) = false by rw [hl]; simp [h4])
    clear hl
    go_enter Tryz.func51, Tryz.ntmps51
    go_wp2
    go_ret
    exact ⟨ret_bool E.out.symm, rfl⟩
end Go.Proofs.YticmoaebegahgaaGreatDoor.Iw
namespace Go.Proofs.YticmoaebegahgaaGreatDoor.Iw
open Go.ChangeShapes Go.WideShapes Go.ChangeAt Go.RowKit
open Wr (IR RB iv ivs grown_trans grown_refl grown_alloc ret_int ret_bool tv Ret ret_mk)
def wv (w : Im.Wt) (H : Sl) : Value := .agg #[.int .i64 w.st, .int .i64 w.ep, .int .i64 w.nx, H.v]
theorem six_of {w : World} {b o : Nat} {x : TV} (h : ∀ j u, (tcs x)[j]? = some u → w.cell? ⟨b, o + j, none⟩ = some u) :
    w.cell? ⟨b, o, none⟩ = some (.int .i64 x.1.st) ∧ w.cell? ⟨b, o + 1, none⟩ = some (.int .i64 x.1.ep) ∧ w.cell? ⟨b, o + 2, none⟩ = some (.int .i64 x.1.sq) ∧ w.cell? ⟨b, o + 3, none⟩ = some (.int .i64 x.1.tm) ∧ w.cell? ⟨b, o + 4, none⟩ = some (.int .i64 x.1.kd) ∧ w.cell? ⟨b, o + 5, none⟩ = some x.2.v :=
  ⟨h 0 _ rfl, h 1 _ rfl, h 2 _ rfl, h 3 _ rfl, h 4 _ rfl, h 5 _ rfl⟩
theorem four_of {w : World} {b o : Nat} {x : EV} (h : ∀ j u, (ecs x)[j]? = some u → w.cell? ⟨b, o + j, none⟩ = some u) :
    w.cell? ⟨b, o, none⟩ = some (.int .i64 x.1.st) ∧ w.cell? ⟨b, o + 1, none⟩ = some (.int .i64 x.1.ep) ∧ w.cell? ⟨b, o + 2, none⟩ = some (.int .i64 x.1.nx) ∧ w.cell? ⟨b, o + 3, none⟩ = some x.2.v :=
  ⟨h 0 _ rfl, h 1 _ rfl, h 2 _ rfl, h 3 _ rfl⟩
theorem valid_at {t : Tm.Tg} {V : Sl} {r : Bool} {w : World} (h : VI w [] V t.vs) (hr : t.ok = r) : Calls Tryz.prog 33 #[tv t V.v] w (Ret (.bool r) w) := by
  subst hr
  have hb := h.big
  exact Wr.valid_any t V.a V.n V.c w h.ir (by omega)
theorem held_at {st ep last : Int} {ts : List Tm.Tg} {k : Nat} {t : Tm.Tg} (h : ts[k]? = some t) : heldOk st ep last (ts.drop k) = (t.ok && (decide (t.st = st) && (decide (t.ep = ep) && (decide (last < t.sq) && heldOk st ep t.sq (ts.drop (k + 1)))))) := by
  have hk : k < ts.length := by rcases Nat.lt_or_ge k ts.length with h' | h'; exact h'; rw [List.getElem?_eq_none h'] at h; cases h
  rw [List.getElem?_eq_getElem hk] at h
  injection h with h
  rw [List.drop_eq_getElem_cons hk, h]
  rfl
theorem getD_of {ts : List Tm.Tg} {k : Nat} (h : k < ts.length) : ts[k]? = some (ts.getD k Tm.zero) := by simp [List.getD, h]
set_option maxHeartbeats 1000000 in
theorem areheld_any (x : Im.Wt) (H : Sl) (w : World) (h : TR w H x.held) :
    Calls Tryz.prog 71 #[wv x H] w (Ret (.bool (heldOk x.st x.ep x.nx x.held)) w) := by
  have hf := h.fit
  have hl := h.len
  have HB := Hi h
  clear h
  obtain ⟨st, ep, nx, ts⟩ := x
  obtain ⟨A, n, c⟩ := H
  unfold Sl.fit at hf
  dsimp only [wv, Sl.v] at *
  obtain ⟨w1, hw1⟩ : ∃ w1, w1 = w.alloc (Obj.cells #[.int .i64 st, .int .i64 ep, .int .i64 nx, .slice A n c] 32) := ⟨_, rfl⟩
  have K0 : w1.cell? ⟨w.heap.size, 0, none⟩ = some (.int .i64 st) := by subst hw1; go_simp
  have K1 : w1.cell? ⟨w.heap.size, 1, none⟩ = some (.int .i64 ep) := by subst hw1; go_simp
  have K2 : w1.cell? ⟨w.heap.size, 2, none⟩ = some (.int .i64 nx) := by subst hw1; go_simp
  have K3 : w1.cell? ⟨w.heap.size, 3, none⟩ = some (.slice A n c) := by subst hw1; go_simp
  have G : Hid (w.grownBy w1 none) := by subst hw1; exact Hi (World.grownBy_alloc _ _ _)
  go_enter Tryz.func71, Tryz.ntmps71
  go_wp2
  rw [← hw1]
  clear hw1
  go_loopw [3, 11] (fun l3 i wr => ∃ (k : Nat) (last : Int), i = .int .i64 k ∧ l3 = .int .i64 last ∧ k ≤ n ∧ Hid (w1.grownBy wr none) ∧ Hid (heldOk st ep nx ts = heldOk st ep last (ts.drop k))) (fun _ i _ => n - (intOf i).toNat)
  case atStart => exact ⟨0, nx, rfl, rfl, by omega, grown_refl _ _, rfl⟩
  case round =>
    obtain ⟨k, last, rfl, rfl, hk, GW, P⟩ := hrel
    have K0 := GW.out.cell K0 (by simp)
    have K1 := GW.out.cell K1 (by simp)
    have K2 := GW.out.cell K2 (by simp)
    have K3 := GW.out.cell K3 (by simp)
    by_cases hlt : k < n
    · obtain ⟨b, off, V, rfl, hv, hc⟩ := (HB.out.grown (grown_trans G.out GW.out)).at_ k hlt
      have P := Hi (P.out.trans (held_at (getD_of (by omega))))
      simp only [← Nat.add_assoc] at hc
      obtain ⟨c0, c1, c2, c3, c4, c5⟩ := six_of hc
      clear hc
      generalize ts.getD k Tm.zero = t at *
      obtain ⟨Va, Vn, Vc⟩ := V
      dsimp only [Sl.v] at c5
      have HV := Hi hv
      clear hv
      rcases Bool.eq_false_or_eq_true t.ok with h1 | h1
      · rw [h1] at P
        have X := Hi (fun (W : World) (hW : VI W [] ⟨Va, Vn, Vc⟩ t.vs) => valid_at (r := true) hW h1)
        clear h1
        go_wp2_with fail
        refine (X.out _ (HV.out.grown (grown_alloc _ _ _))).mono ?_
        rintro e w2 ⟨rfl, G2⟩
        obtain ⟨d0, d1, d2, d3, d4, d5⟩ := Wr.boxed_at G2
        have G3 := grown_trans (grown_alloc wr _ none) G2
        have K0 := G3.cell K0 (by simp)
        have K1 := G3.cell K1 (by simp)
        have K2 := G3.cell K2 (by simp)
        have K3 := G3.cell K3 (by simp)
        have GW := Hi (grown_trans GW.out G3)
        clear G2 G3
        by_cases h1 : t.st = st
        · by_cases h2 : t.ep = ep
          · by_cases h3 : last < t.sq
            · have P := Hi (P.out.trans (by simp [h1, h2, h3] : _ = heldOk st ep t.sq (ts.drop (k + 1))))
              have h3' : ¬ t.sq ≤ last := by omega
              go_wp2
              go_roundw
              case rel => exact ⟨k + 1, t.sq, by go_num, rfl, by omega, GW, P⟩
              case measure => simp [intOf]; omega
            · have P := Hi (P.out.trans (by simp [h1, h2, h3] : _ = false))
              have h3' : t.sq ≤ last := by omega
              go_wp2
              go_ret
              exact ret_mk P.out.symm (grown_trans G.out GW.out)
          · have P := Hi (P.out.trans (by simp [h1, h2] : _ = false))
            go_wp2
            go_ret
            exact ret_mk P.out.symm (grown_trans G.out GW.out)
        · have P := Hi (P.out.trans (by simp [h1] : _ = false))
          go_wp2
          go_ret
          exact ret_mk P.out.symm (grown_trans G.out GW.out)
      · rw [h1, Bool.false_and] at P
        have X := Hi (fun (W : World) (hW : VI W [] ⟨Va, Vn, Vc⟩ t.vs) => valid_at (r := false) hW h1)
        clear h1
        go_wp2_with fail
        refine (X.out _ (HV.out.grown (grown_alloc _ _ _))).mono ?_
        rintro e w2 ⟨rfl, G2⟩
        have G3 := grown_trans (grown_alloc wr _ none) G2
        have GW := Hi (grown_trans GW.out G3)
        clear G2 G3
        go_wp2
        go_ret
        exact ret_mk P.out.symm (grown_trans G.out GW.out)
    · obtain rfl : k = n := by omega
      have P := Hi (P.out.trans (by rw [List.drop_of_length_le (by omega)]; rfl : _ = true))
      go_wp2
      go_ret
      exact ret_mk P.out.symm (grown_trans G.out GW.out)
set_option maxHeartbeats 1000000 in
theorem iswaiting_any (x : Im.Wt) (H : Sl) (win : Int) (w : World) (h : TR w H x.held) :
    Calls Tryz.prog 52 #[wv x H, .int .i64 win] w (Ret (.bool (waitOk win x)) w) := by
  have X := Hi (fun W => areheld_any x H W)
  have hl := h.len
  have HB := Hi h
  clear h
  have OK := Hi (show waitOk win x = (Tm.upTo x.st 255 && (Tm.upTo x.ep 255 && (Tm.upTo x.nx 2147483649 && (decide ((H.n : Int) ≤ win) && heldOk x.st x.ep x.nx x.held)))) by unfold waitOk; rw [hl])
  clear hl
  obtain ⟨st, ep, nx, ts⟩ := x
  obtain ⟨A, n, c⟩ := H
  dsimp only [wv, Sl.v] at *
  obtain ⟨w1, hw1⟩ : ∃ w1, w1 = w.alloc (Obj.cells #[.int .i64 st, .int .i64 ep, .int .i64 nx, .slice A n c] 32) := ⟨_, rfl⟩
  have K0 : w1.cell? ⟨w.heap.size, 0, none⟩ = some (.int .i64 st) := by subst hw1; go_simp
  have K1 : w1.cell? ⟨w.heap.size, 1, none⟩ = some (.int .i64 ep) := by subst hw1; go_simp
  have K2 : w1.cell? ⟨w.heap.size, 2, none⟩ = some (.int .i64 nx) := by subst hw1; go_simp
  have K3 : w1.cell? ⟨w.heap.size, 3, none⟩ = some (.slice A n c) := by subst hw1; go_simp
  have G : Hid (w.grownBy w1 none) := by subst hw1; exact Hi (World.grownBy_alloc _ _ _)
  have HB := Hi (HB.out.grown G.out)
  rcases Bool.eq_false_or_eq_true (Tm.upTo st 255) with q0 | q0
  · rcases Bool.eq_false_or_eq_true (Tm.upTo ep 255) with q1 | q1
    · rcases Bool.eq_false_or_eq_true (Tm.upTo nx 2147483649) with q2 | q2
      · by_cases q3 : (n : Int) ≤ win
        · have E := Hi (show waitOk win ⟨st, ep, nx, ts⟩ = heldOk st ep nx ts by rw [OK.out]; simp [q0, q1, q2, q3])
          have Q0 := Hi q0
          have Q1 := Hi q1
          have Q2 := Hi q2
          clear q0 q1 q2
          generalize heldOk st ep nx ts = r at *
          go_enter Tryz.func52, Tryz.ntmps52
          go_wp2_with fail
          rw [← hw1]
          clear hw1
          refine (iupto_at _ Q0.out).mono ?_
          rintro e w2 ⟨rfl, rfl⟩
          go_wp2_with fail
          refine (iupto_at _ Q1.out).mono ?_
          rintro e w2 ⟨rfl, rfl⟩
          go_wp2_with fail
          refine (iupto_at _ Q2.out).mono ?_
          rintro e w2 ⟨rfl, rfl⟩
          go_wp2_with fail
          refine (X.out _ HB.out).mono ?_
          rintro e w2 ⟨rfl, G2⟩
          go_wp2
          go_ret
          exact ret_mk E.out.symm (grown_trans G.out G2)
        · have E := Hi (show waitOk win ⟨st, ep, nx, ts⟩ = false by rw [OK.out]; simp [q3])
          have Q0 := Hi q0
          have Q1 := Hi q1
          have Q2 := Hi q2
          clear q0 q1 q2
          go_enter Tryz.func52, Tryz.ntmps52
          go_wp2_with fail
          rw [← hw1]
          clear hw1
          refine (iupto_at _ Q0.out).mono ?_
          rintro e w2 ⟨rfl, rfl⟩
          go_wp2_with fail
          refine (iupto_at _ Q1.out).mono ?_
          rintro e w2 ⟨rfl, rfl⟩
          go_wp2_with fail
          refine (iupto_at _ Q2.out).mono ?_
          rintro e w2 ⟨rfl, rfl⟩
          go_wp2
          go_ret
          exact ret_mk E.out.symm G.out
      · have E := Hi (show waitOk win ⟨st, ep, nx, ts⟩ = false by rw [OK.out]; simp [q2])
        have Q0 := Hi q0
        have Q1 := Hi q1
        have Q2 := Hi q2
        clear q0 q1 q2
        go_enter Tryz.func52, Tryz.ntmps52
        go_wp2_with fail
        rw [← hw1]
        clear hw1
        refine (iupto_at _ Q0.out).mono ?_
        rintro e w2 ⟨rfl, rfl⟩
        go_wp2_with fail
        refine (iupto_at _ Q1.out).mono ?_
        rintro e w2 ⟨rfl, rfl⟩
        go_wp2_with fail
        refine (iupto_at _ Q2.out).mono ?_
        rintro e w2 ⟨rfl, rfl⟩
        go_wp2
        go_ret
        exact ret_mk E.out.symm G.out
    · have E := Hi (show waitOk win ⟨st, ep, nx, ts⟩ = false by rw [OK.out]; simp [q1])
      have Q0 := Hi q0
      have Q1 := Hi q1
      clear q0 q1
      go_enter Tryz.func52, Tryz.ntmps52
      go_wp2_with fail
      rw [← hw1]
      clear hw1
      refine (iupto_at _ Q0.out).mono ?_
      rintro e w2 ⟨rfl, rfl⟩
      go_wp2_with fail
      refine (iupto_at _ Q1.out).mono ?_
      rintro e w2 ⟨rfl, rfl⟩
      go_wp2
      go_ret
      exact ret_mk E.out.symm G.out
  · have E := Hi (show waitOk win ⟨st, ep, nx, ts⟩ = false by rw [OK.out]; simp [q0])
    have Q0 := Hi q0
    clear q0
    go_enter Tryz.func52, Tryz.ntmps52
    go_wp2_with fail
    rw [← hw1]
    clear hw1
    refine (iupto_at _ Q0.out).mono ?_
    rintro e w2 ⟨rfl, rfl⟩
    go_wp2
    go_ret
    exact ret_mk E.out.symm G.out
theorem row_at {win least : Int} {es : List Im.Wt} {k : Nat} (h : k < es.length) : rowOk win least (es.drop k) = (decide (least ≤ (es.getD k ⟨0, 0, 0, []⟩).st) && (waitOk win (es.getD k ⟨0, 0, 0, []⟩) && rowOk win ((es.getD k ⟨0, 0, 0, []⟩).st + 1) (es.drop (k + 1)))) := by
  rw [List.drop_eq_getElem_cons h]
  simp only [List.getD, List.getElem?_eq_getElem h, Option.getD_some]
  rfl
theorem waiting_at {win : Int} {x : Im.Wt} {H : Sl} {r : Bool} {w : World} (h : TR w H x.held) (hr : waitOk win x = r) : Calls Tryz.prog 52 #[wv x H, .int .i64 win] w (Ret (.bool r) w) := by
  subst hr; exact iswaiting_any x H win w h
set_option maxHeartbeats 2000000 in
theorem isvalid_any (T E : Sl) (k : Ik) (w : World) (h : KR w T E k) (hT : T.n ≤ 4611686018427387904) :
    Calls Tryz.prog 32 #[iv3 k.win T E] w (Ret (.bool k.ok) w) := by
  obtain ⟨hf, hr, hes⟩ := h
  have hl := hes.len
  have hfe := hes.fit
  have HE := Hi hes
  have HT := Hi (fun (W : World) (hW : RB W T.a T.n k.tail) => istail_any T.a T.n T.c k.tail W hW hf.1 hT)
  have HR := Hi hr
  clear hes hr
  obtain ⟨win, tl, es⟩ := k
  dsimp only at *
  have OK := Hi (show Ik.ok ⟨win, tl, es⟩ = (Tm.upTo win 16 && ((decide (tl.length ≤ 400) && tailOk tl) && (decide (E.n ≤ 64) && rowOk win 0 es))) by simp [Ik.ok, hl, Bool.and_assoc])
  obtain ⟨TA, tn, tc⟩ := T
  obtain ⟨EA, n, c⟩ := E
  unfold Sl.fit at hf hfe
  dsimp only [iv3, Sl.v] at *
  obtain ⟨w1, hw1⟩ : ∃ w1, w1 = w.alloc (Obj.cells #[.int .i64 win, .slice TA tn tc, .slice EA n c] 25) := ⟨_, rfl⟩
  have K0 : w1.cell? ⟨w.heap.size, 0, none⟩ = some (.int .i64 win) := by subst hw1; go_simp
  have K1 : w1.cell? ⟨w.heap.size, 1, none⟩ = some (.slice TA tn tc) := by subst hw1; go_simp
  have K2 : w1.cell? ⟨w.heap.size, 2, none⟩ = some (.slice EA n c) := by subst hw1; go_simp
  have G : Hid (w.grownBy w1 none) := by subst hw1; exact Hi (World.grownBy_alloc _ _ _)
  have HR := Hi (HR.out.grown G.out)
  have HE := Hi (HE.out.grown G.out)
  go_enter Tryz.func32, Tryz.ntmps32
  go_wp2_with fail
  rw [← hw1]
  clear hw1
  rcases Bool.eq_false_or_eq_true (Tm.upTo win 16) with q0 | q0
  · have Q0 := Hi q0
    rw [q0, Bool.true_and] at OK
    clear q0
    refine (iupto_at _ Q0.out).mono ?_
    rintro e w2 ⟨rfl, rfl⟩
    rcases Bool.eq_false_or_eq_true (decide (tl.length ≤ 400) && tailOk tl) with q1 | q1
    · rw [q1, Bool.true_and] at OK
      rw [q1] at HT
      clear q1
      go_wp2_with fail
      refine (HT.out _ HR.out).mono ?_
      rintro e w2 ⟨rfl, rfl⟩
      by_cases q2 : n ≤ 64
      · have OK := Hi (OK.out.trans (by simp [q2] : _ = rowOk win 0 es))
        have q2' : ¬ (64 : Int) < (n : Int) := by omega
        go_wp2
        go_loopw [3, 25] (fun l3 i wr => ∃ (k : Nat) (least : Int), i = .int .i64 k ∧ l3 = .int .i64 least ∧ k ≤ n ∧ Hid (w1.grownBy wr none) ∧ Hid (Ik.ok ⟨win, tl, es⟩ = rowOk win least (es.drop k))) (fun _ i _ => n - (intOf i).toNat)
        case atStart => exact ⟨0, 0, rfl, rfl, by omega, grown_refl _ _, OK⟩
        case round =>
          obtain ⟨k, least, rfl, rfl, hk, GW, P⟩ := hrel
          have K0 := GW.out.cell K0 (by simp)
          have K2 := GW.out.cell K2 (by simp)
          by_cases hlt : k < n
          · obtain ⟨b, off, V, rfl, hv, hc⟩ := (HE.out.grown GW.out).at_ k hlt
            have P := Hi (P.out.trans (row_at (by omega)))
            simp only [← Nat.add_assoc] at hc
            obtain ⟨c0, c1, c2, c3⟩ := four_of hc
            clear hc
            generalize es.getD k ⟨0, 0, 0, []⟩ = x at *
            have HV := Hi hv
            clear hv
            obtain ⟨Va, Vn, Vc⟩ := V
            dsimp only [Sl.v] at c0 c1 c2 c3
            have Kl : w.heap.size < wr.heap.size := World.block_lt_of_cell? _ _ K0
            have K0a : (wr.alloc (.cells #[.int .i64 x.st, .int .i64 x.ep, .int .i64 x.nx, .slice Va Vn Vc] 32)).cell? ⟨w.heap.size, 0, none⟩ = some (.int .i64 win) := (grown_alloc wr _ none).cell K0 (by simp)
            by_cases h1 : x.st < least
            · have P := Hi (P.out.trans (by rw [decide_eq_false (by omega)]; rfl : _ = false))
              go_wp2
              go_ret
              exact ret_mk P.out.symm (grown_trans G.out (grown_trans GW.out (grown_alloc _ _ _)))
            · have P := Hi (P.out.trans (by rw [decide_eq_true (by omega)]; rfl : _ = (waitOk win x && rowOk win (x.st + 1) (es.drop (k + 1)))))
              rcases Bool.eq_false_or_eq_true (waitOk win x) with q3 | q3
              · rw [q3, Bool.true_and] at P
                have Z := (waitOk_iff.1 q3).s0
                have X := Hi (fun (W : World) (hW : TR W ⟨Va, Vn, Vc⟩ x.held) => waiting_at (r := true) (win := win) hW q3)
                clear q3
                go_wp2_with fail
                refine (X.out _ (HV.out.grown (grown_alloc _ _ _))).mono ?_
                rintro e w2 ⟨rfl, G2⟩
                have d0 : w2.cell? ⟨wr.heap.size, 0, none⟩ = some (.int .i64 x.st) := G2.cell (by go_simp) (by simp)
                have GW := Hi (grown_trans GW.out (grown_trans (grown_alloc wr _ none) G2))
                clear G2
                go_wp2
                go_roundw
                case rel => exact ⟨k + 1, x.st + 1, by go_num, rfl, by omega, GW, P⟩
                case measure => simp [intOf]; omega
              · rw [q3, Bool.false_and] at P
                have X := Hi (fun (W : World) (hW : TR W ⟨Va, Vn, Vc⟩ x.held) => waiting_at (r := false) (win := win) hW q3)
                clear q3
                go_wp2_with fail
                refine (X.out _ (HV.out.grown (grown_alloc _ _ _))).mono ?_
                rintro e w2 ⟨rfl, G2⟩
                have GW := Hi (grown_trans GW.out (grown_trans (grown_alloc wr _ none) G2))
                clear G2
                go_wp2
                go_ret
                exact ret_mk P.out.symm (grown_trans G.out GW.out)
          · obtain rfl : k = n := by omega
            have P := Hi (P.out.trans (by rw [List.drop_of_length_le (by omega)]; rfl : _ = true))
            go_wp2
            go_ret
            exact ret_mk P.out.symm (grown_trans G.out GW.out)
      · have OK := Hi (OK.out.trans (by simp [q2] : _ = false))
        have q2' : (64 : Int) < (n : Int) := by omega
        go_wp2
        go_ret
        exact ret_mk OK.out.symm G.out
    · rw [q1, Bool.false_and] at OK
      rw [q1] at HT
      clear q1
      go_wp2_with fail
      refine (HT.out _ HR.out).mono ?_
      rintro e w2 ⟨rfl, rfl⟩
      go_wp2
      go_ret
      exact ret_mk OK.out.symm G.out
  · have Q0 := Hi q0
    rw [q0, Bool.false_and] at OK
    clear q0
    refine (iupto_at _ Q0.out).mono ?_
    rintro e w2 ⟨rfl, rfl⟩
    go_wp2
    go_ret
    exact ret_mk OK.out.symm G.out
end Go.Proofs.YticmoaebegahgaaGreatDoor.Iw
