import Derived.Test.YticmoaebegahgaaGreatDoorKp
import Derived.Test.YticmoaebegahgaaGreatDoorWl
import Derived.ChangeArms
import Derived.WideShapes
import Derived.Deep.Slices
set_option linter.all false
namespace Go.Proofs.YticmoaebegahgaaGreatDoor.Iw
open Go.ChangeShapes Go.WideShapes Go.ChangeAt Go.RowKit
open Wr (IR RB iv ivs bv bvs tv InRow InB IsRow inRow inB)
abbrev sp1 : Nat → Bool := fun _ => true
theorem cellsT : Tryz.prog.cellsOf 28 = 6 := by kernel_rfl
theorem cellsW : Tryz.prog.cellsOf 32 = 4 := by kernel_rfl
theorem cellsI : Tryz.prog.cellsOf 25 = 3 := by kernel_rfl
theorem cells_3 : Tryz.prog.cellsOf 3 = 1 := by kernel_rfl
theorem cells_b : Tryz.prog.cellsOf 5 = 1 := by kernel_rfl
theorem cells_li : Tryz.prog.cellsOf 26 = 1 := by kernel_rfl
theorem cells_lb : Tryz.prog.cellsOf 22 = 1 := by kernel_rfl
theorem cells_lt : Tryz.prog.cellsOf 30 = 1 := by kernel_rfl
theorem cells_lw : Tryz.prog.cellsOf 23 = 1 := by kernel_rfl
theorem bytes_3 : Tryz.prog.bytesOf 3 = 8 := by kernel_rfl
section
variable {H : Type} {enc : TypeId × Value → H} {W : World}
instance : Inhabited TV := ⟨(Tm.zero, nilS)⟩
instance : Inhabited EV := ⟨(wt0, nilS)⟩
theorem max64 : maxLen ≤ 9223372036854775807 := by unfold maxLen; omega
set_option maxRecDepth 100000 in
theorem in_vi {fuel : Nat} {cs : List Value} {x : DataW H × List MemPlace} (h : DataW.trod enc Tryz.prog W 0 sp1 true fuel 26 cs = some x) (hw : (x.1.weights Tryz.prog 26).all (· ≤ reachBytes) = true) : ∃ (V : Sl) (vs : List Int), cs = [V.v] ∧ VI W [] V vs := by
  rcases open_ints Tryz.underlying26 Tryz.underlying3 cells_3 h with ⟨rfl, rfl⟩ | ⟨a, len, cap, zs, rfl, _, hl, hm, hz, rfl, hcell, hwz⟩
  · exact ⟨nilS, [], rfl, ⟨by simp [nilS], by simp [nilS]⟩, by simp [nilS], ⟨rfl, fun i hi => by simp [nilS] at hi⟩, fun _ _ _ h => by cases h⟩
  · have hm' := max64
    have hz' : zs.length = cap := by simpa using hz
    have hR : IsRow .i64 W (some a) len cap zs := .inr ⟨a, rfl, hl, hm, hz', hcell, hwz⟩
    have hI := inRow hR
    obtain ⟨b, off, _, h1, _, _, h4, h5, _⟩ := hI
    refine ⟨⟨some a, len, cap⟩, zs.take len, rfl, ⟨hl, by dsimp only; omega⟩, ?_, ⟨h1, fun i hi => ⟨b, off, h4 (by dsimp only at hi; omega), h5 i hi⟩⟩, fun _ _ _ h => by cases h⟩
    rw [DataW.weights] at hw
    simp only [Tryz.underlying26, List.all_cons, Bool.and_eq_true, decide_eq_true_eq, bytes_3] at hw
    have h8 := hw.1
    simp only [lits, List.length_map, List.length_take, List.length_drop] at h8
    unfold reachBytes at h8
    dsimp only
    omega
set_option maxRecDepth 100000 in
theorem in_tg {fuel : Nat} {cs : List Value} {x : DataW H × List MemPlace} (h : DataW.trod enc Tryz.prog W 0 sp1 true fuel 28 cs = some x) (hw : (x.1.weights Tryz.prog 28).all (· ≤ reachBytes) = true) : ∃ y : TV, cs = tcs y ∧ VI W [] y.2 y.1.vs := by
  obtain ⟨xs, n, _, rfl, hcl, hlen, hg⟩ := DataW.trod_struct Tryz.underlying28 h
  rw [cellsT] at hcl
  match cs, hcl, xs, hlen with
  | [c0, c1, c2, c3, c4, c5], _, [y0, y1, y2, y3, y4, y5], _ =>
    have g0 := hg 0 _ rfl
    have g1 := hg 1 _ rfl
    have g2 := hg 2 _ rfl
    have g3 := hg 3 _ rfl
    have g4 := hg 4 _ rfl
    have g5 := hg 5 _ rfl
    simp [cells_3, cells_li] at g0 g1 g2 g3 g4 g5
    rw [DataW.weights] at hw
    simp only [Tryz.underlying28, List.map_cons, List.map_nil, DataW.weightsEach, List.all_append, Bool.and_eq_true] at hw
    obtain ⟨x0, e0, rfl, u0⟩ := DataW.trod_int Tryz.underlying3 g0
    obtain ⟨x1, e1, rfl, u1⟩ := DataW.trod_int Tryz.underlying3 g1
    obtain ⟨x2, e2, rfl, u2⟩ := DataW.trod_int Tryz.underlying3 g2
    obtain ⟨x3, e3, rfl, u3⟩ := DataW.trod_int Tryz.underlying3 g3
    obtain ⟨x4, e4, rfl, u4⟩ := DataW.trod_int Tryz.underlying3 g4
    simp at e0 e1 e2 e3 e4
    subst e0 e1 e2 e3 e4
    obtain ⟨V, vs, e5, hv⟩ := in_vi g5 (by simpa using hw.2.2.2.2.2.1)
    simp at e5
    subst e5
    exact ⟨(⟨x0, x1, x2, x3, x4, vs⟩, V), rfl, hv⟩
set_option maxRecDepth 100000 in
theorem w_mem {P : Program} {e : TypeId} {l : List (DataW H)} {d : DataW H} (h : (DataW.weightsAll P e l).all (· ≤ reachBytes) = true) (hd : d ∈ l) : (d.weights P e).all (· ≤ reachBytes) = true := by
  induction l with
  | nil => cases hd
  | cons y r ih =>
    rw [DataW.weightsAll, List.all_append, Bool.and_eq_true] at h
    rcases List.mem_cons.1 hd with rfl | hd
    · exact h.1
    · exact ih h.2 hd
set_option maxRecDepth 100000 in
theorem no_spot {a : Addr} {v : Value} (h : W.cell? (a.add 0) = some v) : ∃ b off, a = ⟨b, off, none⟩ := by
  obtain ⟨b, off, spot⟩ := a
  have hs : spot = none := by simpa [Addr.add] using World.cell?_spot h
  exact ⟨b, off, by rw [hs]⟩
set_option maxRecDepth 100000 in
theorem in_tr {fuel : Nat} {cs : List Value} {x : DataW H × List MemPlace} (h : DataW.trod enc Tryz.prog W 0 sp1 true fuel 30 cs = some x) (hw : (x.1.weights Tryz.prog 30).all (· ≤ reachBytes) = true) : ∃ (T : Sl) (ts : List Tm.Tg), cs = [T.v] ∧ TR W T ts := by
  rcases Go.Deep.open_slice Tryz.underlying30 h with ⟨rfl, rfl⟩ | ⟨a, len, cap, m, n, D, Pl, rfl, _, hl, hm, hmm, rfl, hx⟩
  · exact ⟨nilS, [], rfl, ⟨⟨by simp [nilS], by simp [nilS]⟩, rfl, fun i hi => by simp [nilS] at hi⟩⟩
  · have hm' := max64
    have hmc : m = cap := by simpa using hmm
    rw [DataW.weights] at hw
    simp only [Tryz.underlying30, List.all_cons, List.all_append, Bool.and_eq_true] at hw
    by_cases hl0 : len = 0
    · subst hl0
      exact ⟨⟨some a, 0, cap⟩, [], rfl, ⟨⟨hl, by dsimp only; omega⟩, rfl, fun i hi => absurd hi (by dsimp only; omega)⟩⟩
    have hc0 : ∀ i, i < len → ∃ y : TV, VI W [] y.2 y.1.vs ∧ ∀ j u, (tcs y)[j]? = some u → W.cell? (a.add (i * 6 + j)) = some u := fun i hi => by
      obtain ⟨cs', h1, h2⟩ := hx i (by omega)
      rw [cellsT] at h1
      obtain ⟨_, hcl, hcc⟩ := World.cells?_some h1
      obtain ⟨y, rfl, hv⟩ := in_tg h2 (w_mem hw.2.1 (List.mem_map.2 ⟨i, List.mem_range.2 hi, rfl⟩))
      refine ⟨y, hv, fun j u hu => ?_⟩
      have hj : j < 6 := by
        rcases Nat.lt_or_ge j 6 with k | k
        · exact k
        · rw [List.getElem?_eq_none (by exact k)] at hu; cases hu
      have := hcc j hj
      rw [Go.Deep.add_add] at this
      rw [this, hu]
    obtain ⟨b, off, rfl⟩ : ∃ b off, a = ⟨b, off, none⟩ := by
      obtain ⟨y, _, hy⟩ := hc0 0 (by omega)
      exact no_spot (by simpa using hy 0 _ rfl)
    obtain ⟨f, hf⟩ := Go.Deep.choose_lt hc0
    refine ⟨⟨some ⟨b, off, none⟩, len, cap⟩, (List.range len).map fun i => (f i).1, rfl, ⟨⟨hl, by dsimp only; omega⟩, by simp, fun i hi => ?_⟩⟩
    obtain ⟨hv, hc⟩ := hf i hi
    have e : ((List.range len).map fun i => (f i).1).getD i Tm.zero = (f i).1 := by simp [List.getD, show i < len from hi]
    rw [e]
    exact ⟨b, off, (f i).2, rfl, hv, fun j u hu => by rw [← add_lit]; exact hc j u hu⟩
set_option maxRecDepth 100000 in
theorem in_wt {fuel : Nat} {cs : List Value} {x : DataW H × List MemPlace} (h : DataW.trod enc Tryz.prog W 0 sp1 true fuel 32 cs = some x) (hw : (x.1.weights Tryz.prog 32).all (· ≤ reachBytes) = true) : ∃ y : EV, cs = ecs y ∧ TR W y.2 y.1.held := by
  obtain ⟨xs, n, _, rfl, hcl, hlen, hg⟩ := DataW.trod_struct Tryz.underlying32 h
  rw [cellsW] at hcl
  match cs, hcl, xs, hlen with
  | [c0, c1, c2, c3], _, [y0, y1, y2, y3], _ =>
    have g0 := hg 0 _ rfl
    have g1 := hg 1 _ rfl
    have g2 := hg 2 _ rfl
    have g3 := hg 3 _ rfl
    simp [cells_3, cells_lt] at g0 g1 g2 g3
    rw [DataW.weights] at hw
    simp only [Tryz.underlying32, List.map_cons, List.map_nil, DataW.weightsEach, List.all_append, Bool.and_eq_true] at hw
    obtain ⟨x0, e0, rfl, u0⟩ := DataW.trod_int Tryz.underlying3 g0
    obtain ⟨x1, e1, rfl, u1⟩ := DataW.trod_int Tryz.underlying3 g1
    obtain ⟨x2, e2, rfl, u2⟩ := DataW.trod_int Tryz.underlying3 g2
    simp at e0 e1 e2
    subst e0 e1 e2
    obtain ⟨V, vs, e3, hv⟩ := in_tr g3 (by simpa using hw.2.2.2.1)
    simp at e3
    subst e3
    exact ⟨(⟨x0, x1, x2, vs⟩, V), rfl, hv⟩
set_option maxRecDepth 100000 in
theorem in_er {fuel : Nat} {cs : List Value} {x : DataW H × List MemPlace} (h : DataW.trod enc Tryz.prog W 0 sp1 true fuel 23 cs = some x) (hw : (x.1.weights Tryz.prog 23).all (· ≤ reachBytes) = true) : ∃ (T : Sl) (ts : List Im.Wt), cs = [T.v] ∧ ER W T ts := by
  rcases Go.Deep.open_slice Tryz.underlying23 h with ⟨rfl, rfl⟩ | ⟨a, len, cap, m, n, D, Pl, rfl, _, hl, hm, hmm, rfl, hx⟩
  · exact ⟨nilS, [], rfl, ⟨⟨by simp [nilS], by simp [nilS]⟩, rfl, fun i hi => by simp [nilS] at hi⟩⟩
  · have hm' := max64
    have hmc : m = cap := by simpa using hmm
    rw [DataW.weights] at hw
    simp only [Tryz.underlying23, List.all_cons, List.all_append, Bool.and_eq_true] at hw
    by_cases hl0 : len = 0
    · subst hl0
      exact ⟨⟨some a, 0, cap⟩, [], rfl, ⟨⟨hl, by dsimp only; omega⟩, rfl, fun i hi => absurd hi (by dsimp only; omega)⟩⟩
    have hc0 : ∀ i, i < len → ∃ y : EV, TR W y.2 y.1.held ∧ ∀ j u, (ecs y)[j]? = some u → W.cell? (a.add (i * 4 + j)) = some u := fun i hi => by
      obtain ⟨cs', h1, h2⟩ := hx i (by omega)
      rw [cellsW] at h1
      obtain ⟨_, hcl, hcc⟩ := World.cells?_some h1
      obtain ⟨y, rfl, hv⟩ := in_wt h2 (w_mem hw.2.1 (List.mem_map.2 ⟨i, List.mem_range.2 hi, rfl⟩))
      refine ⟨y, hv, fun j u hu => ?_⟩
      have hj : j < 4 := by
        rcases Nat.lt_or_ge j 4 with k | k
        · exact k
        · rw [List.getElem?_eq_none (by exact k)] at hu; cases hu
      have := hcc j hj
      rw [Go.Deep.add_add] at this
      rw [this, hu]
    obtain ⟨b, off, rfl⟩ : ∃ b off, a = ⟨b, off, none⟩ := by
      obtain ⟨y, _, hy⟩ := hc0 0 (by omega)
      exact no_spot (by simpa using hy 0 _ rfl)
    obtain ⟨f, hf⟩ := Go.Deep.choose_lt hc0
    refine ⟨⟨some ⟨b, off, none⟩, len, cap⟩, (List.range len).map fun i => (f i).1, rfl, ⟨⟨hl, by dsimp only; omega⟩, by simp, fun i hi => ?_⟩⟩
    obtain ⟨hv, hc⟩ := hf i hi
    have e : ((List.range len).map fun i => (f i).1).getD i ⟨0, 0, 0, []⟩ = (f i).1 := by simp [List.getD, show i < len from hi]
    rw [e]
    exact ⟨b, off, (f i).2, rfl, hv, fun j u hu => by rw [← add_lit]; exact hc j u hu⟩
set_option maxRecDepth 100000 in
theorem in_bytes {fuel : Nat} {cs : List Value} {x : DataW H × List MemPlace} (h : DataW.trod enc Tryz.prog W 0 sp1 true fuel 22 cs = some x) : ∃ (T : Sl) (l : List UInt8), cs = [T.v] ∧ InB W T.a T.n T.c l := by
  rcases open_ints Tryz.underlying22 Tryz.underlying5 cells_b h with ⟨rfl, rfl⟩ | ⟨a, len, cap, zs, rfl, _, hl, hm, hz, rfl, hcell, hwz⟩
  · exact ⟨nilS, [], rfl, ⟨⟨rfl, fun i hi => by simp [nilS] at hi⟩, by simp [nilS], by simp [nilS]⟩⟩
  · exact ⟨⟨some a, len, cap⟩, _, rfl, inB (.inr ⟨a, rfl, hl, hm, by simpa using hz, hcell, hwz⟩)⟩
set_option maxRecDepth 100000 in
theorem in_kr {b0 : Nat} {r : Reach} {v : Value} {d : DataW H} {p : List MemPlace} (hv : Value.okWide Tryz.prog W r b0 25 v) (h : DataW.Trod enc Tryz.prog W 0 sp1 true 25 v d p) (hw : (d.weights Tryz.prog 25).all (· ≤ reachBytes) = true) : ∃ (T E : Sl) (k : Ik), v = iv3 k.win T E ∧ KR W T E k := by
  obtain ⟨cs, rfl, hsz⟩ := okWide_struct Tryz.underlying25 hv
  obtain ⟨cl⟩ := cs
  obtain ⟨fuel, hf⟩ := h
  obtain ⟨xs, n, _, hxx, hcl, hlen, hg⟩ := DataW.trod_struct Tryz.underlying25 hf
  obtain ⟨rfl, -⟩ := Prod.mk.inj hxx
  match cl, hsz.trans cellsI, xs, hlen with
  | [c0, c1, c2], _, [y0, y1, y2], _ =>
    have g0 := hg 0 _ rfl
    have g1 := hg 1 _ rfl
    have g2 := hg 2 _ rfl
    simp [Value.cells, cells_3, cells_lb, cells_lw] at g0 g1 g2
    rw [DataW.weights] at hw
    simp only [Tryz.underlying25, List.map_cons, List.map_nil, DataW.weightsEach, List.all_append, Bool.and_eq_true] at hw
    obtain ⟨x0, e0, rfl, u0⟩ := DataW.trod_int Tryz.underlying3 g0
    simp at e0
    subst e0
    obtain ⟨T, l, e1, hb⟩ := in_bytes g1
    simp at e1
    subst e1
    obtain ⟨E, es, e2, he⟩ := in_er g2 (by simpa using hw.2.2.1)
    simp at e2
    subst e2
    exact ⟨T, E, ⟨x0, l, es⟩, rfl, ⟨⟨hb.2.1, hb.2.2⟩, hb.1, he⟩⟩
set_option maxRecDepth 100000 in
theorem in_tgv {b0 : Nat} {r : Reach} {v : Value} {d : DataW H} {p : List MemPlace} (hv : Value.okWide Tryz.prog W r b0 28 v) (h : DataW.Trod enc Tryz.prog W 0 sp1 true 28 v d p) (hw : (d.weights Tryz.prog 28).all (· ≤ reachBytes) = true) : ∃ (t : Tm.Tg) (V : Sl), v = tv t V.v ∧ VI W [] V t.vs := by
  obtain ⟨cs, rfl, hsz⟩ := okWide_struct Tryz.underlying28 hv
  obtain ⟨cl⟩ := cs
  obtain ⟨fuel, hf⟩ := h
  obtain ⟨⟨t, V⟩, e, hy⟩ := in_tg hf hw
  simp [Value.cells] at e
  subst e
  exact ⟨t, V, rfl, hy⟩
end
end Go.Proofs.YticmoaebegahgaaGreatDoor.Iw
