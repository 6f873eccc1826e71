import Derived.Test.YticmoaebegahgaaGreatDoorLc
set_option linter.all false
namespace Go.Proofs.YticmoaebegahgaaGreatDoor.Iw
open Go.ChangeShapes Go.WideShapes Go.ChangeAt Go.RowKit
open Wr (IR RB iv ivs bv bvs grown_trans grown_refl grown_alloc ret_int ret_bool tv Ret ret_mk Made OwnEnd)
attribute [local go_sem] Oper.semAt_some
theorem St.step {base : Nat} {w w' : World} {L L2 M : List Nat} {B : Nat} {win : Int} {T E : Sl} {ys : List EV} (h : St base w L B win T E ys) (g : Chg M w w') (hM : ∀ b ∈ M, b ∈ L) (hB : B ∉ M) (hE : ∀ b, E.blk = some b → b ∉ M) (hy : ∀ y ∈ ys, ∀ b, y.2.blk = some b → b ∉ M)
    (h1 : ∀ b ∈ L, b ∈ L2) (h2 : ∀ b ∈ L2, b ∈ L ∨ (w.heap.size ≤ b ∧ b < w'.heap.size)) : St base w' L2 B win T E ys := by
  refine ⟨h.tri.step g hB, ⟨h.eo.row.chg g hE, fun y hm => (h.eo.held y hm).step g (hy y hm) (fun b hb => .inl (hM b hb)) (fun b hb => (h2 b hb).imp id (fun e => e.1)), fun y hm b hb => h1 b (h.eo.sub y hm b hb), fun b hb => h1 b (h.eo.rowin b hb), h.eo.apart, h.eo.pair, fun b hb => ?_⟩, h1 B h.bl, h.eb, h.yb, h.ok, h.w0, Nat.le_trans h.hb g.size, h.bb⟩
  rcases h2 b hb with e | e
  · exact Nat.lt_of_lt_of_le (h.eo.new b e) g.size
  · exact e.2
structure Lp (w : World) (lo W0s Gx Bs sb B : Nat) (win : Int) (T : Sl) (es0 : List Im.Wt) (fs : List (List UInt8)) (L : List Nat) (E : Sl) (ys : List EV) (D : Sl) (gs : List TV) (W : World) : Prop where
  g : w.grownBy W none
  st : St lo W L B win T E ys
  ys_ : ys.map Prod.fst = (Im.run win es0 (Im.gets fs)).1
  box : W.cell? ⟨Gx, 0, none⟩ = some D.v ∧ W.frozen? ⟨Gx, 0, none⟩ = false
  row : OR lo W 28 6 D (f6 gs)
  gs_ : gs.map Prod.fst = (Im.run win es0 (Im.gets fs)).2
  vi : ∀ y ∈ gs, VI W L y.2 y.1.vs
  dl : ∀ b, D.blk = some b → b ∈ L
  gl : Gx ∈ L
  dg : D.blk ≠ some Gx
  xo : Xo (Gx :: D.blk.toList) W B E ys
  cl : ∀ b ∈ L, W0s ≤ b → ∃ o : Obj, W.heap[b]? = some o ∧ o.isCells = true
  off : ∀ b ∈ L, b ≠ Bs ∧ b ≠ sb
  ord : w.heap.size ≤ lo ∧ lo ≤ Gx ∧ Gx < W0s ∧ W0s ≤ W.heap.size
  low : ∀ b, b < lo → b ∈ L
  bsl : Bs < W0s ∧ sb < W0s
section
variable {w : World} {lo W0s Gx Bs sb B : Nat} {win : Int} {T : Sl} {es0 : List Im.Wt} {fs : List (List UInt8)} {L : List Nat} {E : Sl} {ys : List EV} {D : Sl} {gs : List TV} {W : World}
theorem Lp.np (h : Lp w lo W0s Gx Bs sb B win T es0 fs L E ys D gs W) {W' : World} {row : Option Nat} (hg : W.grownBy W' row) (hr : ∀ r, row = some r → W0s ≤ r ∧ ∃ o : Obj, W.heap[r]? = some o ∧ o.isCells = false) : Lp w lo W0s Gx Bs sb B win T es0 fs L E ys D gs W' := by
  have np : Np W W' := ⟨row, hg, fun r e => (hr r e).2⟩
  have c : Chg row.toList W W' := Chg.of hg (fun b hb => by simpa using hb)
  refine ⟨c.grown h.g (fun b hb => by have := (hr b (by simpa using hb)).1; have := h.ord; omega), np.st h.st, h.ys_, ⟨np.cell h.box.1, by rw [np.frozen h.box.1]; exact h.box.2⟩, np.or h.row, h.gs_, fun y hy => np.vi (h.vi y hy), h.dl, h.gl, h.dg, h.xo.size np.size, fun b hb h0 => ?_, h.off, ⟨h.ord.1, h.ord.2.1, h.ord.2.2.1, Nat.le_trans h.ord.2.2.2 np.size⟩, h.low, h.bsl⟩
  obtain ⟨o, h1, h2⟩ := h.cl b hb h0
  refine ⟨o, ?_, h2⟩
  rw [c.block b (h.st.eo.new b hb) (fun hm => ?_)]
  · exact h1
  · obtain ⟨_, o', h3, h4⟩ := hr b (by simpa using hm)
    rw [h1] at h3
    injection h3 with h3
    subst h3
    rw [h2] at h4
    cases h4
theorem Lp.grown (h : Lp w lo W0s Gx Bs sb B win T es0 fs L E ys D gs W) {W' : World} (hg : W.grownBy W' none) : Lp w lo W0s Gx Bs sb B win T es0 fs L E ys D gs W' := h.np hg (fun r e => by cases e)
open Classical in
theorem Lp.step (h : Lp w lo W0s Gx Bs sb B win T es0 fs L E ys D gs W) {l : List UInt8} {W1 W2 : World} {L' : List Nat} {E' r : Sl} {zs : List EV} {dx : List TV}
    (h1 : St lo W1 L' B win T E' zs) (h2 : zs.map Prod.fst = (Im.run win (ys.map Prod.fst) (Im.gets [l])).1) (h3 : dx.map Prod.fst = (Im.run win (ys.map Prod.fst) (Im.gets [l])).2) (h3' : ∀ y ∈ dx, VI W1 L' y.2 y.1.vs)
    (h4 : ∀ b ∈ L', b ∈ L ∨ W.heap.size ≤ b) (h5 : ∀ b ∈ L, b ∈ L') (h6 : Chg L W W1) (h7 : KX lo (Gx :: D.blk.toList) W W1) (h8 : Xo (Gx :: D.blk.toList) W1 B E' zs)
    (hr : OR lo W2 28 6 r (f6 gs ++ f6 dx)) (hg : W1.grownBy W2 D.blk) (hrb : ∀ b, r.blk = some b → D.blk = some b ∨ b = W1.heap.size) :
    ∃ L'', Lp w lo W0s Gx Bs sb B win T es0 (fs ++ [l]) L'' E' zs r (gs ++ dx) (W2.setCell ⟨Gx, 0, none⟩ r.v) ∧ KeepsFrom W0s W (W2.setCell ⟨Gx, 0, none⟩ r.v) ∧ KB [Bs, sb] W (W2.setCell ⟨Gx, 0, none⟩ r.v) := by
  obtain ⟨o1, o2, o3, o4⟩ := h.ord
  have c12 : Chg D.blk.toList W1 W2 := Chg.of hg (fun b hb => by simpa using hb)
  have c23 : Chg [Gx] W2 (W2.setCell ⟨Gx, 0, none⟩ r.v) := chg_set W2 Gx 0 r.v
  obtain ⟨W3, hW3⟩ : ∃ W3, W3 = W2.setCell ⟨Gx, 0, none⟩ r.v := ⟨_, rfl⟩
  rw [← hW3] at c23 ⊢
  have hs1 := h6.size
  have hs2 := c12.size
  have hs3 := c23.size
  have hDL : ∀ b ∈ D.blk.toList, b ∈ L := fun b hb => h.dl b (by simpa using hb)
  have hGX : ∀ b, r.blk = some b → b ≠ Gx := fun b hb e => by
    subst e
    rcases hrb b hb with e | e
    · exact h.dg e
    · omega
  have hrn : ∀ b, r.blk = some b → b ∈ L' ∨ (W1.heap.size ≤ b ∧ b < W2.heap.size) := fun b hb => by
    rcases hrb b hb with e | e
    · exact .inl (h5 b (h.dl b e))
    · exact .inr ⟨by omega, (hr.blk b hb).2⟩
  have hL2 : ∀ b ∈ L' ++ r.blk.toList, b ∈ L' ∨ (W1.heap.size ≤ b ∧ b < W2.heap.size) := fun b hm => by
    rcases List.mem_append.1 hm with hm | hm
    · exact .inl hm
    · exact hrn b (by simpa using hm)
  have S2 : St lo W2 (L' ++ r.blk.toList) B win T E' zs := h1.step c12 (fun b hb => h5 b (hDL b hb)) (fun hm => h8.xB (List.mem_cons_of_mem _ hm)) (fun b hb hm => h8.xe b hb (List.mem_cons_of_mem _ hm)) (fun y hy b hb hm => h8.xy y hy b hb (List.mem_cons_of_mem _ hm)) (fun b hb => List.mem_append_left _ hb) hL2
  have S3 : St lo W3 (L' ++ r.blk.toList) B win T E' zs := S2.step c23 (fun b hb => by rw [List.mem_singleton] at hb; subst hb; exact List.mem_append_left _ (h5 _ h.gl)) (fun hm => by rw [List.mem_singleton] at hm; exact h8.xB (by rw [hm]; exact List.mem_cons_self)) (fun b hb hm => by rw [List.mem_singleton] at hm; subst hm; exact h8.xe _ hb List.mem_cons_self) (fun y hy b hb hm => by rw [List.mem_singleton] at hm; subst hm; exact h8.xy y hy _ hb List.mem_cons_self) (fun b hb => hb) (fun b hb => .inl hb)
  have V2 : ∀ y : TV, VI W1 L' y.2 y.1.vs → VI W3 (L' ++ r.blk.toList) y.2 y.1.vs := fun y hv =>
    (hv.step (L' := L' ++ r.blk.toList) (c12.weak (fun b hb => h5 b (hDL b hb))) (fun b hb => (hL2 b hb).imp id (fun e => e.1))).step (c23.weak (fun b hb => by rw [List.mem_singleton] at hb; subst hb; exact List.mem_append_left _ (h5 _ h.gl))) (fun b hb => .inl hb)
  have C13 : Chg L W W3 := (h6.then c12 (fun b hb => .inl (hDL b hb))).then c23 (fun b hb => by rw [List.mem_singleton] at hb; subst hb; exact .inl h.gl)
  have bx1 : W1.cell? ⟨Gx, 0, none⟩ = some D.v := by
    have hlt : Gx < W.heap.size := World.block_lt_of_cell? _ _ h.box.1
    rw [World.cell?_of_block (h7.2 Gx hlt (.inr List.mem_cons_self))]
    exact h.box.1
  have bx2 : W2.cell? ⟨Gx, 0, none⟩ = some D.v := c12.cell bx1 (fun hm => h.dg (by simpa using hm))
  have fz : W2.frozen? ⟨Gx, 0, none⟩ = false := by
    have hlt : Gx < W.heap.size := World.block_lt_of_cell? _ _ h.box.1
    have e1 : W2.heap[Gx]? = W.heap[Gx]? := (c12.block Gx (by omega) (fun hm => h.dg (by simpa using hm))).trans (h7.2 Gx hlt (.inr List.mem_cons_self))
    rw [World.frozen?_of_block (a := ⟨Gx, 0, none⟩) e1]
    exact h.box.2
  have hgw1 : w.grownBy W1 none := ⟨h6.os.trans h.g.os, h6.tape.trans h.g.tape, h6.output.trans h.g.output, Nat.le_trans h.g.size h6.size, fun i hi _ => (h7.2 i (Nat.lt_of_lt_of_le hi h.g.size) (.inl (by omega))).trans (h.g.block i hi (by simp))⟩
  have hgw3 : w.grownBy W3 none := c23.grown (c12.grown hgw1 (fun b hb => by have := (h.row.blk b (by simpa using hb)).1; omega)) (fun b hb => by rw [List.mem_singleton] at hb; omega)
  have HR : Im.run win es0 (Im.gets (fs ++ [l])) = ((Im.run win (ys.map Prod.fst) (Im.gets [l])).1, (Im.run win es0 (Im.gets fs)).2 ++ (Im.run win (ys.map Prod.fst) (Im.gets [l])).2) := by
    rw [Im.gets_append, Im.run_append, ← h.ys_]
  have e6 : f6 (gs ++ dx) = f6 gs ++ f6 dx := flat_app gs dx
  let L3 := (L' ++ r.blk.toList).filter fun b => decide (b < W0s ∨ ∃ o : Obj, W3.heap[b]? = some o ∧ o.isCells = true)
  have hL3 : ∀ b ∈ L3, b ∈ L' ++ r.blk.toList := fun b hb => (List.mem_filter.1 hb).1
  have hin : ∀ b ∈ L' ++ r.blk.toList, (∃ o : Obj, W3.heap[b]? = some o ∧ o.isCells = true) → b ∈ L3 := fun b hb hc => List.mem_filter.2 ⟨hb, by simp only [decide_eq_true_eq]; exact .inr hc⟩
  have hin0 : ∀ b ∈ L' ++ r.blk.toList, b < W0s → b ∈ L3 := fun b hb hc => List.mem_filter.2 ⟨hb, by simp only [decide_eq_true_eq]; exact .inl hc⟩
  have hr3 : OR lo W3 28 6 r (f6 gs ++ f6 dx) := hr.chg c23 (fun b hb hm => by rw [List.mem_singleton] at hm; exact hGX b hb hm)
  refine ⟨L3, ⟨hgw3, S3.less hL3 hin, by rw [HR]; exact h2, ?_, by rw [e6]; exact hr3, by rw [HR, List.map_append, h.gs_, h3], fun y hy => ?_, fun b hb => hin b (List.mem_append_right _ (by simpa using hb)) (or_cells hr3 hb), hin0 Gx (List.mem_append_left _ (h5 _ h.gl)) o3, fun e => hGX Gx e rfl, ⟨fun b hb hm => ?_, fun y hy b hb hm => ?_, fun b hm => ?_, fun hm => ?_⟩, fun b hb h0 => ?_, fun b hb => ?_, ⟨o1, o2, o3, by omega⟩, fun b hb => hin0 b (List.mem_append_left _ (h5 b (h.low b hb))) (by omega), h.bsl⟩, ⟨C13.size, fun k o hk ho hc => ?_⟩, fun a v ha hv => C13.cell hv (fun hm => ?_)⟩
  · rw [hW3]
    exact ⟨World.cell?_setCell_same _ _ _ bx2, by rw [World.frozen?_setCell]; exact fz⟩
  · refine VI.less ?_ hL3
    rcases List.mem_append.1 hy with hy | hy
    · exact V2 y ((h.vi y hy).step h6 h4)
    · exact V2 y (h3' y hy)
  · rcases List.mem_cons.1 hm with rfl | hm
    · exact h8.xe _ hb List.mem_cons_self
    · rcases hrb b (by simpa using hm) with e | e
      · exact h8.xe b hb (List.mem_cons_of_mem _ (by simpa using e))
      · have := (h1.eo.row.blk b hb).2; omega
  · rcases List.mem_cons.1 hm with rfl | hm
    · exact h8.xy y hy _ hb List.mem_cons_self
    · rcases hrb b (by simpa using hm) with e | e
      · exact h8.xy y hy b hb (List.mem_cons_of_mem _ (by simpa using e))
      · have := h1.eo.new b (h1.eo.sub y hy b hb); omega
  · rcases List.mem_cons.1 hm with rfl | hm
    · omega
    · have := (hr3.blk b (by simpa using hm)).2; omega
  · rcases List.mem_cons.1 hm with e | hm
    · exact h8.xB (by rw [e]; exact List.mem_cons_self)
    · rcases hrb B (by simpa using hm) with e | e
      · exact h8.xB (List.mem_cons_of_mem _ (by simpa using e))
      · have := h1.tri.lt; omega
  · have := (List.mem_filter.1 hb).2
    simp only [decide_eq_true_eq] at this
    rcases this with e | e
    · omega
    · exact e
  · have hb' := hL3 b hb
    have hold : b ∈ L ∨ W.heap.size ≤ b := by
      rcases hL2 b hb' with e | e
      · exact h4 b e
      · exact .inr (by omega)
    rcases hold with e | e
    · exact h.off b e
    · have := h.bsl; omega
  · by_cases hm : k ∈ L
    · obtain ⟨o', h1', h2'⟩ := h.cl k hm hk
      rw [ho] at h1'
      injection h1' with h1'
      subst h1'
      rw [hc] at h2'
      cases h2'
    · rw [C13.block k (Array.getElem?_eq_some_iff.1 ho).1 hm]
      exact ho
  · have h9 := h.off a.block hm
    simp only [List.mem_cons, List.not_mem_nil, or_false] at ha
    rcases ha with e | e
    · exact h9.1 e
    · exact h9.2 e
end
end Go.Proofs.YticmoaebegahgaaGreatDoor.Iw
