/- What package deal's Deal keeps in its loops. -/
import Derived.Test.YtafkagaakjfkoaaDi5
namespace Go.Proofs.Ytafkagaakjfkoaa
open Go.ChangeShapes Go.WideShapes Go.ChangeAt Go.RowKit

theorem RO.base_ {base b' : Nat} {w : World} {O n : Nat} {vs : Nat → Sl} {fs : Nat → List Fm.Pc} (h : RO base w O n vs fs) (hb : b' ≤ base) : RO b' w O n vs fs :=
  ⟨h.row.base_ hb, fun i hi => (h.each i hi).base_ hb, h.off, h.apart⟩
/-- What Deal's loops keep: the rows of pieces, and the dealer. -/
structure DS (w wr : World) (O D n : Nat) (vs : Nat → Sl) (fs : Nat → List Fm.Pc) (r : List Int) (d : Nat) : Prop where
  ro : RO w.heap.size wr O n vs fs
  db : DB w.heap.size wr D r (Dm.cnt r d)
  off : Off vs n D
  od : O ≠ D
  gr : w.grownBy wr none
section
variable {w wr wd : World} {O D n d : Nat} {vs : Nat → Sl} {fs : Nat → List Fm.Pc} {r : List Int}
theorem DS.grown (h : DS w wr O D n vs fs r d) (k : wr.grownBy wd none) : DS w wd O D n vs fs r d := ⟨h.ro.grown k, h.db.grown k, h.off, h.od, grown_trans h.gr k⟩
theorem DS.lt (h : DS w wr O D n vs fs r d) : w.heap.size ≤ D ∧ D < wr.heap.size := h.db.blk D rfl
/-- Litres are dealt. -/
theorem DS.deal (h : DS w wr O D n vs fs r d) {d' : Nat} (hd : DB w.heap.size wd D r (Dm.cnt r d')) (c : Chg [D] wr wd) : DS w wd O D n vs fs r d' :=
  ⟨h.ro.chg c (by simp; exact h.od) (fun j hj b hb hm => by rw [List.mem_singleton] at hm; subst hm; exact h.off j hj hb), hd, h.off, h.od, c.grown h.gr (fun b hb => by rw [List.mem_singleton] at hb; subst hb; exact h.lt.1)⟩
theorem DS.congr {fs' : Nat → List Fm.Pc} (h : DS w wr O D n vs fs r d) (e : ∀ i, i < n → fs i = fs' i) : DS w wr O D n vs fs' r d := ⟨h.ro.congr e, h.db, h.off, h.od, h.gr⟩
end

/-- What the loop that appends keeps. -/
structure DT (w wr : World) (O D n B G : Nat) (vs : Nat → Sl) (fs : Nat → List Fm.Pc) (r : List Int) (d : Nat) (gk : List Int) (x0 : Int) : Prop where
  hs : DS w wr O D n vs fs r d
  p0 : wr.cell? ⟨B, 0, none⟩ = some (.int .i64 x0)
  am : ∀ j, j < n → wr.cell? ⟨G, j, none⟩ = some (.int .i64 (gk.getD j 0))
  offB : Off vs n B
  ob : O ≠ B
  offG : Off vs n G
  og : O ≠ G
  ltG : G < wr.heap.size
theorem DT.put {w wa wb : World} {O D n B G d : Nat} {vs : Nat → Sl} {fs : Nat → List Fm.Pc} {r gk : List Int} {x0 : Int} (h : DT w wa O D n B G vs fs r d gk x0) {i : Nat} (hi : i < n) {q : Sl} {l : List Fm.Pc} (hr : OP w.heap.size wb q l) (hg : wa.grownBy wb (vs i).blk) (hb : ∀ b, q.blk = some b → (vs i).blk = some b ∨ wa.heap.size ≤ b) :
    DT w (wb.setCell ⟨O, i, none⟩ q.v) O D n B G (upd vs i q) (upd fs i l) r d gk x0 := by
  have hro := (h.hs.ro.put hi hr hg (.inr rfl) hb).1
  have c1 : Chg (O :: (vs i).blk.toList) wa wb := Chg.of hg (fun b hb => by simp [hb])
  have c : Chg (O :: (vs i).blk.toList) wa (wb.setCell ⟨O, i, none⟩ q.v) := c1.set ⟨O, i, none⟩ q.v (by simp)
  have nin : ∀ b, O ≠ b → (vs i).blk ≠ some b → b ∉ O :: (vs i).blk.toList := fun b h1 h2 hm => by
    rcases List.mem_cons.1 hm with e | e
    · exact h1 e.symm
    · exact h2 (by simpa using e)
  have off' : ∀ b, Off vs n b → b < wa.heap.size → Off (upd vs i q) n b := fun b ho hl j hj e => by
    by_cases e2 : j = i
    · subst e2
      rw [upd_same] at e
      rcases hb b e with e3 | e3
      · exact ho j hj e3
      · omega
    · rw [upd_other _ _ e2] at e
      exact ho j hj e
  refine ⟨⟨hro, h.hs.db.chg c (fun b hb => ?_), off' D h.hs.off h.hs.lt.2, h.hs.od, c.grown h.hs.gr (fun b hm => ?_)⟩, c.cell h.p0 (nin B h.ob (h.offB i hi)), fun j hj => c.cell (h.am j hj) (nin G h.og (h.offG i hi)), off' B h.offB (World.block_lt_of_cell? _ _ h.p0), h.ob, off' G h.offG h.ltG, h.og, Nat.lt_of_lt_of_le h.ltG c.size⟩
  · injection hb with hb
    subst hb
    exact nin D h.hs.od (h.hs.off i hi)
  · rcases List.mem_cons.1 hm with e | e
    · subst e; exact h.hs.ro.lt.1
    · exact ((h.hs.ro.each i hi).blk b (by simpa using e)).1
theorem le_vol : ∀ {f : List Fm.Pc}, Fm.Pos f → ∀ p ∈ f, p.2 ≤ Fm.vol f
  | [], _, p, hp => by cases hp
  | q :: f, h, p, hp => by
    have h1 := Fm.vol_pos (f := f) (fun x hx => h x (List.mem_cons_of_mem _ hx))
    have h2 := h q (by simp)
    have e : Fm.vol (q :: f) = q.2 + Fm.vol f := by rw [show q :: f = [q] ++ f from rfl, Fm.vol_app, Fm.vol_one]
    rw [e]
    rcases List.mem_cons.1 hp with e | e
    · subst e; omega
    · have := le_vol (f := f) (fun x hx => h x (List.mem_cons_of_mem _ hx)) p e
      omega
/-- What each one gets may be merged. -/
theorem hk_mok {r : List Int} {f : List Fm.Pc} {k i : Nat} (hf : Mok f) (hl : (hk r (merged f) k i).length ≤ 400) (hp : Fm.Pos (hk r (merged f) k i)) (hv : Fm.vol (hk r (merged f) k i) ≤ 1000000) : Mok (hk r (merged f) k i) := by
  refine ⟨hl, fun p hm => ?_⟩
  have h1 := le_vol hp p hm
  have h2 := hp p hm
  have h3 : p.1 ∈ (hk r (merged f) k i).map Prod.fst := List.mem_map_of_mem hm
  unfold hk at h3
  rw [Dm.handP_fst, List.map_take] at h3
  have h4 := List.mem_of_mem_take h3
  rw [merged_yes hf] at h4
  have h5 := (Dm.mer_fst f).subset h4
  obtain ⟨q, hq, e⟩ := List.mem_map.1 h5
  have h6 := hf.ok q hq
  unfold okm at h6 ⊢
  omega
/-- Either there is an error, or the list may be merged. -/
theorem mok_of {f : List Fm.Pc} (h : ¬ (merged f = [] ∧ f ≠ [])) : Mok f := by
  refine Classical.byContradiction fun hm => ?_
  refine h ⟨merged_no hm, fun e => hm ?_⟩
  subst e
  exact ⟨by simp, fun p hp => by cases hp⟩
end Go.Proofs.Ytafkagaakjfkoaa
