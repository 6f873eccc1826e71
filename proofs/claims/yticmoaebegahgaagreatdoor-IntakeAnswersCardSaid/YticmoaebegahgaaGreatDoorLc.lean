import Derived.Test.YticmoaebegahgaaGreatDoorLb
set_option linter.all false
namespace Go.Proofs.YticmoaebegahgaaGreatDoor.Iw
open Go.ChangeShapes Go.WideShapes Go.ChangeAt Go.RowKit
open Wr (IR RB iv ivs bv bvs grown_trans grown_refl grown_alloc ret_int ret_bool tv Ret ret_mk Made OwnEnd)
def Np (W W' : World) : Prop := ∃ row, W.grownBy W' row ∧ ∀ r, row = some r → ∃ o : Obj, W.heap[r]? = some o ∧ o.isCells = false
theorem Np.cell {W W' : World} (h : Np W W') {a : Addr} {v : Value} (k : W.cell? a = some v) : W'.cell? a = some v := by
  obtain ⟨row, hg, hr⟩ := h; exact cell_kept k hg hr
theorem Np.frozen {W W' : World} (h : Np W W') {a : Addr} {v : Value} (k : W.cell? a = some v) : W'.frozen? a = W.frozen? a := by
  obtain ⟨row, hg, hr⟩ := h; exact frozen_kept k hg hr
theorem Np.size {W W' : World} (h : Np W W') : W.heap.size ≤ W'.heap.size := by obtain ⟨row, hg, hr⟩ := h; exact hg.size
theorem Np.chg {W W' : World} (h : Np W W') : ∃ M, Chg M W W' ∧ ∀ b ∈ M, ∃ o : Obj, W.heap[b]? = some o ∧ o.isCells = false := by
  obtain ⟨row, hg, hr⟩ := h
  exact ⟨row.toList, Chg.of hg (fun b hb => by simpa using hb), fun b hb => hr b (by simpa using hb)⟩
theorem Np.ir {W W' : World} (h : Np W W') {A : Option Addr} {n : Nat} {l : List Int} (k : IR W A n l) : IR W' A n l :=
  ⟨k.1, fun i hi => by obtain ⟨b, off, e, hc⟩ := k.2 i hi; exact ⟨b, off, e, h.cell hc⟩⟩
theorem Np.vi {W W' : World} (h : Np W W') {L : List Nat} {s : Sl} {vs : List Int} (k : VI W L s vs) : VI W' L s vs := ⟨k.fit, k.big, h.ir k.ir, k.off⟩
theorem or_cells {base : Nat} {w : World} {e : TypeId} {k : Nat} {s : Sl} {us : List Value} (h : OR base w e k s us) {b : Nat} (hb : s.blk = some b) : ∃ o : Obj, w.heap[b]? = some o ∧ o.isCells = true := by
  rcases h.own.2 with ⟨e1, _⟩ | ⟨g, cap, cur, e1, _, hg, _⟩
  · obtain ⟨a, n, c⟩ := s
    injection e1 with e1
    subst e1
    cases hb
  · obtain ⟨a, n, c⟩ := s
    injection e1 with e1
    subst e1
    injection hb with hb
    obtain rfl : g = b := hb
    exact ⟨_, hg, rfl⟩
theorem Np.or {W W' : World} (h : Np W W') {base : Nat} {e : TypeId} {k : Nat} {s : Sl} {us : List Value} (o : OR base W e k s us) : OR base W' e k s us := by
  obtain ⟨M, g, hM⟩ := h.chg
  refine o.chg g (fun b hb hm => ?_)
  obtain ⟨o1, h1, h2⟩ := or_cells o hb
  obtain ⟨o2, h3, h4⟩ := hM b hm
  rw [h1] at h3
  injection h3 with h3
  subst h3
  rw [h2] at h4
  cases h4
theorem Np.to {W W' : World} (h : Np W W') {base : Nat} {L : List Nat} {s : Sl} {ts : List Tm.Tg} (k : TO base W L s ts) : TO base W' L s ts := by
  obtain ⟨xs, h1, h2, h3⟩ := k.row
  exact ⟨xs, h1, h.or h2, fun x hx => h.vi (h3 x hx)⟩
theorem Np.ep {W W' : World} (h : Np W W') {base : Nat} {L : List Nat} {s : Sl} {ys : List EV} {us : List Value} (k : EP base W L s ys us) : EP base W' L s ys us :=
  ⟨h.or k.row, fun y hy => h.to (k.held y hy), k.sub, k.rowin, k.apart, k.pair, fun b hb => Nat.lt_of_lt_of_le (k.new b hb) h.size⟩
theorem Np.tri {W W' : World} (h : Np W W') {B : Nat} {v0 v1 v2 : Value} (k : Tri W B v0 v1 v2) : Tri W' B v0 v1 v2 := by
  refine ⟨⟨h.cell k.1.1, h.cell k.1.2.1, h.cell k.1.2.2⟩, fun i => ?_⟩
  have h1 := k.2 i
  obtain ⟨M, g, hM⟩ := h.chg
  have hB : B ∉ M := fun hm => by
    obtain ⟨o, h2, h3⟩ := hM B hm
    obtain ⟨o', h4, h5⟩ := cells_of_cell k.1.1
    rw [h2] at h4
    injection h4 with h4
    subst h4
    rw [h3] at h5
    cases h5
  rw [g.frozen k.lt hB]
  exact h1
theorem Np.st {W W' : World} (h : Np W W') {base : Nat} {L : List Nat} {B : Nat} {win : Int} {T E : Sl} {ys : List EV} (k : St base W L B win T E ys) : St base W' L B win T E ys :=
  ⟨h.tri k.tri, h.ep k.eo, k.bl, k.eb, k.yb, k.ok, k.w0, Nat.le_trans k.hb h.size, k.bb⟩
theorem TO.less {base : Nat} {w : World} {L L' : List Nat} {s : Sl} {ts : List Tm.Tg} (h : TO base w L s ts) (hL : ∀ b ∈ L', b ∈ L) : TO base w L' s ts := by
  obtain ⟨xs, h1, h2, h3⟩ := h.row
  exact ⟨xs, h1, h2, fun x hx => ⟨(h3 x hx).fit, (h3 x hx).big, (h3 x hx).ir, fun b hb hn hm => (h3 x hx).off b hb hn (hL b hm)⟩⟩
theorem VI.less {w : World} {L L' : List Nat} {s : Sl} {vs : List Int} (h : VI w L s vs) (hL : ∀ b ∈ L', b ∈ L) : VI w L' s vs := ⟨h.fit, h.big, h.ir, fun b hb hn hm => h.off b hb hn (hL b hm)⟩
theorem St.less {base : Nat} {w : World} {L L' : List Nat} {B : Nat} {win : Int} {T E : Sl} {ys : List EV} (k : St base w L B win T E ys) (hL : ∀ b ∈ L', b ∈ L) (hr : ∀ b ∈ L, (∃ o : Obj, w.heap[b]? = some o ∧ o.isCells = true) → b ∈ L') : St base w L' B win T E ys := by
  refine ⟨k.tri, ⟨k.eo.row, fun y hy => (k.eo.held y hy).less hL, fun y hy b hb => hr b (k.eo.sub y hy b hb) ?_, fun b hb => hr b (k.eo.rowin b hb) (or_cells k.eo.row hb), k.eo.apart, k.eo.pair, fun b hb => k.eo.new b (hL b hb)⟩, hr B k.bl ?_, k.eb, k.yb, k.ok, k.w0, k.hb, k.bb⟩
  · obtain ⟨xs, h1, h2, h3⟩ := (k.eo.held y hy).row
    exact or_cells h2 hb
  · exact cells_of_cell k.tri.1.1
theorem KX.before {base : Nat} {X : List Nat} {w w1 w2 : World} (g : w.grownBy w1 none) (k : KX base X w1 w2) : KX base X w w2 :=
  ⟨Nat.le_trans g.size k.1, fun i hi hx => (k.2 i (Nat.lt_of_lt_of_le hi g.size) hx).trans (g.block i hi (by simp))⟩
def AfEnd (base : Nat) (X : List Nat) (L : List Nat) (B : Nat) (win : Int) (T : Sl) (ys : List EV) (l : List UInt8) (w : World) (e : Ending) (w' : World) : Prop :=
  ∃ (L' : List Nat) (E' G : Sl) (zs : List EV), e = .returned G.v ∧ St base w' L' B win T E' zs ∧ zs.map Prod.fst = (Im.run win (ys.map Prod.fst) (Im.gets [l])).1 ∧ TO base w' L' G (Im.run win (ys.map Prod.fst) (Im.gets [l])).2 ∧ (∀ b ∈ L', b ∈ L ∨ w.heap.size ≤ b) ∧ (∀ b ∈ L, b ∈ L') ∧ Chg L w w' ∧ KX base X w w' ∧ Xo X w' B E' zs ∧ ∀ b, G.blk = some b → b ∉ X
theorem gets_one {l : List UInt8} {t : Tm.Tg} {er : Int} (h : Tm.Dc l t er) : Im.gets [l] = if er = 0 then [t] else [] := by
  unfold Im.gets
  rw [List.filterMap_cons, Im.dec_dc h]
  by_cases e : er = 0 <;> simp [e]
set_option maxRecDepth 100000 in
set_option maxHeartbeats 3200000 in
theorem acceptframe_any (base : Nat) (X : List Nat) (L : List Nat) (B : Nat) (win : Int) (T E : Sl) (ys : List EV) (A : Option Addr) (n c : Nat) (l : List UInt8) (w : World) (hS : St base w L B win T E ys) (hX : Xo X w B E ys) (hl : RB w A n l) (hc : n ≤ c) (hc2 : c ≤ 9223372036854775807) (hn : n ≤ 1000000) (ht : Wr.Tabled w) :
    Calls Tryz.prog 41 #[.pointer (some ⟨B, 0, none⟩), .slice A n c] w (AfEnd base X L B win T ys l w) := by
  have SH := Hi hS
  have XH := Hi hX
  have DE := Hi (Wr.decodeX_any A n c l w hl hc hc2 hn ht)
  clear hS hX hl hc hc2 hn ht
  go_enter Tryz.func41, Tryz.ntmps41
  go_wp2_with fail
  refine DE.out.mono ?_
  rintro e w1 ⟨g1, t, V, m, cv, er, rfl, hir, hm, hdc, hcv, hfr⟩
  have GE := Hi (gets_one hdc)
  have DC := Hi hdc
  have IRH := Hi hir
  have FR := Hi hfr
  have G1 := Hi g1
  clear hdc hir hfr g1 DE
  obtain ⟨tst, tep, tsq, ttm, tkd, tvs⟩ := t
  dsimp only [tv] at *
  obtain ⟨Z, hZ⟩ : ∃ Z, Z = w1.heap.size := ⟨_, rfl⟩
  obtain ⟨w2, hw2⟩ : ∃ w2, w2 = w1.alloc (Wr.tcells ⟨tst, tep, tsq, ttm, tkd, tvs⟩ (.slice V m cv)) := ⟨_, rfl⟩
  have g2 : w1.grownBy w2 none := by subst hw2; exact grown_alloc _ _ _
  have SX := Hi (show Wr.Six w2 Z ⟨tst, tep, tsq, ttm, tkd, tvs⟩ (.slice V m cv) by subst hw2; subst hZ; exact Wr.Six.made _ _ _)
  have G2 := Hi (grown_trans G1.out g2)
  unfold Wr.tcells at hw2
  dsimp only at hw2
  obtain ⟨⟨a0, a1, a2, a3, a4, a5⟩, -⟩ := SX.out
  dsimp only at a0 a1 a2 a3 a4 a5
  by_cases her : er = 0
  · subst her
    have hok := (Tm.dc_back DC.out).1
    have HO := Hi hok
    rw [if_pos rfl] at GE
    have VH := Hi (show VI w2 L ⟨V, m, cv⟩ tvs from ⟨⟨hcv.1, by dsimp only; omega⟩, by dsimp only; omega, (IRH.out).grown g2, fun b hb _ hm => by
      have h1 := FR.out b hb
      have h2 := SH.out.eo.new b hm
      omega⟩)
    have S2 := Hi (show St base w2 L B win T E ys from ⟨SH.out.tri.grown G2.out, SH.out.eo.grown G2.out, SH.out.bl, SH.out.eb, SH.out.yb, SH.out.ok, SH.out.w0, Nat.le_trans SH.out.hb G2.out.size, SH.out.bb⟩)
    have AC := Hi (acceptX_any base X L B win T E ys ⟨tst, tep, tsq, ttm, tkd, tvs⟩ ⟨V, m, cv⟩ w2 S2.out (XH.out.size G2.out.size) HO.out VH.out)
    dsimp only [tv, Sl.v] at AC
    clear hok g2 IRH FR DC
    go_upto_region 4 with fail
    rw [← hw2]
    simp only [← hZ]
    clear hw2 hZ
    go_wp2_with fail
    refine AC.out.mono ?_
    rintro e w3 ⟨L', E', G, zs, er, rfl, her, hS3, hz, hG, hL1, hL2, hC, hK, hXo, hGX⟩
    obtain ⟨ga, gn, gc⟩ := G
    have hend : AfEnd base X L B win T ys l w (.returned (.slice ga gn gc)) w3 := by
      refine ⟨L', E', ⟨ga, gn, gc⟩, zs, rfl, hS3, ?_, ?_, fun b hb => (hL1 b hb).imp id (fun e => Nat.le_trans G2.out.size e), hL2, (Chg.of0 G2.out).trans hC, hK.before G2.out, hXo, hGX⟩
      · rw [GE.out, hz]; rfl
      · rw [GE.out]
        show TO base w3 L' ⟨ga, gn, gc⟩ ((Im.acc win (ys.map Prod.fst) _).2 ++ [])
        rw [List.append_nil]
        exact hG
    have HE := Hi hend
    clear hend hS3 hz hG hL1 hL2 hC hK hXo hGX her AC S2 VH a0 a1 a2 a3 a4 a5 SX
    dsimp only [Sl.v]
    go_wp2
    go_ret
    exact HE.out
  · rw [if_neg her] at GE
    have hb : (er != 0) = true := by simp [her]
    have HE := Hi (show AfEnd base X L B win T ys l w (.returned (.slice none 0 0)) w2 from
      ⟨L, E, nilS, ys, rfl, ⟨SH.out.tri.grown G2.out, SH.out.eo.grown G2.out, SH.out.bl, SH.out.eb, SH.out.yb, SH.out.ok, SH.out.w0, Nat.le_trans SH.out.hb G2.out.size, SH.out.bb⟩, by rw [GE.out]; rfl, by rw [GE.out]; exact ⟨[], rfl, or_nil _ _ _ _, fun y hy => by cases hy⟩, fun b hb => .inl hb, fun b hb => hb, Chg.of0 G2.out, (KX.refl base X w2).before G2.out, XH.out.size G2.out.size, fun b hb => by cases hb⟩)
    go_upto_region 3 with fail
    rw [← hw2]
    clear hw2 hZ a0 a1 a2 a3 a4 a5
    go_wp2
    go_ret
    exact HE.out
end Go.Proofs.YticmoaebegahgaaGreatDoor.Iw
