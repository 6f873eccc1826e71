import Derived.Test.YticmoaebegahgaaGreatDoorJ4
import Derived.Deep.DeepCutAuto
set_option linter.all false
namespace Go.Proofs.YticmoaebegahgaaGreatDoor.Iw
open Go.ChangeShapes Go.WideShapes Go.ChangeAt Go.RowKit
open Wr (IR RB iv ivs bv bvs grown_trans grown_refl grown_alloc ret_int ret_bool tv Ret ret_mk)
def Kp (base : Nat) (w w' : World) : Prop := ∀ i, i < base → w'.heap[i]? = w.heap[i]?
def KX (base : Nat) (X : List Nat) (w w' : World) : Prop := w.heap.size ≤ w'.heap.size ∧ ∀ i, i < w.heap.size → i < base ∨ i ∈ X → w'.heap[i]? = w.heap[i]?
theorem KX.refl (base : Nat) (X : List Nat) (w : World) : KX base X w w := ⟨Nat.le_refl _, fun _ _ _ => rfl⟩
theorem KX.then {base : Nat} {X : List Nat} {w w1 w2 : World} {M : List Nat} (h : KX base X w w1) (g : Chg M w1 w2) (_hb : base ≤ w1.heap.size) (hM : ∀ b ∈ M, base ≤ b ∧ b ∉ X) : KX base X w w2 :=
  ⟨Nat.le_trans h.1 g.size, fun i hi hx => (g.block i (Nat.lt_of_lt_of_le hi h.1) (fun hm => by
    have h1 := hM i hm
    rcases hx with hx | hx
    · omega
    · exact h1.2 hx)).trans (h.2 i hi hx)⟩
structure Xo (X : List Nat) (w : World) (B : Nat) (E : Sl) (ys : List EV) : Prop where
  xe : ∀ b, E.blk = some b → b ∉ X
  xy : ∀ y ∈ ys, ∀ b, y.2.blk = some b → b ∉ X
  xb : ∀ b ∈ X, b < w.heap.size
  xB : B ∉ X
theorem Xo.nil (w : World) (B : Nat) (E : Sl) (ys : List EV) : Xo [] w B E ys := ⟨(fun _ _ h => by cases h), (fun _ _ _ _ h => by cases h), (fun _ h => by cases h), (fun h => by cases h)⟩
theorem Xo.size {X : List Nat} {w w' : World} {B : Nat} {E : Sl} {ys : List EV} (h : Xo X w B E ys) (g : w.heap.size ≤ w'.heap.size) : Xo X w' B E ys := ⟨h.xe, h.xy, fun b hb => Nat.lt_of_lt_of_le (h.xb b hb) g, h.xB⟩
structure Ac (base : Nat) (X : List Nat) (w : World) (L : List Nat) (B : Nat) (win : Value) (T E : Sl) (Es : Nat) (zs : List EV) (i : Nat) (x : Im.Wt) (H G : Sl) (ts : List Tm.Tg) : Prop where
  tri : Tri w B win T.v E.v
  eo : EO base w L E zs
  at_ : zs[i]? = some (x, H)
  ea : E.a = some ⟨Es, 0, none⟩
  bl : B ∈ L
  eb : Es ≠ B
  yb : ∀ y ∈ zs, y.2.blk ≠ some B
  gto : TO base w L G ts
  gl : ∀ b, G.blk = some b → b ∈ L
  gb : G.blk ≠ some B
  ge : G.blk ≠ some Es
  gy : ∀ y ∈ zs, ∀ b, y.2.blk = some b → G.blk ≠ some b
  hb : base ≤ w.heap.size
  xo : Xo X w B E zs
  xg : ∀ b, G.blk = some b → b ∉ X
section
variable {base : Nat} {X : List Nat} {w w' : World} {L : List Nat} {B Es i : Nat} {win : Value} {T E H G : Sl} {zs : List EV} {x : Im.Wt} {ts : List Tm.Tg}
theorem Ac.eblk (h : Ac base X w L B win T E Es zs i x H G ts) : E.blk = some Es := by unfold Sl.blk; rw [h.ea]; rfl
theorem Ac.el (h : Ac base X w L B win T E Es zs i x H G ts) : Es ∈ L := h.eo.rowin Es h.eblk
theorem Ac.mem (h : Ac base X w L B win T E Es zs i x H G ts) : (x, H) ∈ zs := List.mem_of_getElem? h.at_
theorem Ac.hto (h : Ac base X w L B win T E Es zs i x H G ts) : TO base w L H x.held := h.eo.held _ h.mem
theorem Ac.hl (h : Ac base X w L B win T E Es zs i x H G ts) : ∀ b, H.blk = some b → b ∈ L := h.eo.sub _ h.mem
theorem Ac.he (h : Ac base X w L B win T E Es zs i x H G ts) : H.blk ≠ some Es := fun e => h.eo.apart _ h.mem Es e h.eblk
theorem Ac.low (h : Ac base X w L B win T E Es zs i x H G ts) : ∀ b ∈ Es :: H.blk.toList, base ≤ b ∧ b ∉ X := fun b hb => by
  rcases List.mem_cons.1 hb with rfl | hb
  · exact ⟨(h.eo.row.blk _ h.eblk).1, h.xo.xe _ h.eblk⟩
  · exact ⟨(h.hto.blk b (by simpa using hb)).1, h.xo.xy _ h.mem b (by simpa using hb)⟩
theorem Ac.low1 (h : Ac base X w L B win T E Es zs i x H G ts) : ∀ b ∈ [Es], base ≤ b ∧ b ∉ X := fun b hb => h.low b (by rw [List.mem_singleton] at hb; subst hb; exact List.mem_cons_self)
theorem Ac.lowg (h : Ac base X w L B win T E Es zs i x H G ts) : ∀ b ∈ G.blk.toList, base ≤ b ∧ b ∉ X := fun b hb => ⟨(h.gto.blk b (by simpa using hb)).1, h.xg b (by simpa using hb)⟩
theorem Ac.row (h : Ac base X w L B win T E Es zs i x H G ts) : OR base w 32 4 ⟨some ⟨Es, 0, none⟩, E.n, E.c⟩ (f4 zs) := by
  have := h.eo.row
  obtain ⟨a, n, c⟩ := E
  have ha : a = some ⟨Es, 0, none⟩ := h.ea
  subst ha
  exact this
theorem Ac.grown (h : Ac base X w L B win T E Es zs i x H G ts) (g : w.grownBy w' none) : Ac base X w' L B win T E Es zs i x H G ts :=
  ⟨h.tri.grown g, h.eo.grown g, h.at_, h.ea, h.bl, h.eb, h.yb, h.gto.grown g, h.gl, h.gb, h.ge, h.gy, Nat.le_trans h.hb g.size, h.xo.size g.size, h.xg⟩
theorem mem_set {α : Type} {l : List α} {i : Nat} {a y : α} (h : y ∈ l.set i a) : y = a ∨ ∃ j, j ≠ i ∧ l[j]? = some y := by
  obtain ⟨j, hj, rfl⟩ := List.mem_iff_getElem.1 h
  rw [List.length_set] at hj
  by_cases e : i = j
  · left; subst e; simp
  · right; exact ⟨j, fun e' => e e'.symm, by rw [List.getElem_set_ne e, List.getElem?_eq_getElem hj]⟩
theorem pair_at {zs : List EV} (h : zs.Pairwise fun x y => ∀ k, x.2.blk = some k → y.2.blk ≠ some k) {i j : Nat} {y z : EV} (hi : zs[i]? = some y) (hj : zs[j]? = some z) (hne : i ≠ j) : ∀ k, y.2.blk = some k → z.2.blk ≠ some k := by
  rw [List.pairwise_iff_getElem] at h
  obtain ⟨hi', rfl⟩ := List.getElem?_eq_some_iff.1 hi
  obtain ⟨hj', rfl⟩ := List.getElem?_eq_some_iff.1 hj
  intro k hk hk'
  rcases Nat.lt_or_ge i j with e | e
  · exact h i j hi' hj' e k hk hk'
  · exact h j i hj' hi' (by omega) k hk' hk
theorem Ac.upd (h : Ac base X w L B win T E Es zs i x H G ts) {x' : Im.Wt} {H' : Sl} (g : Chg (Es :: H.blk.toList) w w') (hrow : OR base w' 32 4 E (f4 (zs.set i (x', H')))) (hheld : TO base w' (L ++ H'.blk.toList) H' x'.held) (hb : ∀ b, H'.blk = some b → H.blk = some b ∨ w.heap.size ≤ b) :
    Ac base X w' (L ++ H'.blk.toList) B win T E Es (zs.set i (x', H')) i x' H' G ts := by
  have hil : i < zs.length := by
    rcases Nat.lt_or_ge i zs.length with h' | h'
    · exact h'
    · have := h.at_; rw [List.getElem?_eq_none h'] at this; cases this
  have hM : ∀ b ∈ Es :: H.blk.toList, b ∈ L := fun b hb => by
    rcases List.mem_cons.1 hb with rfl | hb
    · exact h.el
    · exact h.hl b (by simpa using hb)
  have hnew : ∀ b ∈ L ++ H'.blk.toList, b ∈ L ∨ w.heap.size ≤ b := fun b hm => by
    rcases List.mem_append.1 hm with hm | hm
    · exact .inl hm
    · rcases hb b (by simpa using hm) with e | e
      · exact .inl (h.hl b e)
      · exact .inr e
  have hBM : B ∉ Es :: H.blk.toList := fun hm => by
    rcases List.mem_cons.1 hm with e | hm
    · exact h.eb e.symm
    · exact h.yb _ h.mem (by simpa using hm)
  have hGM : ∀ b, G.blk = some b → b ∉ Es :: H.blk.toList := fun b hg hm => by
    rcases List.mem_cons.1 hm with e | hm
    · subst e; exact h.ge hg
    · exact h.gy _ h.mem b (by simpa using hm) hg
  have hold : ∀ {j : Nat} {y : EV}, j ≠ i → zs[j]? = some y → ∀ b, y.2.blk = some b → b ∉ Es :: H.blk.toList := fun {j y} hj hy b hyb hm => by
    rcases List.mem_cons.1 hm with e | hm
    · subst e; exact h.eo.apart y (List.mem_of_getElem? hy) _ hyb h.eblk
    · exact pair_at h.eo.pair hy h.at_ hj b hyb (by simpa using hm)
  have hH' : ∀ b, H'.blk = some b → b < w'.heap.size := fun b hb => (hheld.blk b hb).2
  refine ⟨h.tri.step g hBM, ⟨hrow, fun y hy => ?_, fun y hy b hyb => ?_, fun b hr => List.mem_append_left _ (h.eo.rowin b hr), fun y hy b hyb => ?_, ?_, fun b hm => ?_⟩, by simp [hil], h.ea, List.mem_append_left _ h.bl, h.eb, fun y hy e => ?_, h.gto.step g hGM (fun b hm => .inl (hM b hm)) hnew, fun b hg => List.mem_append_left _ (h.gl b hg), h.gb, h.ge, fun y hy b hyb hg => ?_, Nat.le_trans h.hb g.size, ⟨h.xo.xe, fun y hy b hyb => ?_, fun b hb => Nat.lt_of_lt_of_le (h.xo.xb b hb) g.size, h.xo.xB⟩, h.xg⟩
  · rcases mem_set hy with rfl | ⟨j, hj, hy⟩
    · exact hheld
    · exact (h.eo.held y (List.mem_of_getElem? hy)).step g (hold hj hy) (fun b hm => .inl (hM b hm)) hnew
  · rcases mem_set hy with rfl | ⟨j, hj, hy⟩
    · exact List.mem_append_right _ (by simpa using hyb)
    · exact List.mem_append_left _ (h.eo.sub y (List.mem_of_getElem? hy) b hyb)
  · rcases mem_set hy with rfl | ⟨j, hj, hy⟩
    · intro e
      rw [h.eblk] at e
      injection e with e
      subst e
      rcases hb _ hyb with e | e
      · exact h.he e
      · have := h.eo.new _ h.el; omega
    · exact h.eo.apart y (List.mem_of_getElem? hy) b hyb
  · rw [List.pairwise_iff_getElem]
    intro p q hp hq hpq k hk hk'
    rw [List.length_set] at hp hq
    have hfresh : ∀ {j : Nat} {y : EV}, j ≠ i → zs[j]? = some y → y.2.blk = some k → H'.blk ≠ some k := fun {j y} hj hy h1 h2 => by
      rcases hb k h2 with e | e
      · exact pair_at h.eo.pair hy h.at_ hj k h1 e
      · have := h.eo.new k (h.eo.sub y (List.mem_of_getElem? hy) k h1); omega
    by_cases e1 : i = p
    · subst e1
      have e2 : i ≠ q := by omega
      rw [List.getElem_set_self] at hk
      rw [List.getElem_set_ne e2] at hk'
      exact hfresh (fun e => e2 e.symm) (List.getElem?_eq_getElem hq) hk' hk
    · rw [List.getElem_set_ne e1] at hk
      by_cases e2 : i = q
      · subst e2
        rw [List.getElem_set_self] at hk'
        exact hfresh (fun e => e1 e.symm) (List.getElem?_eq_getElem hp) hk hk'
      · rw [List.getElem_set_ne e2] at hk'
        exact pair_at h.eo.pair (List.getElem?_eq_getElem hp) (List.getElem?_eq_getElem hq) (by omega) k hk hk'
  · rcases List.mem_append.1 hm with hm | hm
    · exact Nat.lt_of_lt_of_le (h.eo.new b hm) g.size
    · exact hH' b (by simpa using hm)
  · rcases mem_set hy with rfl | ⟨j, hj, hy⟩
    · rcases hb B e with e | e
      · exact h.yb _ h.mem e
      · have := h.eo.new _ h.bl; omega
    · exact h.yb y (List.mem_of_getElem? hy) e
  · rcases mem_set hy with rfl | ⟨j, hj, hy⟩
    · rcases hb b hyb with e | e
      · exact h.gy _ h.mem b e hg
      · have := h.eo.new _ (h.gl b hg); omega
    · exact h.gy y (List.mem_of_getElem? hy) b hyb hg
  · rcases mem_set hy with rfl | ⟨j, hj, hy⟩
    · intro hm
      rcases hb b hyb with e | e
      · exact h.xo.xy _ h.mem b e hm
      · have := h.xo.xb b hm; omega
    · exact h.xo.xy y (List.mem_of_getElem? hy) b hyb
theorem Ac.anew (h : Ac base X w L B win T E Es zs i x H nilS []) {x' : Im.Wt} (hx' : x'.held = []) (g : Chg [Es] w w') (hrow : OR base w' 32 4 E (f4 (zs.set i (x', nilS)))) :
    Ac base X w' L B win T E Es (zs.set i (x', nilS)) i x' nilS H x.held := by
  have g2 : Chg (Es :: H.blk.toList) w w' := g.weak (fun b hb => by rw [List.mem_singleton] at hb; subst hb; exact List.mem_cons_self)
  have h1 := h.upd (x' := x') (H' := nilS) g2 hrow ⟨[], by simp [hx'], or_nil _ _ _ _, fun y hy => by cases hy⟩ (fun b hb => by cases hb)
  have e1 : L ++ nilS.blk.toList = L := by simp [nilS, Sl.blk]
  rw [e1] at h1
  have hH : TO base w' L H x.held := h.hto.step g (fun b hb hm => by rw [List.mem_singleton] at hm; subst hm; exact h.he hb) (fun b hm => .inl (by rw [List.mem_singleton] at hm; subst hm; exact h.el)) (fun b hb => .inl hb)
  refine ⟨h1.tri, h1.eo, h1.at_, h1.ea, h1.bl, h1.eb, h1.yb, hH, h.hl, h.yb _ h.mem, h.he, fun y hy b hyb hg => ?_, h1.hb, h1.xo, h.xo.xy _ h.mem⟩
  rcases mem_set hy with rfl | ⟨j, hj, hy⟩
  · cases hyb
  · exact pair_at h.eo.pair hy h.at_ hj b hyb hg
theorem Ac.app (h : Ac base X w L B win T E Es zs i x H G ts) {r : Sl} {gs dx : List TV} (hgs : gs.map Prod.fst = ts) (hgv : ∀ y ∈ gs, VI w L y.2 y.1.vs) (hdv : ∀ y ∈ dx, VI w L y.2 y.1.vs)
    (hr : OR base w' 28 6 r (f6 gs ++ f6 dx)) (hg : w.grownBy w' G.blk) (hrb : ∀ b, r.blk = some b → G.blk = some b ∨ b = w.heap.size) :
    Ac base X w' (L ++ r.blk.toList) B win T E Es zs i x H r (ts ++ dx.map Prod.fst) := by
  have g : Chg G.blk.toList w w' := Chg.of hg (fun b hb => by simpa using hb)
  have hM : ∀ b ∈ G.blk.toList, b ∈ L := fun b hb => h.gl b (by simpa using hb)
  have hrn : ∀ b, r.blk = some b → b ∈ L ∨ w.heap.size ≤ b := fun b hb => by
    rcases hrb b hb with e | e
    · exact .inl (h.gl b e)
    · exact .inr (by omega)
  have hnew : ∀ b ∈ L ++ r.blk.toList, b ∈ L ∨ w.heap.size ≤ b := fun b hm => by
    rcases List.mem_append.1 hm with hm | hm
    · exact .inl hm
    · exact hrn b (by simpa using hm)
  have hin : ∀ b, b ∈ L → G.blk ≠ some b → r.blk ≠ some b := fun b hbL hG hr => by
    rcases hrb b hr with e | e
    · exact hG e
    · have := h.eo.new b hbL; omega
  refine ⟨h.tri.step g (fun hm => h.gb (by simpa using hm)), ⟨?_, fun y hy => ?_, fun y hy b hyb => List.mem_append_left _ (h.eo.sub y hy b hyb), fun b hr => List.mem_append_left _ (h.eo.rowin b hr), h.eo.apart, h.eo.pair, fun b hm => ?_⟩, h.at_, h.ea, List.mem_append_left _ h.bl, h.eb, h.yb, ⟨gs ++ dx, by rw [List.map_append, hgs], ?_, fun y hy => ?_⟩, fun b hb => List.mem_append_right _ (by simpa using hb), hin B h.bl h.gb, hin Es h.el h.ge, fun y hy b hyb => hin b (h.eo.sub y hy b hyb) (h.gy y hy b hyb), Nat.le_trans h.hb g.size, h.xo.size g.size, (fun b hb hm => by
    rcases hrb b hb with e | e
    · exact h.xg b e hm
    · have := h.xo.xb b hm; omega)⟩
  · exact h.eo.row.chg g (fun b hb hm => by rw [h.eblk] at hb; injection hb with hb; subst hb; exact h.ge (by simpa using hm))
  · exact (h.eo.held y hy).step g (fun b hyb hm => h.gy y hy b hyb (by simpa using hm)) (fun b hm => .inl (hM b hm)) hnew
  · rcases List.mem_append.1 hm with hm | hm
    · exact Nat.lt_of_lt_of_le (h.eo.new b hm) g.size
    · exact (hr.blk b (by simpa using hm)).2
  · have e1 : f6 (gs ++ dx) = f6 gs ++ f6 dx := flat_app gs dx
    rw [e1]; exact hr
  · rcases List.mem_append.1 hy with hy | hy
    · exact (hgv y hy).step (g.weak hM) hnew
    · exact (hdv y hy).step (g.weak hM) hnew
end
end Go.Proofs.YticmoaebegahgaaGreatDoor.Iw
namespace Go.Proofs.YticmoaebegahgaaGreatDoor.Iw
open Go.ChangeShapes Go.WideShapes Go.ChangeAt Go.RowKit
open Wr (IR RB iv ivs bv bvs grown_trans grown_refl grown_alloc ret_int ret_bool tv Ret ret_mk)
def freshF (x : Im.Wt) (t : Tm.Tg) : Im.Wt := if x.ep < t.ep then ⟨t.st, t.ep, 0, []⟩ else x
def outF (x : Im.Wt) (t : Tm.Tg) : List Tm.Tg := if x.ep < t.ep then x.held else []
theorem give_none {n : Int} {l : List Tm.Tg} (h : Im.Asc n l) : Im.give l n = (l, n, []) := by
  cases l with
  | nil => rfl
  | cons t r =>
    have := h.1
    unfold Im.give
    rw [if_neg (by omega)]
theorem settle_stay {win : Int} {x : Im.Wt} (h : Im.WOk win x) : Im.settle win x.st x.ep x.nx x.held [] = (x, []) := by
  unfold Im.settle
  rw [give_none h.asc]
  have := h.len
  rw [if_neg (by dsimp only; omega)]
  rfl
theorem take_core {win : Int} {x : Im.Wt} {t : Tm.Tg} (h : Im.WOk win x) (ht : t.ok = true) (hst : x.st = t.st) : Im.take win x t = Im.settle win (freshF x t).st (freshF x t).ep (freshF x t).nx (holdF (freshF x t) t) (outF x t) := by
  have hsq := (Im.sq_le ht).1
  unfold Im.take freshF outF
  by_cases c1 : t.ep < x.ep ∨ t.ep = x.ep ∧ t.sq < x.nx
  · rw [if_pos c1, if_neg (by omega), if_neg (by omega)]
    have : holdF x t = x.held := if_pos (.inr (by rcases c1 with c | c; exact .inl c; exact .inr c.2))
    rw [this, settle_stay h]
  · rw [if_neg c1]
    by_cases c2 : x.ep < t.ep
    · rw [if_pos c2, if_pos c2, if_pos c2]
      have : holdF ⟨t.st, t.ep, 0, []⟩ t = [t] := by
        unfold holdF
        rw [if_neg (by simp [Im.dup, Im.highs]; omega)]
        simp [Im.lows, Im.highs]
      rw [this, hst]
    · rw [if_neg c2, if_neg c2, if_neg c2]
      by_cases c3 : Im.dup t.sq x.held = true
      · rw [if_pos c3]
        have : holdF x t = x.held := if_pos (.inl c3)
        rw [this, settle_stay h]
      · rw [if_neg c3]
        have : holdF x t = Im.lows t.sq x.held ++ t :: Im.highs t.sq x.held := if_neg (by
          rintro (k | k | k)
          · exact c3 k
          · exact c1 (.inl k)
          · exact c1 (.inr ⟨by omega, k⟩))
        rw [this]
theorem fresh_ok {win : Int} {x : Im.Wt} {t : Tm.Tg} (hw : 0 ≤ win) (h : Im.WOk win x) (ht : t.ok = true) : Im.WOk win (freshF x t) := by
  unfold freshF
  split
  · have := Im.new_ok hw ht
    exact this
  · exact h
theorem hold_len {win : Int} {x : Im.Wt} {t : Tm.Tg} (h : Im.WOk win x) : ((holdF x t).length : Int) ≤ win + 1 := by
  have := h.len
  unfold holdF
  split
  · omega
  · rw [Im.len_insert]; push_cast; omega
theorem hold_all {win : Int} {x : Im.Wt} {t : Tm.Tg} (h : Im.WOk win x) (ht : t.ok = true) : ∀ y ∈ holdF x t, y.ok = true := by
  intro y hy
  unfold holdF at hy
  split at hy
  · exact (h.all y hy).1
  · rcases Im.mem_insert.1 hy with rfl | hy
    · exact ht
    · exact (h.all y hy).1
theorem give_mem (l : List Tm.Tg) : ∀ n, (∀ y ∈ (Im.give l n).1, y ∈ l) ∧ (Im.give l n).1.length ≤ l.length ∧ (Im.give l n).2.2.length ≤ l.length := by
  induction l with
  | nil => intro n; simp [Im.give]
  | cons t r ih =>
    intro n
    unfold Im.give
    split
    · obtain ⟨a, b, c⟩ := ih (n + 1)
      refine ⟨fun y hy => List.mem_cons_of_mem t (a y hy), ?_, ?_⟩
      · simp only [List.length_cons]; omega
      · simp only [List.length_cons]; omega
    · exact ⟨fun y hy => hy, by simp, by simp⟩
structure St (base : Nat) (w : World) (L : List Nat) (B : Nat) (win : Int) (T E : Sl) (ys : List EV) : Prop where
  tri : Tri w B (.int .i64 win) T.v E.v
  eo : EO base w L E ys
  bl : B ∈ L
  eb : E.blk ≠ some B
  yb : ∀ y ∈ ys, y.2.blk ≠ some B
  ok : Im.SOk win (ys.map Prod.fst)
  w0 : 0 ≤ win ∧ win ≤ 16
  hb : base ≤ w.heap.size
  bb : base ≤ B
def AcEnd (base : Nat) (L : List Nat) (B : Nat) (win : Int) (T : Sl) (ys : List EV) (t : Tm.Tg) (w : World) (e : Ending) (w' : World) : Prop :=
  ∃ (L' : List Nat) (E' G : Sl) (zs : List EV) (er : Int), e = .returned (.tuple #[G.v, .int .i64 er]) ∧ (er = if ys.length < 64 ∨ Im.ent (ys.map Prod.fst) t.st ≠ none then 0 else 4) ∧ St base w' L' B win T E' zs ∧ zs.map Prod.fst = (Im.acc win (ys.map Prod.fst) t).1 ∧ TO base w' L' G (Im.acc win (ys.map Prod.fst) t).2 ∧ (∀ b ∈ L', b ∈ L ∨ w.heap.size ≤ b) ∧ (∀ b ∈ L, b ∈ L') ∧ Chg L w w' ∧ Kp base w w'
def AcX (base : Nat) (X : List Nat) (L : List Nat) (B : Nat) (win : Int) (T : Sl) (ys : List EV) (t : Tm.Tg) (w : World) (e : Ending) (w' : World) : Prop :=
  ∃ (L' : List Nat) (E' G : Sl) (zs : List EV) (er : Int), e = .returned (.tuple #[G.v, .int .i64 er]) ∧ (er = if ys.length < 64 ∨ Im.ent (ys.map Prod.fst) t.st ≠ none then 0 else 4) ∧ St base w' L' B win T E' zs ∧ zs.map Prod.fst = (Im.acc win (ys.map Prod.fst) t).1 ∧ TO base w' L' G (Im.acc win (ys.map Prod.fst) t).2 ∧ (∀ b ∈ L', b ∈ L ∨ w.heap.size ≤ b) ∧ (∀ b ∈ L, b ∈ L') ∧ Chg L w w' ∧ KX base X w w' ∧ Xo X w' B E' zs ∧ ∀ b, G.blk = some b → b ∉ X
theorem Ac.st {base : Nat} {X : List Nat} {w w0 : World} {L L0 : List Nat} {B Es i : Nat} {win : Int} {T E H G : Sl} {zs : List EV} {x : Im.Wt} {ts : List Tm.Tg} (h : Ac base X w L B (.int .i64 win) T E Es zs i x H G ts) (hw : 0 ≤ win ∧ win ≤ 16) (ok : Im.SOk win (zs.map Prod.fst)) (bb : base ≤ B) : St base w L B win T E zs :=
  ⟨h.tri, h.eo, h.bl, by rw [h.eblk]; intro e; injection e with e; exact h.eb e, h.yb, ok, hw, h.hb, bb⟩
theorem ls_add {L L2 : List Nat} {w : World} {r : Sl} (h : (∀ b ∈ L, b ∈ L2) ∧ ∀ b ∈ L2, b ∈ L ∨ w.heap.size ≤ b) (hr : ∀ b, r.blk = some b → b ∈ L2 ∨ w.heap.size ≤ b) : (∀ b ∈ L, b ∈ L2 ++ r.blk.toList) ∧ ∀ b ∈ L2 ++ r.blk.toList, b ∈ L ∨ w.heap.size ≤ b :=
  ⟨fun b hb => List.mem_append_left _ (h.1 b hb), fun b hb => by
    rcases List.mem_append.1 hb with hb | hb
    · exact h.2 b hb
    · rcases hr b (by simpa using hb) with e | e
      · exact h.2 b e
      · exact .inr e⟩
theorem ac_end {base : Nat} {X : List Nat} {w wf : World} {L Lf : List Nat} {B Es i : Nat} {win : Int} {T E H G : Sl} {ys zs : List EV} {x x0 : Im.Wt} {t : Tm.Tg} {ts : List Tm.Tg} (h : Ac base X wf Lf B (.int .i64 win) T E Es (zs.set i (x, H)) i x H G ts) (hw : 0 ≤ win ∧ win ≤ 16) (hok : Im.SOk win (ys.map Prod.fst)) (ht : t.ok = true) (hroom : ys.length < 64 ∨ Im.ent (ys.map Prod.fst) t.st ≠ none) (hacc : Im.acc win (ys.map Prod.fst) t = ((zs.map Prod.fst).set i (Im.take win x0 t).1, (Im.take win x0 t).2)) (htk : Im.take win x0 t = (x, ts)) (ls : (∀ b ∈ L, b ∈ Lf) ∧ ∀ b ∈ Lf, b ∈ L ∨ w.heap.size ≤ b) (g : Chg L w wf) (bb : base ≤ B) (kp : KX base X w wf) :
    AcX base X L B win T ys t w (.returned (.tuple #[G.v, .int .i64 0])) wf := by
  have ML : (ys.map Prod.fst).length = ys.length := List.length_map _
  have hz : (zs.set i (x, H)).map Prod.fst = (Im.acc win (ys.map Prod.fst) t).1 := by rw [hacc, htk, List.map_set]
  have hso : Im.SOk win ((zs.set i (x, H)).map Prod.fst) := by
    rw [hz]
    rcases Im.acc_spec hw.1 hok ht with ⟨k1, k2, _⟩ | ⟨_, k, _⟩
    · rcases hroom with e | e
      · omega
      · exact absurd k2 e
    · exact k
  exact ⟨Lf, E, G, zs.set i (x, H), 0, rfl, by rw [if_pos hroom], h.st (w0 := w) (L0 := L) hw hso bb, hz, by rw [hacc, htk]; exact h.gto, ls.2, ls.1, g, kp, h.xo, h.xg⟩
set_option maxRecDepth 100000 in
set_option maxHeartbeats 8000000 in
theorem acceptX_any (base : Nat) (XS : List Nat) (L : List Nat) (B : Nat) (win : Int) (T E : Sl) (ys : List EV) (t : Tm.Tg) (V : Sl) (w : World) (hS : St base w L B win T E ys) (hX : Xo XS w B E ys) (ht : t.ok = true) (hV : VI w L V t.vs) :
    Calls Tryz.prog 34 #[.pointer (some ⟨B, 0, none⟩), tv t V.v] w (AcX base XS L B win T ys t w) := by
  have hok := hS.ok
  have hAS := Im.acc_spec hS.w0.1 hok ht
  have ML : (ys.map Prod.fst).length = ys.length := List.length_map _
  have SH := Hi hS
  have XQ := Hi hX
  clear hX
  have VH := Hi hV
  have AS := Hi hAS
  have hw := hS.w0
  clear hAS hV
  obtain ⟨Va, Vn, Vc⟩ := V
  obtain ⟨tst, tep, tsq, ttm, tkd, tvs⟩ := t
  obtain ⟨TG, hTG⟩ : ∃ TG : Tm.Tg, TG = ⟨tst, tep, tsq, ttm, tkd, tvs⟩ := ⟨_, rfl⟩
  have TGH := Hi hTG
  dsimp only [tv, Sl.v] at *
  obtain ⟨w1, hw1⟩ : ∃ w1, w1 = w.alloc (Wr.tcells ⟨tst, tep, tsq, ttm, tkd, tvs⟩ (.slice Va Vn Vc)) := ⟨_, rfl⟩
  obtain ⟨X, hX⟩ : ∃ X, X = w.heap.size := ⟨_, rfl⟩
  have G1 := Hi (show w.grownBy w1 none by subst hw1; exact grown_alloc _ _ _)
  have S0 := Hi (show Wr.Six w1 X ⟨tst, tep, tsq, ttm, tkd, tvs⟩ (.slice Va Vn Vc) by subst hw1; subst hX; exact Wr.Six.made _ _ _)
  have EN := Hi (entry_any base L B win T E ys ⟨tst, tep, tsq, ttm, tkd, tvs⟩ ⟨Va, Vn, Vc⟩ w1 (SH.out.tri.grown G1.out) (SH.out.eo.grown G1.out) SH.out.bl SH.out.eb SH.out.yb hok.asc (by rw [← ML]; exact hok.len) (Nat.le_trans SH.out.hb G1.out.size))
  have HX0 := Hi hX
  obtain ⟨⟨a0, a1, a2, a3, a4, a5⟩, -⟩ := S0.out
  dsimp only at a0 a1 a2 a3 a4 a5
  unfold Wr.tcells at hw1
  dsimp only at hw1
  dsimp only [tv, Sl.v] at EN
  go_enter Tryz.func34, Tryz.ntmps34
  go_wp2_with fail
  rw [← hw1]
  simp only [← hX]
  clear hw1 hX hTG hS
  refine (EN.out).mono ?_
  rintro e w2 (⟨rfl, g2, hacc⟩ | ⟨E', L2, zs, i, Es, x, H, rfl, hEa, hEB, hzi, hT2, hE2, hL2, hL2', g2, hacc, hxst, hxy, hzy, hroom, hEe⟩)
  · have G2 := Hi (grown_trans G1.out g2)
    have AC := Hi hacc
    clear g2 hacc EN a0 a1 a2 a3 a4 a5
    go_wp2
    go_ret2
    have ha := (AC.out win).1
    have hl := (AC.out win).2.1
    have hn := (AC.out win).2.2
    refine ⟨L, E, nilS, ys, 4, rfl, ?_, ⟨SH.out.tri.grown G2.out, SH.out.eo.grown G2.out, SH.out.bl, SH.out.eb, SH.out.yb, hok, hw, Nat.le_trans SH.out.hb G2.out.size, SH.out.bb⟩, by rw [ha], by rw [ha]; exact ⟨[], rfl, or_nil _ _ _ _, fun y hy => by cases hy⟩, fun b hb => .inl hb, fun b hb => hb, Chg.of0 G2.out, (KX.refl base XS w).then (M := []) (Chg.of0 G2.out) SH.out.hb (by simp), XQ.out.size G2.out.size, fun b hb => by cases hb⟩
    rw [if_neg]
    rintro (k | k)
    · omega
    · exact k hn
  · have hnil : TO base w2 L2 nilS [] := ⟨[], rfl, or_nil _ _ _ _, fun y hy => by cases hy⟩
    have hE2e : Es ∈ L2 := hE2.rowin Es (by unfold Sl.blk; rw [hEa]; rfl)
    have hs1 := G1.out.size
    have hL2w : ∀ b ∈ L2, b ∈ L ∨ X + 1 ≤ b := fun b hb => (hL2' b hb).imp id (fun e => by have h1 := (World.block_lt_of_cell? _ _ a0); simp only at h1; omega)
    have hXL : X ∉ L2 := fun hm => by
      rcases hL2w X hm with e | e
      · have h1 := SH.out.eo.new X e; have h2 := HX0.out; omega
      · omega
    have hEbL : ∀ b ∈ B :: E.blk.toList, b ∈ L := fun b hb => by
      rcases List.mem_cons.1 hb with rfl | hb
      · exact SH.out.bl
      · exact SH.out.eo.rowin b (by simpa using hb)
    have hyB : ∀ y ∈ zs, y.2.blk ≠ some B := fun y hy => by
      rcases hzy y hy with hy | rfl
      · exact SH.out.yb y hy
      · simp [nilS, Sl.blk]
    have XO2 : Xo XS w2 B E' zs := by
      refine ⟨fun b hb hm => ?_, fun y hy b hb => ?_, fun b hb => Nat.lt_of_lt_of_le (XQ.out.xb b hb) (Nat.le_trans G1.out.size g2.size), XQ.out.xB⟩
      · rcases hEe b hb with e | e
        · exact XQ.out.xe b e hm
        · have h1 := XQ.out.xb b hm; omega
      · rcases hzy y hy with hy | rfl
        · exact XQ.out.xy y hy b hb
        · cases hb
    have AC := Hi (show Ac base XS w2 L2 B (.int .i64 win) T E' Es zs i x H nilS [] from
      ⟨hT2, hE2, hzi, hEa, hL2 B SH.out.bl, hEB, hyB, hnil, (fun b hb => by cases hb), (by simp [nilS, Sl.blk]), (by simp [nilS, Sl.blk]), (fun y hy b hyb hg => by cases hg), Nat.le_trans (Nat.le_trans SH.out.hb G1.out.size) g2.size, XO2, (fun b hb => by cases hb)⟩)
    have hxok : Im.WOk win x := by
      rcases hxy with rfl | hm
      · exact Im.new_ok hw.1 ht
      · exact hok.all x (List.mem_map.2 ⟨_, hm, rfl⟩)
    have hXM : X ∉ B :: E.blk.toList := fun hm => by have h1 := SH.out.eo.new X (hEbL X hm); have h2 := HX0.out; omega
    have b0 := g2.cell a0 hXM
    have b1 := g2.cell a1 hXM
    have b2 := g2.cell a2 hXM
    have b3 := g2.cell a3 hXM
    have b4 := g2.cell a4 hXM
    have b5 := g2.cell a5 hXM
    have VL := Hi (show VI w2 L2 ⟨Va, Vn, Vc⟩ tvs from (VH.out.grown G1.out).step (g2.weak hEbL) hL2')
    have GK := Hi (((KX.refl base XS w).then (M := []) (Chg.of0 G1.out) SH.out.hb (by simp)).then g2 (Nat.le_trans SH.out.hb G1.out.size) (fun b hb => by
      rcases List.mem_cons.1 hb with rfl | hb
      · exact ⟨SH.out.bb, XQ.out.xB⟩
      · exact ⟨(SH.out.eo.row.blk b (by simpa using hb)).1, XQ.out.xe b (by simpa using hb)⟩))
    have GA := Hi (show Chg L w w2 from (Chg.of0 G1.out).trans (g2.weak hEbL))
    have LS := Hi (show (∀ b ∈ L, b ∈ L2) ∧ (∀ b ∈ L2, b ∈ L ∨ w.heap.size ≤ b) from ⟨hL2, fun b hb => (hL2' b hb).imp id (fun e => by omega)⟩)
    have CORE := Hi (take_core hxok ht hxst)
    have XK := Hi hxok
    have HACC := Hi (hacc win)
    have FOK := Hi (fresh_ok hw.1 hxok ht)
    have HXL := Hi hXL
    have HR := Hi hroom
    clear a0 a1 a2 a3 a4 a5 hEbL hL2w hXM hxy hzy hnil hT2 hE2 hzi hyB hacc hxok hL2 hL2' g2 hroom EN S0 XO2 hEe
    obtain ⟨xst, xep, xnx, xh⟩ := x
    obtain ⟨Ha, Hn, Hc⟩ := H
    obtain ⟨ea, en, ec⟩ := E'
    dsimp only at hxst hEa
    subst hEa
    have HXS := Hi hxst
    clear hxst
    obtain ⟨c0, c1, c2, c3⟩ := four_of (o := i * 4) (OR.elem ecs_len AC.out.row AC.out.at_)
    dsimp only [Sl.v] at c0 c1 c2 c3
    by_cases hnew : xep < tep
    · have hd : decide (xep < tep) = true := by simpa using hnew
      have FX := Hi (show freshF ⟨xst, xep, xnx, xh⟩ (⟨tst, tep, tsq, ttm, tkd, tvs⟩ : Tm.Tg) = ⟨tst, tep, 0, []⟩ from if_pos hnew)
      have OX := Hi (show outF ⟨xst, xep, xnx, xh⟩ (⟨tst, tep, tsq, ttm, tkd, tvs⟩ : Tm.Tg) = xh from if_pos hnew)
      rw [FX.out] at FOK
      have ho := AC.out.row.open_
      have o0 := ho (i * 4)
      have o1 := ho (i * 4 + 1)
      have o2 := ho (i * 4 + 2)
      have o3 := ho (i * 4 + 3)
      clear ho
      have hXE : X ≠ Es := fun e => by subst e; exact hXL hE2e
      go_wp2_with fail
      go_quiet (fail)
      have GD := Hi (Wr.grown_drewN w2 nq none)
      have AC := Hi (AC.out.grown GD.out)
      have VL := Hi (VL.out.grown GD.out)
      have GK := Hi (GK.out.then (M := []) (Chg.of0 GD.out) (Nat.le_trans SH.out.hb GA.out.size) (by simp))
      have GA := Hi (GA.out.trans (Chg.of0 GD.out))
      have c0 := GD.out.cell c0 (by simp)
      have c1 := GD.out.cell c1 (by simp)
      have c2 := GD.out.cell c2 (by simp)
      have c3 := GD.out.cell c3 (by simp)
      have b0 := GD.out.cell b0 (by simp)
      have b1 := GD.out.cell b1 (by simp)
      have b2 := GD.out.cell b2 (by simp)
      have b3 := GD.out.cell b3 (by simp)
      have b4 := GD.out.cell b4 (by simp)
      have b5 := GD.out.cell b5 (by simp)
      replace o0 : (w2.drewN nq).frozen? ⟨Es, i * 4, none⟩ = false := o0
      replace o1 : (w2.drewN nq).frozen? ⟨Es, i * 4 + 1, none⟩ = false := o1
      replace o2 : (w2.drewN nq).frozen? ⟨Es, i * 4 + 2, none⟩ = false := o2
      replace o3 : (w2.drewN nq).frozen? ⟨Es, i * 4 + 3, none⟩ = false := o3
      clear GD
      generalize w2.drewN nq = wq at *
      have hizs : i < zs.length := by
        rcases Nat.lt_or_ge i zs.length with h' | h'
        · exact h'
        · have := AC.out.at_; rw [List.getElem?_eq_none h'] at this; cases this
      have PS := Hi (AC.out.row.put ecs_len (i := i) hizs ((⟨tst, tep, 0, []⟩, nilS) : EV))
      have gset : Chg [Es] wq (wq.setCells Es (i * 4) (ecs ((⟨tst, tep, 0, []⟩, nilS) : EV))) := Chg.of PS.out.2 (fun b hb => by injection hb with hb; simp [hb])
      have VL := Hi (VL.out.step (L' := L2) (gset.weak (fun b hb => by rw [List.mem_singleton] at hb; subst hb; exact AC.out.el)) (fun b hb => .inl hb))
      have GK := Hi (GK.out.then gset (Nat.le_trans SH.out.hb GA.out.size) AC.out.low1)
      have GA := Hi (GA.out.then gset (fun b hb => by rw [List.mem_singleton] at hb; subst hb; exact LS.out.2 _ AC.out.el))
      have AC := Hi (AC.out.anew (x' := ⟨tst, tep, 0, []⟩) rfl gset PS.out.1)
      clear gset PS
      go_wp2_with fail
      have F1 := Hi FOK.out.len
      have N1 := Hi (show (0 : Int) ≤ 0 ∧ (0 : Int) ≤ 2147483649 from FOK.out.n0)
      have HL := Hi (show (((holdF (⟨tst, tep, 0, []⟩ : Im.Wt) (⟨tst, tep, tsq, ttm, tkd, tvs⟩ : Tm.Tg)).length : Int) ≤ win + 1) from hold_len FOK.out)
      have HA := Hi (show ∀ y ∈ holdF (⟨tst, tep, 0, []⟩ : Im.Wt) (⟨tst, tep, tsq, ttm, tkd, tvs⟩ : Tm.Tg), y.ok = true from hold_all FOK.out ht)
      have HN1 : Sl.n nilS ≤ 1000 := by have h1 := AC.out.hto.len; have h2 := F1.out; dsimp only at h1 h2 ⊢; omega
      have HO := Hi (hold_any base L2 Es en ec (zs.set i ((⟨tst, tep, 0, []⟩ : Im.Wt), nilS)) i (⟨tst, tep, 0, []⟩ : Im.Wt) nilS (⟨tst, tep, tsq, ttm, tkd, tvs⟩ : Tm.Tg) ⟨Va, Vn, Vc⟩ _ AC.out.row AC.out.at_ AC.out.hto AC.out.he AC.out.el AC.out.hl AC.out.eo.new AC.out.hb HN1 FOK.out.asc VL.out)
      dsimp only [tv, Sl.v] at HO
      refine (HO.out).mono ?_
      rintro e w3 ⟨H2, rfl, hrow2, hheld2, g3, hb2⟩
      have AC2 := Hi (AC.out.upd g3 hrow2 hheld2 hb2)
      have GK2 := Hi (GK.out.then g3 (Nat.le_trans SH.out.hb GA.out.size) AC.out.low)
      have GA2 := Hi (GA.out.then g3 (fun b hb => LS.out.2 b (by
        rcases List.mem_cons.1 hb with rfl | hb
        · exact AC.out.el
        · exact AC.out.hl b (by simpa using hb))))
      have LS2 := Hi (ls_add (r := H2) LS.out (fun b hb => by
        rcases hb2 b hb with e | e
        · exact .inl (AC.out.hl b e)
        · exact .inr (Nat.le_trans GA.out.size e)))
      clear hrow2 hheld2 g3 hb2
      have HN2 : Sl.n H2 ≤ 1000000 := by have h1 := AC2.out.hto.len; have h2 := HL.out; dsimp only at h1 h2 ⊢; omega
      have GO := Hi (giveout_any base _ Es en ec _ i _ H2 w3 AC2.out.row AC2.out.at_ AC2.out.hto AC2.out.he AC2.out.el AC2.out.hl AC2.out.eo.new HN2 ⟨N1.out.1, by have := N1.out.2; dsimp only; omega⟩)
      go_wp2_with fail
      refine (GO.out).mono ?_
      rintro e w4 ⟨D, H3, rfl, hD, hrow3, hH3, hb3, g4⟩
      simp only [List.set_set] at hrow3
      dsimp only at hD hrow3 hH3
      generalize hgv : Im.give (holdF (⟨tst, tep, 0, []⟩ : Im.Wt) (⟨tst, tep, tsq, ttm, tkd, tvs⟩ : Tm.Tg)) 0 = gv at hD hrow3 hH3
      obtain ⟨g1, g2, gd⟩ := gv
      dsimp only at hD hrow3 hH3
      have GV := Hi hgv
      clear hgv
      have GM := Hi (give_mem (holdF (⟨tst, tep, 0, []⟩ : Im.Wt) (⟨tst, tep, tsq, ttm, tkd, tvs⟩ : Tm.Tg)) 0)
      rw [GV.out] at GM
      have AC3a := Hi (AC2.out.upd (x' := ⟨tst, tep, g2, g1⟩) (H' := H3) g4 (by simp only [List.set_set]; exact hrow3) (hH3.step (M := []) (Chg.refl _ _) (fun _ _ h => by cases h) (fun _ h => by cases h) (fun b hb => by
        rcases List.mem_append.1 hb with hb | hb
        · exact .inl hb
        · exact .inl (AC2.out.hl b (by rw [← hb3]; simpa using hb)))) (fun b hb => .inl (by rw [← hb3]; exact hb)))
      simp only [List.set_set] at AC3a
      have GK3 := Hi (GK2.out.then g4 (Nat.le_trans SH.out.hb GA2.out.size) AC2.out.low)
      have GA3 := Hi (GA2.out.then g4 (fun b hb => LS2.out.2 b (by
        rcases List.mem_cons.1 hb with rfl | hb
        · exact AC2.out.el
        · exact AC2.out.hl b (by simpa using hb))))
      have LS3 := Hi (ls_add (r := H3) LS2.out (fun b hb => .inl (AC2.out.hl b (by rw [← hb3]; exact hb))))
      have HD := Hi hD
      have HB3 := Hi (show ∀ b, H3.blk = some b → H2.blk = some b from fun b hb => by rw [← hb3]; exact hb)
      have HR2 := Hi (AC2.out.hl)
      clear hD hrow3 hH3 hb3 g4
      obtain ⟨gs, hgs, hgor, hgv, hgl⟩ := AC3a.out.gto.off
      obtain ⟨dx, hdx, hdor, hdv, hdl⟩ := HD.out.off
      have hDn : D.n ≤ 17 := by have h1 := HD.out.len; have h2 := GM.out.2.2; have h3 := HL.out; dsimp only at h1 h2 h3; omega
      have hGn : Hn ≤ 17 := by have h1 := AC3a.out.gto.len; have h2 := XK.out.len; dsimp only at h1 h2; omega
      obtain ⟨I, hI, hz, hsz, hby⟩ := parts_t
      have HGO := Hi hgor
      have HDO := Hi hdor
      have HB1 := Hi (show (Hn + D.n) * 64 ≤ 140737488355328 by omega)
      have HB2 := Hi (show Hn + D.n ≤ 1000000000 by omega)
      obtain ⟨da, dn, dc⟩ := D
      dsimp only [Sl.v]
      go_wp2_with (first
        | (at_builtin
           refine wpList_appK rfl _ _ 30 rfl (S := ⟨Ha, Hn, Hc⟩) (V := ⟨da, dn, dc⟩) Tryz.underlying30 hI hz hsz hby (by rfl) (by omega) rfl rfl HGO.out AC3a.out.hb HDO.out (f6_one dx) HB1.out HB2.out ?_
           intro r w5 hrn hr hg5 hrb
           clear hrn)
        | fail)
      have AC4 := Hi (AC3a.out.app hgs hgv (fun y hy => (hdv y hy).step (Chg.refl _ _) (fun b hb => by
        rcases List.mem_append.1 hb with hb | hb
        · exact .inl (List.mem_append_left _ hb)
        · exact .inl (List.mem_append_left _ (HR2.out b (HB3.out b (by simpa using hb)))))) hr hg5 hrb)
      rw [hdx] at AC4
      have GK4 := Hi (GK3.out.then (Chg.of (L := (Sl.blk ⟨Ha, Hn, Hc⟩).toList) hg5 (fun b hb => by simpa using hb)) (Nat.le_trans SH.out.hb GA3.out.size) AC3a.out.lowg)
      have GA4 := Hi (GA3.out.then (Chg.of (L := (Sl.blk ⟨Ha, Hn, Hc⟩).toList) hg5 (fun b hb => by simpa using hb)) (fun b hb => LS3.out.2 b (AC3a.out.gl b (by simpa using hb))))
      have LS4 := Hi (ls_add (r := r) LS3.out (fun b hb => by
        rcases hrb b hb with e | e
        · exact .inl (AC3a.out.gl b e)
        · exact .inr (by rw [e]; exact GA3.out.size)))
      clear hr hg5 hrb hgs hgor hgv hgl hdx hdor hdv hdl
      obtain ⟨ra, rn, rc⟩ := r
      obtain ⟨H3a, H3n, H3c⟩ := H3
      dsimp only [Sl.v]
      have hH3n : g1.length = H3n := AC4.out.hto.len
      obtain ⟨c0, c1, c2, c3⟩ := four_of (o := i * 4) (OR.elem ecs_len AC4.out.row AC4.out.at_)
      obtain ⟨⟨e0, -, -⟩, -⟩ := AC4.out.tri
      dsimp only [Sl.v] at c0 c1 c2 c3
      by_cases hlen : win < (H3n : Int)
      · have hd2 : decide (win < (H3n : Int)) = true := by simpa using hlen
        have hH3p : 0 < H3n := by omega
        obtain ⟨y, g1', rfl⟩ : ∃ y g1', g1 = y :: g1' := by
          cases g1 with
          | nil => simp at hH3n; omega
          | cons a b => exact ⟨a, b, rfl⟩
        have hyok := Hi (Im.sq_le (HA.out y (GM.out.1 y (by simp))))
        obtain ⟨hs3, hhs3, hor3, -, hl3⟩ := AC4.out.hto.off
        obtain ⟨g3, rfl⟩ : ∃ g3, H3a = some ⟨g3, 0, none⟩ := by
          rcases hor3.form with ⟨_, h0, _⟩ | ⟨g3, h0, _⟩
          · dsimp only at h0; omega
          · exact ⟨g3, h0⟩
        obtain ⟨z, hz0⟩ : ∃ z, hs3[0]? = some z := ⟨_, List.getElem?_eq_getElem (by dsimp only at hl3; omega)⟩
        have hzy : z.1 = y := by
          have := congrArg (fun l => l[0]?) hhs3
          simpa [hz0] using this
        obtain ⟨-, -, k2, -, -, -⟩ := six_of (o := 0 * 6) (OR.elem tcs_len hor3 hz0)
        rw [hzy] at k2
        simp only [Nat.zero_mul, Nat.zero_add] at k2
        have o2 := AC4.out.row.open_ (i * 4 + 2)
        clear hhs3 hor3 hl3 hz0 hzy
        go_quiet (fail)
        have AC4 := Hi (AC4.out.grown (Wr.grown_drewN w5 nq none))
        have GK4 := Hi (GK4.out.then (M := []) (Chg.of0 (Wr.grown_drewN w5 nq none)) (Nat.le_trans SH.out.hb GA4.out.size) (by simp))
        have GA4 := Hi (GA4.out.trans (Chg.of0 (Wr.grown_drewN w5 nq none)))
        have c3 := (Wr.grown_drewN w5 nq none).cell c3 (by simp)
        have c2 := (Wr.grown_drewN w5 nq none).cell c2 (by simp)
        have k2 := (Wr.grown_drewN w5 nq none).cell k2 (by simp)
        have o2 : (w5.drewN nq).frozen? ⟨Es, i * 4 + 2, none⟩ = false := o2
        generalize w5.drewN nq = w6 at *
        have PS := Hi (AC4.out.row.put1 (f := ecs) ecs_len (i := i) (j := 2) (by omega) (u := .int .i64 y.sq) (y := (⟨tst, tep, y.sq, y :: g1'⟩, ⟨some ⟨g3, 0, none⟩, H3n, H3c⟩)) AC4.out.at_ (by rfl))
        have gset := chg_set w6 Es (i * 4 + 2) (.int .i64 y.sq)
        have AC5 := Hi (AC4.out.upd (x' := ⟨tst, tep, y.sq, y :: g1'⟩) (H' := ⟨some ⟨g3, 0, none⟩, H3n, H3c⟩) (gset.weak (fun b hb => by rw [List.mem_singleton] at hb; subst hb; exact List.mem_cons_self)) PS.out (AC4.out.hto.step gset (fun b hb hm => by rw [List.mem_singleton] at hm; subst hm; exact AC4.out.he hb) (fun b hb => by rw [List.mem_singleton] at hb; subst hb; exact .inl AC4.out.el) (fun b hb => by
          rcases List.mem_append.1 hb with hb | hb
          · exact .inl hb
          · exact .inl (AC4.out.hl b (by simpa using hb)))) (fun b hb => .inl hb))
        simp only [List.set_set] at AC5
        have GK5 := Hi (GK4.out.then gset (Nat.le_trans SH.out.hb GA4.out.size) AC4.out.low1)
        have GA5 := Hi (GA4.out.then gset (fun b hb => by rw [List.mem_singleton] at hb; subst hb; exact LS4.out.2 _ AC4.out.el))
        have LS5 := Hi (ls_add (r := ⟨some ⟨g3, 0, none⟩, H3n, H3c⟩) LS4.out (fun b hb => .inl (AC4.out.hl b hb)))
        have HN5 : H3n ≤ 1000000 := by have h1 := GM.out.2.1; have h2 := HL.out; omega
        have GO5 := Hi (giveout_any base _ Es en ec _ i _ ⟨some ⟨g3, 0, none⟩, H3n, H3c⟩ _ AC5.out.row AC5.out.at_ AC5.out.hto AC5.out.he AC5.out.el AC5.out.hl AC5.out.eo.new HN5 ⟨hyok.out.1, by have := hyok.out.2; dsimp only; omega⟩)
        clear gset PS AC4
        go_wp2_with fail
        refine (GO5.out).mono ?_
        rintro e w7 ⟨D2, H4, rfl, hD, hrow3, hH3, hb3, g4⟩
        simp only [List.set_set] at hrow3
        dsimp only at hD hrow3 hH3
        generalize hgv : Im.give (y :: g1') y.sq = gv at hD hrow3 hH3
        obtain ⟨k1, k3, kd⟩ := gv
        dsimp only at hD hrow3 hH3
        have GV5 := Hi hgv
        clear hgv
        have GM5 := Hi (give_mem (y :: g1') y.sq)
        rw [GV5.out] at GM5
        have AC6 := Hi (AC5.out.upd (x' := ⟨tst, tep, k3, k1⟩) (H' := H4) g4 (by simp only [List.set_set]; exact hrow3) (hH3.step (M := []) (Chg.refl _ _) (fun _ _ h => by cases h) (fun _ h => by cases h) (fun b hb => by
          rcases List.mem_append.1 hb with hb | hb
          · exact .inl hb
          · exact .inl (AC5.out.hl b (by rw [← hb3]; simpa using hb)))) (fun b hb => .inl (by rw [← hb3]; exact hb)))
        simp only [List.set_set] at AC6
        have GK6 := Hi (GK5.out.then g4 (Nat.le_trans SH.out.hb GA5.out.size) AC5.out.low)
        have GA6 := Hi (GA5.out.then g4 (fun b hb => LS5.out.2 b (by
          rcases List.mem_cons.1 hb with rfl | hb
          · exact AC5.out.el
          · exact AC5.out.hl b (by simpa using hb))))
        have LS6 := Hi (ls_add (r := H4) LS5.out (fun b hb => .inl (AC5.out.hl b (by rw [← hb3]; exact hb))))
        have HD6 := Hi hD
        have HB6 := Hi (show ∀ b, H4.blk = some b → Sl.blk ⟨some ⟨g3, 0, none⟩, H3n, H3c⟩ = some b from fun b hb => by rw [← hb3]; exact hb)
        have HR6 := Hi (AC5.out.hl)
        clear hD hrow3 hH3 hb3 g4
        obtain ⟨gs6, hgs6, hgor6, hgv6, hgl6⟩ := AC6.out.gto.off
        obtain ⟨dx6, hdx6, hdor6, hdv6, hdl6⟩ := HD6.out.off
        have hD6n : D2.n ≤ 17 := by have h1 := HD6.out.len; have h2 := GM5.out.2.2; have h3 := GM.out.2.1; have h4 := HL.out; dsimp only at h1 h2 h3; simp only [List.length_cons] at h2 h3; omega
        have hG6n : rn ≤ 40 := by have h1 := AC6.out.gto.len; have h2 := GM.out.2.2; have h3 := HL.out; dsimp only at h1 h2; rw [List.length_append] at h1; have h4 := XK.out.len; dsimp only at h4; omega
        have HGO6 := Hi hgor6
        have HDO6 := Hi hdor6
        have HB61 := Hi (show (rn + D2.n) * 64 ≤ 140737488355328 by omega)
        have HB62 := Hi (show rn + D2.n ≤ 1000000000 by omega)
        obtain ⟨d2a, d2n, d2c⟩ := D2
        dsimp only [Sl.v]
        go_wp2_with (first
          | (at_builtin
             refine wpList_appK rfl _ _ 30 rfl (S := ⟨ra, rn, rc⟩) (V := ⟨d2a, d2n, d2c⟩) Tryz.underlying30 hI hz hsz hby (by rfl) (by omega) rfl rfl HGO6.out AC6.out.hb HDO6.out (f6_one dx6) HB61.out HB62.out ?_
             intro r w8 hrn hr hg5 hrb
             clear hrn)
          | fail)
        have AC7 := Hi (AC6.out.app hgs6 hgv6 (fun y hy => (hdv6 y hy).step (Chg.refl _ _) (fun b hb => by
          rcases List.mem_append.1 hb with hb | hb
          · exact .inl (List.mem_append_left _ hb)
          · exact .inl (List.mem_append_left _ (HR6.out b (HB6.out b (by simpa using hb)))))) hr hg5 hrb)
        rw [hdx6] at AC7
        have GK7 := Hi (GK6.out.then (Chg.of (L := (Sl.blk ⟨ra, rn, rc⟩).toList) hg5 (fun b hb => by simpa using hb)) (Nat.le_trans SH.out.hb GA6.out.size) AC6.out.lowg)
        have GA7 := Hi (GA6.out.then (Chg.of (L := (Sl.blk ⟨ra, rn, rc⟩).toList) hg5 (fun b hb => by simpa using hb)) (fun b hb => LS6.out.2 b (AC6.out.gl b (by simpa using hb))))
        have LS7 := Hi (ls_add (r := r) LS6.out (fun b hb => by
          rcases hrb b hb with e | e
          · exact .inl (AC6.out.gl b e)
          · exact .inr (by rw [e]; exact GA6.out.size)))
        have hset : Im.take win ⟨xst, xep, xnx, xh⟩ (⟨tst, tep, tsq, ttm, tkd, tvs⟩ : Tm.Tg) = (⟨tst, tep, k3, k1⟩, xh ++ gd ++ kd) := by
          rw [CORE.out, FX.out, OX.out]
          unfold Im.settle
          dsimp only
          rw [GV.out, if_pos (by dsimp only; omega)]
          dsimp only [List.headD_cons]
          rw [GV5.out]
        have HST := Hi hset
        clear hset hr hg5 hrb
        try go_ret2
        exact ac_end AC7.out hw hok ht HR.out HACC.out HST.out LS7.out GA7.out SH.out.bb GK7.out
      · have hd2 : decide (win < (H3n : Int)) = false := by simpa using hlen
        have hset : Im.take win ⟨xst, xep, xnx, xh⟩ (⟨tst, tep, tsq, ttm, tkd, tvs⟩ : Tm.Tg) = (⟨tst, tep, g2, g1⟩, xh ++ gd) := by
          rw [CORE.out, FX.out, OX.out]
          unfold Im.settle
          dsimp only
          rw [GV.out, if_neg (by dsimp only; omega)]
        have HST := Hi hset
        clear hset
        go_quiet (fail)
        go_wp2_with fail
        go_ret2
        exact ac_end (AC4.out.grown (Wr.grown_drewN w5 nq none)) hw hok ht HR.out HACC.out HST.out LS4.out (GA4.out.trans (Chg.of0 (Wr.grown_drewN w5 nq none))) SH.out.bb (GK4.out.then (M := []) (Chg.of0 (Wr.grown_drewN w5 nq none)) (Nat.le_trans SH.out.hb GA4.out.size) (by simp))
    · have hd : decide (xep < tep) = false := by simpa using hnew
      have FX := Hi (show freshF ⟨xst, xep, xnx, xh⟩ (⟨tst, tep, tsq, ttm, tkd, tvs⟩ : Tm.Tg) = ⟨xst, xep, xnx, xh⟩ from if_neg hnew)
      have OX := Hi (show outF ⟨xst, xep, xnx, xh⟩ (⟨tst, tep, tsq, ttm, tkd, tvs⟩ : Tm.Tg) = [] from if_neg hnew)
      rw [FX.out] at FOK
      go_wp2_with fail
      go_quiet (fail)
      go_wp2_with fail
      have AC := Hi (AC.out.grown (Wr.grown_drewN w2 nq none))
      have VL := Hi (VL.out.grown (Wr.grown_drewN w2 nq none))
      have GK := Hi (GK.out.then (M := []) (Chg.of0 (Wr.grown_drewN w2 nq none)) (Nat.le_trans SH.out.hb GA.out.size) (by simp))
      have GA := Hi (GA.out.trans (Chg.of0 (Wr.grown_drewN w2 nq none)))
      generalize w2.drewN nq = wq at *
      have F1 := Hi FOK.out.len
      have N1 := Hi (show 0 ≤ xnx ∧ xnx ≤ 2147483649 from FOK.out.n0)
      have HL := Hi (show (((holdF (⟨xst, xep, xnx, xh⟩ : Im.Wt) (⟨tst, tep, tsq, ttm, tkd, tvs⟩ : Tm.Tg)).length : Int) ≤ win + 1) from hold_len FOK.out)
      have HA := Hi (show ∀ y ∈ holdF (⟨xst, xep, xnx, xh⟩ : Im.Wt) (⟨tst, tep, tsq, ttm, tkd, tvs⟩ : Tm.Tg), y.ok = true from hold_all FOK.out ht)
      have HN1 : Sl.n ⟨Ha, Hn, Hc⟩ ≤ 1000 := by have h1 := AC.out.hto.len; have h2 := F1.out; dsimp only at h1 h2 ⊢; omega
      have HO := Hi (hold_any base L2 Es en ec zs i (⟨xst, xep, xnx, xh⟩ : Im.Wt) ⟨Ha, Hn, Hc⟩ (⟨tst, tep, tsq, ttm, tkd, tvs⟩ : Tm.Tg) ⟨Va, Vn, Vc⟩ _ AC.out.row AC.out.at_ AC.out.hto AC.out.he AC.out.el AC.out.hl AC.out.eo.new AC.out.hb HN1 FOK.out.asc VL.out)
      dsimp only [tv, Sl.v] at HO
      refine (HO.out).mono ?_
      rintro e w3 ⟨H2, rfl, hrow2, hheld2, g3, hb2⟩
      have AC2 := Hi (AC.out.upd g3 hrow2 hheld2 hb2)
      have GK2 := Hi (GK.out.then g3 (Nat.le_trans SH.out.hb GA.out.size) AC.out.low)
      have GA2 := Hi (GA.out.then g3 (fun b hb => LS.out.2 b (by
        rcases List.mem_cons.1 hb with rfl | hb
        · exact AC.out.el
        · exact AC.out.hl b (by simpa using hb))))
      have LS2 := Hi (ls_add (r := H2) LS.out (fun b hb => by
        rcases hb2 b hb with e | e
        · exact .inl (AC.out.hl b e)
        · exact .inr (Nat.le_trans GA.out.size e)))
      clear hrow2 hheld2 g3 hb2
      have HN2 : Sl.n H2 ≤ 1000000 := by have h1 := AC2.out.hto.len; have h2 := HL.out; dsimp only at h1 h2 ⊢; omega
      have GO := Hi (giveout_any base _ Es en ec _ i _ H2 w3 AC2.out.row AC2.out.at_ AC2.out.hto AC2.out.he AC2.out.el AC2.out.hl AC2.out.eo.new HN2 ⟨N1.out.1, by have := N1.out.2; dsimp only; omega⟩)
      go_wp2_with fail
      refine (GO.out).mono ?_
      rintro e w4 ⟨D, H3, rfl, hD, hrow3, hH3, hb3, g4⟩
      rw [List.set_set] at hrow3
      dsimp only at hD hrow3 hH3
      generalize hgv : Im.give (holdF (⟨xst, xep, xnx, xh⟩ : Im.Wt) (⟨tst, tep, tsq, ttm, tkd, tvs⟩ : Tm.Tg)) xnx = gv at hD hrow3 hH3
      obtain ⟨g1, g2, gd⟩ := gv
      dsimp only at hD hrow3 hH3
      have GV := Hi hgv
      clear hgv
      have GM := Hi (give_mem (holdF (⟨xst, xep, xnx, xh⟩ : Im.Wt) (⟨tst, tep, tsq, ttm, tkd, tvs⟩ : Tm.Tg)) xnx)
      rw [GV.out] at GM
      have AC3a := Hi (AC2.out.upd (x' := ⟨xst, xep, g2, g1⟩) (H' := H3) g4 (by rw [List.set_set]; exact hrow3) (hH3.step (M := []) (Chg.refl _ _) (fun _ _ h => by cases h) (fun _ h => by cases h) (fun b hb => by
        rcases List.mem_append.1 hb with hb | hb
        · exact .inl hb
        · exact .inl (AC2.out.hl b (by rw [← hb3]; simpa using hb)))) (fun b hb => .inl (by rw [← hb3]; exact hb)))
      rw [List.set_set] at AC3a
      have GK3 := Hi (GK2.out.then g4 (Nat.le_trans SH.out.hb GA2.out.size) AC2.out.low)
      have GA3 := Hi (GA2.out.then g4 (fun b hb => LS2.out.2 b (by
        rcases List.mem_cons.1 hb with rfl | hb
        · exact AC2.out.el
        · exact AC2.out.hl b (by simpa using hb))))
      have LS3 := Hi (ls_add (r := H3) LS2.out (fun b hb => .inl (AC2.out.hl b (by rw [← hb3]; exact hb))))
      have HD := Hi hD
      have HB3 := Hi (show ∀ b, H3.blk = some b → H2.blk = some b from fun b hb => by rw [← hb3]; exact hb)
      have HR2 := Hi (AC2.out.hl)
      clear hD hrow3 hH3 hb3 g4
      obtain ⟨gs, hgs, hgor, hgv, hgl⟩ := AC3a.out.gto.off
      obtain ⟨dx, hdx, hdor, hdv, hdl⟩ := HD.out.off
      have hDn : D.n ≤ 17 := by have h1 := HD.out.len; have h2 := GM.out.2.2; have h3 := HL.out; dsimp only at h1 h2 h3; omega
      have hGn : Sl.n nilS ≤ 17 := by have h1 := AC3a.out.gto.len; rw [← h1]; simp
      obtain ⟨I, hI, hz, hsz, hby⟩ := parts_t
      have HGO := Hi hgor
      have HDO := Hi hdor
      have HB1 := Hi (show (Sl.n nilS + D.n) * 64 ≤ 140737488355328 by omega)
      have HB2 := Hi (show Sl.n nilS + D.n ≤ 1000000000 by omega)
      obtain ⟨da, dn, dc⟩ := D
      dsimp only [Sl.v]
      go_wp2_with (first
        | (at_builtin
           refine wpList_appK rfl _ _ 30 rfl (S := nilS) (V := ⟨da, dn, dc⟩) Tryz.underlying30 hI hz hsz hby (by rfl) (by omega) rfl rfl HGO.out AC3a.out.hb HDO.out (f6_one dx) HB1.out HB2.out ?_
           intro r w5 hrn hr hg5 hrb
           clear hrn)
        | fail)
      have AC4 := Hi (AC3a.out.app hgs hgv (fun y hy => (hdv y hy).step (Chg.refl _ _) (fun b hb => by
        rcases List.mem_append.1 hb with hb | hb
        · exact .inl (List.mem_append_left _ hb)
        · exact .inl (List.mem_append_left _ (HR2.out b (HB3.out b (by simpa using hb)))))) hr hg5 hrb)
      rw [hdx] at AC4
      have GK4 := Hi (GK3.out.then (Chg.of (L := (Sl.blk nilS).toList) hg5 (fun b hb => by simpa using hb)) (Nat.le_trans SH.out.hb GA3.out.size) AC3a.out.lowg)
      have GA4 := Hi (GA3.out.then (Chg.of (L := (Sl.blk nilS).toList) hg5 (fun b hb => by simpa using hb)) (fun b hb => LS3.out.2 b (AC3a.out.gl b (by simpa using hb))))
      have LS4 := Hi (ls_add (r := r) LS3.out (fun b hb => by
        rcases hrb b hb with e | e
        · exact .inl (AC3a.out.gl b e)
        · exact .inr (by rw [e]; exact GA3.out.size)))
      clear hr hg5 hrb hgs hgor hgv hgl hdx hdor hdv hdl
      obtain ⟨ra, rn, rc⟩ := r
      obtain ⟨H3a, H3n, H3c⟩ := H3
      dsimp only [Sl.v]
      have hH3n : g1.length = H3n := AC4.out.hto.len
      obtain ⟨c0, c1, c2, c3⟩ := four_of (o := i * 4) (OR.elem ecs_len AC4.out.row AC4.out.at_)
      obtain ⟨⟨e0, -, -⟩, -⟩ := AC4.out.tri
      dsimp only [Sl.v] at c0 c1 c2 c3
      by_cases hlen : win < (H3n : Int)
      · have hd2 : decide (win < (H3n : Int)) = true := by simpa using hlen
        have hH3p : 0 < H3n := by omega
        obtain ⟨y, g1', rfl⟩ : ∃ y g1', g1 = y :: g1' := by
          cases g1 with
          | nil => simp at hH3n; omega
          | cons a b => exact ⟨a, b, rfl⟩
        have hyok := Hi (Im.sq_le (HA.out y (GM.out.1 y (by simp))))
        obtain ⟨hs3, hhs3, hor3, -, hl3⟩ := AC4.out.hto.off
        obtain ⟨g3, rfl⟩ : ∃ g3, H3a = some ⟨g3, 0, none⟩ := by
          rcases hor3.form with ⟨_, h0, _⟩ | ⟨g3, h0, _⟩
          · dsimp only at h0; omega
          · exact ⟨g3, h0⟩
        obtain ⟨z, hz0⟩ : ∃ z, hs3[0]? = some z := ⟨_, List.getElem?_eq_getElem (by dsimp only at hl3; omega)⟩
        have hzy : z.1 = y := by
          have := congrArg (fun l => l[0]?) hhs3
          simpa [hz0] using this
        obtain ⟨-, -, k2, -, -, -⟩ := six_of (o := 0 * 6) (OR.elem tcs_len hor3 hz0)
        rw [hzy] at k2
        simp only [Nat.zero_mul, Nat.zero_add] at k2
        have o2 := AC4.out.row.open_ (i * 4 + 2)
        clear hhs3 hor3 hl3 hz0 hzy
        go_quiet (fail)
        have AC4 := Hi (AC4.out.grown (Wr.grown_drewN w5 nq none))
        have GK4 := Hi (GK4.out.then (M := []) (Chg.of0 (Wr.grown_drewN w5 nq none)) (Nat.le_trans SH.out.hb GA4.out.size) (by simp))
        have GA4 := Hi (GA4.out.trans (Chg.of0 (Wr.grown_drewN w5 nq none)))
        have c3 := (Wr.grown_drewN w5 nq none).cell c3 (by simp)
        have c2 := (Wr.grown_drewN w5 nq none).cell c2 (by simp)
        have k2 := (Wr.grown_drewN w5 nq none).cell k2 (by simp)
        have o2 : (w5.drewN nq).frozen? ⟨Es, i * 4 + 2, none⟩ = false := o2
        generalize w5.drewN nq = w6 at *
        have PS := Hi (AC4.out.row.put1 (f := ecs) ecs_len (i := i) (j := 2) (by omega) (u := .int .i64 y.sq) (y := (⟨xst, xep, y.sq, y :: g1'⟩, ⟨some ⟨g3, 0, none⟩, H3n, H3c⟩)) AC4.out.at_ (by rfl))
        have gset := chg_set w6 Es (i * 4 + 2) (.int .i64 y.sq)
        have AC5 := Hi (AC4.out.upd (x' := ⟨xst, xep, y.sq, y :: g1'⟩) (H' := ⟨some ⟨g3, 0, none⟩, H3n, H3c⟩) (gset.weak (fun b hb => by rw [List.mem_singleton] at hb; subst hb; exact List.mem_cons_self)) PS.out (AC4.out.hto.step gset (fun b hb hm => by rw [List.mem_singleton] at hm; subst hm; exact AC4.out.he hb) (fun b hb => by rw [List.mem_singleton] at hb; subst hb; exact .inl AC4.out.el) (fun b hb => by
          rcases List.mem_append.1 hb with hb | hb
          · exact .inl hb
          · exact .inl (AC4.out.hl b (by simpa using hb)))) (fun b hb => .inl hb))
        simp only [List.set_set] at AC5
        have GK5 := Hi (GK4.out.then gset (Nat.le_trans SH.out.hb GA4.out.size) AC4.out.low1)
        have GA5 := Hi (GA4.out.then gset (fun b hb => by rw [List.mem_singleton] at hb; subst hb; exact LS4.out.2 _ AC4.out.el))
        have LS5 := Hi (ls_add (r := ⟨some ⟨g3, 0, none⟩, H3n, H3c⟩) LS4.out (fun b hb => .inl (AC4.out.hl b hb)))
        have HN5 : H3n ≤ 1000000 := by have h1 := GM.out.2.1; have h2 := HL.out; omega
        have GO5 := Hi (giveout_any base _ Es en ec _ i _ ⟨some ⟨g3, 0, none⟩, H3n, H3c⟩ _ AC5.out.row AC5.out.at_ AC5.out.hto AC5.out.he AC5.out.el AC5.out.hl AC5.out.eo.new HN5 ⟨hyok.out.1, by have := hyok.out.2; dsimp only; omega⟩)
        clear gset PS AC4
        go_wp2_with fail
        refine (GO5.out).mono ?_
        rintro e w7 ⟨D2, H4, rfl, hD, hrow3, hH3, hb3, g4⟩
        simp only [List.set_set] at hrow3
        dsimp only at hD hrow3 hH3
        generalize hgv : Im.give (y :: g1') y.sq = gv at hD hrow3 hH3
        obtain ⟨k1, k3, kd⟩ := gv
        dsimp only at hD hrow3 hH3
        have GV5 := Hi hgv
        clear hgv
        have GM5 := Hi (give_mem (y :: g1') y.sq)
        rw [GV5.out] at GM5
        have AC6 := Hi (AC5.out.upd (x' := ⟨xst, xep, k3, k1⟩) (H' := H4) g4 (by simp only [List.set_set]; exact hrow3) (hH3.step (M := []) (Chg.refl _ _) (fun _ _ h => by cases h) (fun _ h => by cases h) (fun b hb => by
          rcases List.mem_append.1 hb with hb | hb
          · exact .inl hb
          · exact .inl (AC5.out.hl b (by rw [← hb3]; simpa using hb)))) (fun b hb => .inl (by rw [← hb3]; exact hb)))
        simp only [List.set_set] at AC6
        have GK6 := Hi (GK5.out.then g4 (Nat.le_trans SH.out.hb GA5.out.size) AC5.out.low)
        have GA6 := Hi (GA5.out.then g4 (fun b hb => LS5.out.2 b (by
          rcases List.mem_cons.1 hb with rfl | hb
          · exact AC5.out.el
          · exact AC5.out.hl b (by simpa using hb))))
        have LS6 := Hi (ls_add (r := H4) LS5.out (fun b hb => .inl (AC5.out.hl b (by rw [← hb3]; exact hb))))
        have HD6 := Hi hD
        have HB6 := Hi (show ∀ b, H4.blk = some b → Sl.blk ⟨some ⟨g3, 0, none⟩, H3n, H3c⟩ = some b from fun b hb => by rw [← hb3]; exact hb)
        have HR6 := Hi (AC5.out.hl)
        clear hD hrow3 hH3 hb3 g4
        obtain ⟨gs6, hgs6, hgor6, hgv6, hgl6⟩ := AC6.out.gto.off
        obtain ⟨dx6, hdx6, hdor6, hdv6, hdl6⟩ := HD6.out.off
        have hD6n : D2.n ≤ 17 := by have h1 := HD6.out.len; have h2 := GM5.out.2.2; have h3 := GM.out.2.1; have h4 := HL.out; dsimp only at h1 h2 h3; simp only [List.length_cons] at h2 h3; omega
        have hG6n : rn ≤ 40 := by have h1 := AC6.out.gto.len; have h2 := GM.out.2.2; have h3 := HL.out; dsimp only at h1 h2; rw [List.length_append] at h1; simp only [List.length_nil] at h1; omega
        have HGO6 := Hi hgor6
        have HDO6 := Hi hdor6
        have HB61 := Hi (show (rn + D2.n) * 64 ≤ 140737488355328 by omega)
        have HB62 := Hi (show rn + D2.n ≤ 1000000000 by omega)
        obtain ⟨d2a, d2n, d2c⟩ := D2
        dsimp only [Sl.v]
        go_wp2_with (first
          | (at_builtin
             refine wpList_appK rfl _ _ 30 rfl (S := ⟨ra, rn, rc⟩) (V := ⟨d2a, d2n, d2c⟩) Tryz.underlying30 hI hz hsz hby (by rfl) (by omega) rfl rfl HGO6.out AC6.out.hb HDO6.out (f6_one dx6) HB61.out HB62.out ?_
             intro r w8 hrn hr hg5 hrb
             clear hrn)
          | fail)
        have AC7 := Hi (AC6.out.app hgs6 hgv6 (fun y hy => (hdv6 y hy).step (Chg.refl _ _) (fun b hb => by
          rcases List.mem_append.1 hb with hb | hb
          · exact .inl (List.mem_append_left _ hb)
          · exact .inl (List.mem_append_left _ (HR6.out b (HB6.out b (by simpa using hb)))))) hr hg5 hrb)
        rw [hdx6] at AC7
        have GK7 := Hi (GK6.out.then (Chg.of (L := (Sl.blk ⟨ra, rn, rc⟩).toList) hg5 (fun b hb => by simpa using hb)) (Nat.le_trans SH.out.hb GA6.out.size) AC6.out.lowg)
        have GA7 := Hi (GA6.out.then (Chg.of (L := (Sl.blk ⟨ra, rn, rc⟩).toList) hg5 (fun b hb => by simpa using hb)) (fun b hb => LS6.out.2 b (AC6.out.gl b (by simpa using hb))))
        have LS7 := Hi (ls_add (r := r) LS6.out (fun b hb => by
          rcases hrb b hb with e | e
          · exact .inl (AC6.out.gl b e)
          · exact .inr (by rw [e]; exact GA6.out.size)))
        have hset : Im.take win ⟨xst, xep, xnx, xh⟩ (⟨tst, tep, tsq, ttm, tkd, tvs⟩ : Tm.Tg) = (⟨xst, xep, k3, k1⟩, [] ++ gd ++ kd) := by
          rw [CORE.out, FX.out, OX.out]
          unfold Im.settle
          dsimp only
          rw [GV.out, if_pos (by dsimp only; omega)]
          dsimp only [List.headD_cons]
          rw [GV5.out]
        have HST := Hi hset
        clear hset hr hg5 hrb
        try go_ret2
        exact ac_end AC7.out hw hok ht HR.out HACC.out HST.out LS7.out GA7.out SH.out.bb GK7.out
      · have hd2 : decide (win < (H3n : Int)) = false := by simpa using hlen
        have hset : Im.take win ⟨xst, xep, xnx, xh⟩ (⟨tst, tep, tsq, ttm, tkd, tvs⟩ : Tm.Tg) = (⟨xst, xep, g2, g1⟩, [] ++ gd) := by
          rw [CORE.out, FX.out, OX.out]
          unfold Im.settle
          dsimp only
          rw [GV.out, if_neg (by dsimp only; omega)]
        have HST := Hi hset
        clear hset
        go_quiet (fail)
        go_wp2_with fail
        go_ret2
        exact ac_end (AC4.out.grown (Wr.grown_drewN w5 nq none)) hw hok ht HR.out HACC.out HST.out LS4.out (GA4.out.trans (Chg.of0 (Wr.grown_drewN w5 nq none))) SH.out.bb (GK4.out.then (M := []) (Chg.of0 (Wr.grown_drewN w5 nq none)) (Nat.le_trans SH.out.hb GA4.out.size) (by simp))
theorem accept_any (base : Nat) (L : List Nat) (B : Nat) (win : Int) (T E : Sl) (ys : List EV) (t : Tm.Tg) (V : Sl) (w : World) (hS : St base w L B win T E ys) (ht : t.ok = true) (hV : VI w L V t.vs) :
    Calls Tryz.prog 34 #[.pointer (some ⟨B, 0, none⟩), tv t V.v] w (AcEnd base L B win T ys t w) :=
  (acceptX_any base [] L B win T E ys t V w hS (Xo.nil _ _ _ _) ht hV).mono fun e w' ⟨L', E', G, zs, er, h1, h2, h3, h4, h5, h6, h7, h8, h9, _, _⟩ =>
    ⟨L', E', G, zs, er, h1, h2, h3, h4, h5, h6, h7, h8, fun i hi => h9.2 i (Nat.lt_of_lt_of_le hi hS.hb) (.inl hi)⟩
end Go.Proofs.YticmoaebegahgaaGreatDoor.Iw
namespace Go.Proofs.YticmoaebegahgaaGreatDoor.Iw
open Go.ChangeShapes Go.WideShapes Go.ChangeAt Go.RowKit
open Wr (IR RB iv ivs bv bvs grown_trans grown_refl grown_alloc ret_int ret_bool tv Ret ret_mk)
theorem results_cell2 {fn : Func} {p u : Tmp} {ty : TypeId} (h : fn.results = #[.cell p ty, .tmp u]) (tmps : Array Value) (P : Program) (w : World) :
    (results fn tmps).run P w = ((asAddr (tmps.getD p undef)).run P w).andThen fun a w₁ => ((loadVar ty a).run P w₁).andThen fun v w₂ => .ok (.tuple #[v, tmps.getD u undef]) w₂ := by
  simp only [results, h]
  simp [Sem.run_bind, Result.andThen]
theorem results_cell3 {fn : Func} {p u v : Tmp} {ty : TypeId} (h : fn.results = #[.cell p ty, .tmp u, .tmp v]) (tmps : Array Value) (P : Program) (w : World) :
    (results fn tmps).run P w = ((asAddr (tmps.getD p undef)).run P w).andThen fun a w₁ => ((loadVar ty a).run P w₁).andThen fun x w₂ => .ok (.tuple #[x, tmps.getD u undef, tmps.getD v undef]) w₂ := by
  simp only [results, h]
  simp [Sem.run_bind, Result.andThen]
def KS (lo : Nat) (w : World) (T E : Sl) (k : Ik) : Prop := ∀ w', Chg (List.range lo) w w' → KR w' T E k
def TRS (lo : Nat) (w : World) (s : Sl) (ts : List Tm.Tg) : Prop := TO lo w (List.range lo) s ts
theorem TO.base_ {base b' : Nat} {w : World} {L : List Nat} {s : Sl} {ts : List Tm.Tg} (h : TO base w L s ts) (hb : b' ≤ base) : TO b' w L s ts := by
  obtain ⟨xs, h0, h1, h2⟩ := h.row
  exact ⟨xs, h0, h1.base_ hb, h2⟩
theorem KS.now {lo : Nat} {w : World} {T E : Sl} {k : Ik} (h : KS lo w T E k) : KR w T E k := h w (Chg.refl _ w)
theorem TRS.now {lo : Nat} {w : World} {s : Sl} {ts : List Tm.Tg} (h : TRS lo w s ts) : TR w s ts := TO.tr h
theorem KS.grown {lo : Nat} {w w' : World} {T E : Sl} {k : Ik} (h : KS lo w T E k) (g : w.grownBy w' none) : KS lo w' T E k := fun w2 g2 => h w2 ((Chg.of0 g).trans g2)
theorem TRS.grown {lo : Nat} {w w' : World} {s : Sl} {ts : List Tm.Tg} (h : TRS lo w s ts) (g : w.grownBy w' none) : TRS lo w' s ts := TO.grown h g
theorem KS.old {lo b : Nat} {w w' : World} {T E : Sl} {k : Ik} (h : KS lo w T E k) (g : Chg [b] w w') (hb : b < lo) : KS lo w' T E k := fun w2 g2 => h w2 ((g.weak (fun x hx => by rw [List.mem_singleton] at hx; subst hx; exact List.mem_range.2 hb)).trans g2)
theorem TRS.old {lo b : Nat} {w w' : World} {s : Sl} {ts : List Tm.Tg} (h : TRS lo w s ts) (g : Chg [b] w w') (hb : b < lo) : TRS lo w' s ts := TO.step h g (fun b' hb' hm => by rw [List.mem_singleton] at hm; have := (TO.blk h b' hb').1; omega) (fun x hx => by rw [List.mem_singleton] at hx; subst hx; exact .inl (List.mem_range.2 hb)) (fun _ hb => .inl hb)
def newF (n : Int) : Ik × Int := if Tm.upTo n 16 = true then (⟨n, [], []⟩, 0) else (⟨0, [], []⟩, 1)
def NewE (r : Ik × Int) (w : World) (e : Ending) (w' : World) : Prop := ∃ T E : Sl, e = .returned (.tuple #[iv3 r.1.win T E, .int .i64 r.2]) ∧ KS w.heap.size w' T E r.1 ∧ T.n ≤ 400 ∧ w.grownBy w' none
theorem kr_nil (w : World) (n : Int) : KR w nilS nilS ⟨n, [], []⟩ := ⟨⟨by simp [nilS], by simp [nilS]⟩, RB.nil _ _, ⟨⟨by simp [nilS], by simp [nilS]⟩, rfl, fun i hi => by simp [nilS] at hi⟩⟩
theorem new_any (n : Int) (w : World) : Calls Tryz.prog 10 #[.int .i64 n] w (NewE (newF n) w) := by
  obtain ⟨w1, hw1⟩ : ∃ w1, w1 = w.alloc (Obj.cells #[.int .i64 0, .slice none 0 0, .slice none 0 0] 25) := ⟨_, rfl⟩
  have G1 := Hi (show w.grownBy w1 none by subst hw1; exact grown_alloc _ _ _)
  have B1 := Hi (show Tri w1 w.heap.size (.int .i64 0) (.slice none 0 0) (.slice none 0 0) by subst hw1; exact tri_made _ _ _ _ _)
  obtain ⟨⟨k0, k1, k2⟩, F⟩ := B1.out
  have f0 := F 0
  have f1 := F 1
  have f2 := F 2
  clear F
  rcases Bool.eq_false_or_eq_true (Tm.upTo n 16) with q | q
  · have Q := Hi q
    have E := Hi (show newF n = (⟨n, [], []⟩, 0) by unfold newF; rw [if_pos q])
    clear q
    go_enter Tryz.func10, Tryz.ntmps10
    go_wp2_with fail
    rw [← hw1]
    clear hw1
    refine (iupto_at _ Q.out).mono ?_
    rintro e w2 ⟨rfl, rfl⟩
    go_wp2
    try simp only [Exit.inBlock, Exit.then]
    refine bodyPost_ret (v := .tuple #[iv3 n nilS nilS, .int .i64 0]) ?hr rfl ?hE
    case hr =>
      rw [results_cell2 rfl]
      go_simp
      rfl
    case hE =>
      have g := (((Chg.refl [w.heap.size] w1).set ⟨w.heap.size, 0, none⟩ (.int .i64 n) (by simp)).set ⟨w.heap.size, 1, none⟩ (.slice none 0 0) (by simp)).set ⟨w.heap.size, 2, none⟩ (.slice none 0 0) (by simp)
      refine ⟨nilS, nilS, by rw [E.out], by rw [E.out]; exact fun w2 _ => kr_nil _ _, by simp [nilS], g.grown G1.out (fun b hb => by rw [List.mem_singleton] at hb; omega)⟩
  · have Q := Hi q
    have E := Hi (show newF n = (⟨0, [], []⟩, 1) by unfold newF; rw [if_neg (by rw [q]; simp)])
    clear q
    go_enter Tryz.func10, Tryz.ntmps10
    go_wp2_with fail
    rw [← hw1]
    clear hw1
    refine (iupto_at _ Q.out).mono ?_
    rintro e w2 ⟨rfl, rfl⟩
    go_wp2
    try simp only [Exit.inBlock, Exit.then]
    refine bodyPost_ret (v := .tuple #[iv3 0 nilS nilS, .int .i64 1]) ?hr rfl ?hE
    case hr =>
      rw [results_cell2 rfl]
      go_simp
      rfl
    case hE =>
      have g := (((Chg.refl [w.heap.size] w1).set ⟨w.heap.size, 0, none⟩ (.int .i64 0) (by simp)).set ⟨w.heap.size, 1, none⟩ (.slice none 0 0) (by simp)).set ⟨w.heap.size, 2, none⟩ (.slice none 0 0) (by simp)
      refine ⟨nilS, nilS, by rw [E.out], by rw [E.out]; exact fun w2 _ => kr_nil _ _, by simp [nilS], g.grown G1.out (fun b hb => by rw [List.mem_singleton] at hb; omega)⟩
def accF (k : Ik) (t : Tm.Tg) : Ik × List Tm.Tg × Int :=
  if k.ok = true then
    if t.ok = true then (⟨k.win, k.tail, (Im.acc k.win k.es t).1⟩, (Im.acc k.win k.es t).2, if k.es.length < 64 ∨ Im.ent k.es t.st ≠ none then 0 else 4)
    else (k, [], 3)
  else (k, [], 9)
def AccE (r : Ik × List Tm.Tg × Int) (w : World) (e : Ending) (w' : World) : Prop := ∃ T E G : Sl, e = .returned (.tuple #[iv3 r.1.win T E, G.v, .int .i64 r.2.2]) ∧ KS w.heap.size w' T E r.1 ∧ T.n = r.1.tail.length ∧ TRS w.heap.size w' G r.2.1 ∧ w.grownBy w' none
theorem kr_of {base : Nat} {w w' : World} {L M : List Nat} {win : Int} {T E : Sl} {tl : List UInt8} {ys : List EV} (hT : OR base w 5 1 T (bvs tl)) (hE : EO base w L E ys) (g : Chg M w w') (hM : ∀ b ∈ M, b < base ∧ b ∈ L) : KR w' T E ⟨win, tl, ys.map Prod.fst⟩ := by
  have h1 := hT.chg g (fun b hb hm => by have := (hT.blk b hb).1; have := (hM b hm).1; omega)
  have h2 := hE.step g (fun b hb => .inl (hM b hb).2) (fun b hb hs => by have := (hE.row.blk b hs).1; have := (hM b hb).1; omega) (fun y hy b hb hs => by have := ((hE.held y hy).blk b hs).1; have := (hM b hb).1; omega)
  refine ⟨h1.fit, rbCR h1.cr (by have := h1.len; rw [Wr.bvs_len] at this; dsimp only at this ⊢; omega), ER.of h2.row.fit (by have := h2.row.len; rw [f4_len] at this; omega) h2.row.cr (fun y hy => (h2.held y hy).tr)⟩
theorem chg_both {x lo : Nat} {w w1 w2 : World} (g : Chg [x] w w1) (g2 : Chg (List.range lo) w1 w2) : Chg (x :: List.range lo) w w2 :=
  (g.weak (fun b hb => by rw [List.mem_singleton] at hb; subst hb; exact List.mem_cons_self)).trans (g2.weak (fun b hb => List.mem_cons_of_mem _ hb))
theorem trs_nil (lo : Nat) (w : World) : TRS lo w nilS [] := ⟨⟨[], rfl, or_nil _ _ _ _, fun x hx => by cases hx⟩⟩
set_option maxRecDepth 100000 in
set_option maxHeartbeats 4000000 in
theorem accept_pub (T E : Sl) (k : Ik) (t : Tm.Tg) (V : Sl) (w : World) (h : KR w T E k) (hV : VI w [] V t.vs) (hT : T.n ≤ 1000000) (hE : E.n ≤ 1000000) (hH : ∀ e ∈ k.es, e.held.length ≤ 1000000) :
    Calls Tryz.prog 17 #[iv3 k.win T E, tv t V.v] w (AccE (accF k t) w) := by
  have HK := Hi h
  have HV := Hi hV
  have CO := Hi (fun (W : World) (hW : KR W T E k) => copyof_any T E k W hW hT hE hH)
  have IV := Hi (fun (W : World) (hW : KR W T E k) => isvalid_any T E k W hW (by omega))
  have VT := Hi (fun (W : World) (hW : VI W [] V t.vs) => valid_at (r := t.ok) hW rfl)
  have CT := Hi (fun (W : World) (hW : VI W [] V t.vs) => cttel_any t V W hW)
  obtain ⟨win, tl, es⟩ := k
  obtain ⟨TA, tn, tc⟩ := T
  obtain ⟨EA, n, c⟩ := E
  obtain ⟨Va, Vn, Vc⟩ := V
  obtain ⟨tst, tep, tsq, ttm, tkd, tvs⟩ := t
  dsimp only [iv3, tv, Sl.v] at *
  obtain ⟨X, hX⟩ : ∃ X, X = w.heap.size := ⟨_, rfl⟩
  obtain ⟨w1, hw1⟩ : ∃ w1, w1 = w.alloc (Obj.cells #[.int .i64 win, .slice TA tn tc, .slice EA n c] 25) := ⟨_, rfl⟩
  obtain ⟨w2, hw2⟩ : ∃ w2, w2 = w1.alloc (Wr.tcells ⟨tst, tep, tsq, ttm, tkd, tvs⟩ (.slice Va Vn Vc)) := ⟨_, rfl⟩
  obtain ⟨w3, hw3⟩ : ∃ w3, w3 = w2.alloc (Obj.cells #[.int .i64 0, .slice none 0 0, .slice none 0 0] 25) := ⟨_, rfl⟩
  have z1 : w1.heap.size = X + 1 := by subst hw1; subst hX; simp
  have z2 : w2.heap.size = X + 2 := by subst hw2; simp [z1]
  have z2' : w2.heap.size = X + 1 + 1 := z2
  have z3 : w3.heap.size = X + 3 := by subst hw3; simp [z2]
  have g1 : w.grownBy w1 none := by subst hw1; exact grown_alloc _ _ _
  have g2 : w1.grownBy w2 none := by subst hw2; exact grown_alloc _ _ _
  have g3 : w2.grownBy w3 none := by subst hw3; exact grown_alloc _ _ _
  have GW := Hi (grown_trans g1 (grown_trans g2 g3))
  have BS := Hi (show Tri w3 X (.int .i64 win) (.slice TA tn tc) (.slice EA n c) from (show Tri w1 X _ _ _ by subst hw1; subst hX; exact tri_made _ _ _ _ _).grown (grown_trans g2 g3))
  have BT := Hi (show Wr.Six w3 (X + 1) ⟨tst, tep, tsq, ttm, tkd, tvs⟩ (.slice Va Vn Vc) from (show Wr.Six w2 (X + 1) _ _ by subst hw2; rw [← z1]; exact Wr.Six.made _ _ _).grown g3 (by simp))
  have BR := Hi (show Tri w3 (X + 1 + 1) (.int .i64 0) (.slice none 0 0) (.slice none 0 0) by subst hw3; rw [← z2']; exact tri_made _ _ _ _ _)
  have HX0 := Hi hX
  unfold Wr.tcells at hw2
  dsimp only at hw2
  clear g1 g2 g3 h hV
  obtain ⟨⟨s0, s1, s2⟩, -⟩ := BS.out
  go_enter Tryz.func17, Tryz.ntmps17
  go_wp2_with fail
  rw [← hw1, ← hw2, ← hw3]
  simp only [← hX]
  try simp only [z1, z2]
  clear z2'
  clear hw1 hw2 hw3 hX
  refine (CO.out _ (HK.out.grown GW.out)).mono ?_
  rintro e w4 ⟨T', E', L, ys, rfl, hT', hTL, hys, hEO, hLo, g4⟩
  dsimp only at hT' hys
  obtain ⟨ta, tn', tc'⟩ := T'
  obtain ⟨ea, en, ec⟩ := E'
  obtain ⟨B, hBw⟩ : ∃ B, B = w4.heap.size := ⟨_, rfl⟩
  obtain ⟨w5, hw5⟩ : ∃ w5, w5 = w4.alloc (Obj.cells #[.int .i64 win, .slice ta tn' tc', .slice ea en ec] 25) := ⟨_, rfl⟩
  have g5 : w4.grownBy w5 none := by subst hw5; exact grown_alloc _ _ _
  have BN := Hi (show Tri w5 B (.int .i64 win) (.slice ta tn' tc') (.slice ea en ec) by subst hw5; subst hBw; exact tri_made _ _ _ _ _)
  have G5 := Hi (grown_trans GW.out (grown_trans g4 g5))
  have GX := Hi (grown_trans g4 g5)
  have hs4 := g4.size
  have hlB : ∀ b ∈ L, b ≠ B := fun b hb e => by have := hEO.new b hb; omega
  have T5 := Hi (hT'.grown g5)
  have E5 := Hi (show EO w3.heap.size w5 (B :: L) ⟨ea, en, ec⟩ ys from
    ⟨hEO.row.grown g5, (fun y hy => (hEO.held y hy).step (M := []) (Chg.of0 g5) (fun _ _ h => by cases h) (fun _ h => by cases h) (fun b hb => by
      rcases List.mem_cons.1 hb with rfl | hb
      · exact .inr (by omega)
      · exact .inl hb)), (fun y hy b hb => List.mem_cons_of_mem _ (hEO.sub y hy b hb)), (fun b hb => List.mem_cons_of_mem _ (hEO.rowin b hb)), hEO.apart, hEO.pair, (fun b hb => by
      rcases List.mem_cons.1 hb with rfl | hb
      · exact BN.out.lt
      · exact Nat.lt_of_lt_of_le (hEO.new b hb) g5.size)⟩)
  have FA := Hi (show (Sl.blk ⟨ea, en, ec⟩ ≠ some B) ∧ (∀ y ∈ ys, y.2.blk ≠ some B) ∧ (∀ b, Sl.blk ⟨ta, tn', tc'⟩ = some b → b ∉ B :: L) ∧ w3.heap.size ≤ B ∧ ∀ b, b < w3.heap.size → b ∈ L from
    ⟨fun e => hlB B (hEO.rowin B e) rfl, fun y hy e => hlB B (hEO.sub y hy B e) rfl, fun b hb hm => by
      rcases List.mem_cons.1 hm with rfl | hm
      · have := (hT'.blk _ hb).2; omega
      · exact hTL b hb hm, by omega, hLo⟩)
  have HYS := Hi hys
  have BS := Hi (BS.out.grown GX.out)
  have BT := Hi (BT.out.grown GX.out (by simp))
  have BR := Hi (BR.out.grown GX.out)
  have ZB := Hi (show X + 3 ≤ B by omega)
  have Z3 := Hi z3
  obtain ⟨⟨r0, r1, r2⟩, BRf⟩ := BR.out
  have f0 := BRf 0
  have f1 := BRf 1
  have f2 := BRf 2
  obtain ⟨⟨m0, m1, m2⟩, -⟩ := BN.out
  obtain ⟨⟨s0, s1, s2⟩, -⟩ := BS.out
  obtain ⟨⟨t0, t1, t2, t3, t4, t5⟩, -⟩ := BT.out
  dsimp only at t0 t1 t2 t3 t4 t5
  dsimp only [iv3, Sl.v]
  have hnt : tn' = tl.length := by have := T5.out.len; rw [Wr.bvs_len] at this; dsimp only at this; omega
  have HNT := Hi hnt
  clear hT' hTL hys hEO hLo g4 g5 z1 z2 z3 hs4 hlB BRf hnt
  have EPI := Hi (fun (w8 w9 : World) (L8 : List Nat) (E8 : Sl) (zs : List EV) (hT8 : OR w3.heap.size w8 5 1 ⟨ta, tn', tc'⟩ (bvs tl)) (hE8 : EO w3.heap.size w8 L8 E8 zs) (hL8 : ∀ b, b < w3.heap.size → b ∈ L8) (g : Chg [X + 1 + 1] w8 w9) => show KS w.heap.size w9 ⟨ta, tn', tc'⟩ E8 ⟨win, tl, zs.map Prod.fst⟩ from fun w10 g10 => kr_of (win := win) hT8 hE8 (chg_both g g10) (fun b hb => by
    have h1 := Z3.out
    have h2 := HX0.out
    have h3 : b < w3.heap.size := by
      rcases List.mem_cons.1 hb with rfl | hb
      · omega
      · have := List.mem_range.1 hb; omega
    exact ⟨h3, hL8 b h3⟩))
  have s0a : (w4.alloc (Obj.cells #[.int .i64 win, .slice ta tn' tc', .slice ea en ec] 25)).cell? ⟨X, 0, none⟩ = some (.int .i64 win) := by rw [← hw5]; exact s0
  have s1a : (w4.alloc (Obj.cells #[.int .i64 win, .slice ta tn' tc', .slice ea en ec] 25)).cell? ⟨X, 1, none⟩ = some (.slice TA tn tc) := by rw [← hw5]; exact s1
  have s2a : (w4.alloc (Obj.cells #[.int .i64 win, .slice ta tn' tc', .slice ea en ec] 25)).cell? ⟨X, 2, none⟩ = some (.slice EA n c) := by rw [← hw5]; exact s2
  go_wp2_with fail
  rw [← hw5]
  simp only [← hBw]
  clear hw5 hBw s0a s1a s2a
  refine (IV.out w5 (HK.out.grown G5.out)).mono ?_
  rintro e w6 ⟨rfl, g6⟩
  have G6 := Hi (grown_trans G5.out g6)
  have r0 := g6.cell r0 (by simp)
  have r1 := g6.cell r1 (by simp)
  have r2 := g6.cell r2 (by simp)
  have f0 := Wr.grown_frozen g6 (by assumption) f0 (by simp)
  have f1 := Wr.grown_frozen g6 (by assumption) f1 (by simp)
  have f2 := Wr.grown_frozen g6 (by assumption) f2 (by simp)
  have m0 := g6.cell m0 (by simp)
  have m1 := g6.cell m1 (by simp)
  have m2 := g6.cell m2 (by simp)
  have t0 := g6.cell t0 (by simp)
  have t1 := g6.cell t1 (by simp)
  have t2 := g6.cell t2 (by simp)
  have t3 := g6.cell t3 (by simp)
  have t4 := g6.cell t4 (by simp)
  have t5 := g6.cell t5 (by simp)
  have BN := Hi (BN.out.grown g6)
  have T6 := Hi (T5.out.grown g6)
  have E6 := Hi (E5.out.grown g6)
  have BR := Hi (BR.out.grown g6)
  have hBX : B ≠ X + 1 + 1 := by have := ZB.out; omega
  clear g6
  rcases Bool.eq_false_or_eq_true (Ik.ok ⟨win, tl, es⟩) with hk | hk
  · have hkk := Ik.ok_iff.1 hk
    rw [hk]
    have KOK := Hi hkk
    have HKO := Hi hk
    clear hk hkk
    go_wp2_with fail
    refine (VT.out w6 (HV.out.grown G6.out)).mono ?_
    rintro e w7 ⟨rfl, g7⟩
    have G7 := Hi (grown_trans G6.out g7)
    have r0 := g7.cell r0 (by simp)
    have r1 := g7.cell r1 (by simp)
    have r2 := g7.cell r2 (by simp)
    have f0 := Wr.grown_frozen g7 (by assumption) f0 (by simp)
    have f1 := Wr.grown_frozen g7 (by assumption) f1 (by simp)
    have f2 := Wr.grown_frozen g7 (by assumption) f2 (by simp)
    have m0 := g7.cell m0 (by simp)
    have m1 := g7.cell m1 (by simp)
    have m2 := g7.cell m2 (by simp)
    have t0 := g7.cell t0 (by simp)
    have t1 := g7.cell t1 (by simp)
    have t2 := g7.cell t2 (by simp)
    have t3 := g7.cell t3 (by simp)
    have t4 := g7.cell t4 (by simp)
    have t5 := g7.cell t5 (by simp)
    have BN := Hi (BN.out.grown g7)
    have T6 := Hi (T6.out.grown g7)
    have E6 := Hi (E6.out.grown g7)
    clear g7
    rcases Bool.eq_false_or_eq_true (Tm.Tg.ok ⟨tst, tep, tsq, ttm, tkd, tvs⟩) with ht | ht
    · rw [ht]
      have AF := Hi (show accF ⟨win, tl, es⟩ ⟨tst, tep, tsq, ttm, tkd, tvs⟩ = (⟨win, tl, (Im.acc win es ⟨tst, tep, tsq, ttm, tkd, tvs⟩).1⟩, (Im.acc win es ⟨tst, tep, tsq, ttm, tkd, tvs⟩).2, if es.length < 64 ∨ Im.ent es tst ≠ none then 0 else 4) by unfold accF; rw [if_pos HKO.out, if_pos ht])
      have HT := Hi ht
      clear ht
      go_wp2_with fail
      refine (CT.out w7 (HV.out.grown G7.out)).mono ?_
      rintro e w8 ⟨U, rfl, hU, hUb, g8⟩
      have G8 := Hi (grown_trans G7.out g8)
      have hBw7 := BN.out.lt
      have VU := Hi (show VI w8 (B :: L) U tvs from hU.fresh (fun _ b hb hm => by
        have h1 := hUb b hb
        have h2 := E6.out.new b hm
        omega))
      have T8 := Hi (T6.out.grown g8)
      have SS := Hi (show St w3.heap.size w8 (B :: L) B win ⟨ta, tn', tc'⟩ ⟨ea, en, ec⟩ ys from
        ⟨BN.out.grown g8, E6.out.grown g8, List.mem_cons_self, FA.out.1, FA.out.2.1, by rw [HYS.out]; exact KOK.out.2.2.2, KOK.out.1, by have h1 := FA.out.2.2.2.1; have h2 := g8.size; omega, FA.out.2.2.2.1⟩)
      have r0 := g8.cell r0 (by simp)
      have r1 := g8.cell r1 (by simp)
      have r2 := g8.cell r2 (by simp)
      have f0 := Wr.grown_frozen g8 (by assumption) f0 (by simp)
      have f1 := Wr.grown_frozen g8 (by assumption) f1 (by simp)
      have f2 := Wr.grown_frozen g8 (by assumption) f2 (by simp)
      have AN := Hi (accept_any w3.heap.size (B :: L) B win ⟨ta, tn', tc'⟩ ⟨ea, en, ec⟩ ys ⟨tst, tep, tsq, ttm, tkd, tvs⟩ U w8 SS.out HT.out VU.out)
      clear hU hUb g8 m0 m1 m2 t0 t1 t2 t3 t4 t5 BN T6 E6 hBw7
      obtain ⟨ua, un, uc⟩ := U
      dsimp only [tv, Sl.v] at AN ⊢
      go_wp2_with fail
      refine AN.out.mono ?_
      rintro e w9 ⟨L9, E9, G9, zs, er, rfl, her, hS9, hzs, hG9, hL9, hL9', hch, hkp⟩
      rw [HYS.out] at her hzs hG9
      have hyl : ys.length = es.length := by rw [← HYS.out, List.length_map]
      rw [hyl] at her
      have hXb : X + 1 + 1 < w3.heap.size := by have := Z3.out; omega
      have r0 : w9.cell? ⟨X + 1 + 1, 0, none⟩ = some (.int .i64 0) := (World.cell?_of_block (hkp _ hXb)).trans r0
      have r1 : w9.cell? ⟨X + 1 + 1, 1, none⟩ = some (.slice none 0 0) := (World.cell?_of_block (hkp _ hXb)).trans r1
      have r2 : w9.cell? ⟨X + 1 + 1, 2, none⟩ = some (.slice none 0 0) := (World.cell?_of_block (hkp _ hXb)).trans r2
      have f0 : w9.frozen? ⟨X + 1 + 1, 0, none⟩ = false := (World.frozen?_of_block (hkp _ hXb)).trans f0
      have f1 : w9.frozen? ⟨X + 1 + 1, 1, none⟩ = false := (World.frozen?_of_block (hkp _ hXb)).trans f1
      have f2 : w9.frozen? ⟨X + 1 + 1, 2, none⟩ = false := (World.frozen?_of_block (hkp _ hXb)).trans f2
      have T9 := Hi (T8.out.chg hch (fun b hb => FA.out.2.2.1 b hb))
      have S9 := Hi hS9
      have HER := Hi her
      have HZ := Hi hzs
      have HG := Hi hG9
      have HX9 := Hi (show ∀ b, b < w3.heap.size → b ∈ L9 from fun b hb => hL9' _ (List.mem_cons_of_mem _ (FA.out.2.2.2.2 b hb)))
      have G9' := Hi (show w.grownBy w9 none from ⟨hch.os.trans G8.out.os, hch.tape.trans G8.out.tape, hch.output.trans G8.out.output, Nat.le_trans G8.out.size hch.size, fun i hi _ => (hkp i (by have := HX0.out; have := Z3.out; omega)).trans (G8.out.block i hi (by simp))⟩)
      have HXB := Hi hXb
      clear her hS9 hzs hG9 hL9 hL9' hch hkp AN VU SS T8 hyl hXb
      obtain ⟨⟨m0, m1, m2⟩, -⟩ := S9.out.tri
      obtain ⟨e9a, e9n, e9c⟩ := E9
      obtain ⟨g9a, g9n, g9c⟩ := G9
      dsimp only [Sl.v] at m0 m1 m2 ⊢
      go_wp2
      try simp only [Exit.inBlock, Exit.then]
      refine bodyPost_ret (v := .tuple #[iv3 win ⟨ta, tn', tc'⟩ ⟨e9a, e9n, e9c⟩, Sl.v ⟨g9a, g9n, g9c⟩, .int .i64 er]) ?hr rfl ?hE
      case hr =>
        rw [results_cell3 rfl]
        go_simp
        first | rfl | exact ⟨rfl, rfl⟩ | exact ⟨rfl, rfl, rfl⟩
      case hE =>
        have g := (((Chg.refl [X + 1 + 1] w9).set ⟨X + 1 + 1, 0, none⟩ (.int .i64 win) (by simp)).set ⟨X + 1 + 1, 1, none⟩ (.slice ta tn' tc') (by simp)).set ⟨X + 1 + 1, 2, none⟩ (.slice e9a e9n e9c) (by simp)
        have hX := HX0.out
        have hXb := HXB.out
        refine ⟨⟨ta, tn', tc'⟩, ⟨e9a, e9n, e9c⟩, ⟨g9a, g9n, g9c⟩, by rw [AF.out, HER.out], ?_, by rw [AF.out]; exact HNT.out, ?_, g.grown G9'.out (fun b hb => by rw [List.mem_singleton] at hb; omega)⟩
        · rw [AF.out]
          have := EPI.out w9 _ L9 ⟨e9a, e9n, e9c⟩ zs T9.out S9.out.eo HX9.out g
          rwa [HZ.out] at this
        · rw [AF.out]
          have hlow : ∀ b ∈ (X + 1 + 1) :: List.range w.heap.size, b < w3.heap.size := fun b hb => by
            rcases List.mem_cons.1 hb with rfl | hb
            · exact hXb
            · have := List.mem_range.1 hb; omega
          have hst := HG.out.step g (fun b hb hm => by
            have h1 := (HG.out.blk b hb).1
            have h2 := hlow b (by rw [List.mem_singleton] at hm; subst hm; exact List.mem_cons_self)
            omega) (fun b hb => .inl (HX9.out b (hlow b (by rw [List.mem_singleton] at hb; subst hb; exact List.mem_cons_self)))) (L' := List.range w.heap.size) (fun b hb => .inl (HX9.out b (hlow b (List.mem_cons_of_mem _ hb))))
          exact TO.base_ hst (by have h1 := HX0.out; have h2 := Z3.out; omega)
    · rw [ht]
      have AF := Hi (show accF ⟨win, tl, es⟩ ⟨tst, tep, tsq, ttm, tkd, tvs⟩ = (⟨win, tl, es⟩, [], 3) by unfold accF; rw [if_pos HKO.out, if_neg (by rw [ht]; simp)])
      clear ht
      go_wp2
      try simp only [Exit.inBlock, Exit.then]
      refine bodyPost_ret (v := .tuple #[iv3 win ⟨ta, tn', tc'⟩ ⟨ea, en, ec⟩, nilS.v, .int .i64 3]) ?hr rfl ?hE
      case hr =>
        rw [results_cell3 rfl]
        go_simp
        first | rfl | exact ⟨rfl, rfl⟩ | exact ⟨rfl, rfl, rfl⟩
      case hE =>
        have g := (((Chg.refl [X + 1 + 1] w7).set ⟨X + 1 + 1, 0, none⟩ (.int .i64 win) (by simp)).set ⟨X + 1 + 1, 1, none⟩ (.slice ta tn' tc') (by simp)).set ⟨X + 1 + 1, 2, none⟩ (.slice ea en ec) (by simp)
        have hX := HX0.out
        refine ⟨⟨ta, tn', tc'⟩, ⟨ea, en, ec⟩, nilS, by rw [AF.out], ?_, by rw [AF.out]; exact HNT.out, by rw [AF.out]; exact trs_nil _ _, g.grown G7.out (fun b hb => by rw [List.mem_singleton] at hb; omega)⟩
        rw [AF.out]
        have := EPI.out w7 _ (B :: L) ⟨ea, en, ec⟩ ys T6.out E6.out (fun b hb => List.mem_cons_of_mem _ (FA.out.2.2.2.2 b hb)) g
        rwa [HYS.out] at this
  · rw [hk]
    have AF := Hi (show accF ⟨win, tl, es⟩ ⟨tst, tep, tsq, ttm, tkd, tvs⟩ = (⟨win, tl, es⟩, [], 9) by unfold accF; rw [if_neg (by rw [hk]; simp)])
    clear hk
    go_wp2
    try simp only [Exit.inBlock, Exit.then]
    refine bodyPost_ret (v := .tuple #[iv3 win ⟨ta, tn', tc'⟩ ⟨ea, en, ec⟩, nilS.v, .int .i64 9]) ?hr rfl ?hE
    case hr =>
      rw [results_cell3 rfl]
      go_simp
      first | rfl | exact ⟨rfl, rfl⟩ | exact ⟨rfl, rfl, rfl⟩
    case hE =>
      have g := (((Chg.refl [X + 1 + 1] w6).set ⟨X + 1 + 1, 0, none⟩ (.int .i64 win) (by simp)).set ⟨X + 1 + 1, 1, none⟩ (.slice ta tn' tc') (by simp)).set ⟨X + 1 + 1, 2, none⟩ (.slice ea en ec) (by simp)
      have hX := HX0.out
      refine ⟨⟨ta, tn', tc'⟩, ⟨ea, en, ec⟩, nilS, by rw [AF.out], ?_, by rw [AF.out]; exact HNT.out, by rw [AF.out]; exact trs_nil _ _, g.grown G6.out (fun b hb => by rw [List.mem_singleton] at hb; omega)⟩
      rw [AF.out]
      have := EPI.out w6 _ (B :: L) ⟨ea, en, ec⟩ ys T6.out E6.out (fun b hb => List.mem_cons_of_mem _ (FA.out.2.2.2.2 b hb)) g
      rwa [HYS.out] at this
end Go.Proofs.YticmoaebegahgaaGreatDoor.Iw
namespace Go.Proofs.YticmoaebegahgaaGreatDoor.Iw
open Go.ChangeShapes Go.WideShapes Go.ChangeAt Go.RowKit
open Wr (IR RB iv ivs bv bvs grown_trans grown_refl grown_alloc ret_int ret_bool tv Ret ret_mk)
def seqs : List Int := [0, 2, 1, 1, 3]
def atel (n : Int) : Tm.Tg := ⟨1, 0, n, 0, 0, []⟩
def dg (t : Tm.Tg) : UInt8 := UInt8.ofNat (48 + t.sq % 10).toNat
def aw : Nat → Ik × List UInt8
  | 0 => (⟨2, [], []⟩, [])
  | j + 1 => ((accF (aw j).1 (atel (seqs.getD j 0))).1, (aw j).2 ++ (accF (aw j).1 (atel (seqs.getD j 0))).2.1.map dg ++ [59])
theorem aw_ok : ∀ j, j < 5 → (accF (aw j).1 (atel (seqs.getD j 0))).2.2 = 0 ∧ (∀ t ∈ (accF (aw j).1 (atel (seqs.getD j 0))).2.1, 0 ≤ t.sq ∧ t.sq ≤ 3) ∧ (aw j).1.es.length ≤ 1 ∧ (∀ e ∈ (aw j).1.es, e.held.length ≤ 5) ∧ (aw j).1.tail = [] ∧ (aw j).1.win = 2 ∧ (accF (aw j).1 (atel (seqs.getD j 0))).1.win = 2 ∧ (accF (aw j).1 (atel (seqs.getD j 0))).1.tail = [] ∧ (aw j).2.length ≤ 20 ∧ (accF (aw j).1 (atel (seqs.getD j 0))).2.1.length ≤ 5 := by
  intro j hj
  have : j = 0 ∨ j = 1 ∨ j = 2 ∨ j = 3 ∨ j = 4 := by omega
  rcases this with rfl | rfl | rfl | rfl | rfl <;> refine ⟨by decide, by decide, by decide, by decide, by decide, by decide, by decide, by decide, by decide, by decide⟩
theorem aw_end : (aw 5).2 = [48, 59, 59, 49, 50, 59, 59, 51, 59] := by decide
def str (l : List UInt8) : Value := .string ⟨l.toArray⟩
theorem str_snoc (a : List UInt8) (c : UInt8) : ByteArray.mk a.toArray ++ ByteArray.mk #[c] = ByteArray.mk (a ++ [c]).toArray := by
  apply ByteArray.ext
  simp [ByteArray.data_append]
theorem newF2 : newF 2 = (⟨2, [], []⟩, 0) := rfl
set_option maxRecDepth 100000 in
set_option maxHeartbeats 4000000 in
theorem awake_any (w : World) : Calls Tryz.prog 4 #[] w (Ret (.bool true) w) := by
  have NW := Hi (new_any 2 w)
  rw [newF2] at NW
  go_enter Tryz.func4, Tryz.ntmps4
  go_wp2_with fail
  refine NW.out.mono ?_
  rintro e w1 ⟨T, E, rfl, hk, hTn, g1⟩
  obtain ⟨Ta, Tn, Tc⟩ := T
  obtain ⟨Ea, En, Ec⟩ := E
  dsimp only [iv3, Sl.v]
  obtain ⟨S, hS⟩ : ∃ S, S = w1.heap.size := ⟨_, rfl⟩
  obtain ⟨w2, hw2⟩ : ∃ w2, w2 = w1.alloc (Obj.cells #[.int .i64 2, .slice Ta Tn Tc, .slice Ea En Ec] 25) := ⟨_, rfl⟩
  obtain ⟨w3, hw3⟩ : ∃ w3, w3 = w2.alloc (Obj.cells #[.int .i64 0, .int .i64 2, .int .i64 1, .int .i64 1, .int .i64 3] 3) := ⟨_, rfl⟩
  have z2 : w2.heap.size = S + 1 := by subst hw2; subst hS; simp
  have g2 : w1.grownBy w2 none := by subst hw2; exact grown_alloc _ _ _
  have g3 : w2.grownBy w3 none := by subst hw3; exact grown_alloc _ _ _
  have HB := Hi (show Tri w3 S (.int .i64 2) (.slice Ta Tn Tc) (.slice Ea En Ec) from (show Tri w2 S _ _ _ by subst hw2; subst hS; exact tri_made _ _ _ _ _).grown g3)
  have HL := Hi (show ∀ j, j < 5 → w3.cell? ⟨S + 1, j, none⟩ = some (.int .i64 (seqs.getD j 0)) from fun j hj => by
    subst hw3; rw [← z2]
    have : j = 0 ∨ j = 1 ∨ j = 2 ∨ j = 3 ∨ j = 4 := by omega
    rcases this with rfl | rfl | rfl | rfl | rfl <;> go_simp <;> rfl)
  have HK := Hi (hk.now.grown (grown_trans g2 g3))
  have G1 := Hi (grown_trans g1 (grown_trans g2 g3))
  have HS0 := Hi (show w.heap.size ≤ S by have := g1.size; omega)
  have Z3 := Hi (show S + 1 < w3.heap.size by have := HL.out 0 (by omega); exact World.block_lt_of_cell? _ _ this)
  clear hk g1 g2 g3
  go_wp2_with fail
  rw [← hw2, ← hw3]
  simp only [← hS]
  clear hw2 hw3 hS z2
  go_loopw [3, 16] (fun s3 i wr => ∃ (j : Nat) (Ta : Option Addr) (Tn Tc : Nat) (Ea : Option Addr) (En Ec : Nat), i = .int .i64 j ∧ j ≤ 5 ∧ s3 = str (aw j).2 ∧ Tn ≤ 400 ∧ Hid (w.grownBy wr none) ∧ Hid (Tri wr S (.int .i64 2) (.slice Ta Tn Tc) (.slice Ea En Ec)) ∧ Hid (KR wr ⟨Ta, Tn, Tc⟩ ⟨Ea, En, Ec⟩ (aw j).1) ∧ Hid (∀ j, j < 5 → wr.cell? ⟨S + 1, j, none⟩ = some (.int .i64 (seqs.getD j 0)))) (fun _ i _ => 5 - (intOf i).toNat)
  case atStart => exact ⟨0, Ta, Tn, Tc, Ea, En, Ec, rfl, by omega, rfl, hTn, G1, HB, HK, HL⟩
  case round =>
    clear HB HK HL G1 hTn
    obtain ⟨j, Ta, Tn, Tc, Ea, En, Ec, rfl, hj, rfl, hTn, GR, HB, HK, HL⟩ := hrel
    by_cases hlt : j < 5
    · obtain ⟨q1, q2, q3, q4, q5, q6, q7, q8, q9, q10⟩ := aw_ok j hlt
      have hcj := HL.out j hlt
      obtain ⟨⟨s0, s1, s2⟩, F⟩ := HB.out
      have f0 := F 0
      have f1 := F 1
      have f2 := F 2
      have hEn : En ≤ 1000000 := by have h1 := HK.out.es.len; dsimp only at h1; omega
      have AC := Hi (accept_pub ⟨Ta, Tn, Tc⟩ ⟨Ea, En, Ec⟩ (aw j).1 (atel (seqs.getD j 0)) nilS wr HK.out ⟨by simp [nilS, Sl.fit], by simp [nilS], IR.nil _ _, fun _ _ _ h => by cases h⟩ (by dsimp only; omega) hEn (fun e he => by have := q4 e he; omega))
      rw [q6] at AC
      have AW := Hi (show aw (j + 1) = ((accF (aw j).1 (atel (seqs.getD j 0))).1, (aw j).2 ++ (accF (aw j).1 (atel (seqs.getD j 0))).2.1.map dg ++ [59]) from rfl)
      generalize accF (aw j).1 (atel (seqs.getD j 0)) = r at *
      generalize seqs.getD j 0 = sq at *
      obtain ⟨k2, ts, er⟩ := r
      dsimp only at q1 q2 q7 q8 q10 AW
      subst q1
      have Q2 := Hi q2
      clear q2 q3 q4 q5 q6 F
      obtain ⟨kw, kt, ke⟩ := k2
      dsimp only at q7 q8
      subst q7
      subst q8
      have q9 := q9
      generalize hl : (aw j).2 = l at *
      clear hl
      dsimp only [iv3, tv, Sl.v, nilS, atel, str] at AC ⊢
      go_wp2_with fail
      refine AC.out.mono ?_
      rintro e w4 ⟨T', E', G, rfl, hk4, hT4, hG4, g4⟩
      obtain ⟨Ua, Un, Uc⟩ := T'
      obtain ⟨Wa, Wn, Wc⟩ := E'
      obtain ⟨Ga, Gn, Gc⟩ := G
      dsimp only at hk4 hT4 hG4
      dsimp only [iv3, Sl.v]
      have K4 := Hi hk4
      have GT := Hi hG4
      have G4 := Hi g4
      have hgn : ts.length = Gn := hG4.now.len
      have HB4 := Hi (HB.out.grown g4)
      have HL4 := Hi (fun j hj => g4.cell (HL.out j hj) (by simp))
      have Z4 := Hi (show S + 1 < w4.heap.size by have h1 := World.block_lt_of_cell? _ _ (HL4.out 0 (by omega)); exact h1)
      have UT := Hi hT4
      obtain ⟨w5, hw5⟩ : ∃ w5, w5 = w4.alloc (Obj.cells #[.int .i64 2, .slice Ua Un Uc, .slice Wa Wn Wc] 25) := ⟨_, rfl⟩
      obtain ⟨Y, hY⟩ : ∃ Y, Y = w4.heap.size := ⟨_, rfl⟩
      have g5 : w4.grownBy w5 none := by subst hw5; exact grown_alloc _ _ _
      have B5 := Hi (show Tri w5 Y (.int .i64 2) (.slice Ua Un Uc) (.slice Wa Wn Wc) by subst hw5; subst hY; exact tri_made _ _ _ _ _)
      have SB := Hi (HB4.out.grown g5)
      obtain ⟨⟨y0, y1, y2⟩, -⟩ := B5.out
      obtain ⟨⟨s0, s1, s2⟩, F⟩ := SB.out
      have f0 := F 0
      have f1 := F 1
      have f2 := F 2
      have hys : Y ≠ S := by have := Z4.out; omega
      have HS := Hi hys
      clear F hk4 hT4 hG4 g4
      go_upto_region 7 with fail
      rw [← hw5]
      simp only [← hY]
      have G5 := Hi (grown_trans (grown_trans GR.out G4.out) g5)
      have K5 := Hi (K4.out.grown g5)
      have GT5 := Hi (GT.out.grown g5)
      have HL5 := Hi (fun j hj => g5.cell (HL4.out j hj) (by simp))
      clear hw5 hY g5
      go_upto_region 10 with fail
      have gset : Chg [S] w5 (((w5.setCell ⟨S, 0, none⟩ (.int .i64 2)).setCell ⟨S, 1, none⟩ (.slice Ua Un Uc)).setCell ⟨S, 2, none⟩ (.slice Wa Wn Wc)) :=
        (((Chg.refl [S] w5).set ⟨S, 0, none⟩ (.int .i64 2) (by simp)).set ⟨S, 1, none⟩ (.slice Ua Un Uc) (by simp)).set ⟨S, 2, none⟩ (.slice Wa Wn Wc) (by simp)
      have hSlt : S < wr.heap.size := World.block_lt_of_cell? _ _ (HB.out.1.1)
      have SB6 := Hi (((SB.out.set0 (.int .i64 2)).set1 (.slice Ua Un Uc)).set2 (.slice Wa Wn Wc))
      have K6 := Hi (K5.out.old gset hSlt).now
      have GT6 := Hi (GT5.out.old gset hSlt).now
      have HL6 := Hi (fun j hj => gset.cell (HL5.out j hj) (by simp))
      have G6 := Hi (gset.grown G5.out (fun b hb => by rw [List.mem_singleton] at hb; have := HS0.out; omega))
      clear gset y0 y1 y2 s0 s1 s2 f0 f1 f2 hys B5 SB
      generalize (((w5.setCell ⟨S, 0, none⟩ (.int .i64 2)).setCell ⟨S, 1, none⟩ (.slice Ua Un Uc)).setCell ⟨S, 2, none⟩ (.slice Wa Wn Wc)) = w6 at *
      have hdj : decide ((j : Int) < 5) = true := by simp; omega
      simp only [hdj]
      clear hdj
      go_wp2_with fail
      go_loopw [3, 33] (fun s3 i wp => ∃ p : Nat, i = .int .i64 p ∧ p ≤ Gn ∧ s3 = str (l ++ (ts.map dg).take p) ∧ Hid (w.grownBy wp none) ∧ Hid (Tri wp S (.int .i64 2) (.slice Ua Un Uc) (.slice Wa Wn Wc)) ∧ Hid (KR wp ⟨Ua, Un, Uc⟩ ⟨Wa, Wn, Wc⟩ ⟨2, [], ke⟩) ∧ Hid (∀ j, j < 5 → wp.cell? ⟨S + 1, j, none⟩ = some (.int .i64 (seqs.getD j 0))) ∧ Hid (TR wp ⟨Ga, Gn, Gc⟩ ts)) (fun _ i _ => Gn - (intOf i).toNat)
      case atStart => exact ⟨0, rfl, by omega, by simp [str], G6, SB6, K6, HL6, GT6⟩
      case round =>
        obtain ⟨p, rfl, hp, rfl, WG, BG, KG, LG, GP⟩ := hrel
        by_cases hp2 : p < Gn
        · have htk : (ts.map dg).take (p + 1) = (ts.map dg).take p ++ [dg (ts.getD p Tm.zero)] := by
            rw [List.take_add_one, List.getElem?_map, List.getElem?_eq_getElem (by omega)]; simp [List.getD, List.getElem?_eq_getElem (show p < ts.length by omega)]
          have hqq := Q2.out (ts.getD p Tm.zero) (by rw [List.getD_eq_getElem?_getD, List.getElem?_eq_getElem (by omega), Option.getD_some]; exact List.getElem_mem _)
          have hqq : (ts.getD p Tm.zero).sq = 0 ∨ (ts.getD p Tm.zero).sq = 1 ∨ (ts.getD p Tm.zero).sq = 2 ∨ (ts.getD p Tm.zero).sq = 3 := by omega
          have hnl : ¬ 9223372036854775807 < l.length + p + 1 := by omega
          rcases hqq with hq | hq | hq | hq
          all_goals have hq := Hi hq
          · obtain ⟨b, off, GV, hGa, -, hc⟩ := GP.out.at_ p hp2
            have hcq := hc 2 _ rfl
            rw [hq.out] at hcq
            dsimp only at hGa
            subst hGa
            simp only [← Nat.add_assoc] at hcq
            have hdg : dg (ts.getD p Tm.zero) = 48 := by unfold dg; rw [hq.out]; rfl
            have hcv := Wr.conv_str (wr.alloc (Obj.cells #[.int .u8 48] 5)) (some ⟨wr.heap.size, 0, none⟩) 1 1 [48] (Wr.rb_lit wr #[.int .u8 48] 1 [48] rfl rfl (by omega))
            have HSTR := Hi (show (ByteArray.mk (l ++ (ts.map dg).take p).toArray) ++ (ByteArray.mk #[48]) = ByteArray.mk (l ++ (ts.map dg).take (p + 1)).toArray from (str_snoc _ _).trans (by rw [htk, ← List.append_assoc, hdg]))
            have GA := Hi (grown_alloc wr (Obj.cells #[.int .u8 48] 5) none)
            have HQ := hq
            clear hdg hc
            dsimp only [str]
            go_wp2_with (first | (simp only [hcv]) | fail)
            go_roundw
            case rel => exact ⟨p + 1, by go_num, by omega, by show Value.string _ = Value.string _; rw [← HSTR.out], grown_trans WG.out GA.out, BG.out.grown GA.out, KG.out.grown GA.out, (fun j hj => GA.out.cell (LG.out j hj) (by simp)), GP.out.grown GA.out⟩
            case measure => simp [intOf]; omega
          · obtain ⟨b, off, GV, hGa, -, hc⟩ := GP.out.at_ p hp2
            have hcq := hc 2 _ rfl
            rw [hq.out] at hcq
            dsimp only at hGa
            subst hGa
            simp only [← Nat.add_assoc] at hcq
            have hdg : dg (ts.getD p Tm.zero) = 49 := by unfold dg; rw [hq.out]; rfl
            have hcv := Wr.conv_str (wr.alloc (Obj.cells #[.int .u8 49] 5)) (some ⟨wr.heap.size, 0, none⟩) 1 1 [49] (Wr.rb_lit wr #[.int .u8 49] 1 [49] rfl rfl (by omega))
            have HSTR := Hi (show (ByteArray.mk (l ++ (ts.map dg).take p).toArray) ++ (ByteArray.mk #[49]) = ByteArray.mk (l ++ (ts.map dg).take (p + 1)).toArray from (str_snoc _ _).trans (by rw [htk, ← List.append_assoc, hdg]))
            have GA := Hi (grown_alloc wr (Obj.cells #[.int .u8 49] 5) none)
            have HQ := hq
            clear hdg hc
            dsimp only [str]
            go_wp2_with (first | (simp only [hcv]) | fail)
            go_roundw
            case rel => exact ⟨p + 1, by go_num, by omega, by show Value.string _ = Value.string _; rw [← HSTR.out], grown_trans WG.out GA.out, BG.out.grown GA.out, KG.out.grown GA.out, (fun j hj => GA.out.cell (LG.out j hj) (by simp)), GP.out.grown GA.out⟩
            case measure => simp [intOf]; omega
          · obtain ⟨b, off, GV, hGa, -, hc⟩ := GP.out.at_ p hp2
            have hcq := hc 2 _ rfl
            rw [hq.out] at hcq
            dsimp only at hGa
            subst hGa
            simp only [← Nat.add_assoc] at hcq
            have hdg : dg (ts.getD p Tm.zero) = 50 := by unfold dg; rw [hq.out]; rfl
            have hcv := Wr.conv_str (wr.alloc (Obj.cells #[.int .u8 50] 5)) (some ⟨wr.heap.size, 0, none⟩) 1 1 [50] (Wr.rb_lit wr #[.int .u8 50] 1 [50] rfl rfl (by omega))
            have HSTR := Hi (show (ByteArray.mk (l ++ (ts.map dg).take p).toArray) ++ (ByteArray.mk #[50]) = ByteArray.mk (l ++ (ts.map dg).take (p + 1)).toArray from (str_snoc _ _).trans (by rw [htk, ← List.append_assoc, hdg]))
            have GA := Hi (grown_alloc wr (Obj.cells #[.int .u8 50] 5) none)
            have HQ := hq
            clear hdg hc
            dsimp only [str]
            go_wp2_with (first | (simp only [hcv]) | fail)
            go_roundw
            case rel => exact ⟨p + 1, by go_num, by omega, by show Value.string _ = Value.string _; rw [← HSTR.out], grown_trans WG.out GA.out, BG.out.grown GA.out, KG.out.grown GA.out, (fun j hj => GA.out.cell (LG.out j hj) (by simp)), GP.out.grown GA.out⟩
            case measure => simp [intOf]; omega
          · obtain ⟨b, off, GV, hGa, -, hc⟩ := GP.out.at_ p hp2
            have hcq := hc 2 _ rfl
            rw [hq.out] at hcq
            dsimp only at hGa
            subst hGa
            simp only [← Nat.add_assoc] at hcq
            have hdg : dg (ts.getD p Tm.zero) = 51 := by unfold dg; rw [hq.out]; rfl
            have hcv := Wr.conv_str (wr.alloc (Obj.cells #[.int .u8 51] 5)) (some ⟨wr.heap.size, 0, none⟩) 1 1 [51] (Wr.rb_lit wr #[.int .u8 51] 1 [51] rfl rfl (by omega))
            have HSTR := Hi (show (ByteArray.mk (l ++ (ts.map dg).take p).toArray) ++ (ByteArray.mk #[51]) = ByteArray.mk (l ++ (ts.map dg).take (p + 1)).toArray from (str_snoc _ _).trans (by rw [htk, ← List.append_assoc, hdg]))
            have GA := Hi (grown_alloc wr (Obj.cells #[.int .u8 51] 5) none)
            have HQ := hq
            clear hdg hc
            dsimp only [str]
            go_wp2_with (first | (simp only [hcv]) | fail)
            go_roundw
            case rel => exact ⟨p + 1, by go_num, by omega, by show Value.string _ = Value.string _; rw [← HSTR.out], grown_trans WG.out GA.out, BG.out.grown GA.out, KG.out.grown GA.out, (fun j hj => GA.out.cell (LG.out j hj) (by simp)), GP.out.grown GA.out⟩
            case measure => simp [intOf]; omega
        · obtain rfl : p = Gn := by omega
          have hfin : (ts.map dg).take p = ts.map dg := List.take_of_length_le (by rw [List.length_map]; omega)
          rw [hfin]
          have HSTR := Hi (show (ByteArray.mk (l ++ ts.map dg).toArray) ++ (ByteArray.mk #[59]) = ByteArray.mk (l ++ ts.map dg ++ [59]).toArray from str_snoc _ _)
          have hnl : ¬ 9223372036854775807 < l.length + p + 1 := by omega
          have hnl2 : ¬ 9223372036854775807 < l.length + ts.length + 1 := by omega
          have hu : Un ≤ 400 := by rw [UT.out]; simp
          dsimp only [str]
          go_wp2
          go_roundw
          case rel => exact ⟨j + 1, Ua, Un, Uc, Wa, Wn, Wc, by go_num, by omega, by rw [AW.out]; show Value.string _ = Value.string _; rw [← HSTR.out], hu, WG, BG, Hi (by rw [AW.out]; exact KG.out), LG⟩
          case measure => simp [intOf]; omega
    · obtain rfl : j = 5 := by omega
      rw [aw_end]
      dsimp only [str]
      go_wp2
      go_ret
      exact ret_mk rfl GR.out
end Go.Proofs.YticmoaebegahgaaGreatDoor.Iw
namespace Go.Proofs.YticmoaebegahgaaGreatDoor.Iw
open Go.ChangeShapes Go.WideShapes Go.ChangeAt Go.RowKit
open Wr (IR RB iv ivs bv bvs grown_trans grown_refl grown_alloc ret_int ret_bool tv Ret ret_mk)
def alikeF : List Tm.Tg → List Tm.Tg → Bool
  | [], [] => true
  | t :: r, u :: q => Tm.same t u && alikeF r q
  | _, _ => false
theorem same_self (t : Tm.Tg) : Tm.same t t = true := by simp [Tm.same]
theorem alike_self (l : List Tm.Tg) : alikeF l l = true := by
  induction l with
  | nil => rfl
  | cons t r ih => simp [alikeF, same_self, ih]
theorem alike_len {a b : List Tm.Tg} (h : a.length ≠ b.length) : alikeF a b = false := by
  induction a generalizing b with
  | nil => cases b with
    | nil => simp at h
    | cons x y => rfl
  | cons t r ih => cases b with
    | nil => rfl
    | cons u q => simp [alikeF, ih (b := q) (by simpa using h)]
theorem alike_at {a b : List Tm.Tg} {k : Nat} (h1 : k < a.length) (h2 : k < b.length) : alikeF (a.drop k) (b.drop k) = (Tm.same (a.getD k Tm.zero) (b.getD k Tm.zero) && alikeF (a.drop (k + 1)) (b.drop (k + 1))) := by
  rw [List.drop_eq_getElem_cons h1, List.drop_eq_getElem_cons h2]
  simp only [List.getD, List.getElem?_eq_getElem h1, List.getElem?_eq_getElem h2, Option.getD_some]
  rfl
theorem same_at {t u : Tm.Tg} {V U : Sl} {r : Bool} {w : World} (h : VI w [] V t.vs) (k : VI w [] U u.vs) (hr : Tm.same t u = r) : Calls Tryz.prog 39 #[tv t V.v, tv u U.v] w (Ret (.bool r) w) := by
  subst hr
  have h1 := h.big
  have h2 := k.big
  exact Wr.same_any t u V.a U.a V.n V.c U.n U.c w h.ir k.ir (by omega) (by omega)
set_option maxRecDepth 100000 in
set_option maxHeartbeats 4000000 in
theorem alike_any (s s2 : Sl) (ts us : List Tm.Tg) (w : World) (h : TR w s ts) (k : TR w s2 us) :
    Calls Tryz.prog 19 #[s.v, s2.v] w (Ret (.bool (alikeF ts us)) w) := by
  have hl := h.len
  have kl := k.len
  have hf := h.fit
  have kf := k.fit
  have HT := Hi h
  have HU0 := Hi k
  clear h k
  obtain ⟨A, n, c⟩ := s
  obtain ⟨A2, n2, cc2⟩ := s2
  unfold Sl.fit at hf kf
  dsimp only [Sl.v] at *
  by_cases hne : n = n2
  · subst hne
    go_enter Tryz.func19, Tryz.ntmps19
    go_wp2
    go_loopw [13] (fun i wr => ∃ k : Nat, i = .int .i64 k ∧ k ≤ n ∧ Hid (w.grownBy wr none) ∧ Hid (alikeF ts us = alikeF (ts.drop k) (us.drop k))) (fun i _ => n - (intOf i).toNat)
    case atStart => exact ⟨0, rfl, by omega, grown_refl _ _, rfl⟩
    case round =>
      obtain ⟨k, rfl, hk, GW, P⟩ := hrel
      by_cases hlt : k < n
      · obtain ⟨b, off, V, hA, hv, hc⟩ := (HT.out.grown GW.out).at_ k hlt
        obtain ⟨b2, off2, U, hA2, hu, hd⟩ := (HU0.out.grown GW.out).at_ k hlt
        dsimp only at hA hA2
        subst hA
        subst hA2
        have P := Hi (P.out.trans (alike_at (by omega) (by omega)))
        simp only [← Nat.add_assoc] at hc hd
        obtain ⟨c0, c1, c2, c3, c4, c5⟩ := six_of hc
        obtain ⟨d0, d1, d2, d3, d4, d5⟩ := six_of hd
        clear hc hd
        generalize ts.getD k Tm.zero = t at *
        generalize us.getD k Tm.zero = u at *
        obtain ⟨Va, Vn, Vc⟩ := V
        obtain ⟨Ua, Un, Uc⟩ := U
        dsimp only [Sl.v] at c0 c1 c2 c3 c4 c5 d0 d1 d2 d3 d4 d5
        have HV := Hi hv
        have HU := Hi hu
        clear hv hu
        have SM := Hi (fun (W : World) (hW : VI W [] ⟨Va, Vn, Vc⟩ t.vs) (kW : VI W [] ⟨Ua, Un, Uc⟩ u.vs) => same_at (r := Tm.same t u) hW kW rfl)
        dsimp only [tv, Sl.v] at SM
        go_upto_region 6 with fail
        refine wp_region_held_drew (S := (fun wx : World => (wx.cell? ⟨b, off + k * 6, none⟩ = some (.int .i64 t.st) ∧ wx.cell? ⟨b, off + k * 6 + 1, none⟩ = some (.int .i64 t.ep) ∧ wx.cell? ⟨b, off + k * 6 + 2, none⟩ = some (.int .i64 t.sq) ∧ wx.cell? ⟨b, off + k * 6 + 3, none⟩ = some (.int .i64 t.tm) ∧ wx.cell? ⟨b, off + k * 6 + 4, none⟩ = some (.int .i64 t.kd) ∧ wx.cell? ⟨b, off + k * 6 + 5, none⟩ = some (.slice Va Vn Vc)) ∧ (wx.cell? ⟨b2, off2 + k * 6, none⟩ = some (.int .i64 u.st) ∧ wx.cell? ⟨b2, off2 + k * 6 + 1, none⟩ = some (.int .i64 u.ep) ∧ wx.cell? ⟨b2, off2 + k * 6 + 2, none⟩ = some (.int .i64 u.sq) ∧ wx.cell? ⟨b2, off2 + k * 6 + 3, none⟩ = some (.int .i64 u.tm) ∧ wx.cell? ⟨b2, off2 + k * 6 + 4, none⟩ = some (.int .i64 u.kd) ∧ wx.cell? ⟨b2, off2 + k * 6 + 5, none⟩ = some (.slice Ua Un Uc)))) (by kernel_rfl) ?_ (fun hHeld => ?_)
        · exact ⟨⟨c0, c1, c2, c3, c4, c5⟩, d0, d1, d2, d3, d4, d5⟩
        try simp only [Act.put, lsA, lsB, lsC]
        refine takeL (i := 0) (v := ?_) rfl (by kernel_rfl) (by kernel_rfl) (by kernel_rfl) (fun _ _ _ h => h) (Or.inl ⟨by rfl, ?_⟩) (by assumption) ?_
        rotate_left 1
        · intro w hSw; obtain ⟨⟨s0, s1, s2, s3, s4, s5⟩, t0, t1, t2, t3, t4, t5⟩ := hSw; first | (go_simp; done) | (go_simp; with_reducible rfl)
        try simp only [Act.put, lsA, lsB, lsC]
        refine takeL (i := 1) (v := ?_) rfl (by kernel_rfl) (by kernel_rfl) (by kernel_rfl) (fun _ _ _ h => h) (Or.inl ⟨by rfl, ?_⟩) (by assumption) ?_
        rotate_left 1
        · intro w hSw; obtain ⟨⟨s0, s1, s2, s3, s4, s5⟩, t0, t1, t2, t3, t4, t5⟩ := hSw; first | (go_simp; done) | (go_simp; with_reducible rfl)
        try simp only [Act.put, lsA, lsB, lsC]
        refine takeL (i := 2) (v := ?_) rfl (by kernel_rfl) (by kernel_rfl) (by kernel_rfl) (fun _ _ _ h => h) (Or.inl ⟨by rfl, ?_⟩) (by assumption) ?_
        rotate_left 1
        · intro w hSw; obtain ⟨⟨s0, s1, s2, s3, s4, s5⟩, t0, t1, t2, t3, t4, t5⟩ := hSw; first | (go_simp; done) | (go_simp; with_reducible rfl)
        try simp only [Act.put, lsA, lsB, lsC]
        refine takeL (i := 3) (v := ?_) rfl (by kernel_rfl) (by kernel_rfl) (by kernel_rfl) (fun _ _ _ h => h) (Or.inl ⟨by rfl, ?_⟩) (by assumption) ?_
        rotate_left 1
        · intro w hSw; obtain ⟨⟨s0, s1, s2, s3, s4, s5⟩, t0, t1, t2, t3, t4, t5⟩ := hSw; first | (go_simp; done) | (go_simp; with_reducible rfl)
        try simp only [Act.put, lsA, lsB, lsC]
        refine takeL (i := 4) (v := ?_) rfl (by kernel_rfl) (by kernel_rfl) (by kernel_rfl) (fun _ _ _ h => h) (Or.inl ⟨by rfl, ?_⟩) (by assumption) ?_
        rotate_left 1
        · intro w hSw; obtain ⟨⟨s0, s1, s2, s3, s4, s5⟩, t0, t1, t2, t3, t4, t5⟩ := hSw; first | (go_simp; done) | (go_simp; with_reducible rfl)
        try simp only [Act.put, lsA, lsB, lsC]
        refine takeL (i := 5) (v := ?_) rfl (by kernel_rfl) (by kernel_rfl) (by kernel_rfl) (fun _ _ _ h => h) (Or.inl ⟨by rfl, ?_⟩) (by assumption) ?_
        rotate_left 1
        · intro w hSw; obtain ⟨⟨s0, s1, s2, s3, s4, s5⟩, t0, t1, t2, t3, t4, t5⟩ := hSw; first | (go_simp; done) | (go_simp; with_reducible rfl)
        try simp only [Act.put, lsA, lsB, lsC]
        refine takeL (i := 6) (v := ?_) rfl (by kernel_rfl) (by kernel_rfl) (by kernel_rfl) (fun _ _ _ h => h) (Or.inl ⟨by rfl, ?_⟩) (by assumption) ?_
        rotate_left 1
        · intro w hSw; obtain ⟨⟨s0, s1, s2, s3, s4, s5⟩, t0, t1, t2, t3, t4, t5⟩ := hSw; first | (go_simp; done) | (go_simp; with_reducible rfl)
        try simp only [Act.put, lsA, lsB, lsC]
        refine takeL (i := 7) (v := ?_) rfl (by kernel_rfl) (by kernel_rfl) (by kernel_rfl) (fun _ _ _ h => h) (Or.inl ⟨by rfl, ?_⟩) (by assumption) ?_
        rotate_left 1
        · intro w hSw; obtain ⟨⟨s0, s1, s2, s3, s4, s5⟩, t0, t1, t2, t3, t4, t5⟩ := hSw; first | (go_simp; done) | (go_simp; with_reducible rfl)
        try simp only [Act.put, lsA, lsB, lsC]
        refine wpAnyH_ready (rs := [8]) (by kernel_rfl) (by simp) (consL rfl (fun K hK => ?_) AllReadyH.nil)
        go_simp
        refine (SM.out wr.drew (HV.out.grown (Wr.grown_drew wr none)) (HU.out.grown (Wr.grown_drew wr none))).mono ?_
        rintro e w3 ⟨rfl, hg3⟩
        have GZ := Hi (grown_trans (Wr.grown_drew wr none) hg3)
        clear hg3
        try dsimp only
        refine hK.out _ _ ?_ (fun hHeld => ?_)
        · exact ⟨⟨(GZ.out.cell c0 (by simp)), (GZ.out.cell c1 (by simp)), (GZ.out.cell c2 (by simp)), (GZ.out.cell c3 (by simp)), (GZ.out.cell c4 (by simp)), (GZ.out.cell c5 (by simp))⟩, (GZ.out.cell d0 (by simp)), (GZ.out.cell d1 (by simp)), (GZ.out.cell d2 (by simp)), (GZ.out.cell d3 (by simp)), (GZ.out.cell d4 (by simp)), (GZ.out.cell d5 (by simp))⟩
        clear hK K
        try simp only [Act.put, lsA, lsB, lsC]
        refine takeL (i := 9) (v := ?_) rfl (by kernel_rfl) (by kernel_rfl) (by kernel_rfl) (fun _ _ _ h => h) (Or.inl ⟨by rfl, ?_⟩) (by assumption) ?_
        rotate_left 1
        · intro w hSw; obtain ⟨⟨s0, s1, s2, s3, s4, s5⟩, t0, t1, t2, t3, t4, t5⟩ := hSw; first | (go_simp; done) | (go_simp; with_reducible rfl)
        try simp only [Act.put, lsA, lsB, lsC]
        refine wpAnyH_done (by kernel_rfl) ?_ _
        rcases Bool.eq_false_or_eq_true (Tm.same t u) with q | q
        · rw [q, Bool.true_and] at P
          have GW := Hi (grown_trans GW.out GZ.out)
          have hq : (!(Tm.same t u)) = false := by rw [q]; rfl
          have hq := Hi hq
          simp only [q, Bool.not_true]
          clear q
          go_wp2
          go_roundw
          case rel => exact ⟨k + 1, by go_num, by omega, GW, P⟩
          case measure => simp [intOf]; omega
        · rw [q, Bool.false_and] at P
          have GW := Hi (grown_trans GW.out GZ.out)
          simp only [q, Bool.not_false]
          clear q
          go_wp2
          go_ret
          exact ret_mk P.out.symm GW.out
      · obtain rfl : k = n := by omega
        have P := Hi (P.out.trans (by rw [List.drop_of_length_le (by omega), List.drop_of_length_le (by omega)]; rfl : _ = true))
        go_wp2
        go_ret
        exact ret_mk P.out.symm GW.out
  · have E := Hi (alike_len (a := ts) (b := us) (by omega))
    have hne' : ¬ ((n : Int) = (n2 : Int)) := by omega
    go_enter Tryz.func19, Tryz.ntmps19
    go_wp2
    go_ret
    exact ret_mk E.out.symm (grown_refl _ _)
end Go.Proofs.YticmoaebegahgaaGreatDoor.Iw
