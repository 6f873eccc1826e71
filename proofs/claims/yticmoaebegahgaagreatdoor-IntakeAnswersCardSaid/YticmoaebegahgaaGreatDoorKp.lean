import Derived.Test.YticmoaebegahgaaGreatDoorKj
set_option linter.all false
namespace Go.Proofs.YticmoaebegahgaaGreatDoor.Iw
open Go.ChangeShapes Go.WideShapes Go.ChangeAt Go.RowKit
open Wr (IR RB iv ivs bv bvs grown_trans grown_refl grown_alloc ret_int ret_bool tv Ret ret_mk)
def wt0 : Im.Wt := ⟨0, 0, 0, []⟩
structure EL (w : World) (L : List Nat) (s : Sl) (es : List Im.Wt) : Prop where
  fit : s.fit
  len : es.length = s.n
  at_ : ∀ i, i < s.n → ∃ b off H, s.a = some ⟨b, off, none⟩ ∧ b ∉ L ∧ TL w L H (es.getD i wt0).held ∧ ∀ j u, (ecs (es.getD i wt0, H))[j]? = some u → w.cell? ⟨b, off + (i * 4 + j), none⟩ = some u
theorem EL.er {w : World} {L : List Nat} {s : Sl} {es : List Im.Wt} (h : EL w L s es) : ER w s es :=
  ⟨h.fit, h.len, fun i hi => by obtain ⟨b, off, V, e, _, hv, hc⟩ := h.at_ i hi; exact ⟨b, off, V, e, hv.tr, hc⟩⟩
theorem EL.step {w w' : World} {L L' M : List Nat} {s : Sl} {es : List Im.Wt} (h : EL w L s es) (g : Chg M w w') (hM : ∀ b ∈ M, b ∈ L ∨ w.heap.size ≤ b) (hL : ∀ b ∈ L', b ∈ L ∨ w.heap.size ≤ b) : EL w' L' s es := by
  have gc : Chg L w w' := (Chg.refl L w).then g hM
  refine ⟨h.fit, h.len, fun i hi => ?_⟩
  obtain ⟨b, off, V, e, hb, hv, hc⟩ := h.at_ i hi
  refine ⟨b, off, V, e, fun hm => ?_, hv.step g hM hL, fun j u hu => gc.cell (hc j u hu) hb⟩
  rcases hL b hm with k | k
  · exact hb k
  · have := World.block_lt_of_cell? _ _ (hc 0 _ rfl)
    dsimp only at this
    omega
theorem EL.of {w : World} {s : Sl} {es : List Im.Wt} (h : ER w s es) : EL w [] s es :=
  ⟨h.fit, h.len, fun i hi => by obtain ⟨b, off, V, e, hv, hc⟩ := h.at_ i hi; exact ⟨b, off, V, e, (fun h => by cases h), TL.of hv, hc⟩⟩
theorem EL.list {w : World} {L : List Nat} {s : Sl} {es : List Im.Wt} (h : EL w L s es) : ∃ ys : List EV, ys.map Prod.fst = es ∧ CR w s (f4 ys) ∧ (∀ y ∈ ys, TL w L y.2 y.1.held) ∧ ys.length = s.n := by
  have hl := h.len
  have key : ∀ m, m ≤ s.n → ∃ ys : List EV, ys.map Prod.fst = es.take m ∧ CR w s (f4 ys) ∧ ∀ y ∈ ys, TL w L y.2 y.1.held := by
    intro m
    induction m with
    | zero => intro _; exact ⟨[], rfl, (fun j u hu => by simp [f4] at hu), (fun x hx => by cases hx)⟩
    | succ m ih =>
      intro hm
      obtain ⟨xs, h1, h2, h3⟩ := ih (by omega)
      obtain ⟨b, off, V, e, _, hv, hc⟩ := h.at_ m (by omega)
      have hx : xs.length = m := by have := congrArg List.length h1; rw [List.length_map, List.length_take] at this; omega
      have e2 : es.take (m + 1) = es.take m ++ [es.getD m wt0] := by
        rw [List.take_add_one, List.getElem?_eq_getElem (by omega)]; simp [List.getD, List.getElem?_eq_getElem (show m < es.length by omega)]
      refine ⟨xs ++ [(es.getD m wt0, V)], by rw [List.map_append, h1, e2]; rfl, ?_, ?_⟩
      · rw [f4, flat_app]
        refine CR.pre h2 (fun j u hu => ⟨b, off, e, ?_⟩)
        have : (f4 xs).length = m * 4 := by rw [f4_len, hx]
        rw [show (xs.flatMap ecs).length = m * 4 from this]
        exact hc j u (by simpa using hu)
      · intro x hx
        rcases List.mem_append.1 hx with hx | hx
        · exact h3 x hx
        · rw [List.mem_singleton] at hx; subst hx; exact hv
  obtain ⟨xs, h1, h2, h3⟩ := key s.n (Nat.le_refl _)
  exact ⟨xs, by rw [h1, List.take_of_length_le (by omega)], h2, h3, by have := congrArg List.length h1; rw [List.length_map, List.length_take] at this; omega⟩
theorem EL.to {base : Nat} {w : World} {L : List Nat} {s : Sl} {ys : List EV} (h : OR base w 32 4 s (f4 ys)) (hs : ∀ b, s.blk = some b → b ∉ L) (hv : ∀ y ∈ ys, TL w L y.2 y.1.held) : EL w L s (ys.map Prod.fst) := by
  have hl : ys.length = s.n := by have := h.len; rw [f4_len] at this; omega
  refine ⟨h.fit, by rw [List.length_map, hl], fun i hi => ?_⟩
  have hi2 : i < ys.length := by omega
  have hx : ys[i]? = some ys[i] := List.getElem?_eq_getElem hi2
  have hg : (ys.map Prod.fst).getD i wt0 = ys[i].1 := by simp [List.getD, hx]
  rcases h.form with ⟨_, h0, _⟩ | ⟨g, hg1, _, _⟩
  · omega
  · refine ⟨g, 0, ys[i].2, hg1, hs g (by rw [Sl.blk, hg1]; rfl), by rw [hg]; exact hv _ (List.getElem_mem _), fun j u hu => ?_⟩
    rw [hg] at hu
    have hj : j < 4 := by
      rcases Nat.lt_or_ge j 4 with k | k
      · exact k
      · rw [List.getElem?_eq_none (by exact k)] at hu; cases hu
    obtain ⟨b', off', e', hc'⟩ := h.cr (i * 4 + j) u (by rw [f4, flat_get ecs_len ys i j hj _ hx]; exact hu)
    rw [hg1] at e'
    injection e' with e'
    injection e' with e1 e2
    subst e1; subst e2
    exact hc'
theorem cr4_take {w : World} {A : Option Addr} {n c c' a : Nat} {xs : List EV} (h : CR w ⟨A, n, c⟩ (f4 xs)) : CR w ⟨A, a, c'⟩ (f4 (xs.take a)) := by
  intro j u hu
  have e : f4 (xs.take a) = (f4 xs).take (a * 4) := (flat_take ecs_len xs a).symm
  rw [e, List.getElem?_take] at hu
  split at hu
  · exact h j u hu
  · cases hu
theorem cr4_drop {w : World} {b off n c a : Nat} {xs : List EV} (h : CR w ⟨some ⟨b, off, none⟩, n, c⟩ (f4 xs)) (hl : xs.length = n) (hn : n ≤ c) {ad : Option Addr} {c' : Nat} (ha : (if c = a then some (⟨b, off, none⟩ : Addr) else some ⟨b, off + a * 4, none⟩) = ad) : CR w ⟨ad, n - a, c'⟩ (f4 (xs.drop a)) := by
  intro j u hu
  by_cases e : c = a
  · rw [List.drop_of_length_le (by omega)] at hu
    simp [f4] at hu
  · rw [if_neg e] at ha
    have e2 : f4 (xs.drop a) = (f4 xs).drop (a * 4) := (flat_drop ecs_len xs a).symm
    rw [e2, List.getElem?_drop] at hu
    obtain ⟨b', off', e3, hc⟩ := h _ u hu
    injection e3 with e3
    injection e3 with e3 e4
    subst e3; subst e4
    exact ⟨b, off + a * 4, ha.symm, by rw [show off + a * 4 + j = off + (a * 4 + j) by omega]; exact hc⟩
theorem ins_row4 {base : Nat} {w w' : World} {L : List Nat} {r H : Sl} {y : Im.Wt} {ys : List EV} {es : List Im.Wt} {a bh : Nat} (hx : ys.map Prod.fst = es) (hv : ∀ y ∈ ys, TL w L y.2 y.1.held) (hV : TL w L H y.held) (g : w.grownBy w' none) (hr : OR base w' 32 4 r (f4 (ys.take a) ++ ecs (y, H) ++ f4 (ys.drop bh))) (hL : ∀ b, r.blk = some b → b ∉ L) : EL w' L r (es.take a ++ y :: es.drop bh) := by
  have e0 : (ys.take a ++ (y, H) :: ys.drop bh).map Prod.fst = es.take a ++ y :: es.drop bh := by rw [← hx]; simp
  rw [← e0]
  have e : f4 (ys.take a ++ (y, H) :: ys.drop bh) = f4 (ys.take a) ++ ecs (y, H) ++ f4 (ys.drop bh) := by rw [f4, flat_app, List.flatMap_cons, ← List.append_assoc]; rfl
  rw [← e] at hr
  refine EL.to hr hL (fun x hx => ?_)
  rcases List.mem_append.1 hx with hx | hx
  · exact (hv x (List.mem_of_mem_take hx)).grown g
  · rcases List.mem_cons.1 hx with rfl | hx
    · exact hV.grown g
    · exact (hv x (List.mem_of_mem_drop hx)).grown g
def RL (w : World) (L : List Nat) (A : Option Addr) (n : Nat) (l : List UInt8) : Prop := RB w A n l ∧ ∀ x, A = some x → 0 < n → x.block ∉ L
theorem RL.step {w w' : World} {L L' M : List Nat} {A : Option Addr} {n : Nat} {l : List UInt8} (h : RL w L A n l) (g : Chg M w w') (hM : ∀ b ∈ M, b ∈ L ∨ w.heap.size ≤ b) (hL : ∀ b ∈ L', b ∈ L ∨ w.heap.size ≤ b) : RL w' L' A n l := by
  have gc : Chg L w w' := (Chg.refl L w).then g hM
  refine ⟨⟨h.1.1, fun i hi => ?_⟩, fun x hx hn hm => ?_⟩
  · obtain ⟨b, off, e, hc⟩ := h.1.2 i hi
    exact ⟨b, off, e, gc.cell hc (h.2 ⟨b, off, none⟩ e (by omega))⟩
  · rcases hL _ hm with k | k
    · exact h.2 x hx hn k
    · obtain ⟨b, off, e, hc⟩ := h.1.2 0 hn
      rw [hx] at e
      injection e with e
      subst e
      have := World.block_lt_of_cell? _ _ hc
      dsimp only at this k
      omega
structure KA (w : World) (L : List Nat) (T E : Sl) (k : Ik) : Prop where
  fit : T.fit
  tl : RL w L T.a T.n k.tail
  es : EL w L E k.es
theorem KA.kr {w : World} {L : List Nat} {T E : Sl} {k : Ik} (h : KA w L T E k) : KR w T E k := ⟨h.fit, h.tl.1, h.es.er⟩
theorem KA.step {w w' : World} {L L' M : List Nat} {T E : Sl} {k : Ik} (h : KA w L T E k) (g : Chg M w w') (hM : ∀ b ∈ M, b ∈ L ∨ w.heap.size ≤ b) (hL : ∀ b ∈ L', b ∈ L ∨ w.heap.size ≤ b) : KA w' L' T E k := ⟨h.fit, h.tl.step g hM hL, h.es.step g hM hL⟩
theorem KA.grown {w w' : World} {L : List Nat} {T E : Sl} {k : Ik} (h : KA w L T E k) (g : w.grownBy w' none) : KA w' L T E k := h.step (M := []) (Chg.of0 g) (fun _ h => by cases h) (fun _ hb => .inl hb)
theorem ka_nil (w : World) (L : List Nat) (n : Int) : KA w L nilS nilS ⟨n, [], []⟩ :=
  ⟨⟨by simp [nilS], by simp [nilS]⟩, ⟨RB.nil _ _, fun x hx => by cases hx⟩, ⟨⟨by simp [nilS], by simp [nilS]⟩, rfl, fun i hi => by simp [nilS] at hi⟩⟩
theorem put_at {win : Int} {full : Bool} {t : Tm.Tg} (s : List Im.Wt) : ∀ a, a ≤ s.length → (∀ j, j < a → (s.getD j wt0).st < t.st) → (a = s.length ∨ t.st ≤ (s.getD a wt0).st) →
    (a < s.length → (s.getD a wt0).st = t.st → Im.put win full s t = (s.take a ++ (Im.take win (s.getD a wt0) t).1 :: s.drop (a + 1), (Im.take win (s.getD a wt0) t).2)) ∧
    ((a = s.length ∨ (s.getD a wt0).st ≠ t.st) → full = false → Im.put win full s t = (s.take a ++ (Im.take win (Im.new t) t).1 :: s.drop a, (Im.take win (Im.new t) t).2)) := by
  induction s with
  | nil =>
    intro a ha h1 h2
    obtain rfl : a = 0 := by simpa using ha
    refine ⟨fun h => by simp at h, fun _ hf => ?_⟩
    subst hf
    simp [Im.put]
  | cons x r ih =>
    intro a ha h1 h2
    cases a with
    | zero =>
      have hx : ¬ x.st < t.st := by
        rcases h2 with h2 | h2
        · simp at h2
        · simp at h2; omega
      refine ⟨fun _ he => ?_, fun hn hf => ?_⟩
      · have he : x.st = t.st := by simpa using he
        unfold Im.put
        rw [if_neg hx, if_pos he]
        simp
      · have hne : x.st ≠ t.st := by
          rcases hn with hn | hn
          · simp at hn
          · simpa using hn
        subst hf
        unfold Im.put
        rw [if_neg hx, if_neg hne]
        simp
    | succ a =>
      have hx : x.st < t.st := by simpa using h1 0 (by omega)
      obtain ⟨i1, i2⟩ := ih a (by simpa using ha) (fun j hj => by simpa using h1 (j + 1) (by omega)) (by simpa using h2)
      refine ⟨fun hl he => ?_, fun hn hf => ?_⟩
      · have h := i1 (by simpa using hl) (by simpa using he)
        unfold Im.put
        rw [if_pos hx, h]
        simp
      · have h := i2 (by simpa using hn) hf
        unfold Im.put
        rw [if_pos hx, h]
        simp
end Go.Proofs.YticmoaebegahgaaGreatDoor.Iw
