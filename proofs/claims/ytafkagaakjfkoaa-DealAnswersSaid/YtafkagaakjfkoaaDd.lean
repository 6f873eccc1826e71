/- The statements' rates. -/
import Derived.Test.YtafkagaakjfkoaaDc
namespace Go.Proofs.Ytafkagaakjfkoaa
open Go.ChangeShapes Go.WideShapes Go.ChangeAt Go.RowKit

theorem pick_lit (S n X : Nat) (xs : List Int) (C : Array Value) (w : World) (hX : w.heap.size = X) (hs : SrcOK w S) (hn : xs.length = n) (h0 : 0 < n) (hl : n ≤ 1000000)
    (hC : ∀ i, i < n → C[i]? = some (.int .i64 (xs.getD i 0))) :
    Calls Try.prog 12 #[.pointer (some ⟨S, 0, none⟩), .slice (some ⟨X, 0, none⟩) n n] (w.alloc (.cells C 3))
      fun e w' => ∃ r : Int, r ∈ xs ∧ e = .returned (.int .i64 r) ∧ w.grownBy w' (some S) ∧ SrcOK w' S := by
  subst hX
  have hS := src_lt hs
  refine (pick_any S w.heap.size 0 n n xs _ (hs.grown (World.grownBy_alloc _ _ _)) (by omega) hn h0 hl ?_).mono ?_
  · intro i hi
    rw [Nat.zero_add, World.cell?_alloc_new]
    exact hC i hi
  · rintro e w1 ⟨r, ⟨j, hj, rfl⟩, rfl, hg, hs1⟩
    refine ⟨_, ?_, rfl, grown_trans (World.grownBy_alloc _ _ _) hg, hs1⟩
    have hj2 : j < xs.length := by omega
    rw [List.getD_eq_getElem?_getD, List.getElem?_eq_getElem hj2]
    exact List.getElem_mem hj2
/-- What the statements draw as rates. -/
structure Rates (r : List Int) : Prop where
  len1 : 1 ≤ r.length
  len5 : r.length ≤ 5
  ok : ∀ i, i < r.length → 0 ≤ r.getD i 0 ∧ r.getD i 0 ≤ 39
  pos : 0 < r.sum
theorem Rates.max {r : List Int} (h : Rates r) : r.sum ≤ 195 := by
  have h1 := Dm.sum_le r (List.replicate r.length 39) (by simp) (fun i hi => by
    have := (h.ok i hi).2
    simp [List.getD_eq_getElem?_getD, hi] at this ⊢
    exact this)
  have h2 : (List.replicate r.length (39 : Int)).sum = 39 * r.length := by simp; omega
  have := h.len5
  omega
theorem Rates.okr {r : List Int} (h : Rates r) : okr r := fun i hi => by have := h.ok i hi; omega
theorem Rates.rok {r : List Int} (h : Rates r) {k : Int} (h0 : 0 ≤ k) (h1 : k ≤ r.sum) : Rok r k := ⟨by have := h.len5; omega, h.okr, h.pos, h0, h1⟩
def RatesEnd (S : Nat) (w : World) (e : Ending) (w' : World) : Prop := ∃ (o : Sl) (r : List Int), e = .returned (.tuple #[o.v, .int .i64 r.sum]) ∧ ON w.heap.size w' o r ∧ Rates r ∧ w.grownBy w' (some S) ∧ SrcOK w' S
theorem cr_n (w : World) (x : Int) {A : Nat} (hA : A = w.heap.size) : CR (w.alloc (.cells #[.int .i64 x] 3)) ⟨some ⟨A, 0, none⟩, 1, 1⟩ (ni [x]) := by
  subst hA
  intro j u hu
  refine ⟨w.heap.size, 0, rfl, ?_⟩
  rw [Nat.zero_add]
  match j, hu with
  | 0, hu => simp [ni] at hu; subst hu; simp
theorem ni_app (l m : List Int) : ni l ++ ni m = ni (l ++ m) := by unfold ni; rw [List.map_append]
/-- What the loop over the rates keeps. -/
structure Rw (w : World) (S : Nat) (o : Sl) (l : List Int) (wr : World) : Prop where
  own : ON w.heap.size wr o l
  src : SrcOK wr S
  grown : w.grownBy wr (some S)
  lt : S < w.heap.size
theorem Rw.step {w wc wd : World} {S : Nat} {o : Sl} {l : List Int} (h : Rw w S o l wc) (g : wc.grownBy wd (some S)) (hs : SrcOK wd S) : Rw w S o l wd :=
  ⟨h.own.chg (Chg.of (L := [S]) g (fun b hb => by injection hb with hb; simp [hb])) (fun b hb hm => by rw [List.mem_singleton] at hm; have := (h.own.blk b hb).1; have := h.lt; omega), hs, grown_trans h.grown g, h.lt⟩
theorem Rw.step0 {w wc wd : World} {S : Nat} {o : Sl} {l : List Int} (h : Rw w S o l wc) (g : wc.grownBy wd none) : Rw w S o l wd := h.step (grown_weak _ g) (h.src.grown g)
theorem Rw.put {w wc wd : World} {S : Nat} {o r : Sl} {l m : List Int} (h : Rw w S o l wc) (hr : ON w.heap.size wd r m) (g : wc.grownBy wd o.blk) : Rw w S r m wd := by
  refine ⟨hr, h.src.grownRow g (fun k hk => by have := (h.own.blk k hk).1; have := h.lt; omega), ?_, h.lt⟩
  cases e : o.blk with
  | none => rw [e] at g; exact grown_trans h.grown (grown_weak _ g)
  | some b =>
    rw [e] at g
    exact grown_skip h.grown g (h.own.blk b e).1
theorem sum_zero {l : List Int} (h : ∀ i, i < l.length → 0 ≤ l.getD i 0) (e : l.sum = 0) (i : Nat) (hi : i < l.length) : l.getD i 0 = 0 := by
  have := h i hi
  have := Dm.le_sum h i hi
  omega
theorem set_rates {l : List Int} (h1 : 1 ≤ l.length) (h5 : l.length ≤ 5) (h : ∀ i, i < l.length → 0 ≤ l.getD i 0 ∧ l.getD i 0 ≤ 39) (e : l.sum = 0) : Rates (l.set 0 1) ∧ (l.set 0 1).sum = 1 := by
  have hs : (l.set 0 1).sum = 1 := by
    rw [Dm.sum_set _ _ _ (by omega), e, sum_zero (fun i hi => (h i hi).1) e 0 (by omega)]
    rfl
  refine ⟨⟨by simpa using h1, by simpa using h5, fun i hi => ?_, by omega⟩, hs⟩
  rw [Dm.getD_set]
  split
  · omega
  · exact h i (by simpa using hi)

set_option maxHeartbeats 1000000 in
theorem rates_any (S : Nat) (w : World) (hs : SrcOK w S) : Calls Try.prog 11 #[.pointer (some ⟨S, 0, none⟩)] w (RatesEnd S w) := by
  obtain ⟨i0, hi, hz0, hz1, hz2⟩ := parts_n
  have W0 := Lib.hid (show Rw w S ⟨none, 0, 0⟩ [] w from ⟨or_nil _ _ _ _, hs, grown_refl _ _, src_lt hs⟩)
  clear hs
  go_enter Try.func11, Try.ntmps11
  go_wp2_with fail
  refine (range_any S 1 5 w W0.out.src (by omega) (by omega) (by omega)).mono ?_
  rintro e w1 ⟨q, ⟨hq0, hq1⟩, rfl, hg, hs⟩
  have W1 := Lib.hid (W0.out.step hg hs)
  clear hg hs
  go_wp2
  go_loopw [4, 5, 6] (fun so sx i wr => ∃ (j : Nat) (x : Int) (o : Sl) (l : List Int), so = .slice o.a o.n o.c ∧ sx = .int .i64 x ∧ i = .int .i64 j ∧ Hid (j + l.length ≤ 5 ∧ (j = 0 → 1 ≤ l.length)) ∧ Hid (x = l.sum) ∧ 0 ≤ x ∧ x ≤ 39 * l.length ∧ Hid (∀ i, i < l.length → 0 ≤ l.getD i 0 ∧ l.getD i 0 ≤ 39) ∧ Hid (Rw w S o l wr)) (fun _ _ i _ => (intOf i).toNat)
  case atStart => exact ⟨q.toNat, 0, ⟨none, 0, 0⟩, [], rfl, rfl, by rw [show ((q.toNat : Nat) : Int) = q by omega], Lib.hid ⟨by simp; omega, fun h => by omega⟩, Lib.hid rfl, by omega, by simp, Lib.hid (fun i hi => by simp at hi), W1⟩
  case round =>
    obtain ⟨j, x, ⟨oa, on, oc⟩, l, rfl, rfl, rfl, JL, X, x0, x1, B, W⟩ := hrel
    dsimp only
    have hln : l.length = on := W.out.own.nr.len
    have jl := JL.out
    by_cases hlt : 0 < j
    · have hj : (0 : Int) < (j : Int) := by omega
      have on5 : on ≤ 4 := by omega
      go_wp2_with fail
      refine (n_any S 40 wr W.out.src (by omega) (by omega)).mono ?_
      rintro e w2 ⟨y, hy, rfl, hg, hs⟩
      have W2 := Lib.hid (W.out.step hg hs)
      clear hg hs
      go_wp2_with fail
      refine Calls.mono (pick_lit S 5 w2.heap.size [0, 1, 2, 7, y] #[.int .i64 0, .int .i64 1, .int .i64 2, .int .i64 7, .int .i64 y] w2 rfl W2.out.src rfl (by omega) (by omega) ?_) ?_
      · intro i hi
        match i, hi with
        | 0, _ => rfl
        | 1, _ => rfl
        | 2, _ => rfl
        | 3, _ => rfl
        | 4, _ => rfl
      rintro e w3 ⟨v, hv, rfl, hg, hs⟩
      have W3 := Lib.hid (W2.out.step hg hs)
      have V := Lib.hid (show 0 ≤ v ∧ v ≤ 39 by simp at hv; omega)
      clear hg hs hv hy
      have sz3 := W3.out.grown.size
      go_wp2_with (first
        | (at_builtin
           refine wpList_appV rfl _ _ 22 rfl (S := ⟨oa, on, oc⟩) (V := ⟨some ⟨w3.heap.size, 0, none⟩, 1, 1⟩) (vs := ni [v]) Try.underlying22 hi hz0 hz1 hz2 (by rfl) (by omega) rfl rfl (W3.out.own.grown (World.grownBy_alloc _ _ _)) ?a1 (by rfl) (cr_n _ _ rfl) (ni_one _) ?a2 ?a3 ?_
           case a1 => simp; omega
           case a2 => dsimp only; omega
           case a3 => dsimp only; omega
           intro r w5 hrn hr hg5 hbl
           rw [ni_app] at hr
           have W5 := Lib.hid ((W3.out.step0 (World.grownBy_alloc _ _ _)).put hr hg5)
           obtain ⟨ra, rn, rc⟩ := r
           dsimp only [Sl.v] at hrn ⊢
           subst hrn
           clear hr hg5 hbl
           obtain ⟨g, e0⟩ : ∃ g, ra = some ⟨g, 0, none⟩ := by
             rcases W5.out.own.form with ⟨_, e0, _⟩ | ⟨g, e0, _⟩
             · dsimp only at e0; omega
             · exact ⟨g, e0⟩
           subst e0
           have c0 := W5.out.own.nr.got on (by omega)
           rw [Nat.zero_add, show (l ++ [v]).getD on 0 = v by rw [← hln]; simp [List.getD_eq_getElem?_getD]] at c0
           have vv := V.out)
        | fail)
      have hw : IntKind.i64.wrap ((on : Int) + 1 - 1) = (on : Int) := by rw [IntWalk.i64_in _ (by omega)]; omega
      have SM := Lib.hid (show x + v = (l ++ [v]).sum by rw [X.out]; simp)
      have BB := Lib.hid (show ∀ i, i < (l ++ [v]).length → 0 ≤ (l ++ [v]).getD i 0 ∧ (l ++ [v]).getD i 0 ≤ 39 from fun i hi => by
        rw [List.length_append, List.length_singleton] at hi
        by_cases e : i < l.length
        · rw [List.getD_eq_getElem?_getD, List.getElem?_append_left e, ← List.getD_eq_getElem?_getD]
          exact B.out i e
        · obtain rfl : i = l.length := by omega
          rw [show (l ++ [v]).getD l.length 0 = v by simp [List.getD_eq_getElem?_getD]]
          exact V.out)
      have ll : (l ++ [v]).length = l.length + 1 := by simp
      exact ⟨⟨j - 1, _, ⟨some ⟨g, 0, none⟩, on + 1, rc⟩, l ++ [v], rfl, rfl, by go_num, Lib.hid ⟨by omega, fun _ => by omega⟩, SM, by omega, by omega, BB, W5⟩, by simp [intOf]; omega⟩
    · obtain rfl : j = 0 := by omega
      have L1 := Lib.hid (show 1 ≤ l.length ∧ l.length ≤ 5 by have := jl.2 rfl; omega)
      by_cases hx : x = 0
      · subst hx
        obtain ⟨g, e0⟩ : ∃ g, oa = some ⟨g, 0, none⟩ := by
          rcases W.out.own.form with ⟨_, e0, _⟩ | ⟨g, e0, _⟩
          · dsimp only at e0; have := L1.out; omega
          · exact ⟨g, e0⟩
        subst e0
        have h0n : 0 < on := by have := L1.out; omega
        have h0i : (0 : Int) < (on : Int) := by omega
        have c0 := W.out.own.nr.got 0 h0n
        have fz := W.out.own.own.frozenAt 0
        have ST := Lib.hid (W.out.own.stored 0 (.int .i64 1))
        rw [ni_set] at ST
        have SR := Lib.hid (set_rates L1.out.1 L1.out.2 B.out X.out.symm)
        have W6 := Lib.hid (W.out.put ST.out.1 ST.out.2)
        clear jl x0 x1
        go_wp2
        go_ret2
        exact ⟨⟨some ⟨g, 0, none⟩, on, oc⟩, l.set 0 1, by rw [SR.out.2]; rfl, W6.out.own, SR.out.1, W6.out.grown, W6.out.src⟩
      · have hxb : (x == 0) = false := by rw [beq_eq_false_iff_ne]; exact hx
        clear jl
        go_wp2
        go_ret2
        exact ⟨⟨oa, on, oc⟩, l, by rw [← X.out]; rfl, W.out.own, ⟨L1.out.1, L1.out.2, B.out, by rw [← X.out]; omega⟩, W.out.grown, W.out.src⟩
end Go.Proofs.Ytafkagaakjfkoaa
