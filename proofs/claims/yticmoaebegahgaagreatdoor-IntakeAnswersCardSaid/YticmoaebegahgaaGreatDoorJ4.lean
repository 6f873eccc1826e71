import Derived.Test.YticmoaebegahgaaGreatDoorJ3
import Derived.BigQuiet
set_option linter.all false
namespace Go.Proofs.YticmoaebegahgaaGreatDoor.Iw
open Go.ChangeShapes Go.WideShapes Go.ChangeAt Go.RowKit
open Wr (IR RB iv ivs bv bvs grown_trans grown_refl grown_alloc ret_int ret_bool tv Ret ret_mk)
def DelEnd (base : Nat) (s : Sl) (m : Nat) (us : List Value) (w : World) (en : Ending) (w' : World) : Prop :=
  ∃ r : Sl, en = .returned r.v ∧ r.n = s.n - m ∧ OR base w' 28 6 r (us.drop (m * 6)) ∧ w.grownBy w' s.blk ∧ r.blk = s.blk
theorem step_shiftK {P : Program} {w : World} {ops : Array Oper} {o : Oper} {a : Act} {Q : Exit → Act → World → Prop} {K : Act → World → Prop} {E : Prop} (hgd : o.guard = none) (s x : Operand) (t : TypeId) (ho : o.op = .call { callee := .builtin .append, args := #[s, x], argTypes := #[t, t] })
    {base : Nat} {e : TypeId} {i : TypeInfo} {k g n c : Nat} {us : List Value} (ht : P.underlying t = some (.slice e)) (hi : P.info? e = some i) (hsz : i.size = k)
    (own : OR base w e k ⟨some ⟨g, 0, none⟩, n, c⟩ us) (m : Nat) (hm : m ≤ n) (d : Nat) (A : Addr) (hs : a.eval s = .slice (some ⟨g, 0, none⟩) 0 c) (hx : a.eval x = .slice (some A) (n - m) d) (hA : A = ⟨g, m * k, none⟩ ∨ us.drop (m * k) = []) (h1 : ∀ u ∈ us, u.oneCell' = true)
    (hq : ∀ (w' : World), OR base w' e k ⟨some ⟨g, 0, none⟩, n - m, c⟩ (us.drop (m * k)) → w.grownBy w' (some g) → K (a.put o.dst (.slice (some ⟨g, 0, none⟩) (n - m) c)) w') :
    if Region.wanted o (yielded ops a.tmps) = true then Oper.wp P o a w K Q else E := by
  have hw : Region.wanted o (yielded ops a.tmps) = true := by simp [Region.wanted, hgd]
  rw [if_pos hw]
  have hf := own.fit
  have hl := own.len
  have h0 := own_front own.own (Nat.zero_le n)
  rw [Nat.zero_mul, List.take_zero] at h0
  obtain ⟨w', hr, h2, h3⟩ := run_append_own_spare (P := P) w base t o.type e i k ht hi hsz g 0 c [] h0 A (n - m) d (us.drop (m * k)) (by rw [List.length_drop, hl, Nat.sub_mul]) (fun j u hj => by
    rcases hA with rfl | hA
    · exact own_news own.own j u hj
    · rw [hA] at hj; simp at hj) (fun u hu => h1 u (List.mem_of_mem_drop hu)) (by have := hf.1; dsimp only at this; omega)
  rw [Nat.zero_add] at hr h2
  unfold Oper.wp execOp
  simp only [ho, resolve, invoke, builtin, Sem.run_bind, Sem.run_pure, Result.andThen_ok, List.map_toArray, List.map_cons, List.map_nil, hs, hx, hr]
  rw [List.nil_append] at h2
  exact hq w' ⟨h2⟩ h3
set_option maxRecDepth 100000 in
set_option maxHeartbeats 2000000 in
theorem del_t (base : Nat) (s : Sl) (us : List Value) (m : Nat) (w : World) (h : OR base w 28 6 s us) (hm : m ≤ s.n) (hn : s.n ≤ 1000000) (h1 : ∀ u ∈ us, u.oneCell' = true) :
    Calls Tryz.prog 79 #[s.v, .int .i64 0, .int .i64 m] w (DelEnd base s m us w) := by
  obtain ⟨I, hI, hz, hsz, hby⟩ := parts_t
  have hl := h.len
  have hf := h.fit
  obtain ⟨a, n, c⟩ := s
  unfold Sl.fit at hf
  dsimp only [Sl.v] at *
  have HS := Hi h
  have O1 := Hi h1
  clear h h1
  have hc0 : m ≤ c := by omega
  by_cases hm0 : m = 0
  · subst hm0
    go_enter Tryz.func79, Tryz.ntmps79
    go_wp2
    go_ret
    exact ⟨⟨a, n, c⟩, rfl, rfl, by simpa using HS.out, grown_refl _ _, rfl⟩
  · obtain ⟨gs, rfl, hgb, hgl⟩ : ∃ gs, a = some ⟨gs, 0, none⟩ ∧ base ≤ gs ∧ gs < w.heap.size := by
      rcases HS.out.form with ⟨_, h0, _⟩ | h0
      · dsimp only at h0; omega
      · exact h0
    have hm1 : ¬ ((0 : Int) = (m : Int)) := by omega
    have hcz : ¬ (c = 0) := by omega
    have hcn : ¬ (c = n - m) := by omega
    have hmn : (m : Int) ≤ (n : Int) := by omega
    have hnm : (n - m : Nat) ≤ n := by omega
    have hdl : (us.drop (m * 6)).length = (n - m) * 6 := by rw [List.length_drop]; omega
    have hnn : n - (n - m) = m := by omega
    by_cases hcm : c = m
    · have hdn : us.drop (m * 6) = [] := List.drop_of_length_le (by omega)
      obtain rfl : m = c := hcm.symm
      obtain rfl : m = n := by omega
      go_enter Tryz.func79, Tryz.ntmps79
      go_wp2_with fail
      refine wp_region_held_drew (S := (fun _ : World => True)) (by kernel_rfl) ?_ (fun hHeld => ?_)
      · trivial
      try simp only [Act.put, lsA, lsB, lsC]
      refine takeL (i := 0) (v := ?_) rfl (by kernel_rfl) (by kernel_rfl) (by kernel_rfl) (fun _ _ _ h => h) (Or.inl ⟨by rfl, ?_⟩) (by assumption) ?_
      rotate_left 1
      · intro w hSw; skip; first | (go_simp; done) | (go_simp; with_reducible rfl)
      try simp only [Act.put, lsA, lsB, lsC]
      refine takeL (i := 1) (v := ?_) rfl (by kernel_rfl) (by kernel_rfl) (by kernel_rfl) (fun _ _ _ h => h) (Or.inl ⟨by rfl, ?_⟩) (by assumption) ?_
      rotate_left 1
      · intro w hSw; skip; first | (go_simp; done) | (go_simp; with_reducible rfl)
      try simp only [Act.put, lsA, lsB, lsC]
      refine takeL (i := 2) (v := ?_) rfl (by kernel_rfl) (by kernel_rfl) (by kernel_rfl) (fun _ _ _ h => h) (Or.inl ⟨by rfl, ?_⟩) (by assumption) ?_
      rotate_left 1
      · intro w hSw; skip; first | (go_simp; done) | (go_simp; with_reducible rfl)
      try simp only [Act.put, lsA, lsB, lsC]
      refine takeL (i := 3) (v := ?_) rfl (by kernel_rfl) (by kernel_rfl) (by kernel_rfl) (fun _ _ _ h => h) (Or.inl ⟨by rfl, ?_⟩) (by assumption) ?_
      rotate_left 1
      · intro w hSw; skip; first | (go_simp; done) | (go_simp; with_reducible rfl)
      try simp only [Act.put, lsA, lsB, lsC]
      refine takeL (i := 4) (v := ?_) rfl (by kernel_rfl) (by kernel_rfl) (by kernel_rfl) (fun _ _ _ h => h) (Or.inl ⟨by rfl, ?_⟩) (by assumption) ?_
      rotate_left 1
      · intro w hSw; skip; first | (go_simp; done) | (go_simp; with_reducible rfl)
      try simp only [Act.put, lsA, lsB, lsC]
      refine takeL (i := 5) (v := ?_) rfl (by kernel_rfl) (by kernel_rfl) (by kernel_rfl) (fun _ _ _ h => h) (Or.inl ⟨by rfl, ?_⟩) (by assumption) ?_
      rotate_left 1
      · intro w hSw; skip; first | (go_simp; done) | (go_simp; with_reducible rfl)
      try simp only [Act.put, lsA, lsB, lsC]
      refine wpAnyH_ready (rs := [6]) (by kernel_rfl) (by simp) (consL rfl (fun K hK => ?_) AllReadyH.nil)
      refine step_shiftK rfl (.tmp 22) (.tmp 25) 30 rfl Tryz.underlying30 hI hsz (HS.out.grown (Wr.grown_drew w none)) m hm _ _ rfl (by first | rfl | (rw [show m - m = 0 by omega]; rfl)) (.inr hdn) O1.out ?_
      intro w2 hr2 hg2
      refine hK.out _ _ ?_ (fun hHeld => ?_)
      · trivial
      clear hK K
      try simp only [Act.put, lsA, lsB, lsC]
      refine takeL (i := 7) (v := ?_) rfl (by kernel_rfl) (by kernel_rfl) (by kernel_rfl) (fun _ _ _ h => h) (Or.inl ⟨by rfl, ?_⟩) (by assumption) ?_
      rotate_left 1
      · intro w hSw; skip; first | (go_simp; done) | (go_simp; with_reducible rfl)
      try simp only [Act.put, lsA, lsB, lsC]
      refine wpAnyH_done (by kernel_rfl) ?_ _
      have G2 := Hi (grown_trans (Wr.grown_weak (some gs) (Wr.grown_drew w none)) hg2)
      obtain ⟨xs, hxl, hwide⟩ := own_wider (n := m - m) hr2.own (m := m) (by omega) hf.1
      obtain ⟨w3, hrun3, hr3, hg3⟩ := clearK_own (P := Tryz.prog) hwide 30 0 _ Tryz.underlying30 Tryz.zeroValue28 (by rfl) (by decide) (m - m) (m - (m - m)) (by omega) (by omega)
      rw [List.take_append_of_le_length (by omega), List.take_of_length_le (by omega)] at hr3
      try rw [hnn] at hrun3
      try simp only [Nat.sub_self, Nat.zero_mul, Nat.sub_zero] at hrun3
      have R3 := Hi hr3
      have G3 := Hi (grown_trans G2.out hg3)
      clear hr2 hg2 hwide hr3 hg3
      go_wp2_with fail
      try go_ret
      refine ⟨⟨some ⟨gs, 0, none⟩, m - m, m⟩, ?_, rfl, ⟨R3.out⟩, G3.out, rfl⟩
      first | rfl | (rw [Nat.sub_self]; rfl)
    · skip
      go_enter Tryz.func79, Tryz.ntmps79
      go_wp2_with fail
      refine wp_region_held_drew (S := (fun _ : World => True)) (by kernel_rfl) ?_ (fun hHeld => ?_)
      · trivial
      try simp only [Act.put, lsA, lsB, lsC]
      refine takeL (i := 0) (v := ?_) rfl (by kernel_rfl) (by kernel_rfl) (by kernel_rfl) (fun _ _ _ h => h) (Or.inl ⟨by rfl, ?_⟩) (by assumption) ?_
      rotate_left 1
      · intro w hSw; skip; first | (go_simp; done) | (go_simp; with_reducible rfl)
      try simp only [Act.put, lsA, lsB, lsC]
      refine takeL (i := 1) (v := ?_) rfl (by kernel_rfl) (by kernel_rfl) (by kernel_rfl) (fun _ _ _ h => h) (Or.inl ⟨by rfl, ?_⟩) (by assumption) ?_
      rotate_left 1
      · intro w hSw; skip; first | (go_simp; done) | (go_simp; with_reducible rfl)
      try simp only [Act.put, lsA, lsB, lsC]
      refine takeL (i := 2) (v := ?_) rfl (by kernel_rfl) (by kernel_rfl) (by kernel_rfl) (fun _ _ _ h => h) (Or.inl ⟨by rfl, ?_⟩) (by assumption) ?_
      rotate_left 1
      · intro w hSw; skip; first | (go_simp; done) | (go_simp; with_reducible rfl)
      try simp only [Act.put, lsA, lsB, lsC]
      refine takeL (i := 3) (v := ?_) rfl (by kernel_rfl) (by kernel_rfl) (by kernel_rfl) (fun _ _ _ h => h) (Or.inl ⟨by rfl, ?_⟩) (by assumption) ?_
      rotate_left 1
      · intro w hSw; skip; first | (go_simp; done) | (go_simp; with_reducible rfl)
      try simp only [Act.put, lsA, lsB, lsC]
      refine takeL (i := 4) (v := ?_) rfl (by kernel_rfl) (by kernel_rfl) (by kernel_rfl) (fun _ _ _ h => h) (Or.inl ⟨by rfl, ?_⟩) (by assumption) ?_
      rotate_left 1
      · intro w hSw; skip; first | (go_simp; done) | (go_simp; with_reducible rfl)
      try simp only [Act.put, lsA, lsB, lsC]
      refine takeL (i := 5) (v := ?_) rfl (by kernel_rfl) (by kernel_rfl) (by kernel_rfl) (fun _ _ _ h => h) (Or.inl ⟨by rfl, ?_⟩) (by assumption) ?_
      rotate_left 1
      · intro w hSw; skip; first | (go_simp; done) | (go_simp; with_reducible rfl)
      try simp only [Act.put, lsA, lsB, lsC]
      refine wpAnyH_ready (rs := [6]) (by kernel_rfl) (by simp) (consL rfl (fun K hK => ?_) AllReadyH.nil)
      refine step_shiftK rfl (.tmp 22) (.tmp 25) 30 rfl Tryz.underlying30 hI hsz (HS.out.grown (Wr.grown_drew w none)) m hm _ _ rfl (by first | rfl | (rw [show n - m = 0 by omega]; rfl)) (.inl rfl) O1.out ?_
      intro w2 hr2 hg2
      refine hK.out _ _ ?_ (fun hHeld => ?_)
      · trivial
      clear hK K
      try simp only [Act.put, lsA, lsB, lsC]
      refine takeL (i := 7) (v := ?_) rfl (by kernel_rfl) (by kernel_rfl) (by kernel_rfl) (fun _ _ _ h => h) (Or.inl ⟨by rfl, ?_⟩) (by assumption) ?_
      rotate_left 1
      · intro w hSw; skip; first | (go_simp; done) | (go_simp; with_reducible rfl)
      try simp only [Act.put, lsA, lsB, lsC]
      refine wpAnyH_done (by kernel_rfl) ?_ _
      have G2 := Hi (grown_trans (Wr.grown_weak (some gs) (Wr.grown_drew w none)) hg2)
      obtain ⟨xs, hxl, hwide⟩ := own_wider (n := n - m) hr2.own (m := n) (by omega) hf.1
      obtain ⟨w3, hrun3, hr3, hg3⟩ := clearK_own (P := Tryz.prog) hwide 30 0 _ Tryz.underlying30 Tryz.zeroValue28 (by rfl) (by decide) (n - m) (c - (n - m)) (by omega) (by omega)
      rw [List.take_append_of_le_length (by omega), List.take_of_length_le (by omega)] at hr3
      try rw [hnn] at hrun3
      try simp only [Nat.sub_self, Nat.zero_mul, Nat.sub_zero] at hrun3
      have R3 := Hi hr3
      have G3 := Hi (grown_trans G2.out hg3)
      clear hr2 hg2 hwide hr3 hg3
      go_wp2_with fail
      try go_ret
      refine ⟨⟨some ⟨gs, 0, none⟩, n - m, c⟩, ?_, rfl, ⟨R3.out⟩, G3.out, rfl⟩
      first | rfl | (rw [Nat.sub_self]; rfl)
end Go.Proofs.YticmoaebegahgaaGreatDoor.Iw
namespace Go.Proofs.YticmoaebegahgaaGreatDoor.Iw
open Go.ChangeShapes Go.WideShapes Go.ChangeAt Go.RowKit
open Wr (IR RB iv ivs bv bvs grown_trans grown_refl grown_alloc ret_int ret_bool tv Ret ret_mk)
theorem give_at {l : List Tm.Tg} : ∀ {k : Nat} {n : Int}, k ≤ l.length → (∀ j, j < k → (l.getD j Tm.zero).sq = n + j) → (k = l.length ∨ (l.getD k Tm.zero).sq ≠ n + k) → Im.give l n = (l.drop k, n + k, l.take k) := by
  induction l with
  | nil => intro k n hk _ _; obtain rfl : k = 0 := by simpa using hk
           simp [Im.give]
  | cons t r ih =>
    intro k n hk h1 h2
    cases k with
    | zero =>
      have : t.sq ≠ n := by
        rcases h2 with h2 | h2
        · simp at h2
        · simpa using h2
      simp [Im.give, this]
    | succ k =>
      have h0 : t.sq = n := by simpa using h1 0 (by omega)
      have := ih (k := k) (n := n + 1) (by simpa using hk) (fun j hj => by
        have := h1 (j + 1) (by omega)
        simp only [List.getD_cons_succ] at this
        rw [this]; push_cast; omega) (by
        rcases h2 with h2 | h2
        · left; simpa using h2
        · right
          simp only [List.getD_cons_succ] at h2
          intro e; apply h2; rw [e]; push_cast; omega)
      unfold Im.give
      rw [if_pos h0, this]
      simp only [List.drop_succ_cons, List.take_succ_cons, Prod.mk.injEq, true_and, and_true]
      push_cast; omega
theorem TO.off {base : Nat} {w : World} {L : List Nat} {s : Sl} {ts : List Tm.Tg} (h : TO base w L s ts) : ∃ xs : List TV, xs.map Prod.fst = ts ∧ OR base w 28 6 s (f6 xs) ∧ (∀ x ∈ xs, VI w L x.2 x.1.vs) ∧ xs.length = s.n := by
  obtain ⟨xs, h0, h1, h2⟩ := h.row
  exact ⟨xs, h0, h1, h2, by have := h1.len; rw [f6_len] at this; omega⟩
def GoEnd (base : Nat) (L : List Nat) (E : Sl) (Bs : Nat) (ys : List EV) (i : Nat) (x : Im.Wt) (H : Sl) (w : World) (e : Ending) (w' : World) : Prop :=
  ∃ D H' : Sl, e = .returned D.v ∧ TO w.heap.size w' (L ++ D.blk.toList) D (Im.give x.held x.nx).2.2 ∧ OR base w' 32 4 E (f4 (ys.set i (⟨x.st, x.ep, (Im.give x.held x.nx).2.1, (Im.give x.held x.nx).1⟩, H'))) ∧ TO base w' L H' (Im.give x.held x.nx).1 ∧ H'.blk = H.blk ∧ Chg (Bs :: H.blk.toList) w w'
set_option maxHeartbeats 4000000 in
theorem giveout_any (base : Nat) (L : List Nat) (Bs n c : Nat) (ys : List EV) (i : Nat) (x : Im.Wt) (H : Sl) (w : World) (hE : OR base w 32 4 ⟨some ⟨Bs, 0, none⟩, n, c⟩ (f4 ys)) (hx : ys[i]? = some (x, H)) (hH : TO base w L H x.held) (hne : H.blk ≠ some Bs) (hBs : Bs ∈ L) (hHL : ∀ b, H.blk = some b → b ∈ L) (hL : ∀ b ∈ L, b < w.heap.size) (hHn : H.n ≤ 1000000) (hnx : 0 ≤ x.nx ∧ x.nx ≤ 1099511627776) :
    Calls Tryz.prog 57 #[.pointer (some ⟨Bs, i * 4, none⟩)] w (GoEnd base L ⟨some ⟨Bs, 0, none⟩, n, c⟩ Bs ys i x H w) := by
  obtain ⟨xs, hxs, hr, hv, hxl⟩ := hH.off
  obtain ⟨st, ep, nx, held⟩ := x
  have hil : i < ys.length := by
    rcases Nat.lt_or_ge i ys.length with h' | h'
    · exact h'
    · rw [List.getElem?_eq_none h'] at hx; cases hx
  have hhl : held.length = H.n := by have := congrArg List.length hxs; rw [List.length_map] at this; exact this.symm.trans hxl
  have hHf := hr.fit
  have HX := Hi hxs
  have HE := Hi hE
  have HR := Hi hr
  have HV := Hi hv
  have hHb := Hi hr.form
  clear hE hr hv hH
  obtain ⟨A, m, cc⟩ := H
  unfold Sl.fit at hHf
  dsimp only at *
  go_enter Tryz.func57, Tryz.ntmps57
  go_wp2
  go_loopw [3] (fun q wr => ∃ k : Nat, q = .int .i64 k ∧ k ≤ m ∧ Hid (Chg [Bs] w wr) ∧ Hid (OR base wr 32 4 ⟨some ⟨Bs, 0, none⟩, n, c⟩ (f4 (ys.set i (⟨st, ep, nx + k, held⟩, ⟨A, m, cc⟩)))) ∧ Hid (∀ j, j < k → (held.getD j Tm.zero).sq = nx + j)) (fun q _ => m - (intOf q).toNat)
  case atStart =>
    refine ⟨0, rfl, by omega, Chg.refl _ _, ?_, fun j hj => absurd hj (by omega)⟩
    have e0 : ys.set i (⟨st, ep, nx + (0 : Nat), held⟩, ⟨A, m, cc⟩) = ys := by
      rw [show nx + ((0 : Nat) : Int) = nx by simp]
      apply List.ext_getElem?
      intro j
      rw [List.getElem?_set]
      split
      · rename_i h; subst h; rw [hx]
      · rfl
    rw [e0]; exact HE
  case round =>
    obtain ⟨k, rfl, hk, GW, RW, PW⟩ := hrel
    have hyi : (ys.set i ((⟨st, ep, nx + k, held⟩, ⟨A, m, cc⟩) : EV))[i]? = some (⟨st, ep, nx + k, held⟩, ⟨A, m, cc⟩) := by simp [hil]
    obtain ⟨c0, c1, c2, c3⟩ := four_of (o := i * 4) (OR.elem ecs_len RW.out hyi)
    dsimp only [Sl.v] at c0 c1 c2 c3
    have o2 := RW.out.open_ (i * 4 + 2)
    have hw1 : IntKind.i64.wrap (nx + k + 1) = nx + k + 1 := IntWalk.i64_in _ (by omega)
    have HRW := Hi (HR.out.chg GW.out (fun b hb hm => by rw [List.mem_singleton] at hm; subst hm; exact hne hb))
    by_cases hlt : k < m
    · rcases hHb.out with ⟨_, h0, _⟩ | ⟨g, rfl, g1, g2⟩
      · omega
      · have hxk : xs[k]? = some xs[k] := List.getElem?_eq_getElem (by omega)
        obtain ⟨d0, d1, d2, d3, d4, d5⟩ := six_of (o := k * 6) (OR.elem tcs_len HRW.out hxk)
        have hsq : (held.getD k Tm.zero).sq = xs[k].1.sq := by have := congrArg (fun l => (l.getD k Tm.zero).sq) HX.out; rw [← this]; simp [List.getD, hxk]
        by_cases hq : xs[k].1.sq = nx + k
        · have PW := Hi (fun j (hj : j < k + 1) => show (held.getD j Tm.zero).sq = nx + j from by
            rcases Nat.lt_or_ge j k with h' | h'
            · exact PW.out j h'
            · obtain rfl : j = k := by omega
              rw [hsq, hq])
          clear hsq
          rw [hq] at d2
          generalize xs[k] = t at *
          clear d0 d1 d3 d4 d5 hxk hq
          have hd : decide ((k : Int) < (m : Int)) = true := by simp; omega
          go_wp2_with fail
          go_quiet (fail)
          go_wp2_with fail
          have P5 := Hi ((RW.out.grown (Wr.grown_drewN wr nq none)).put1 (f := ecs) ecs_len (i := i) (j := 2) (by omega) (u := .int .i64 (nx + k + 1)) (y := (⟨st, ep, nx + (k + 1 : Nat), held⟩, ⟨some ⟨g, 0, none⟩, m, cc⟩)) hyi (by simp [ecs]; omega))
          rw [List.set_set] at P5
          go_roundw
          case rel => exact ⟨k + 1, by go_num, by omega, (GW.out.trans (Chg.of0 (Wr.grown_drewN wr nq none))).trans (chg_set _ _ _ _), P5, PW⟩
          case measure => simp [intOf]; omega
        · have hstop : k = held.length ∨ (held.getD k Tm.zero).sq ≠ nx + k := .inr (by rw [hsq]; exact hq)
          have hstop := Hi hstop
          clear hsq
          generalize xs[k] = t at *
          clear d0 d1 d3 d4 d5 hxk
          have hd : decide ((k : Int) < (m : Int)) = true := by simp; omega
          go_wp2_with fail
          go_quiet (fail)
          go_wp2_with fail
          have GQ := Hi (GW.out.trans (Chg.of0 (Wr.grown_drewN wr nq none)))
          have RQ := Hi (RW.out.grown (Wr.grown_drewN wr nq none))
          have HQ := Hi (HRW.out.grown (Wr.grown_drewN wr nq none))
          generalize wr.drewN nq = wq at *
          clear c0 c1 c2 c3 o2 RW HRW
          obtain ⟨c0, c1, c2, c3⟩ := four_of (o := i * 4) (OR.elem ecs_len RQ.out hyi)
          dsimp only [Sl.v] at c0 c1 c2 c3
          have hfl : (f6 (xs.take k)).length = k * 6 := by rw [f6_len, List.length_take]; omega
          have C := Hi (clone_t ⟨some ⟨g, 0, none⟩, k, cc⟩ (f6 (xs.take k)) wq (fun j u hj => by
            have := HQ.out.cr j u (by
              have e1 : f6 (xs.take k) = (f6 xs).take (k * 6) := (flat_take tcs_len xs k).symm
              rw [e1] at hj
              rw [List.getElem?_take] at hj
              split at hj
              · exact hj
              · cases hj)
            exact this) hfl (f6_one _) (by dsimp only; omega))
          dsimp only [Sl.v] at C
          have hkc : k ≤ cc := by omega
          go_wp2_with fail
          refine (C.out).mono ?_
          rintro e w3 ⟨D, rfl, hD, G3⟩
          have R3 := Hi (RQ.out.grown G3)
          have H3 := Hi (HQ.out.grown G3)
          have c3 := G3.cell c3 (by simp)
          have DL := Hi (del_t base ⟨some ⟨g, 0, none⟩, m, cc⟩ (f6 xs) k w3 H3.out hk hHn (f6_one _))
          dsimp only [Sl.v] at DL
          have hD := Hi hD
          have G3 := Hi G3
          go_wp2_with fail
          refine (DL.out).mono ?_
          rintro e w4 ⟨H', rfl, -, hH', G4, hHb'⟩
          have hHbs : ∀ b, Sl.blk ⟨some ⟨g, 0, none⟩, m, cc⟩ = some b → b ≠ Bs := fun b hb e => by subst e; exact hne hb
          have g4 := Hi (Chg.of (L := (Sl.blk ⟨some ⟨g, 0, none⟩, m, cc⟩).toList) G4 (fun b hb => by simpa using hb))
          have R4 := Hi (R3.out.chg g4.out (fun b hb hm => by
            injection hb with hb
            have hb : Bs = b := hb
            subst hb
            exact hHbs _ (by simpa using hm) rfl))
          have hyi4 := OR.elem ecs_len R4.out hyi
          obtain ⟨q0, q1, q2, q3⟩ := four_of (o := i * 4) hyi4
          dsimp only [Sl.v] at q0 q1 q2 q3
          have o3 := R4.out.open_ (i * 4 + 3)
          obtain ⟨ha, hn', hc'⟩ := H'
          dsimp only [Sl.v] at *
          have H4 := Hi hH'
          have P5 := Hi (R4.out.put1 (f := ecs) ecs_len (i := i) (j := 3) (by omega) (u := .slice ha hn' hc') (y := (⟨st, ep, nx + k, held.drop k⟩, ⟨ha, hn', hc'⟩)) hyi (by rfl))
          rw [List.set_set] at P5
          have GV := Hi (give_at (l := held) (k := k) (n := nx) (by omega) PW.out hstop.out)
          have gset := Hi (chg_set w4 Bs (i * 4 + 3) (.slice ha hn' hc'))
          clear hH' G4 q0 q1 q2 hyi4 R4
          go_wp2
          go_ret
          have gall : Chg (Bs :: (Sl.blk ⟨some ⟨g, 0, none⟩, m, cc⟩).toList) w (w4.setCell ⟨Bs, i * 4 + 3, none⟩ (.slice ha hn' hc')) :=
            (((GQ.out.weak (fun b hb => by rw [List.mem_singleton] at hb; subst hb; exact List.mem_cons_self)).trans (Chg.of0 G3.out)).trans (g4.out.weak (fun b hb => List.mem_cons_of_mem _ hb))).trans (gset.out.weak (fun b hb => by rw [List.mem_singleton] at hb; subst hb; exact List.mem_cons_self))
          have hLw : ∀ b ∈ Bs :: (Sl.blk ⟨some ⟨g, 0, none⟩, m, cc⟩).toList, b ∈ L := fun b hb => by
            rcases List.mem_cons.1 hb with rfl | hb
            · exact hBs
            · exact hHL b (by simpa using hb)
          have hws : w.heap.size ≤ wq.heap.size := GQ.out.size
          have hDb : ∀ b, D.blk = some b → w.heap.size ≤ b := fun b hb => Nat.le_trans hws (hD.out.blk b hb).1
          have hD4 : OR w.heap.size (w4.setCell ⟨Bs, i * 4 + 3, none⟩ (.slice ha hn' hc')) 28 6 D (f6 (xs.take k)) := ((hD.out.base_ hws).chg g4.out (fun b hb hm => by
            have h1 := hDb b hb
            have h2 := hL b (hHL b (by simpa using hm))
            omega)).chg gset.out (fun b hb hm => by
            have h1 := hDb b hb
            rw [List.mem_singleton] at hm
            subst hm
            have h2 := hL b hBs
            omega)
          have hVI : ∀ t ∈ xs, VI (w4.setCell ⟨Bs, i * 4 + 3, none⟩ (.slice ha hn' hc')) (L ++ D.blk.toList) t.2 t.1.vs := fun t ht =>
            (HV.out t ht).step (gall.weak hLw) (fun b hb => by
              rcases List.mem_append.1 hb with hb | hb
              · exact .inl hb
              · exact .inr (hDb b (by simpa using hb)))
          have hH4 : OR base (w4.setCell ⟨Bs, i * 4 + 3, none⟩ (.slice ha hn' hc')) 28 6 ⟨ha, hn', hc'⟩ (f6 (xs.drop k)) := by
            have := H4.out.chg gset.out (fun b hb hm => by
              rw [List.mem_singleton] at hm
              rw [hHb'] at hb
              exact hHbs b hb hm)
            rwa [show (f6 xs).drop (k * 6) = f6 (xs.drop k) from flat_drop tcs_len xs k] at this
          refine ⟨D, ⟨ha, hn', hc'⟩, rfl, ⟨xs.take k, ?_, hD4, fun t ht => hVI t (List.mem_of_mem_take ht)⟩, ?_, ⟨xs.drop k, ?_, hH4, fun t ht => ?_⟩, hHb', gall⟩
          · dsimp only; rw [GV.out, ← HX.out, List.map_take]
          · dsimp only; rw [GV.out]; exact P5.out
          · dsimp only; rw [GV.out, ← HX.out, List.map_drop]
          · exact (HV.out t (List.mem_of_mem_drop ht)).step (gall.weak hLw) (fun b hb => .inl hb)
    · obtain rfl : k = m := by omega
      have hstop : k = held.length ∨ (held.getD k Tm.zero).sq ≠ nx + k := .inl hhl.symm
      have hstop := Hi hstop
      have hd : decide ((k : Int) < (k : Int)) = false := by simp
      go_wp2_with fail
      go_quiet (fail)
      go_wp2_with fail
      have GQ := Hi (GW.out.trans (Chg.of0 (Wr.grown_drewN wr nq none)))
      have RQ := Hi (RW.out.grown (Wr.grown_drewN wr nq none))
      have HQ := Hi (HRW.out.grown (Wr.grown_drewN wr nq none))
      generalize wr.drewN nq = wq at *
      clear c0 c1 c2 c3 o2 RW HRW
      obtain ⟨c0, c1, c2, c3⟩ := four_of (o := i * 4) (OR.elem ecs_len RQ.out hyi)
      dsimp only [Sl.v] at c0 c1 c2 c3
      have hfl : (f6 (xs.take k)).length = k * 6 := by rw [f6_len, List.length_take]; omega
      have C := Hi (clone_t ⟨A, k, cc⟩ (f6 (xs.take k)) wq (fun j u hj => by
        have := HQ.out.cr j u (by
          have e1 : f6 (xs.take k) = (f6 xs).take (k * 6) := (flat_take tcs_len xs k).symm
          rw [e1] at hj
          rw [List.getElem?_take] at hj
          split at hj
          · exact hj
          · cases hj)
        exact this) hfl (f6_one _) (by dsimp only; omega))
      dsimp only [Sl.v] at C
      have hkc : k ≤ cc := by omega
      go_wp2_with fail
      refine (C.out).mono ?_
      rintro e w3 ⟨D, rfl, hD, G3⟩
      have R3 := Hi (RQ.out.grown G3)
      have H3 := Hi (HQ.out.grown G3)
      have c3 := G3.cell c3 (by simp)
      have DL := Hi (del_t base ⟨A, k, cc⟩ (f6 xs) k w3 H3.out hk hHn (f6_one _))
      dsimp only [Sl.v] at DL
      have hD := Hi hD
      have G3 := Hi G3
      go_wp2_with fail
      refine (DL.out).mono ?_
      rintro e w4 ⟨H', rfl, -, hH', G4, hHb'⟩
      have hHbs : ∀ b, Sl.blk ⟨A, k, cc⟩ = some b → b ≠ Bs := fun b hb e => by subst e; exact hne hb
      have g4 := Hi (Chg.of (L := (Sl.blk ⟨A, k, cc⟩).toList) G4 (fun b hb => by simpa using hb))
      have R4 := Hi (R3.out.chg g4.out (fun b hb hm => by
        injection hb with hb
        have hb : Bs = b := hb
        subst hb
        exact hHbs _ (by simpa using hm) rfl))
      have hyi4 := OR.elem ecs_len R4.out hyi
      obtain ⟨q0, q1, q2, q3⟩ := four_of (o := i * 4) hyi4
      dsimp only [Sl.v] at q0 q1 q2 q3
      have o3 := R4.out.open_ (i * 4 + 3)
      obtain ⟨ha, hn', hc'⟩ := H'
      dsimp only [Sl.v] at *
      have H4 := Hi hH'
      have P5 := Hi (R4.out.put1 (f := ecs) ecs_len (i := i) (j := 3) (by omega) (u := .slice ha hn' hc') (y := (⟨st, ep, nx + k, held.drop k⟩, ⟨ha, hn', hc'⟩)) hyi (by rfl))
      rw [List.set_set] at P5
      have GV := Hi (give_at (l := held) (k := k) (n := nx) (by omega) PW.out hstop.out)
      have gset := Hi (chg_set w4 Bs (i * 4 + 3) (.slice ha hn' hc'))
      clear hH' G4 q0 q1 q2 hyi4 R4
      go_wp2
      go_ret
      have gall : Chg (Bs :: (Sl.blk ⟨A, k, cc⟩).toList) w (w4.setCell ⟨Bs, i * 4 + 3, none⟩ (.slice ha hn' hc')) :=
        (((GQ.out.weak (fun b hb => by rw [List.mem_singleton] at hb; subst hb; exact List.mem_cons_self)).trans (Chg.of0 G3.out)).trans (g4.out.weak (fun b hb => List.mem_cons_of_mem _ hb))).trans (gset.out.weak (fun b hb => by rw [List.mem_singleton] at hb; subst hb; exact List.mem_cons_self))
      have hLw : ∀ b ∈ Bs :: (Sl.blk ⟨A, k, cc⟩).toList, b ∈ L := fun b hb => by
        rcases List.mem_cons.1 hb with rfl | hb
        · exact hBs
        · exact hHL b (by simpa using hb)
      have hws : w.heap.size ≤ wq.heap.size := GQ.out.size
      have hDb : ∀ b, D.blk = some b → w.heap.size ≤ b := fun b hb => Nat.le_trans hws (hD.out.blk b hb).1
      have hD4 : OR w.heap.size (w4.setCell ⟨Bs, i * 4 + 3, none⟩ (.slice ha hn' hc')) 28 6 D (f6 (xs.take k)) := ((hD.out.base_ hws).chg g4.out (fun b hb hm => by
        have h1 := hDb b hb
        have h2 := hL b (hHL b (by simpa using hm))
        omega)).chg gset.out (fun b hb hm => by
        have h1 := hDb b hb
        rw [List.mem_singleton] at hm
        subst hm
        have h2 := hL b hBs
        omega)
      have hVI : ∀ t ∈ xs, VI (w4.setCell ⟨Bs, i * 4 + 3, none⟩ (.slice ha hn' hc')) (L ++ D.blk.toList) t.2 t.1.vs := fun t ht =>
        (HV.out t ht).step (gall.weak hLw) (fun b hb => by
          rcases List.mem_append.1 hb with hb | hb
          · exact .inl hb
          · exact .inr (hDb b (by simpa using hb)))
      have hH4 : OR base (w4.setCell ⟨Bs, i * 4 + 3, none⟩ (.slice ha hn' hc')) 28 6 ⟨ha, hn', hc'⟩ (f6 (xs.drop k)) := by
        have := H4.out.chg gset.out (fun b hb hm => by
          rw [List.mem_singleton] at hm
          rw [hHb'] at hb
          exact hHbs b hb hm)
        rwa [show (f6 xs).drop (k * 6) = f6 (xs.drop k) from flat_drop tcs_len xs k] at this
      refine ⟨D, ⟨ha, hn', hc'⟩, rfl, ⟨xs.take k, ?_, hD4, fun t ht => hVI t (List.mem_of_mem_take ht)⟩, ?_, ⟨xs.drop k, ?_, hH4, fun t ht => ?_⟩, hHb', gall⟩
      · dsimp only; rw [GV.out, ← HX.out, List.map_take]
      · dsimp only; rw [GV.out]; exact P5.out
      · dsimp only; rw [GV.out, ← HX.out, List.map_drop]
      · exact (HV.out t (List.mem_of_mem_drop ht)).step (gall.weak hLw) (fun b hb => .inl hb)
end Go.Proofs.YticmoaebegahgaaGreatDoor.Iw
namespace Go.Proofs.YticmoaebegahgaaGreatDoor.Iw
open Go.ChangeShapes Go.WideShapes Go.ChangeAt Go.RowKit
open Wr (IR RB iv ivs bv bvs grown_trans grown_refl grown_alloc ret_int ret_bool tv Ret ret_mk)
theorem bs_lows {q : Int} : ∀ {l : List Tm.Tg} {i : Nat}, i ≤ l.length → (∀ p, p < i → (l.getD p Tm.zero).sq < q) → (∀ p, i ≤ p → p < l.length → q ≤ (l.getD p Tm.zero).sq) → Im.lows q l = l.take i ∧ Im.highs q l = l.drop i := by
  intro l
  induction l with
  | nil => intro i hi _ _; simp [Im.lows, Im.highs]
  | cons t r ih =>
    intro i hi h1 h2
    cases i with
    | zero =>
      have : ¬ t.sq < q := by have := h2 0 (Nat.le_refl _) (by simp); simp at this; omega
      simp [Im.lows, Im.highs, this]
    | succ i =>
      have h0 : t.sq < q := by simpa using h1 0 (by omega)
      obtain ⟨a, b⟩ := ih (i := i) (by simpa using hi) (fun p hp => by simpa using h1 (p + 1) (by omega)) (fun p hp hl => by simpa using h2 (p + 1) (by omega) (by simpa using hl))
      unfold Im.lows Im.highs at *
      simp [h0, a, b]
theorem bs_dup {q : Int} {l : List Tm.Tg} {i : Nat} (h : Im.highs q l = l.drop i) : Im.dup q l = true ↔ i < l.length ∧ (l.getD i Tm.zero).sq = q := by
  unfold Im.dup
  rw [h]
  rcases Nat.lt_or_ge i l.length with hi | hi
  · rw [List.drop_eq_getElem_cons hi]
    simp [hi, List.getD, List.getElem?_eq_getElem hi]
  · rw [List.drop_of_length_le hi]
    simp; omega
def holdF (x : Im.Wt) (t : Tm.Tg) : List Tm.Tg := if Im.dup t.sq x.held = true ∨ t.ep < x.ep ∨ t.sq < x.nx then x.held else Im.lows t.sq x.held ++ t :: Im.highs t.sq x.held
theorem asc_keys {n : Int} {l : List Tm.Tg} (h : Im.Asc n l) : ∀ i j, i < j → j < l.length → (l.getD i Tm.zero).sq < (l.getD j Tm.zero).sq := by
  induction l generalizing n with
  | nil => intro i j _ hj; simp at hj
  | cons t r ih =>
    intro i j hij hj
    cases j with
    | zero => omega
    | succ j =>
      simp only [List.length_cons] at hj
      cases i with
      | zero =>
        simp only [List.getD_cons_zero, List.getD_cons_succ]
        refine h.2.all _ ?_
        rw [List.getD_eq_getElem?_getD, List.getElem?_eq_getElem (by omega)]
        simp
      | succ i =>
        simp only [List.getD_cons_succ]
        exact ih h.2 i j (by omega) (by omega)
theorem key_held {xs : List TV} {held : List Tm.Tg} (h : xs.map Prod.fst = held) (i : Nat) (hi : i < xs.length) : key_t xs i = (held.getD i Tm.zero).sq := by
  subst h
  simp [key_t, List.getD, hi]
theorem or_lit (w : World) (x : TV) : OR w.heap.size (w.alloc (.cells (tcs x).toArray 28)) 28 6 ⟨some ⟨w.heap.size, 0, none⟩, 1, 1⟩ (tcs x) := by
  have := World.ownsRow_lit (base := w.heap.size) (e := 28) (size := 6) w (tcs x).toArray 1 (Nat.le_refl _) (by unfold maxLen; omega) (by simp [tcs])
  rw [show (tcs x).toArray.toList = tcs x by simp] at this
  exact ⟨this⟩
def HoEnd (base : Nat) (L : List Nat) (E : Sl) (Bs : Nat) (ys : List EV) (i : Nat) (x : Im.Wt) (H : Sl) (t : Tm.Tg) (w : World) (e : Ending) (w' : World) : Prop :=
  ∃ H' : Sl, e = .returned (.tuple #[]) ∧ OR base w' 32 4 E (f4 (ys.set i (⟨x.st, x.ep, x.nx, holdF x t⟩, H'))) ∧ TO base w' (L ++ H'.blk.toList) H' (holdF x t) ∧ Chg (Bs :: H.blk.toList) w w' ∧ (∀ b, H'.blk = some b → H.blk = some b ∨ w.heap.size ≤ b)
theorem ho_put {base : Nat} {L : List Nat} {E H r V : Sl} {Bs i at_ : Nat} {ys : List EV} {x : Im.Wt} {t : Tm.Tg} {xs : List TV} {w wd wl w4 : World} (hx : ys[i]? = some (x, H)) (hne : H.blk ≠ some Bs) (hBs : Bs ∈ L) (hHL : ∀ b, H.blk = some b → b ∈ L) (hL : ∀ b ∈ L, b < w.heap.size) (hxs : xs.map Prod.fst = x.held) (hv : ∀ x ∈ xs, VI w L x.2 x.1.vs) (hV : VI w L V t.vs)
    (E1 : holdF x t = Im.lows t.sq x.held ++ t :: Im.highs t.sq x.held) (hlo : Im.lows t.sq x.held = x.held.take at_) (hhi : Im.highs t.sq x.held = x.held.drop at_) (G3 : w.grownBy wd none) (GL : wd.grownBy wl none) (gr : Chg H.blk.toList wl w4) (RB : ∀ b, r.blk = some b → H.blk = some b ∨ wl.heap.size ≤ b)
    (H4 : OR base w4 28 6 r ((f6 xs).take (at_ * 6) ++ (tcs (t, V) ++ (f6 xs).drop (at_ * 6)))) (P5 : OR base (w4.setCell ⟨Bs, i * 4 + 3, none⟩ r.v) 32 4 E ((ys.set i ((⟨x.st, x.ep, x.nx, holdF x t⟩, r) : EV)).flatMap ecs)) : HoEnd base L E Bs ys i x H t w (.returned (.tuple #[])) (w4.setCell ⟨Bs, i * 4 + 3, none⟩ r.v) := by
  have hs1 := G3.size
  have hs2 := GL.size
  have gset := chg_set w4 Bs (i * 4 + 3) r.v
  have gall : Chg (Bs :: H.blk.toList) w (w4.setCell ⟨Bs, i * 4 + 3, none⟩ r.v) :=
    ((Chg.of0 (grown_trans G3 GL)).trans (gr.weak (fun b hb => List.mem_cons_of_mem _ hb))).trans (gset.weak (fun b hb => by rw [List.mem_singleton] at hb; subst hb; exact List.mem_cons_self))
  have hLw : ∀ b ∈ Bs :: H.blk.toList, b ∈ L := fun b hb => by
    rcases List.mem_cons.1 hb with rfl | hb
    · exact hBs
    · exact hHL b (by simpa using hb)
  have hnew : ∀ b ∈ L ++ r.blk.toList, b ∈ L ∨ w.heap.size ≤ b := fun b hb => by
    rcases List.mem_append.1 hb with hb | hb
    · exact .inl hb
    · rcases RB b (by simpa using hb) with e | e
      · exact .inl (hHL b e)
      · exact .inr (by omega)
  refine ⟨r, rfl, P5, ⟨xs.take at_ ++ (t, V) :: xs.drop at_, ?_, ?_, fun y hy => ?_⟩, gall, fun b hb => (RB b hb).imp id (fun e => by omega)⟩
  · rw [List.map_append, List.map_cons, List.map_take, List.map_drop, hxs, E1, hlo, hhi]
  · have e1 : f6 (xs.take at_ ++ (t, V) :: xs.drop at_) = (f6 xs).take (at_ * 6) ++ (tcs (t, V) ++ (f6 xs).drop (at_ * 6)) := by
      unfold f6
      rw [flat_app, List.flatMap_cons, flat_take tcs_len, flat_drop tcs_len]
    rw [e1]
    refine H4.chg gset (fun b hb hm => ?_)
    rw [List.mem_singleton] at hm
    subst hm
    rcases RB b hb with e | e
    · exact hne e
    · have := hL b hBs
      omega
  · rcases List.mem_append.1 hy with hy | hy
    · exact (hv y (List.mem_of_mem_take hy)).step (gall.weak hLw) hnew
    · rcases List.mem_cons.1 hy with rfl | hy
      · exact hV.step (gall.weak hLw) hnew
      · exact (hv y (List.mem_of_mem_drop hy)).step (gall.weak hLw) hnew
theorem set_same {α : Type} {ys : List α} {i : Nat} {x : α} (h : ys[i]? = some x) : ys.set i x = ys := by
  apply List.ext_getElem?
  intro j
  rw [List.getElem?_set]
  split
  · rename_i e
    subst e
    have hi : i < ys.length := by
      rcases Nat.lt_or_ge i ys.length with h' | h'
      · exact h'
      · rw [List.getElem?_eq_none h'] at h; cases h
    rw [h]; simp [hi]
  · rfl
theorem ho_same {base : Nat} {L : List Nat} {E : Sl} {Bs : Nat} {ys : List EV} {i : Nat} {x : Im.Wt} {H : Sl} {t : Tm.Tg} {w w' : World} (hE : OR base w 32 4 E (f4 ys)) (hx : ys[i]? = some (x, H)) (hH : TO base w L H x.held) (hHL : ∀ b, H.blk = some b → b ∈ L) (g : w.grownBy w' none) (hf : holdF x t = x.held) : HoEnd base L E Bs ys i x H t w (.returned (.tuple #[])) w' := by
  refine ⟨H, rfl, ?_, ?_, Chg.of0 g, fun b hb => .inl hb⟩
  · rw [hf, show ((⟨x.st, x.ep, x.nx, x.held⟩, H) : EV) = (x, H) from rfl, set_same hx]; exact hE.grown g
  · rw [hf]
    exact hH.step (M := []) (Chg.of0 g) (fun _ _ h => by cases h) (fun _ h => by cases h) (fun b hb => by
      rcases List.mem_append.1 hb with hb | hb
      · exact .inl hb
      · exact .inl (hHL b (by simpa using hb)))
set_option maxRecDepth 100000 in
set_option maxHeartbeats 4000000 in
theorem hold_any (base : Nat) (L : List Nat) (Bs n c : Nat) (ys : List EV) (i : Nat) (x : Im.Wt) (H : Sl) (t : Tm.Tg) (V : Sl) (w : World) (hE : OR base w 32 4 ⟨some ⟨Bs, 0, none⟩, n, c⟩ (f4 ys)) (hx : ys[i]? = some (x, H)) (hH : TO base w L H x.held) (hne : H.blk ≠ some Bs) (hBs : Bs ∈ L) (hHL : ∀ b, H.blk = some b → b ∈ L) (hL : ∀ b ∈ L, b < w.heap.size) (hbase : base ≤ w.heap.size) (hHn : H.n ≤ 1000) (hasc : Im.Asc x.nx x.held) (hV : VI w L V t.vs) :
    Calls Tryz.prog 56 #[.pointer (some ⟨Bs, i * 4, none⟩), tv t V.v] w (HoEnd base L ⟨some ⟨Bs, 0, none⟩, n, c⟩ Bs ys i x H t w) := by
  have SAME := Hi (fun (w' : World) (g : w.grownBy w' none) (hf : holdF x t = x.held) => ho_same (t := t) (Bs := Bs) hE hx hH hHL g hf)
  obtain ⟨xs, hxs, hr, hv, hxl⟩ := hH.off
  obtain ⟨st, ep, nx, held⟩ := x
  have hil : i < ys.length := by
    rcases Nat.lt_or_ge i ys.length with h' | h'
    · exact h'
    · rw [List.getElem?_eq_none h'] at hx; cases hx
  have hhl : held.length = H.n := by have := congrArg List.length hxs; rw [List.length_map] at this; exact this.symm.trans hxl
  have HX := Hi hxs
  have HE := Hi hE
  have HR := Hi hr
  have HV := Hi hv
  have TV' := Hi hV
  have AK := Hi (asc_keys hasc)
  have hr' := hr.cr
  have BS := Hi (fun (W : World) (hW : CR W H (f6 xs)) => bs_t H xs t.sq W hxl hW (by omega) (fun a b hab hb => by rw [key_held hxs a (by omega), key_held hxs b (by omega)]; exact AK.out a b hab (by dsimp only; omega)) _ rfl)
  obtain ⟨A, m, cc⟩ := H
  obtain ⟨Va, Vn, Vc⟩ := V
  obtain ⟨tst, tep, tsq, ttm, tkd, tvs⟩ := t
  dsimp only [tv, Sl.v] at *
  obtain ⟨w1, hw1⟩ : ∃ w1, w1 = w.alloc (Wr.tcells ⟨tst, tep, tsq, ttm, tkd, tvs⟩ (.slice Va Vn Vc)) := ⟨_, rfl⟩
  obtain ⟨X, hX⟩ : ∃ X, X = w.heap.size := ⟨_, rfl⟩
  have G1 := Hi (show w.grownBy w1 none by subst hw1; exact grown_alloc _ _ _)
  have S0 : Wr.Six w1 X ⟨tst, tep, tsq, ttm, tkd, tvs⟩ (.slice Va Vn Vc) := by subst hw1; subst hX; exact Wr.Six.made _ _ _
  have Z1 : w1.heap.size = X + 1 := by subst hw1; subst hX; simp
  have HE := Hi (HE.out.grown G1.out)
  have HR := Hi (HR.out.grown G1.out)
  have HC := Hi HR.out.cr
  obtain ⟨c0, c1, c2, c3⟩ := four_of (o := i * 4) (OR.elem ecs_len HE.out hx)
  obtain ⟨⟨a0, a1, a2, a3, a4, a5⟩, -⟩ := S0
  dsimp only [Sl.v] at c0 c1 c2 c3 a0 a1 a2 a3 a4 a5
  unfold Wr.tcells at hw1
  dsimp only at hw1
  clear hE hr hv hH hr' hV
  go_enter Tryz.func56, Tryz.ntmps56
  go_wp2_with fail
  rw [← hw1]
  simp only [← hX]
  have HX0 := Hi hX
  clear hw1 hX
  refine wp_region_held_drew (S := (fun wx : World => wx.cell? ⟨Bs, i * 4 + 3, none⟩ = some (.slice A m cc) ∧ wx.cell? ⟨X, 2, none⟩ = some (.int .i64 tsq))) (by kernel_rfl) ?_ (fun hHeld => ?_)
  · exact ⟨c3, a2⟩
  try simp only [Act.put, lsA, lsB, lsC]
  refine takeL (i := 0) (v := ?_) rfl (by kernel_rfl) (by kernel_rfl) (by kernel_rfl) (fun _ _ _ h => h) (Or.inl ⟨by rfl, ?_⟩) (by assumption) ?_
  rotate_left 1
  · intro w hSw; obtain ⟨s1, s2⟩ := hSw; first | (go_simp; done) | (go_simp; with_reducible rfl)
  try simp only [Act.put, lsA, lsB, lsC]
  refine takeL (i := 1) (v := ?_) rfl (by kernel_rfl) (by kernel_rfl) (by kernel_rfl) (fun _ _ _ h => h) (Or.inl ⟨by rfl, ?_⟩) (by assumption) ?_
  rotate_left 1
  · intro w hSw; obtain ⟨s1, s2⟩ := hSw; first | (go_simp; done) | (go_simp; with_reducible rfl)
  try simp only [Act.put, lsA, lsB, lsC]
  refine takeL (i := 2) (v := ?_) rfl (by kernel_rfl) (by kernel_rfl) (by kernel_rfl) (fun _ _ _ h => h) (Or.inl ⟨by rfl, ?_⟩) (by assumption) ?_
  rotate_left 1
  · intro w hSw; obtain ⟨s1, s2⟩ := hSw; first | (go_simp; done) | (go_simp; with_reducible rfl)
  try simp only [Act.put, lsA, lsB, lsC]
  refine takeL (i := 3) (v := ?_) rfl (by kernel_rfl) (by kernel_rfl) (by kernel_rfl) (fun _ _ _ h => h) (Or.inl ⟨by rfl, ?_⟩) (by assumption) ?_
  rotate_left 1
  · intro w hSw; obtain ⟨s1, s2⟩ := hSw; first | (go_simp; done) | (go_simp; with_reducible rfl)
  try simp only [Act.put, lsA, lsB, lsC]
  refine takeL (i := 4) (v := ?_) rfl (by kernel_rfl) (by kernel_rfl) (by kernel_rfl) (fun _ _ _ h => h) (Or.inl ⟨by rfl, ?_⟩) (by assumption) ?_
  rotate_left 1
  · intro w hSw; obtain ⟨s1, s2⟩ := hSw; first | (go_simp; done) | (go_simp; with_reducible rfl)
  try simp only [Act.put, lsA, lsB, lsC]
  refine takeL (i := 5) (v := ?_) rfl (by kernel_rfl) (by kernel_rfl) (by kernel_rfl) (fun _ _ _ h => h) (Or.inl ⟨by rfl, ?_⟩) (by assumption) ?_
  rotate_left 1
  · intro w hSw; obtain ⟨s1, s2⟩ := hSw; first | (go_simp; done) | (go_simp; with_reducible rfl)
  try simp only [Act.put, lsA, lsB, lsC]
  refine wpAnyH_ready (rs := [6]) (by kernel_rfl) (by simp) (consL rfl (fun K hK => ?_) AllReadyH.nil)
  go_simp
  refine (BS.out w1.drew (HC.out.grown (Wr.grown_drew w1 none))).mono ?_
  rintro e w2 ⟨⟨at_, fd, rfl, hbs⟩, hg2⟩
  try dsimp only
  refine hK.out _ _ ?_ (fun hHeld => ?_)
  · exact ⟨(grown_trans (Wr.grown_drew w1 none) hg2).cell c3 (by simp), (grown_trans (Wr.grown_drew w1 none) hg2).cell a2 (by simp)⟩
  clear hK K
  try simp only [Act.put, lsA, lsB, lsC]
  refine takeL (i := 7) (v := ?_) rfl (by kernel_rfl) (by kernel_rfl) (by kernel_rfl) (fun _ _ _ h => h) (Or.inl ⟨by rfl, ?_⟩) (by assumption) ?_
  rotate_left 1
  · intro w hSw; obtain ⟨s1, s2⟩ := hSw; first | (go_simp; done) | (go_simp; with_reducible rfl)
  try simp only [Act.put, lsA, lsB, lsC]
  refine takeL (i := 8) (v := ?_) rfl (by kernel_rfl) (by kernel_rfl) (by kernel_rfl) (fun _ _ _ h => h) (Or.inl ⟨by rfl, ?_⟩) (by assumption) ?_
  rotate_left 1
  · intro w hSw; obtain ⟨s1, s2⟩ := hSw; first | (go_simp; done) | (go_simp; with_reducible rfl)
  try simp only [Act.put, lsA, lsB, lsC]
  refine takeL (i := 9) (v := ?_) rfl (by kernel_rfl) (by kernel_rfl) (by kernel_rfl) (fun _ _ _ h => h) (Or.inl ⟨by rfl, ?_⟩) (by assumption) ?_
  rotate_left 1
  · intro w hSw; obtain ⟨s1, s2⟩ := hSw; first | (go_simp; done) | (go_simp; with_reducible rfl)
  try simp only [Act.put, lsA, lsB, lsC]
  refine takeL (i := 10) (v := ?_) rfl (by kernel_rfl) (by kernel_rfl) (by kernel_rfl) (fun _ _ _ h => h) (Or.inl ⟨by rfl, ?_⟩) (by assumption) ?_
  rotate_left 1
  · intro w hSw; obtain ⟨s1, s2⟩ := hSw; first | (go_simp; done) | (go_simp; with_reducible rfl)
  try simp only [Act.put, lsA, lsB, lsC]
  refine takeL (i := 11) (v := ?_) rfl (by kernel_rfl) (by kernel_rfl) (by kernel_rfl) (fun _ _ _ h => h) (Or.inl ⟨by rfl, ?_⟩) (by assumption) ?_
  rotate_left 1
  · intro w hSw; obtain ⟨s1, s2⟩ := hSw; first | (go_simp; done) | (go_simp; with_reducible rfl)
  try simp only [Act.put, lsA, lsB, lsC]
  refine wpAnyH_done (by kernel_rfl) ?_ _
  have G2 := Hi (grown_trans G1.out (grown_trans (Wr.grown_drew w1 none) hg2))
  have GG := Hi (grown_trans (Wr.grown_drew w1 none) hg2)
  have FD := Hi (show (fd = true ↔ Im.dup tsq held = true) ∧ Im.lows tsq held = held.take at_ ∧ Im.highs tsq held = held.drop at_ ∧ at_ ≤ m from by
    have kh : ∀ p, p < held.length → key_t xs p = (held.getD p Tm.zero).sq := fun p hp => key_held hxs p (by omega)
    have le := hbs.le
    obtain ⟨h1, h2⟩ := bs_lows (q := tsq) (l := held) (i := at_) (by omega) (fun p hp => by rw [← kh p (by omega)]; exact hbs.lo p hp) (fun p hp hl => by rw [← kh p hl]; exact hbs.hi p hp (by omega))
    refine ⟨?_, h1, h2, le⟩
    rw [bs_dup h2, hbs.fd]
    constructor
    · rintro ⟨u, v⟩; exact ⟨by omega, by rw [← kh at_ (by omega)]; exact v⟩
    · rintro ⟨u, v⟩; exact ⟨by omega, by rw [kh at_ u]; exact v⟩)
  have c0 := GG.out.cell c0 (by simp)
  have c1 := GG.out.cell c1 (by simp)
  have c2 := GG.out.cell c2 (by simp)
  have a0 := GG.out.cell a0 (by simp)
  have a1 := GG.out.cell a1 (by simp)
  have a3 := GG.out.cell a3 (by simp)
  have a4 := GG.out.cell a4 (by simp)
  have a5 := GG.out.cell a5 (by simp)
  clear c3 a2
  obtain ⟨c3, a2⟩ := hHeld
  have HE := Hi (HE.out.grown GG.out)
  have HR := Hi (HR.out.grown GG.out)
  clear hbs hg2 GG
  cases fd
  · by_cases h1 : tep < ep
    · have E1 := Hi (show holdF ⟨st, ep, nx, held⟩ ⟨tst, tep, tsq, ttm, tkd, tvs⟩ = held from if_pos (.inr (.inl h1)))
      have hd : decide (tep < ep) = true := by simpa using h1
      go_wp2_with fail
      go_quiet (fail)
      go_wp2_with fail
      try simp only [Exit.inBlock, Exit.then]
      refine bodyPost_ret (results_none rfl _ _ _) rfl ?_
      exact SAME.out _ (grown_trans G2.out (Wr.grown_drewN w2 nq none)) E1.out
    · have hd : decide (tep < ep) = false := by simpa using h1
      by_cases h2 : tsq < nx
      · have E1 := Hi (show holdF ⟨st, ep, nx, held⟩ ⟨tst, tep, tsq, ttm, tkd, tvs⟩ = held from if_pos (.inr (.inr h2)))
        have hd2 : decide (tsq < nx) = true := by simpa using h2
        go_wp2_with fail
        go_quiet (fail)
        go_wp2_with fail
        try simp only [Exit.inBlock, Exit.then]
        refine bodyPost_ret (results_none rfl _ _ _) rfl ?_
        exact SAME.out _ (grown_trans G2.out (Wr.grown_drewN w2 nq none)) E1.out
      · have hd2 : decide (tsq < nx) = false := by simpa using h2
        have E1 := Hi (show holdF ⟨st, ep, nx, held⟩ ⟨tst, tep, tsq, ttm, tkd, tvs⟩ = Im.lows tsq held ++ ⟨tst, tep, tsq, ttm, tkd, tvs⟩ :: Im.highs tsq held from if_neg (by
          rintro (k | k | k)
          · have := FD.out.1.2 k; cases this
          · exact h1 k
          · exact h2 k))
        go_wp2_with fail
        go_quiet (fail)
        go_wp2_with fail
        have G3 := Hi (grown_trans G2.out (Wr.grown_drewN w2 nq none))
        have HE := Hi (HE.out.grown (Wr.grown_drewN w2 nq none))
        have HR := Hi (HR.out.grown (Wr.grown_drewN w2 nq none))
        have a0 := (Wr.grown_drewN w2 nq none).cell a0 (by simp)
        have a1 := (Wr.grown_drewN w2 nq none).cell a1 (by simp)
        have a2 := (Wr.grown_drewN w2 nq none).cell a2 (by simp)
        have a3 := (Wr.grown_drewN w2 nq none).cell a3 (by simp)
        have a4 := (Wr.grown_drewN w2 nq none).cell a4 (by simp)
        have a5 := (Wr.grown_drewN w2 nq none).cell a5 (by simp)
        have c3 := (Wr.grown_drewN w2 nq none).cell c3 (by simp)
        generalize w2.drewN nq = wq at *
        have G3 := Hi (grown_trans G3.out (Wr.grown_drew wq none))
        have HE := Hi (HE.out.grown (Wr.grown_drew wq none))
        have HR := Hi (HR.out.grown (Wr.grown_drew wq none))
        replace a0 : wq.drew.cell? ⟨X, 0, none⟩ = some (.int .i64 tst) := a0
        replace a1 : wq.drew.cell? ⟨X, 1, none⟩ = some (.int .i64 tep) := a1
        replace a2 : wq.drew.cell? ⟨X, 2, none⟩ = some (.int .i64 tsq) := a2
        replace a3 : wq.drew.cell? ⟨X, 3, none⟩ = some (.int .i64 ttm) := a3
        replace a4 : wq.drew.cell? ⟨X, 4, none⟩ = some (.int .i64 tkd) := a4
        replace a5 : wq.drew.cell? ⟨X, 5, none⟩ = some (.slice Va Vn Vc) := a5
        replace c3 : wq.drew.cell? ⟨Bs, i * 4 + 3, none⟩ = some (.slice A m cc) := c3
        refine wp_region_held_drew (S := (fun wx : World => wx.cell? ⟨X, 0, none⟩ = some (.int .i64 tst) ∧ wx.cell? ⟨X, 1, none⟩ = some (.int .i64 tep) ∧ wx.cell? ⟨X, 2, none⟩ = some (.int .i64 tsq) ∧ wx.cell? ⟨X, 3, none⟩ = some (.int .i64 ttm) ∧ wx.cell? ⟨X, 4, none⟩ = some (.int .i64 tkd) ∧ wx.cell? ⟨X, 5, none⟩ = some (.slice Va Vn Vc))) (by kernel_rfl) ?_ (fun hHeld => ?_)
        · exact ⟨a0, a1, a2, a3, a4, a5⟩
        try simp only [Act.put, lsA, lsB, lsC]
        generalize wq.drew = wd at *
        refine takeL (i := 0) (v := ?_) rfl (by kernel_rfl) (by kernel_rfl) (by kernel_rfl) (fun _ _ _ h => h) (Or.inl ⟨by rfl, ?_⟩) (by assumption) ?_
        rotate_left 1
        · intro w hSw; obtain ⟨s0, s1, s2, s3, s4, s5⟩ := hSw; first | (go_simp; done) | (go_simp; with_reducible rfl)
        try simp only [Act.put, lsA, lsB, lsC]
        refine takeL (i := 1) (v := ?_) rfl (by kernel_rfl) (by kernel_rfl) (by kernel_rfl) (fun _ _ _ h => h) (Or.inl ⟨by rfl, ?_⟩) (by assumption) ?_
        rotate_left 1
        · intro w hSw; obtain ⟨s0, s1, s2, s3, s4, s5⟩ := hSw; first | (go_simp; done) | (go_simp; with_reducible rfl)
        try simp only [Act.put, lsA, lsB, lsC]
        refine takeL (i := 2) (v := ?_) rfl (by kernel_rfl) (by kernel_rfl) (by kernel_rfl) (fun _ _ _ h => h) (Or.inl ⟨by rfl, ?_⟩) (by assumption) ?_
        rotate_left 1
        · intro w hSw; obtain ⟨s0, s1, s2, s3, s4, s5⟩ := hSw; first | (go_simp; done) | (go_simp; with_reducible rfl)
        try simp only [Act.put, lsA, lsB, lsC]
        refine takeL (i := 3) (v := ?_) rfl (by kernel_rfl) (by kernel_rfl) (by kernel_rfl) (fun _ _ _ h => h) (Or.inl ⟨by rfl, ?_⟩) (by assumption) ?_
        rotate_left 1
        · intro w hSw; obtain ⟨s0, s1, s2, s3, s4, s5⟩ := hSw; first | (go_simp; done) | (go_simp; with_reducible rfl)
        try simp only [Act.put, lsA, lsB, lsC]
        refine takeL (i := 5) (v := ?_) rfl (by kernel_rfl) (by kernel_rfl) (by kernel_rfl) (fun _ _ _ h => h) (Or.inl ⟨by rfl, ?_⟩) (by assumption) ?_
        rotate_left 1
        · intro w hSw; obtain ⟨s0, s1, s2, s3, s4, s5⟩ := hSw; first | (go_simp; done) | (go_simp; with_reducible rfl)
        try simp only [Act.put, lsA, lsB, lsC]
        refine takeL (i := 6) (v := ?_) rfl (by kernel_rfl) (by kernel_rfl) (by kernel_rfl) (fun _ _ _ h => h) (Or.inl ⟨by rfl, ?_⟩) (by assumption) ?_
        rotate_left 1
        · intro w hSw; obtain ⟨s0, s1, s2, s3, s4, s5⟩ := hSw; first | (go_simp; done) | (go_simp; with_reducible rfl)
        try simp only [Act.put, lsA, lsB, lsC]
        have c3a : (wd.alloc (Obj.cells #[.int .i64 tst, .int .i64 tep, .int .i64 tsq, .int .i64 ttm, .int .i64 tkd, .slice Va Vn Vc] 28)).cell? ⟨Bs, i * 4 + 3, none⟩ = some (.slice A m cc) := (grown_alloc wd _ none).cell c3 (by simp)
        refine wpAnyH_ready (rs := [4, 7]) (by kernel_rfl) (by simp) (consL rfl (fun K hK => ?_) (consL rfl (fun K hK => ?_) AllReadyH.nil))
        · skip
          go_simp
          refine hK.out _ _ ?_ (fun hHeld => ?_)
          · exact ⟨a0, a1, a2, a3, a4, a5⟩
          clear hK K
          try simp only [Act.put, lsA, lsB, lsC]
          refine wpAnyH_ready (rs := [7]) (by kernel_rfl) (by simp) (consL rfl (fun K hK => ?_) AllReadyH.nil)
          go_simp
          refine hK.out _ _ ?_ (fun hHeld => ?_)
          · exact ⟨(grown_alloc _ _ none).cell a0 (by simp), (grown_alloc _ _ none).cell a1 (by simp), (grown_alloc _ _ none).cell a2 (by simp), (grown_alloc _ _ none).cell a3 (by simp), (grown_alloc _ _ none).cell a4 (by simp), (grown_alloc _ _ none).cell a5 (by simp)⟩
          clear hK K
          try simp only [Act.put, lsA, lsB, lsC]
          have GL : Hid (wd.grownBy (wd.alloc (Obj.cells #[.int .i64 tst, .int .i64 tep, .int .i64 tsq, .int .i64 ttm, .int .i64 tkd, .slice Va Vn Vc] 28)) none) := grown_alloc wd _ none
          have LT : Hid (OR wd.heap.size (wd.alloc (Obj.cells #[.int .i64 tst, .int .i64 tep, .int .i64 tsq, .int .i64 ttm, .int .i64 tkd, .slice Va Vn Vc] 28)) 28 6 ⟨some ⟨wd.heap.size, 0, none⟩, 1, 1⟩ (tcs ((⟨tst, tep, tsq, ttm, tkd, tvs⟩, ⟨Va, Vn, Vc⟩) : TV))) := or_lit wd ((⟨tst, tep, tsq, ttm, tkd, tvs⟩, ⟨Va, Vn, Vc⟩) : TV)
          have SZ := Hi (show wd.heap.size < (wd.alloc (Obj.cells #[.int .i64 tst, .int .i64 tep, .int .i64 tsq, .int .i64 ttm, .int .i64 tkd, .slice Va Vn Vc] 28)).heap.size by simp)
          generalize wd.alloc (Obj.cells #[.int .i64 tst, .int .i64 tep, .int .i64 tsq, .int .i64 ttm, .int .i64 tkd, .slice Va Vn Vc] 28) = wl at *
          have a0 := GL.out.cell a0 (by simp)
          have a1 := GL.out.cell a1 (by simp)
          have a2 := GL.out.cell a2 (by simp)
          have a3 := GL.out.cell a3 (by simp)
          have a4 := GL.out.cell a4 (by simp)
          have a5 := GL.out.cell a5 (by simp)
          have HL := Hi (HR.out.grown GL.out)
          have HEL := Hi (HE.out.grown GL.out)
          have INS := Hi (ins_t base wd.heap.size ⟨A, m, cc⟩ ⟨some ⟨wd.heap.size, 0, none⟩, 1, 1⟩ (f6 xs) (tcs ((⟨tst, tep, tsq, ttm, tkd, tvs⟩, ⟨Va, Vn, Vc⟩) : TV)) at_ wl HL.out LT.out rfl (fun b hb hc => by have h1 := (HR.out.blk b hb).2; injection hc with hc; have hc : wd.heap.size = b := hc; omega) (by have h1 := G3.out.size; have h2 := GL.out.size; omega) FD.out.2.2.2 (by dsimp only; omega) (f6_one xs) (tcs_one _))
          dsimp only [Sl.v] at INS
          have HXb := Hi (fun (e : some X = Sl.blk ⟨A, m, cc⟩) => by have h1 := hHL X e.symm; have h2 := hL X h1; have h3 := HX0.out; exact (show False by omega))
          refine wpAnyH_ready (rs := [8]) (by kernel_rfl) (by simp) (consL rfl (fun K hK => ?_) AllReadyH.nil)
          go_simp
          refine INS.out.mono ?_
          rintro e w4 ⟨r, rfl, -, hr4, hg4, hrb⟩
          try dsimp only
          refine hK.out _ _ ?_ (fun hHeld => ?_)
          · exact ⟨hg4.cell a0 (fun e => HXb.out e), hg4.cell a1 (fun e => HXb.out e), hg4.cell a2 (fun e => HXb.out e), hg4.cell a3 (fun e => HXb.out e), hg4.cell a4 (fun e => HXb.out e), hg4.cell a5 (fun e => HXb.out e)⟩
          clear hK K
          try simp only [Act.put, lsA, lsB, lsC]
          have gr := Hi (Chg.of (L := (Sl.blk ⟨A, m, cc⟩).toList) hg4 (fun b hb => by simpa using hb))
          have hBH : Bs ∉ (Sl.blk ⟨A, m, cc⟩).toList := fun hm => hne (by simpa using hm)
          have R4 := Hi (HEL.out.chg gr.out (fun b hb hm => by injection hb with hb; have hb : Bs = b := hb; subst hb; exact hBH hm))
          obtain ⟨-, -, -, q3⟩ := four_of (o := i * 4) (OR.elem ecs_len R4.out hx)
          have o3 := R4.out.open_ (i * 4 + 3)
          obtain ⟨ra, rn, rc⟩ := r
          dsimp only [Sl.v] at q3 ⊢
          have H4 := Hi hr4
          have RB := Hi hrb
          have P5 := Hi (R4.out.put1 (f := ecs) ecs_len (i := i) (j := 3) (by omega) (u := .slice ra rn rc) (y := (⟨st, ep, nx, holdF ⟨st, ep, nx, held⟩ ⟨tst, tep, tsq, ttm, tkd, tvs⟩⟩, ⟨ra, rn, rc⟩)) hx (by rfl))
          have hXB : X ≠ Bs := by have h1 := hL Bs hBs; have h3 := HX0.out; omega
          clear hr4 hrb INS
          refine takeL (i := 9) (v := ?_) rfl (by kernel_rfl) (by kernel_rfl) (by kernel_rfl) (fun _ _ _ h => h) (Or.inl ⟨by rfl, ?_⟩) (by assumption) ?_
          rotate_left 1
          · intro w hSw; obtain ⟨s0, s1, s2, s3, s4, s5⟩ := hSw; first | (go_simp; done) | (go_simp; with_reducible rfl)
          try simp only [Act.put, lsA, lsB, lsC]
          refine takeL (i := 10) (v := ?_) rfl (by kernel_rfl) (by kernel_rfl) (by kernel_rfl) (fun _ _ _ h => h) (Or.inl ⟨by rfl, ?_⟩) (by assumption) ?_
          rotate_left 1
          · intro w hSw; obtain ⟨s0, s1, s2, s3, s4, s5⟩ := hSw; first | (go_simp; done) | (go_simp; with_reducible rfl)
          try simp only [Act.put, lsA, lsB, lsC]
          refine wpAnyH_ready (rs := [11]) (by kernel_rfl) (by simp) (consL rfl (fun K hK => ?_) AllReadyH.nil)
          go_simp
          refine hK.out _ _ ?_ (fun hHeld => ?_)
          · exact ⟨(chg_set w4 Bs _ _).cell (hg4.cell a0 (fun e => HXb.out e)) (by simpa using hXB), (chg_set w4 Bs _ _).cell (hg4.cell a1 (fun e => HXb.out e)) (by simpa using hXB), (chg_set w4 Bs _ _).cell (hg4.cell a2 (fun e => HXb.out e)) (by simpa using hXB), (chg_set w4 Bs _ _).cell (hg4.cell a3 (fun e => HXb.out e)) (by simpa using hXB), (chg_set w4 Bs _ _).cell (hg4.cell a4 (fun e => HXb.out e)) (by simpa using hXB), (chg_set w4 Bs _ _).cell (hg4.cell a5 (fun e => HXb.out e)) (by simpa using hXB)⟩
          clear hK K
          try simp only [Act.put, lsA, lsB, lsC]
          refine wpAnyH_done (by kernel_rfl) ?_ _
          try simp only [Exit.inBlock, Exit.then]
          refine bodyPost_end (results_none rfl _ _ _) rfl ?_
          exact ho_put (r := ⟨ra, rn, rc⟩) (V := ⟨Va, Vn, Vc⟩) (t := ⟨tst, tep, tsq, ttm, tkd, tvs⟩) hx hne hBs hHL hL HX.out HV.out TV'.out E1.out FD.out.2.1 FD.out.2.2.1 G3.out GL.out gr.out RB.out H4.out P5.out
        · skip
          go_simp
          refine hK.out _ _ ?_ (fun hHeld => ?_)
          · exact ⟨(grown_alloc _ _ none).cell a0 (by simp), (grown_alloc _ _ none).cell a1 (by simp), (grown_alloc _ _ none).cell a2 (by simp), (grown_alloc _ _ none).cell a3 (by simp), (grown_alloc _ _ none).cell a4 (by simp), (grown_alloc _ _ none).cell a5 (by simp)⟩
          clear hK K
          try simp only [Act.put, lsA, lsB, lsC]
          refine wpAnyH_ready (rs := [4]) (by kernel_rfl) (by simp) (consL rfl (fun K hK => ?_) AllReadyH.nil)
          go_simp
          refine hK.out _ _ ?_ (fun hHeld => ?_)
          · exact ⟨(grown_alloc _ _ none).cell a0 (by simp), (grown_alloc _ _ none).cell a1 (by simp), (grown_alloc _ _ none).cell a2 (by simp), (grown_alloc _ _ none).cell a3 (by simp), (grown_alloc _ _ none).cell a4 (by simp), (grown_alloc _ _ none).cell a5 (by simp)⟩
          clear hK K
          try simp only [Act.put, lsA, lsB, lsC]
          have GL : Hid (wd.grownBy (wd.alloc (Obj.cells #[.int .i64 tst, .int .i64 tep, .int .i64 tsq, .int .i64 ttm, .int .i64 tkd, .slice Va Vn Vc] 28)) none) := grown_alloc wd _ none
          have LT : Hid (OR wd.heap.size (wd.alloc (Obj.cells #[.int .i64 tst, .int .i64 tep, .int .i64 tsq, .int .i64 ttm, .int .i64 tkd, .slice Va Vn Vc] 28)) 28 6 ⟨some ⟨wd.heap.size, 0, none⟩, 1, 1⟩ (tcs ((⟨tst, tep, tsq, ttm, tkd, tvs⟩, ⟨Va, Vn, Vc⟩) : TV))) := or_lit wd ((⟨tst, tep, tsq, ttm, tkd, tvs⟩, ⟨Va, Vn, Vc⟩) : TV)
          have SZ := Hi (show wd.heap.size < (wd.alloc (Obj.cells #[.int .i64 tst, .int .i64 tep, .int .i64 tsq, .int .i64 ttm, .int .i64 tkd, .slice Va Vn Vc] 28)).heap.size by simp)
          generalize wd.alloc (Obj.cells #[.int .i64 tst, .int .i64 tep, .int .i64 tsq, .int .i64 ttm, .int .i64 tkd, .slice Va Vn Vc] 28) = wl at *
          have a0 := GL.out.cell a0 (by simp)
          have a1 := GL.out.cell a1 (by simp)
          have a2 := GL.out.cell a2 (by simp)
          have a3 := GL.out.cell a3 (by simp)
          have a4 := GL.out.cell a4 (by simp)
          have a5 := GL.out.cell a5 (by simp)
          have HL := Hi (HR.out.grown GL.out)
          have HEL := Hi (HE.out.grown GL.out)
          have INS := Hi (ins_t base wd.heap.size ⟨A, m, cc⟩ ⟨some ⟨wd.heap.size, 0, none⟩, 1, 1⟩ (f6 xs) (tcs ((⟨tst, tep, tsq, ttm, tkd, tvs⟩, ⟨Va, Vn, Vc⟩) : TV)) at_ wl HL.out LT.out rfl (fun b hb hc => by have h1 := (HR.out.blk b hb).2; injection hc with hc; have hc : wd.heap.size = b := hc; omega) (by have h1 := G3.out.size; have h2 := GL.out.size; omega) FD.out.2.2.2 (by dsimp only; omega) (f6_one xs) (tcs_one _))
          dsimp only [Sl.v] at INS
          have HXb := Hi (fun (e : some X = Sl.blk ⟨A, m, cc⟩) => by have h1 := hHL X e.symm; have h2 := hL X h1; have h3 := HX0.out; exact (show False by omega))
          refine wpAnyH_ready (rs := [8]) (by kernel_rfl) (by simp) (consL rfl (fun K hK => ?_) AllReadyH.nil)
          go_simp
          refine INS.out.mono ?_
          rintro e w4 ⟨r, rfl, -, hr4, hg4, hrb⟩
          try dsimp only
          refine hK.out _ _ ?_ (fun hHeld => ?_)
          · exact ⟨hg4.cell a0 (fun e => HXb.out e), hg4.cell a1 (fun e => HXb.out e), hg4.cell a2 (fun e => HXb.out e), hg4.cell a3 (fun e => HXb.out e), hg4.cell a4 (fun e => HXb.out e), hg4.cell a5 (fun e => HXb.out e)⟩
          clear hK K
          try simp only [Act.put, lsA, lsB, lsC]
          have gr := Hi (Chg.of (L := (Sl.blk ⟨A, m, cc⟩).toList) hg4 (fun b hb => by simpa using hb))
          have hBH : Bs ∉ (Sl.blk ⟨A, m, cc⟩).toList := fun hm => hne (by simpa using hm)
          have R4 := Hi (HEL.out.chg gr.out (fun b hb hm => by injection hb with hb; have hb : Bs = b := hb; subst hb; exact hBH hm))
          obtain ⟨-, -, -, q3⟩ := four_of (o := i * 4) (OR.elem ecs_len R4.out hx)
          have o3 := R4.out.open_ (i * 4 + 3)
          obtain ⟨ra, rn, rc⟩ := r
          dsimp only [Sl.v] at q3 ⊢
          have H4 := Hi hr4
          have RB := Hi hrb
          have P5 := Hi (R4.out.put1 (f := ecs) ecs_len (i := i) (j := 3) (by omega) (u := .slice ra rn rc) (y := (⟨st, ep, nx, holdF ⟨st, ep, nx, held⟩ ⟨tst, tep, tsq, ttm, tkd, tvs⟩⟩, ⟨ra, rn, rc⟩)) hx (by rfl))
          have hXB : X ≠ Bs := by have h1 := hL Bs hBs; have h3 := HX0.out; omega
          clear hr4 hrb INS
          refine takeL (i := 9) (v := ?_) rfl (by kernel_rfl) (by kernel_rfl) (by kernel_rfl) (fun _ _ _ h => h) (Or.inl ⟨by rfl, ?_⟩) (by assumption) ?_
          rotate_left 1
          · intro w hSw; obtain ⟨s0, s1, s2, s3, s4, s5⟩ := hSw; first | (go_simp; done) | (go_simp; with_reducible rfl)
          try simp only [Act.put, lsA, lsB, lsC]
          refine takeL (i := 10) (v := ?_) rfl (by kernel_rfl) (by kernel_rfl) (by kernel_rfl) (fun _ _ _ h => h) (Or.inl ⟨by rfl, ?_⟩) (by assumption) ?_
          rotate_left 1
          · intro w hSw; obtain ⟨s0, s1, s2, s3, s4, s5⟩ := hSw; first | (go_simp; done) | (go_simp; with_reducible rfl)
          try simp only [Act.put, lsA, lsB, lsC]
          refine wpAnyH_ready (rs := [11]) (by kernel_rfl) (by simp) (consL rfl (fun K hK => ?_) AllReadyH.nil)
          go_simp
          refine hK.out _ _ ?_ (fun hHeld => ?_)
          · exact ⟨(chg_set w4 Bs _ _).cell (hg4.cell a0 (fun e => HXb.out e)) (by simpa using hXB), (chg_set w4 Bs _ _).cell (hg4.cell a1 (fun e => HXb.out e)) (by simpa using hXB), (chg_set w4 Bs _ _).cell (hg4.cell a2 (fun e => HXb.out e)) (by simpa using hXB), (chg_set w4 Bs _ _).cell (hg4.cell a3 (fun e => HXb.out e)) (by simpa using hXB), (chg_set w4 Bs _ _).cell (hg4.cell a4 (fun e => HXb.out e)) (by simpa using hXB), (chg_set w4 Bs _ _).cell (hg4.cell a5 (fun e => HXb.out e)) (by simpa using hXB)⟩
          clear hK K
          try simp only [Act.put, lsA, lsB, lsC]
          refine wpAnyH_done (by kernel_rfl) ?_ _
          try simp only [Exit.inBlock, Exit.then]
          refine bodyPost_end (results_none rfl _ _ _) rfl ?_
          exact ho_put (r := ⟨ra, rn, rc⟩) (V := ⟨Va, Vn, Vc⟩) (t := ⟨tst, tep, tsq, ttm, tkd, tvs⟩) hx hne hBs hHL hL HX.out HV.out TV'.out E1.out FD.out.2.1 FD.out.2.2.1 G3.out GL.out gr.out RB.out H4.out P5.out
  · have E1 := Hi (show holdF ⟨st, ep, nx, held⟩ ⟨tst, tep, tsq, ttm, tkd, tvs⟩ = held from if_pos (.inl (FD.out.1.1 rfl)))
    go_wp2_with fail
    go_quiet (fail)
    go_wp2_with fail
    try simp only [Exit.inBlock, Exit.then]
    refine bodyPost_ret (results_none rfl _ _ _) rfl ?_
    exact SAME.out _ (grown_trans G2.out (Wr.grown_drewN w2 nq none)) E1.out
end Go.Proofs.YticmoaebegahgaaGreatDoor.Iw
namespace Go.Proofs.YticmoaebegahgaaGreatDoor.Iw
open Go.ChangeShapes Go.WideShapes Go.ChangeAt Go.RowKit
open Wr (IR RB iv ivs bv bvs grown_trans grown_refl grown_alloc ret_int ret_bool tv Ret ret_mk)
def stAt (s : List Im.Wt) (p : Nat) : Int := (s.getD p ⟨0, 0, 0, []⟩).st
theorem put_found {win : Int} {full : Bool} {t : Tm.Tg} : ∀ {s : List Im.Wt} {i : Nat} {x : Im.Wt}, s[i]? = some x → x.st = t.st → (∀ p, p < i → stAt s p < t.st) → Im.put win full s t = (s.set i (Im.take win x t).1, (Im.take win x t).2) := by
  intro s
  induction s with
  | nil => intro i x h; simp at h
  | cons w r ih =>
    intro i x h hx hlo
    cases i with
    | zero =>
      simp only [List.getElem?_cons_zero, Option.some.injEq] at h
      subst h
      unfold Im.put
      rw [if_neg (by omega), if_pos hx, List.set_cons_zero]
    | succ i =>
      simp only [List.getElem?_cons_succ] at h
      have h0 : w.st < t.st := by simpa [stAt] using hlo 0 (by omega)
      have := ih h hx (fun p hp => by simpa [stAt] using hlo (p + 1) (by omega))
      unfold Im.put
      rw [if_pos h0, this, List.set_cons_succ]
theorem put_absent {win : Int} {full : Bool} {t : Tm.Tg} : ∀ {s : List Im.Wt} {i : Nat}, i ≤ s.length → (∀ p, p < i → stAt s p < t.st) → (∀ p, i ≤ p → p < s.length → t.st < stAt s p) → Im.put win full s t = if full = true then (s, []) else ((s.take i ++ Im.new t :: s.drop i).set i (Im.take win (Im.new t) t).1, (Im.take win (Im.new t) t).2) := by
  intro s
  induction s with
  | nil => intro i hi _ _; obtain rfl : i = 0 := by simpa using hi
           unfold Im.put; simp
  | cons w r ih =>
    intro i hi hlo hhi
    cases i with
    | zero =>
      have h0 : t.st < w.st := by simpa [stAt] using hhi 0 (Nat.le_refl _) (by simp)
      unfold Im.put
      rw [if_neg (by omega), if_neg (by omega)]
      simp
    | succ i =>
      have h0 : w.st < t.st := by simpa [stAt] using hlo 0 (by omega)
      have := ih (i := i) (by simpa using hi) (fun p hp => by simpa [stAt] using hlo (p + 1) (by omega)) (fun p hp hl => by simpa [stAt] using hhi (p + 1) (by omega) (by simpa using hl))
      unfold Im.put
      rw [if_pos h0, this]
      split <;> simp
theorem sasc_keys {n : Int} {s : List Im.Wt} (h : Im.SAsc n s) : ∀ i j, i < j → j < s.length → stAt s i < stAt s j := by
  have all : ∀ {n : Int} {s : List Im.Wt}, Im.SAsc n s → ∀ w ∈ s, n < w.st := by
    intro n s h
    induction s generalizing n with
    | nil => intro w hw; cases hw
    | cons a r ih =>
      intro w hw
      rcases List.mem_cons.1 hw with rfl | hw
      · exact h.1
      · have := ih h.2 w hw; have := h.1; omega
  induction s generalizing n with
  | nil => intro i j _ hj; simp at hj
  | cons t r ih =>
    intro i j hij hj
    cases j with
    | zero => omega
    | succ j =>
      simp only [List.length_cons] at hj
      cases i with
      | zero =>
        have := all h.2 (r.getD j ⟨0, 0, 0, []⟩) (by rw [List.getD_eq_getElem?_getD, List.getElem?_eq_getElem (by omega)]; simp)
        simpa [stAt] using this
      | succ i =>
        simpa [stAt] using ih h.2 i j (by omega) (by omega)
theorem key_st {xs : List EV} (i : Nat) (hi : i < xs.length) : key_w xs i = stAt (xs.map Prod.fst) i := by
  simp [key_w, stAt, List.getD, hi]
theorem or_lit4 (w : World) (x : EV) : OR w.heap.size (w.alloc (.cells (ecs x).toArray 32)) 32 4 ⟨some ⟨w.heap.size, 0, none⟩, 1, 1⟩ (ecs x) := by
  have := World.ownsRow_lit (base := w.heap.size) (e := 32) (size := 4) w (ecs x).toArray 1 (Nat.le_refl _) (by unfold maxLen; omega) (by simp [ecs])
  rw [show (ecs x).toArray.toList = ecs x by simp] at this
  exact ⟨this⟩
theorem ent_some {s : List Im.Wt} {x : Im.Wt} (h : x ∈ s) : Im.ent s x.st ≠ none := by
  induction s with
  | nil => cases h
  | cons a r ih =>
    unfold Im.ent
    split
    · simp
    · rename_i hne
      rcases List.mem_cons.1 h with rfl | h
      · exact absurd rfl hne
      · exact ih h
theorem ent_none {s : List Im.Wt} {k : Int} (h : ∀ w ∈ s, w.st ≠ k) : Im.ent s k = none := by
  induction s with
  | nil => rfl
  | cons a r ih =>
    unfold Im.ent
    rw [if_neg (h a (by simp))]
    exact ih (fun w hw => h w (by simp [hw]))
theorem stAt_mem {s : List Im.Wt} {k : Int} (h : ∀ p, p < s.length → stAt s p ≠ k) : ∀ w ∈ s, w.st ≠ k := by
  intro w hw
  obtain ⟨i, hi, rfl⟩ := List.mem_iff_getElem.1 hw
  have := h i hi
  simpa [stAt, List.getD, List.getElem?_eq_getElem hi] using this
def nilS : Sl := ⟨none, 0, 0⟩
def EnEnd (base : Nat) (L : List Nat) (B : Nat) (win : Int) (T E : Sl) (ys : List EV) (t : Tm.Tg) (w : World) (e : Ending) (w' : World) : Prop :=
  (e = .returned (.tuple #[.pointer none, .int .i64 4]) ∧ w.grownBy w' none ∧ ∀ win, Im.acc win (ys.map Prod.fst) t = (ys.map Prod.fst, []) ∧ (ys.length = 64 ∧ Im.ent (ys.map Prod.fst) t.st = none)) ∨
  ∃ (E' : Sl) (L' : List Nat) (zs : List EV) (i Es : Nat) (x : Im.Wt) (H : Sl), e = .returned (.tuple #[.pointer (some ⟨Es, i * 4, none⟩), .int .i64 0]) ∧ E'.a = some ⟨Es, 0, none⟩ ∧ Es ≠ B ∧ zs[i]? = some (x, H) ∧ Tri w' B (.int .i64 win) T.v E'.v ∧ EO base w' L' E' zs ∧
    (∀ b ∈ L, b ∈ L') ∧ (∀ b ∈ L', b ∈ L ∨ w.heap.size ≤ b) ∧ Chg (B :: E.blk.toList) w w' ∧ (∀ win, Im.acc win (ys.map Prod.fst) t = ((zs.map Prod.fst).set i (Im.take win x t).1, (Im.take win x t).2)) ∧ (x.st = t.st) ∧ (x = Im.new t ∨ (x, H) ∈ ys) ∧ (∀ y ∈ zs, y ∈ ys ∨ y = (Im.new t, nilS)) ∧ (ys.length < 64 ∨ Im.ent (ys.map Prod.fst) t.st ≠ none) ∧ (∀ b, E'.blk = some b → E.blk = some b ∨ w.heap.size ≤ b)
theorem en_put {base : Nat} {L : List Nat} {B at_ : Nat} {win : Value} {T E r : Sl} {ys : List EV} {t : Tm.Tg} {w wd wl w4 : World} (hE : EO base w L E ys) (hBL : B ∈ L) (hBE : E.blk ≠ some B) (hBy : ∀ y ∈ ys, y.2.blk ≠ some B) (hnl : ys.length = E.n) (hbase : base ≤ w.heap.size) (hlt : ys.length < 64) (hat : at_ ≤ E.n)
    (hlo : ∀ p, p < at_ → stAt (ys.map Prod.fst) p < t.st) (hhi : ∀ p, at_ ≤ p → p < E.n → t.st ≤ stAt (ys.map Prod.fst) p) (hno : false = true ↔ at_ < E.n ∧ stAt (ys.map Prod.fst) at_ = t.st) (hs : Im.SAsc (-1) (ys.map Prod.fst)) (G2 : w.grownBy wd none) (GL : wd.grownBy wl none) (gr : Chg E.blk.toList wl w4) (RB : ∀ b, r.blk = some b → E.blk = some b ∨ wl.heap.size ≤ b)
    (H4 : OR base w4 32 4 r ((f4 ys).take (at_ * 4) ++ (ecs (Im.new t, nilS) ++ (f4 ys).drop (at_ * 4)))) (RN : r.n = E.n + 1) (BL : Tri wl B win T.v E.v) :
    (∃ Es, r.a = some ⟨Es, 0, none⟩ ∧ Es ≠ B) ∧ (ys.take at_ ++ (Im.new t, nilS) :: ys.drop at_)[at_]? = some (Im.new t, nilS) ∧ Tri (w4.setCell ⟨B, 2, none⟩ r.v) B win T.v r.v ∧ EO base (w4.setCell ⟨B, 2, none⟩ r.v) (L ++ r.blk.toList) r (ys.take at_ ++ (Im.new t, nilS) :: ys.drop at_) ∧
    (∀ b ∈ L, b ∈ L ++ r.blk.toList) ∧ (∀ b ∈ L ++ r.blk.toList, b ∈ L ∨ w.heap.size ≤ b) ∧ Chg (B :: E.blk.toList) w (w4.setCell ⟨B, 2, none⟩ r.v) ∧ (∀ win, Im.acc win (ys.map Prod.fst) t = (((ys.take at_ ++ (Im.new t, nilS) :: ys.drop at_).map Prod.fst).set at_ (Im.take win (Im.new t) t).1, (Im.take win (Im.new t) t).2)) ∧ ((Im.new t).st = t.st) ∧ (∀ y ∈ ys.take at_ ++ (Im.new t, nilS) :: ys.drop at_, y ∈ ys ∨ y = (Im.new t, nilS)) ∧ (ys.length < 64 ∨ Im.ent (ys.map Prod.fst) t.st ≠ none) ∧ (∀ b, r.blk = some b → E.blk = some b ∨ w.heap.size ≤ b) := by
  have ML : (ys.map Prod.fst).length = ys.length := List.length_map _
  have hs1 := G2.size
  have hs2 := GL.size
  have hBl : B < w.heap.size := hE.new B hBL
  have gset := chg_set w4 B 2 r.v
  have hEB : B ∉ E.blk.toList := fun hm => hBE (by simpa using hm)
  have gall : Chg (B :: E.blk.toList) w (w4.setCell ⟨B, 2, none⟩ r.v) :=
    ((Chg.of0 (grown_trans G2 GL)).trans (gr.weak (fun b hb => List.mem_cons_of_mem _ hb))).trans (gset.weak (fun b hb => by rw [List.mem_singleton] at hb; subst hb; exact List.mem_cons_self))
  have hML : ∀ b ∈ B :: E.blk.toList, b ∈ L := fun b hb => by
    rcases List.mem_cons.1 hb with rfl | hb
    · exact hBL
    · exact hE.rowin b (by simpa using hb)
  have hnew : ∀ b ∈ L ++ r.blk.toList, b ∈ L ∨ w.heap.size ≤ b := fun b hb => by
    rcases List.mem_append.1 hb with hb | hb
    · exact .inl hb
    · rcases RB b (by simpa using hb) with e | e
      · exact .inl (hE.rowin b e)
      · exact .inr (by omega)
  have hrn : ∀ b, r.blk = some b → E.blk = some b ∨ w.heap.size ≤ b := fun b hb => (RB b hb).imp id (fun e => by omega)
  have hrB : ∀ b, r.blk = some b → b ≠ B := fun b hb e => by
    subst e
    rcases hrn b hb with e | e
    · exact hBE e
    · omega
  have hmem : ∀ y ∈ ys.take at_ ++ (Im.new t, nilS) :: ys.drop at_, y ∈ ys ∨ y = (Im.new t, nilS) := fun y hy => by
    rcases List.mem_append.1 hy with hy | hy
    · exact .inl (List.mem_of_mem_take hy)
    · rcases List.mem_cons.1 hy with hy | hy
      · exact .inr hy
      · exact .inl (List.mem_of_mem_drop hy)
  have hlt' : (ys.take at_).length = at_ := by rw [List.length_take]; omega
  refine ⟨?_, ?_, Tri.set2 (BL.step gr hEB) _, ⟨?_, fun y hy => ?_, fun y hy b hb => ?_, fun b hb => List.mem_append_right _ (by simpa using hb), fun y hy b hb => ?_, ?_, fun b hb => ?_⟩, fun b hb => List.mem_append_left _ hb, hnew, gall, fun win => ?_, rfl, hmem, .inl hlt, hrn⟩
  · rcases H4.form with ⟨_, h0, _⟩ | ⟨g, h0, _⟩
    · omega
    · exact ⟨g, h0, hrB g (by unfold Sl.blk; rw [h0]; rfl)⟩
  · rw [List.getElem?_append_right (by omega), hlt', Nat.sub_self]; rfl
  · have e1 : f4 (ys.take at_ ++ (Im.new t, nilS) :: ys.drop at_) = (f4 ys).take (at_ * 4) ++ (ecs (Im.new t, nilS) ++ (f4 ys).drop (at_ * 4)) := by
      unfold f4
      rw [flat_app, List.flatMap_cons, flat_take ecs_len, flat_drop ecs_len]
    rw [e1]
    exact H4.chg gset (fun b hb hm => by rw [List.mem_singleton] at hm; exact hrB b hb hm)
  · rcases hmem y hy with hy | rfl
    · exact (hE.held y hy).step gall (fun b hb hm => by
        rcases List.mem_cons.1 hm with rfl | hm
        · exact hBy y hy hb
        · exact hE.apart y hy b hb (by simpa using hm)) (fun b hb => .inl (hML b hb)) hnew
    · exact ⟨[], rfl, or_nil _ _ _ _, fun x hx => by cases hx⟩
  · rcases hmem y hy with hy | rfl
    · exact List.mem_append_left _ (hE.sub y hy b hb)
    · cases hb
  · rcases hmem y hy with hy | rfl
    · intro e
      rcases hrn b e with e' | e'
      · exact hE.apart y hy b hb e'
      · have := hE.new b (hE.sub y hy b hb); omega
    · cases hb
  · have hp := hE.pair
    rw [← List.take_append_drop at_ ys, List.pairwise_append] at hp
    rw [List.pairwise_append]
    refine ⟨hp.1, ?_, fun a ha b hb k hk hk' => ?_⟩
    · rw [List.pairwise_cons]
      exact ⟨(fun b _ k hk => by cases hk), hp.2.1⟩
    · rcases List.mem_cons.1 hb with rfl | hb
      · cases hk'
      · exact hp.2.2 a ha b hb k hk hk'
  · rcases List.mem_append.1 hb with hb | hb
    · exact Nat.lt_of_lt_of_le (hE.new b hb) gall.size
    · have := (H4.blk b (by simpa using hb)).2
      simpa using this
  · have := put_absent (win := win) (full := decide ((ys.map Prod.fst).length = 64)) (t := t) (s := ys.map Prod.fst) (i := at_) (by rw [ML]; omega) hlo (fun p h1 h2 => by
      rw [ML] at h2
      have h3 := hhi p h1 (by omega)
      rcases Nat.lt_or_ge at_ p with h'' | h''
      · have h4 := sasc_keys hs at_ p h'' (by omega)
        have h5 := hhi at_ (Nat.le_refl _) (by omega)
        omega
      · obtain rfl : p = at_ := by omega
        have : stAt (ys.map Prod.fst) p ≠ t.st := fun e => by
          have := hno.2 ⟨by omega, e⟩
          cases this
        omega)
    rw [if_neg (by rw [ML]; simp; omega)] at this
    rw [List.map_append, List.map_cons, List.map_take, List.map_drop]
    exact this
set_option maxRecDepth 100000 in
set_option maxHeartbeats 4000000 in
theorem entry_any (base : Nat) (L : List Nat) (B : Nat) (win : Int) (T E : Sl) (ys : List EV) (t : Tm.Tg) (V : Sl) (w : World) (hB : Tri w B (.int .i64 win) T.v E.v) (hE : EO base w L E ys) (hBL : B ∈ L) (hBE : E.blk ≠ some B) (hBy : ∀ y ∈ ys, y.2.blk ≠ some B) (hs : Im.SAsc (-1) (ys.map Prod.fst)) (hlen : ys.length ≤ 64) (hbase : base ≤ w.heap.size) :
    Calls Tryz.prog 55 #[.pointer (some ⟨B, 0, none⟩), tv t V.v] w (EnEnd base L B win T E ys t w) := by
  have hrow := hE.row
  have hnl : ys.length = E.n := by have := hrow.len; rw [f4_len] at this; omega
  have AK := Hi (sasc_keys hs)
  have ML : (ys.map Prod.fst).length = ys.length := List.length_map _
  have BS := Hi (fun (W : World) (hW : CR W E (f4 ys)) => bs_w E ys t.st W hnl hW (by omega) (fun a b hab hb => by rw [key_st a (by omega), key_st b (by omega)]; exact AK.out a b hab (by omega)) _ rfl)
  have EOH := Hi hE
  have HR := Hi hrow
  obtain ⟨A, n, c⟩ := E
  obtain ⟨Va, Vn, Vc⟩ := V
  obtain ⟨Ta, Tn, Tc⟩ := T
  obtain ⟨tst, tep, tsq, ttm, tkd, tvs⟩ := t
  dsimp only [tv, Sl.v] at *
  obtain ⟨w1, hw1⟩ : ∃ w1, w1 = w.alloc (Wr.tcells ⟨tst, tep, tsq, ttm, tkd, tvs⟩ (.slice Va Vn Vc)) := ⟨_, rfl⟩
  obtain ⟨X, hX⟩ : ∃ X, X = w.heap.size := ⟨_, rfl⟩
  have G1 := Hi (show w.grownBy w1 none by subst hw1; exact grown_alloc _ _ _)
  have S0 : Wr.Six w1 X ⟨tst, tep, tsq, ttm, tkd, tvs⟩ (.slice Va Vn Vc) := by subst hw1; subst hX; exact Wr.Six.made _ _ _
  have B1 := Hi (hB.grown G1.out)
  have HR := Hi (HR.out.grown G1.out)
  have HC := Hi HR.out.cr
  obtain ⟨⟨-, -, b2⟩, -⟩ := B1.out
  obtain ⟨⟨a0, a1, -⟩, -⟩ := S0
  dsimp only at a0 a1
  unfold Wr.tcells at hw1
  dsimp only at hw1
  clear hE hrow
  go_enter Tryz.func55, Tryz.ntmps55
  go_wp2_with fail
  rw [← hw1]
  simp only [← hX]
  have HX0 := Hi hX
  clear hw1 hX
  refine wp_region_held_drew (S := (fun wx : World => wx.cell? ⟨B, 2, none⟩ = some (.slice A n c) ∧ wx.cell? ⟨X, 0, none⟩ = some (.int .i64 tst))) (by kernel_rfl) ?_ (fun hHeld => ?_)
  · exact ⟨b2, a0⟩
  try simp only [Act.put, lsA, lsB, lsC]
  refine takeL (i := 0) (v := ?_) rfl (by kernel_rfl) (by kernel_rfl) (by kernel_rfl) (fun _ _ _ h => h) (Or.inl ⟨by rfl, ?_⟩) (by assumption) ?_
  rotate_left 1
  · intro w hSw; obtain ⟨s1, s2⟩ := hSw; first | (go_simp; done) | (go_simp; with_reducible rfl)
  try simp only [Act.put, lsA, lsB, lsC]
  refine takeL (i := 1) (v := ?_) rfl (by kernel_rfl) (by kernel_rfl) (by kernel_rfl) (fun _ _ _ h => h) (Or.inl ⟨by rfl, ?_⟩) (by assumption) ?_
  rotate_left 1
  · intro w hSw; obtain ⟨s1, s2⟩ := hSw; first | (go_simp; done) | (go_simp; with_reducible rfl)
  try simp only [Act.put, lsA, lsB, lsC]
  refine takeL (i := 2) (v := ?_) rfl (by kernel_rfl) (by kernel_rfl) (by kernel_rfl) (fun _ _ _ h => h) (Or.inl ⟨by rfl, ?_⟩) (by assumption) ?_
  rotate_left 1
  · intro w hSw; obtain ⟨s1, s2⟩ := hSw; first | (go_simp; done) | (go_simp; with_reducible rfl)
  try simp only [Act.put, lsA, lsB, lsC]
  refine takeL (i := 3) (v := ?_) rfl (by kernel_rfl) (by kernel_rfl) (by kernel_rfl) (fun _ _ _ h => h) (Or.inl ⟨by rfl, ?_⟩) (by assumption) ?_
  rotate_left 1
  · intro w hSw; obtain ⟨s1, s2⟩ := hSw; first | (go_simp; done) | (go_simp; with_reducible rfl)
  try simp only [Act.put, lsA, lsB, lsC]
  refine takeL (i := 4) (v := ?_) rfl (by kernel_rfl) (by kernel_rfl) (by kernel_rfl) (fun _ _ _ h => h) (Or.inl ⟨by rfl, ?_⟩) (by assumption) ?_
  rotate_left 1
  · intro w hSw; obtain ⟨s1, s2⟩ := hSw; first | (go_simp; done) | (go_simp; with_reducible rfl)
  try simp only [Act.put, lsA, lsB, lsC]
  refine takeL (i := 5) (v := ?_) rfl (by kernel_rfl) (by kernel_rfl) (by kernel_rfl) (fun _ _ _ h => h) (Or.inl ⟨by rfl, ?_⟩) (by assumption) ?_
  rotate_left 1
  · intro w hSw; obtain ⟨s1, s2⟩ := hSw; first | (go_simp; done) | (go_simp; with_reducible rfl)
  try simp only [Act.put, lsA, lsB, lsC]
  refine wpAnyH_ready (rs := [6]) (by kernel_rfl) (by simp) (consL rfl (fun K hK => ?_) AllReadyH.nil)
  go_simp
  refine (BS.out w1.drew (HC.out.grown (Wr.grown_drew w1 none))).mono ?_
  rintro e w2 ⟨⟨at_, fd, rfl, hbs⟩, hg2⟩
  try dsimp only
  refine hK.out _ _ ?_ (fun hHeld => ?_)
  · exact ⟨(grown_trans (Wr.grown_drew w1 none) hg2).cell b2 (by simp), (grown_trans (Wr.grown_drew w1 none) hg2).cell a0 (by simp)⟩
  clear hK K
  try simp only [Act.put, lsA, lsB, lsC]
  refine takeL (i := 7) (v := ?_) rfl (by kernel_rfl) (by kernel_rfl) (by kernel_rfl) (fun _ _ _ h => h) (Or.inl ⟨by rfl, ?_⟩) (by assumption) ?_
  rotate_left 1
  · intro w hSw; obtain ⟨s1, s2⟩ := hSw; first | (go_simp; done) | (go_simp; with_reducible rfl)
  try simp only [Act.put, lsA, lsB, lsC]
  refine takeL (i := 8) (v := ?_) rfl (by kernel_rfl) (by kernel_rfl) (by kernel_rfl) (fun _ _ _ h => h) (Or.inl ⟨by rfl, ?_⟩) (by assumption) ?_
  rotate_left 1
  · intro w hSw; obtain ⟨s1, s2⟩ := hSw; first | (go_simp; done) | (go_simp; with_reducible rfl)
  try simp only [Act.put, lsA, lsB, lsC]
  refine takeL (i := 9) (v := ?_) rfl (by kernel_rfl) (by kernel_rfl) (by kernel_rfl) (fun _ _ _ h => h) (Or.inl ⟨by rfl, ?_⟩) (by assumption) ?_
  rotate_left 1
  · intro w hSw; obtain ⟨s1, s2⟩ := hSw; first | (go_simp; done) | (go_simp; with_reducible rfl)
  try simp only [Act.put, lsA, lsB, lsC]
  refine takeL (i := 10) (v := ?_) rfl (by kernel_rfl) (by kernel_rfl) (by kernel_rfl) (fun _ _ _ h => h) (Or.inl ⟨by rfl, ?_⟩) (by assumption) ?_
  rotate_left 1
  · intro w hSw; obtain ⟨s1, s2⟩ := hSw; first | (go_simp; done) | (go_simp; with_reducible rfl)
  try simp only [Act.put, lsA, lsB, lsC]
  refine takeL (i := 11) (v := ?_) rfl (by kernel_rfl) (by kernel_rfl) (by kernel_rfl) (fun _ _ _ h => h) (Or.inl ⟨by rfl, ?_⟩) (by assumption) ?_
  rotate_left 1
  · intro w hSw; obtain ⟨s1, s2⟩ := hSw; first | (go_simp; done) | (go_simp; with_reducible rfl)
  try simp only [Act.put, lsA, lsB, lsC]
  refine wpAnyH_done (by kernel_rfl) ?_ _
  have G2 := Hi (grown_trans G1.out (grown_trans (Wr.grown_drew w1 none) hg2))
  have FD := Hi (show at_ ≤ n ∧ (∀ p, p < at_ → stAt (ys.map Prod.fst) p < tst) ∧ (∀ p, at_ ≤ p → p < n → tst ≤ stAt (ys.map Prod.fst) p) ∧ (fd = true ↔ at_ < n ∧ stAt (ys.map Prod.fst) at_ = tst) from by
    have le := hbs.le
    refine ⟨le, fun p hp => ?_, fun p hp hl => ?_, ?_⟩
    · rw [← key_st p (by omega)]; exact hbs.lo p hp
    · rw [← key_st p (by omega)]; exact hbs.hi p hp hl
    · rw [hbs.fd]
      constructor
      · rintro ⟨u, v⟩; exact ⟨u, by rw [← key_st at_ (by omega)]; exact v⟩
      · rintro ⟨u, v⟩; exact ⟨u, by rw [key_st at_ (by omega)]; exact v⟩)
  have GG := Hi (grown_trans (Wr.grown_drew w1 none) hg2)
  have a1 := GG.out.cell a1 (by simp)
  clear b2 a0
  obtain ⟨b2, a0⟩ := hHeld
  have B2 := Hi (B1.out.grown GG.out)
  have HR := Hi (HR.out.grown GG.out)
  clear hbs hg2 GG
  cases fd
  · have HN := Hi (show ∀ w ∈ ys.map Prod.fst, w.st ≠ tst from stAt_mem (fun p hp e => by
      rw [ML] at hp
      rcases Nat.lt_or_ge p at_ with h' | h'
      · have := FD.out.2.1 p h'; omega
      · rcases Nat.lt_or_ge at_ p with h'' | h''
        · have h3 := AK.out at_ p h'' (by omega)
          have h4 := FD.out.2.2.1 at_ (Nat.le_refl _) (by omega)
          omega
        · obtain rfl : p = at_ := by omega
          have := FD.out.2.2.2.2 ⟨by omega, e⟩
          cases this))
    by_cases hfull : n = 64
    · have hlt : ¬ (n : Int) < 64 := by omega
      have PA := Hi (fun win => put_absent (win := win) (full := decide ((ys.map Prod.fst).length = 64)) (t := ⟨tst, tep, tsq, ttm, tkd, tvs⟩) (s := ys.map Prod.fst) (i := at_) (by rw [ML]; have := FD.out.1; omega) FD.out.2.1 (fun p h1 h2 => by
        rw [ML] at h2
        have h3 := FD.out.2.2.1 p h1 (by omega)
        have h4 := HN.out ((ys.map Prod.fst).getD p ⟨0, 0, 0, []⟩) (by rw [List.getD_eq_getElem?_getD, List.getElem?_eq_getElem (by rw [ML]; exact h2), Option.getD_some]; exact List.getElem_mem _)
        have h5 : stAt (ys.map Prod.fst) p ≠ tst := h4
        show tst < _
        omega))
      go_wp2_with fail
      go_ret2
      refine .inl ⟨rfl, G2.out, fun win => ⟨?_, by omega, ent_none HN.out⟩⟩
      have := PA.out win
      rw [if_pos (by rw [ML]; simp; omega)] at this
      exact this
    · have hlt : (n : Int) < 64 := by omega
      go_wp2_with fail
      have G2 := Hi (grown_trans G2.out (Wr.grown_drew w2 none))
      have HR := Hi (HR.out.grown (Wr.grown_drew w2 none))
      have B2 := Hi (B2.out.grown (Wr.grown_drew w2 none))
      replace a0 : w2.drew.cell? ⟨X, 0, none⟩ = some (.int .i64 tst) := a0
      replace a1 : w2.drew.cell? ⟨X, 1, none⟩ = some (.int .i64 tep) := a1
      replace b2 : w2.drew.cell? ⟨B, 2, none⟩ = some (.slice A n c) := b2
      refine wp_region_held_drew (S := (fun wx : World => wx.cell? ⟨X, 0, none⟩ = some (.int .i64 tst) ∧ wx.cell? ⟨X, 1, none⟩ = some (.int .i64 tep))) (by kernel_rfl) ?_ (fun hHeld => ?_)
      · exact ⟨a0, a1⟩
      try simp only [Act.put, lsA, lsB, lsC]
      generalize w2.drew = wd at *
      refine takeL (i := 0) (v := ?_) rfl (by kernel_rfl) (by kernel_rfl) (by kernel_rfl) (fun _ _ _ h => h) (Or.inl ⟨by rfl, ?_⟩) (by assumption) ?_
      rotate_left 1
      · intro w hSw; obtain ⟨s0, s1⟩ := hSw; first | (go_simp; done) | (go_simp; with_reducible rfl)
      try simp only [Act.put, lsA, lsB, lsC]
      refine takeL (i := 1) (v := ?_) rfl (by kernel_rfl) (by kernel_rfl) (by kernel_rfl) (fun _ _ _ h => h) (Or.inl ⟨by rfl, ?_⟩) (by assumption) ?_
      rotate_left 1
      · intro w hSw; obtain ⟨s0, s1⟩ := hSw; first | (go_simp; done) | (go_simp; with_reducible rfl)
      try simp only [Act.put, lsA, lsB, lsC]
      refine takeL (i := 2) (v := ?_) rfl (by kernel_rfl) (by kernel_rfl) (by kernel_rfl) (fun _ _ _ h => h) (Or.inl ⟨by rfl, ?_⟩) (by assumption) ?_
      rotate_left 1
      · intro w hSw; obtain ⟨s0, s1⟩ := hSw; first | (go_simp; done) | (go_simp; with_reducible rfl)
      try simp only [Act.put, lsA, lsB, lsC]
      refine takeL (i := 3) (v := ?_) rfl (by kernel_rfl) (by kernel_rfl) (by kernel_rfl) (fun _ _ _ h => h) (Or.inl ⟨by rfl, ?_⟩) (by assumption) ?_
      rotate_left 1
      · intro w hSw; obtain ⟨s0, s1⟩ := hSw; first | (go_simp; done) | (go_simp; with_reducible rfl)
      try simp only [Act.put, lsA, lsB, lsC]
      refine takeL (i := 5) (v := ?_) rfl (by kernel_rfl) (by kernel_rfl) (by kernel_rfl) (fun _ _ _ h => h) (Or.inl ⟨by rfl, ?_⟩) (by assumption) ?_
      rotate_left 1
      · intro w hSw; obtain ⟨s0, s1⟩ := hSw; first | (go_simp; done) | (go_simp; with_reducible rfl)
      try simp only [Act.put, lsA, lsB, lsC]
      refine takeL (i := 6) (v := ?_) rfl (by kernel_rfl) (by kernel_rfl) (by kernel_rfl) (fun _ _ _ h => h) (Or.inl ⟨by rfl, ?_⟩) (by assumption) ?_
      rotate_left 1
      · intro w hSw; obtain ⟨s0, s1⟩ := hSw; first | (go_simp; done) | (go_simp; with_reducible rfl)
      try simp only [Act.put, lsA, lsB, lsC]
      refine takeL (i := 7) (v := ?_) rfl (by kernel_rfl) (by kernel_rfl) (by kernel_rfl) (fun _ _ _ h => h) (Or.inl ⟨by rfl, ?_⟩) (by assumption) ?_
      rotate_left 1
      · intro w hSw; obtain ⟨s0, s1⟩ := hSw; first | (go_simp; done) | (go_simp; with_reducible rfl)
      try simp only [Act.put, lsA, lsB, lsC]
      refine takeL (i := 8) (v := ?_) rfl (by kernel_rfl) (by kernel_rfl) (by kernel_rfl) (fun _ _ _ h => h) (Or.inl ⟨by rfl, ?_⟩) (by assumption) ?_
      rotate_left 1
      · intro w hSw; obtain ⟨s0, s1⟩ := hSw; first | (go_simp; done) | (go_simp; with_reducible rfl)
      try simp only [Act.put, lsA, lsB, lsC]
      refine takeL (i := 9) (v := ?_) rfl (by kernel_rfl) (by kernel_rfl) (by kernel_rfl) (fun _ _ _ h => h) (Or.inl ⟨by rfl, ?_⟩) (by assumption) ?_
      rotate_left 1
      · intro w hSw; obtain ⟨s0, s1⟩ := hSw; first | (go_simp; done) | (go_simp; with_reducible rfl)
      try simp only [Act.put, lsA, lsB, lsC]
      refine takeL (i := 10) (v := ?_) rfl (by kernel_rfl) (by kernel_rfl) (by kernel_rfl) (fun _ _ _ h => h) (Or.inl ⟨by rfl, ?_⟩) (by assumption) ?_
      rotate_left 1
      · intro w hSw; obtain ⟨s0, s1⟩ := hSw; first | (go_simp; done) | (go_simp; with_reducible rfl)
      try simp only [Act.put, lsA, lsB, lsC]
      have b2a : (wd.alloc (Obj.cells #[.int .i64 tst, .int .i64 tep, .int .i64 0, .slice none 0 0] 32)).cell? ⟨B, 2, none⟩ = some (.slice A n c) := (grown_alloc wd _ none).cell b2 (by simp)
      refine wpAnyH_ready (rs := [4, 11]) (by kernel_rfl) (by simp) (consL rfl (fun K hK => ?_) (consL rfl (fun K hK => ?_) AllReadyH.nil))
      · skip
        go_simp
        refine hK.out _ _ ?_ (fun hHeld => ?_)
        · exact ⟨a0, a1⟩
        clear hK K
        try simp only [Act.put, lsA, lsB, lsC]
        refine wpAnyH_ready (rs := [11]) (by kernel_rfl) (by simp) (consL rfl (fun K hK => ?_) AllReadyH.nil)
        go_simp
        refine hK.out _ _ ?_ (fun hHeld => ?_)
        · exact ⟨(grown_alloc _ _ none).cell a0 (by simp), (grown_alloc _ _ none).cell a1 (by simp)⟩
        clear hK K
        try simp only [Act.put, lsA, lsB, lsC]
        have GL : Hid (wd.grownBy (wd.alloc (Obj.cells #[.int .i64 tst, .int .i64 tep, .int .i64 0, .slice none 0 0] 32)) none) := grown_alloc wd _ none
        have LT : Hid (OR wd.heap.size (wd.alloc (Obj.cells #[.int .i64 tst, .int .i64 tep, .int .i64 0, .slice none 0 0] 32)) 32 4 ⟨some ⟨wd.heap.size, 0, none⟩, 1, 1⟩ (ecs ((Im.new ⟨tst, tep, tsq, ttm, tkd, tvs⟩, nilS) : EV))) := or_lit4 wd ((Im.new ⟨tst, tep, tsq, ttm, tkd, tvs⟩, nilS) : EV)
        have SZ := Hi (show wd.heap.size < (wd.alloc (Obj.cells #[.int .i64 tst, .int .i64 tep, .int .i64 0, .slice none 0 0] 32)).heap.size by simp)
        generalize wd.alloc (Obj.cells #[.int .i64 tst, .int .i64 tep, .int .i64 0, .slice none 0 0] 32) = wl at *
        have a0 := GL.out.cell a0 (by simp)
        have a1 := GL.out.cell a1 (by simp)
        have HL := Hi (HR.out.grown GL.out)
        have BL := Hi (B2.out.grown GL.out)
        have INS := Hi (ins_w base wd.heap.size ⟨A, n, c⟩ ⟨some ⟨wd.heap.size, 0, none⟩, 1, 1⟩ (f4 ys) (ecs ((Im.new ⟨tst, tep, tsq, ttm, tkd, tvs⟩, nilS) : EV)) at_ wl HL.out LT.out rfl (fun b hb hc => by have h1 := (HR.out.blk b hb).2; injection hc with hc; have hc : wd.heap.size = b := hc; omega) (by have h1 := G2.out.size; have h2 := GL.out.size; omega) FD.out.1 (by dsimp only; omega) (f4_one ys) (ecs_one _))
        dsimp only [Sl.v] at INS
        have HXb := Hi (fun (e : some X = Sl.blk ⟨A, n, c⟩) => by have h1 := EOH.out.rowin X e.symm; have h2 := EOH.out.new X h1; have h3 := HX0.out; exact (show False by omega))
        refine wpAnyH_ready (rs := [12]) (by kernel_rfl) (by simp) (consL rfl (fun K hK => ?_) AllReadyH.nil)
        go_simp
        refine INS.out.mono ?_
        rintro e w4 ⟨r, rfl, hrn, hr4, hg4, hrb⟩
        try dsimp only
        refine hK.out _ _ ?_ (fun hHeld => ?_)
        · exact ⟨hg4.cell a0 (fun e => HXb.out e), hg4.cell a1 (fun e => HXb.out e)⟩
        clear hK K
        try simp only [Act.put, lsA, lsB, lsC]
        have gr := Hi (Chg.of (L := (Sl.blk ⟨A, n, c⟩).toList) hg4 (fun b hb => by simpa using hb))
        have hBH : B ∉ (Sl.blk ⟨A, n, c⟩).toList := fun hm => hBE (by simpa using hm)
        have B4 := Hi (BL.out.step gr.out hBH)
        obtain ⟨⟨-, -, q2⟩, qf⟩ := B4.out
        have o2 := qf 2
        obtain ⟨ra, rn, rc⟩ := r
        have H4 := Hi hr4
        have RB := Hi hrb
        have RN := Hi hrn
        dsimp only [Sl.v]
        have hXB : X ≠ B := by have h1 := EOH.out.new B hBL; have h3 := HX0.out; omega
        clear hr4 hrb hrn INS qf
        refine takeL (i := 13) (v := ?_) rfl (by kernel_rfl) (by kernel_rfl) (by kernel_rfl) (fun _ _ _ h => h) (Or.inl ⟨by rfl, ?_⟩) (by assumption) ?_
        rotate_left 1
        · intro w hSw; obtain ⟨s0, s1⟩ := hSw; first | (go_simp; done) | (go_simp; with_reducible rfl)
        try simp only [Act.put, lsA, lsB, lsC]
        refine takeL (i := 14) (v := ?_) rfl (by kernel_rfl) (by kernel_rfl) (by kernel_rfl) (fun _ _ _ h => h) (Or.inl ⟨by rfl, ?_⟩) (by assumption) ?_
        rotate_left 1
        · intro w hSw; obtain ⟨s0, s1⟩ := hSw; first | (go_simp; done) | (go_simp; with_reducible rfl)
        try simp only [Act.put, lsA, lsB, lsC]
        refine wpAnyH_ready (rs := [15]) (by kernel_rfl) (by simp) (consL rfl (fun K hK => ?_) AllReadyH.nil)
        go_simp
        refine hK.out _ _ ?_ (fun hHeld => ?_)
        · exact ⟨(chg_set w4 B _ _).cell (hg4.cell a0 (fun e => HXb.out e)) (by simpa using hXB), (chg_set w4 B _ _).cell (hg4.cell a1 (fun e => HXb.out e)) (by simpa using hXB)⟩
        clear hK K
        try simp only [Act.put, lsA, lsB, lsC]
        refine wpAnyH_done (by kernel_rfl) ?_ _
        have PUT := Hi (en_put (r := ⟨ra, rn, rc⟩) (T := ⟨Ta, Tn, Tc⟩) (t := (⟨tst, tep, tsq, ttm, tkd, tvs⟩ : Tm.Tg)) (E := ⟨A, n, c⟩) EOH.out hBL hBE hBy hnl hbase (by omega) FD.out.1 FD.out.2.1 FD.out.2.2.1 FD.out.2.2.2 hs G2.out GL.out gr.out RB.out H4.out RN.out BL.out)
        obtain ⟨Es, hEs, hEsB⟩ := PUT.out.1
        dsimp only at hEs
        subst hEs
        have RN := RN.out
        dsimp only at RN
        subst RN
        have q2 := (Tri.set2 B4.out (.slice (some ⟨Es, 0, none⟩) (n + 1) rc)).1.2.2
        have hlt : at_ < n + 1 := by have := FD.out.1; omega
        go_wp2_with fail
        go_ret2
        exact .inr ⟨⟨some ⟨Es, 0, none⟩, n + 1, rc⟩, L ++ (Sl.blk ⟨some ⟨Es, 0, none⟩, n + 1, rc⟩).toList, ys.take at_ ++ ((Im.new (⟨tst, tep, tsq, ttm, tkd, tvs⟩ : Tm.Tg), nilS) : EV) :: ys.drop at_, at_, Es, Im.new (⟨tst, tep, tsq, ttm, tkd, tvs⟩ : Tm.Tg), nilS, rfl, rfl, hEsB, PUT.out.2.1, PUT.out.2.2.1, PUT.out.2.2.2.1, PUT.out.2.2.2.2.1, PUT.out.2.2.2.2.2.1, PUT.out.2.2.2.2.2.2.1, PUT.out.2.2.2.2.2.2.2.1, PUT.out.2.2.2.2.2.2.2.2.1, .inl rfl, PUT.out.2.2.2.2.2.2.2.2.2⟩
      · skip
        go_simp
        refine hK.out _ _ ?_ (fun hHeld => ?_)
        · exact ⟨(grown_alloc _ _ none).cell a0 (by simp), (grown_alloc _ _ none).cell a1 (by simp)⟩
        clear hK K
        try simp only [Act.put, lsA, lsB, lsC]
        refine wpAnyH_ready (rs := [4]) (by kernel_rfl) (by simp) (consL rfl (fun K hK => ?_) AllReadyH.nil)
        go_simp
        refine hK.out _ _ ?_ (fun hHeld => ?_)
        · exact ⟨(grown_alloc _ _ none).cell a0 (by simp), (grown_alloc _ _ none).cell a1 (by simp)⟩
        clear hK K
        try simp only [Act.put, lsA, lsB, lsC]
        have GL : Hid (wd.grownBy (wd.alloc (Obj.cells #[.int .i64 tst, .int .i64 tep, .int .i64 0, .slice none 0 0] 32)) none) := grown_alloc wd _ none
        have LT : Hid (OR wd.heap.size (wd.alloc (Obj.cells #[.int .i64 tst, .int .i64 tep, .int .i64 0, .slice none 0 0] 32)) 32 4 ⟨some ⟨wd.heap.size, 0, none⟩, 1, 1⟩ (ecs ((Im.new ⟨tst, tep, tsq, ttm, tkd, tvs⟩, nilS) : EV))) := or_lit4 wd ((Im.new ⟨tst, tep, tsq, ttm, tkd, tvs⟩, nilS) : EV)
        have SZ := Hi (show wd.heap.size < (wd.alloc (Obj.cells #[.int .i64 tst, .int .i64 tep, .int .i64 0, .slice none 0 0] 32)).heap.size by simp)
        generalize wd.alloc (Obj.cells #[.int .i64 tst, .int .i64 tep, .int .i64 0, .slice none 0 0] 32) = wl at *
        have a0 := GL.out.cell a0 (by simp)
        have a1 := GL.out.cell a1 (by simp)
        have HL := Hi (HR.out.grown GL.out)
        have BL := Hi (B2.out.grown GL.out)
        have INS := Hi (ins_w base wd.heap.size ⟨A, n, c⟩ ⟨some ⟨wd.heap.size, 0, none⟩, 1, 1⟩ (f4 ys) (ecs ((Im.new ⟨tst, tep, tsq, ttm, tkd, tvs⟩, nilS) : EV)) at_ wl HL.out LT.out rfl (fun b hb hc => by have h1 := (HR.out.blk b hb).2; injection hc with hc; have hc : wd.heap.size = b := hc; omega) (by have h1 := G2.out.size; have h2 := GL.out.size; omega) FD.out.1 (by dsimp only; omega) (f4_one ys) (ecs_one _))
        dsimp only [Sl.v] at INS
        have HXb := Hi (fun (e : some X = Sl.blk ⟨A, n, c⟩) => by have h1 := EOH.out.rowin X e.symm; have h2 := EOH.out.new X h1; have h3 := HX0.out; exact (show False by omega))
        refine wpAnyH_ready (rs := [12]) (by kernel_rfl) (by simp) (consL rfl (fun K hK => ?_) AllReadyH.nil)
        go_simp
        refine INS.out.mono ?_
        rintro e w4 ⟨r, rfl, hrn, hr4, hg4, hrb⟩
        try dsimp only
        refine hK.out _ _ ?_ (fun hHeld => ?_)
        · exact ⟨hg4.cell a0 (fun e => HXb.out e), hg4.cell a1 (fun e => HXb.out e)⟩
        clear hK K
        try simp only [Act.put, lsA, lsB, lsC]
        have gr := Hi (Chg.of (L := (Sl.blk ⟨A, n, c⟩).toList) hg4 (fun b hb => by simpa using hb))
        have hBH : B ∉ (Sl.blk ⟨A, n, c⟩).toList := fun hm => hBE (by simpa using hm)
        have B4 := Hi (BL.out.step gr.out hBH)
        obtain ⟨⟨-, -, q2⟩, qf⟩ := B4.out
        have o2 := qf 2
        obtain ⟨ra, rn, rc⟩ := r
        have H4 := Hi hr4
        have RB := Hi hrb
        have RN := Hi hrn
        dsimp only [Sl.v]
        have hXB : X ≠ B := by have h1 := EOH.out.new B hBL; have h3 := HX0.out; omega
        clear hr4 hrb hrn INS qf
        refine takeL (i := 13) (v := ?_) rfl (by kernel_rfl) (by kernel_rfl) (by kernel_rfl) (fun _ _ _ h => h) (Or.inl ⟨by rfl, ?_⟩) (by assumption) ?_
        rotate_left 1
        · intro w hSw; obtain ⟨s0, s1⟩ := hSw; first | (go_simp; done) | (go_simp; with_reducible rfl)
        try simp only [Act.put, lsA, lsB, lsC]
        refine takeL (i := 14) (v := ?_) rfl (by kernel_rfl) (by kernel_rfl) (by kernel_rfl) (fun _ _ _ h => h) (Or.inl ⟨by rfl, ?_⟩) (by assumption) ?_
        rotate_left 1
        · intro w hSw; obtain ⟨s0, s1⟩ := hSw; first | (go_simp; done) | (go_simp; with_reducible rfl)
        try simp only [Act.put, lsA, lsB, lsC]
        refine wpAnyH_ready (rs := [15]) (by kernel_rfl) (by simp) (consL rfl (fun K hK => ?_) AllReadyH.nil)
        go_simp
        refine hK.out _ _ ?_ (fun hHeld => ?_)
        · exact ⟨(chg_set w4 B _ _).cell (hg4.cell a0 (fun e => HXb.out e)) (by simpa using hXB), (chg_set w4 B _ _).cell (hg4.cell a1 (fun e => HXb.out e)) (by simpa using hXB)⟩
        clear hK K
        try simp only [Act.put, lsA, lsB, lsC]
        refine wpAnyH_done (by kernel_rfl) ?_ _
        have PUT := Hi (en_put (r := ⟨ra, rn, rc⟩) (T := ⟨Ta, Tn, Tc⟩) (t := (⟨tst, tep, tsq, ttm, tkd, tvs⟩ : Tm.Tg)) (E := ⟨A, n, c⟩) EOH.out hBL hBE hBy hnl hbase (by omega) FD.out.1 FD.out.2.1 FD.out.2.2.1 FD.out.2.2.2 hs G2.out GL.out gr.out RB.out H4.out RN.out BL.out)
        obtain ⟨Es, hEs, hEsB⟩ := PUT.out.1
        dsimp only at hEs
        subst hEs
        have RN := RN.out
        dsimp only at RN
        subst RN
        have q2 := (Tri.set2 B4.out (.slice (some ⟨Es, 0, none⟩) (n + 1) rc)).1.2.2
        have hlt : at_ < n + 1 := by have := FD.out.1; omega
        go_wp2_with fail
        go_ret2
        exact .inr ⟨⟨some ⟨Es, 0, none⟩, n + 1, rc⟩, L ++ (Sl.blk ⟨some ⟨Es, 0, none⟩, n + 1, rc⟩).toList, ys.take at_ ++ ((Im.new (⟨tst, tep, tsq, ttm, tkd, tvs⟩ : Tm.Tg), nilS) : EV) :: ys.drop at_, at_, Es, Im.new (⟨tst, tep, tsq, ttm, tkd, tvs⟩ : Tm.Tg), nilS, rfl, rfl, hEsB, PUT.out.2.1, PUT.out.2.2.1, PUT.out.2.2.2.1, PUT.out.2.2.2.2.1, PUT.out.2.2.2.2.2.1, PUT.out.2.2.2.2.2.2.1, PUT.out.2.2.2.2.2.2.2.1, PUT.out.2.2.2.2.2.2.2.2.1, .inl rfl, PUT.out.2.2.2.2.2.2.2.2.2⟩
  · have hfd := FD.out.2.2.2.1 rfl
    have hat : at_ < n := hfd.1
    obtain ⟨y, hyi⟩ : ∃ y, ys[at_]? = some y := ⟨_, List.getElem?_eq_getElem (by omega)⟩
    have hsi : (ys.map Prod.fst)[at_]? = some y.1 := by simp [hyi]
    have hst : y.1.st = tst := by rw [← hfd.2]; simp [stAt, List.getD, hsi]
    obtain ⟨Es, rfl, e1, e2⟩ : ∃ g, A = some ⟨g, 0, none⟩ ∧ base ≤ g ∧ g < w2.heap.size := by
      rcases HR.out.form with ⟨_, h0, _⟩ | h0
      · dsimp only at h0; omega
      · exact h0
    have PF := Hi (fun win => put_found (win := win) (full := decide ((ys.map Prod.fst).length = 64)) (t := ⟨tst, tep, tsq, ttm, tkd, tvs⟩) hsi hst FD.out.2.1)
    have HS := Hi hst
    have HY := Hi hyi
    clear hfd hyi hsi hst
    go_wp2_with fail
    go_ret2
    refine .inr ⟨⟨some ⟨Es, 0, none⟩, n, c⟩, L, ys, at_, Es, y.1, y.2, rfl, rfl, (fun e => hBE (by subst e; rfl)), HY.out, B2.out, EOH.out.grown G2.out, (fun b hb => hb), (fun b hb => .inl hb), Chg.of0 G2.out, PF.out, HS.out, .inr (List.mem_of_getElem? HY.out), (fun y hy => .inl hy), .inr ?_, fun b hb => .inl hb⟩
    have h1 : y.1 ∈ ys.map Prod.fst := List.mem_map.2 ⟨y, List.mem_of_getElem? HY.out, rfl⟩
    have := ent_some h1
    rw [HS.out] at this
    exact this
end Go.Proofs.YticmoaebegahgaaGreatDoor.Iw
