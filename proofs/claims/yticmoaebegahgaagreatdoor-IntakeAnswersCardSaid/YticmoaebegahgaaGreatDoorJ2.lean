import Derived.Test.YticmoaebegahgaaGreatDoorJ1
import Derived.Deep.AppendLies
import Derived.Laws.AppendOwnNone
import Derived.Lib.SliceRun
import Derived.Deep.RegionHeld3
set_option linter.all false
namespace Go.Proofs.YticmoaebegahgaaGreatDoor.Iw
open Go.ChangeShapes Go.WideShapes Go.ChangeAt Go.RowKit
open Wr (IR RB iv ivs bv bvs grown_trans grown_refl grown_alloc ret_int ret_bool tv Ret ret_mk)
def CR (w : World) (s : Sl) (us : List Value) : Prop := ∀ j u, us[j]? = some u → ∃ b off, s.a = some ⟨b, off, none⟩ ∧ w.cell? ⟨b, off + j, none⟩ = some u
theorem CR.grown {w w' : World} {s : Sl} {us : List Value} (h : CR w s us) (g : w.grownBy w' none) : CR w' s us := fun j u hu => by
  obtain ⟨b, off, e, hc⟩ := h j u hu
  exact ⟨b, off, e, g.cell hc (by simp)⟩
theorem CR.nil_ {w : World} {n c : Nat} {us : List Value} (h : CR w ⟨none, n, c⟩ us) : us = [] := by
  cases us with
  | nil => rfl
  | cons u r => obtain ⟨b, off, e, _⟩ := h 0 u rfl; cases e
theorem add_lit (b off j : Nat) : (⟨b, off, none⟩ : Addr).add j = ⟨b, off + j, none⟩ := by unfold Addr.add; split <;> simp_all
theorem CR.news {w : World} {b off n c : Nat} {us : List Value} (h : CR w ⟨some ⟨b, off, none⟩, n, c⟩ us) : ∀ j u, us[j]? = some u → w.cell? ((⟨b, off, none⟩ : Addr).add j) = some u := by
  intro j u hu
  obtain ⟨b', off', e, hc⟩ := h j u hu
  injection e with e
  injection e with e1 e2
  subst e1; subst e2
  rw [add_lit]; exact hc
structure OR (base : Nat) (w : World) (e : TypeId) (k : Nat) (s : Sl) (us : List Value) : Prop where
  own : w.ownsRow base e k s.v s.n us
theorem OR.fit {base : Nat} {w : World} {e : TypeId} {k : Nat} {s : Sl} {us : List Value} (h : OR base w e k s us) : s.fit := ⟨(own_caps h.own).1, (own_caps h.own).2.1⟩
theorem OR.len {base : Nat} {w : World} {e : TypeId} {k : Nat} {s : Sl} {us : List Value} (h : OR base w e k s us) : us.length = s.n * k := h.own.1
theorem OR.blk {base : Nat} {w : World} {e : TypeId} {k : Nat} {s : Sl} {us : List Value} (h : OR base w e k s us) : ∀ b, s.blk = some b → base ≤ b ∧ b < w.heap.size := by
  intro b hb
  refine h.own.lt b ?_
  unfold Sl.v
  unfold Sl.blk at hb
  cases ha : s.a with
  | none => rw [ha] at hb; cases hb
  | some a => rw [ha] at hb; exact hb
theorem blk_own {s : Sl} : s.v.ownBlock = s.blk := by
  unfold Sl.v Sl.blk
  cases s.a <;> rfl
theorem OR.chg {base : Nat} {w w' : World} {e : TypeId} {k : Nat} {s : Sl} {us : List Value} {L : List Nat} (h : OR base w e k s us) (g : Chg L w w') (hn : ∀ b, s.blk = some b → b ∉ L) : OR base w' e k s us :=
  ⟨g.row h.own (fun b hb => hn b (by rw [← blk_own]; exact hb))⟩
theorem OR.grown {base : Nat} {w w' : World} {e : TypeId} {k : Nat} {s : Sl} {us : List Value} (h : OR base w e k s us) (g : w.grownBy w' none) : OR base w' e k s us := h.chg (L := []) (Chg.of0 g) (fun _ _ hb => by cases hb)
theorem OR.base_ {base b' : Nat} {w : World} {e : TypeId} {k : Nat} {s : Sl} {us : List Value} (h : OR base w e k s us) (hb : b' ≤ base) : OR b' w e k s us := ⟨own_base h.own hb⟩
theorem OR.form {base : Nat} {w : World} {e : TypeId} {k : Nat} {s : Sl} {us : List Value} (h : OR base w e k s us) : (s.a = none ∧ s.n = 0 ∧ s.c = 0 ∧ us = []) ∨ ∃ g, s.a = some ⟨g, 0, none⟩ ∧ base ≤ g ∧ g < w.heap.size := by
  rcases h.own.2 with ⟨e1, hz⟩ | ⟨g, cap, cur, e1, hb, hg, _⟩
  · injection e1 with e1 e2 e3
    have hl := h.own.1
    rw [e2, Nat.zero_mul] at hl
    exact .inl ⟨e1, e2, e3, List.eq_nil_of_length_eq_zero hl⟩
  · injection e1 with e1 e2 e3
    exact .inr ⟨g, e1, hb, (Array.getElem?_eq_some_iff.1 hg).1⟩
theorem OR.cr {base : Nat} {w : World} {e : TypeId} {k : Nat} {s : Sl} {us : List Value} (h : OR base w e k s us) : CR w s us := by
  intro j u hu
  rcases h.form with ⟨_, _, _, rfl⟩ | ⟨g, hg, _, _⟩
  · simp at hu
  · refine ⟨g, 0, hg, ?_⟩
    have ho := h.own
    unfold Sl.v at ho
    rw [hg] at ho
    rw [Nat.zero_add]
    exact own_cell ho j u hu
theorem or_nil (base : Nat) (w : World) (e : TypeId) (k : Nat) : OR base w e k ⟨none, 0, 0⟩ [] := ⟨World.ownsRow_nil _ _ _ _⟩
def NewEnd (e : TypeId) (k : Nat) (us : List Value) (w : World) (en : Ending) (w' : World) : Prop := ∃ r : Sl, en = .returned r.v ∧ OR w.heap.size w' e k r us ∧ w.grownBy w' none
section
variable {P : Program}
theorem wpList_fresh {w : World} {ops : Array Oper} {rest : List Oper} {o : Oper} {a : Act} {Q : Exit → Act → World → Prop} (hgd : o.guard = none) (s x : Operand) (t : TypeId)
    (ho : o.op = .call { callee := .builtin .append, args := #[s, x], argTypes := #[t, t] }) {e : TypeId} {i : TypeInfo} {z : Value} {k bytes m c g : Nat} {ad : Addr} {us : List Value}
    (ht : P.underlying t = some (.slice e)) (hi : P.info? e = some i) (hz : i.zero = some z) (hsz : i.size = k) (hby : i.bytes = bytes) (hzs : z.cells.size = k) (hk : 0 < k)
    (hs : a.eval s = .slice (some ⟨g, 0, none⟩) 0 0) (hx : a.eval x = .slice (some ad) m c) {W : World} (hW : w = W.alloc (.cells #[] e)) (hg : g = W.heap.size) (hl : us.length = m * k) (hu : ∀ j u, us[j]? = some u → w.cell? (ad.add j) = some u) (h1 : ∀ u ∈ us, u.oneCell' = true)
    (h63 : m ≤ 9223372036854775807) (hb : m * bytes ≤ 140737488355328)
    (hq : ∀ (r : Sl) (w' : World), r.n = m → OR W.heap.size w' e k r us → W.grownBy w' none → wpList P ops Q rest (a.put o.dst r.v) w') : wpList P ops Q (o :: rest) a w := by
  refine wpList_plain hgd fun K hK => ?_
  subst hW; subst hg
  have hown : (W.alloc (.cells #[] e)).ownsRow W.heap.size e k (.slice (some ⟨W.heap.size, 0, none⟩) 0 0) 0 [] := by
    have := World.ownsRow_lit (base := W.heap.size) (e := e) (size := k) W #[] 0 (Nat.le_refl _) (by unfold maxLen; omega) (by simp)
    simpa using this
  obtain ⟨v', w', hr, hown', hgr, _, _⟩ := run_append_own_at (P := P) (W.alloc (.cells #[] e)) W.heap.size t o.type e i z k bytes ht hi hz hsz hby hzs hk _ 0 [] hown ad m c us hl hu h1 (by unfold maxLen; omega) (by rw [Nat.zero_add]; exact hb) (by simp)
  have hv : ∃ r : Sl, v' = r.v ∧ r.n = m := by
    rcases hown'.2 with ⟨e1, e2⟩ | ⟨g, cap, cur, e1, _⟩
    · exact ⟨⟨none, 0, 0⟩, e1, by simp at e2; exact e2.symm⟩
    · exact ⟨⟨some ⟨g, 0, none⟩, m, cap⟩, by rw [e1, Nat.zero_add]; rfl, rfl⟩
  obtain ⟨r, rfl, hn⟩ := hv
  unfold Oper.wp execOp
  simp only [ho, resolve, invoke, builtin, Sem.run_bind, Sem.run_pure, Result.andThen_ok, List.map_toArray, List.map_cons, List.map_nil, hs, hx, hr]
  refine hK _ _ (hq r w' hn ⟨by rw [hn]; rw [Nat.zero_add, List.nil_append] at hown'; exact hown'⟩ ?_)
  exact Wr.grown_row (grown_alloc W _ none) hgr (fun b hb => by simp [Value.ownBlock] at hb; omega)
end
theorem info_i : (Tryz.prog.info? 3).map (fun i => (i.zero, i.size, i.bytes)) = some (some (.int .i64 0), 1, 8) := by kernel_rfl
theorem parts_i : ∃ i, Tryz.prog.info? 3 = some i ∧ i.zero = some (.int .i64 0) ∧ i.size = 1 ∧ i.bytes = 8 := by
  obtain ⟨i, hi, hz⟩ := Option.map_eq_some_iff.1 info_i
  simp only [Prod.mk.injEq] at hz
  exact ⟨i, hi, hz.1, hz.2.1, hz.2.2⟩
theorem clone_i (s : Sl) (us : List Value) (w : World) (h : CR w s us) (hl : us.length = s.n * 1) (h1 : ∀ u ∈ us, u.oneCell' = true) (hb : s.n * 8 ≤ 140737488355328) :
    Calls Tryz.prog 58 #[s.v] w (NewEnd 3 1 us w) := by
  obtain ⟨a, n, c⟩ := s
  dsimp only at hl hb
  obtain ⟨i, hi, hz, hs, hby⟩ := parts_i
  cases a with
  | none =>
    obtain rfl := h.nil_
    clear hl h
    show Calls Tryz.prog 58 #[.slice none n c] w _
    have hnil := Lib.run_eql_slice_nil (P := Tryz.prog) w 26 3 none n c 0 0 Tryz.underlying26
    go_enter Tryz.func58, Tryz.ntmps58
    go_wp2_with (simp only [hnil])
    go_ret
    exact ⟨⟨none, 0, 0⟩, rfl, or_nil _ _ _ _, grown_refl _ _⟩
  | some ad =>
    have hu := Hi (fun (W : World) (hW : CR W ⟨some ad, n, c⟩ us) => hW)
    have H := Hi h
    have L := Hi hl
    have O := Hi h1
    clear h hl h1
    show Calls Tryz.prog 58 #[.slice (some ad) n c] w _
    have hnil := Lib.run_eql_slice_nil (P := Tryz.prog) w 26 3 (some ad) n c 0 0 Tryz.underlying26
    go_enter Tryz.func58, Tryz.ntmps58
    go_wp2_with (first
      | (simp only [hnil])
      | (at_builtin
         refine wpList_fresh rfl _ _ 26 rfl (us := us) Tryz.underlying26 hi hz hs hby (by rfl) (by omega) rfl rfl rfl rfl L.out (fun j u hj => ?_) O.out (by omega) hb ?_
         · obtain ⟨b, off, e1, hc⟩ := (H.out.grown (grown_alloc w _ none)) j u hj
           cases e1
           rw [add_lit]; exact hc
         intro r w1 hn hr hg)
      | fail)
    have hr := Hi hr
    have hg := Hi hg
    go_wp2
    go_ret
    exact ⟨r, rfl, hr.out, hg.out⟩
theorem info_t : (Tryz.prog.info? 28).map (fun i => (i.zero, i.size, i.bytes)) = some (some (.agg #[.int .i64 0, .int .i64 0, .int .i64 0, .int .i64 0, .int .i64 0, .slice none 0 0]), 6, 64) := by kernel_rfl
theorem parts_t : ∃ i, Tryz.prog.info? 28 = some i ∧ i.zero = some (.agg #[.int .i64 0, .int .i64 0, .int .i64 0, .int .i64 0, .int .i64 0, .slice none 0 0]) ∧ i.size = 6 ∧ i.bytes = 64 := by
  obtain ⟨i, hi, hz⟩ := Option.map_eq_some_iff.1 info_t
  simp only [Prod.mk.injEq] at hz
  exact ⟨i, hi, hz.1, hz.2.1, hz.2.2⟩
theorem clone_t (s : Sl) (us : List Value) (w : World) (h : CR w s us) (hl : us.length = s.n * 6) (h1 : ∀ u ∈ us, u.oneCell' = true) (hb : s.n * 64 ≤ 140737488355328) :
    Calls Tryz.prog 70 #[s.v] w (NewEnd 28 6 us w) := by
  obtain ⟨a, n, c⟩ := s
  dsimp only at hl hb
  obtain ⟨i, hi, hz, hs, hby⟩ := parts_t
  cases a with
  | none =>
    obtain rfl := h.nil_
    clear hl h
    show Calls Tryz.prog 70 #[.slice none n c] w _
    have hnil := Lib.run_eql_slice_nil (P := Tryz.prog) w 30 28 none n c 0 0 Tryz.underlying30
    go_enter Tryz.func70, Tryz.ntmps70
    go_wp2_with (simp only [hnil])
    go_ret
    exact ⟨⟨none, 0, 0⟩, rfl, or_nil _ _ _ _, grown_refl _ _⟩
  | some ad =>
    have hu := Hi (fun (W : World) (hW : CR W ⟨some ad, n, c⟩ us) => hW)
    have H := Hi h
    have L := Hi hl
    have O := Hi h1
    clear h hl h1
    show Calls Tryz.prog 70 #[.slice (some ad) n c] w _
    have hnil := Lib.run_eql_slice_nil (P := Tryz.prog) w 30 28 (some ad) n c 0 0 Tryz.underlying30
    go_enter Tryz.func70, Tryz.ntmps70
    go_wp2_with (first
      | (simp only [hnil])
      | (at_builtin
         refine wpList_fresh rfl _ _ 30 rfl (us := us) Tryz.underlying30 hi hz hs hby (by rfl) (by omega) rfl rfl rfl rfl L.out (fun j u hj => ?_) O.out (by omega) hb ?_
         · obtain ⟨b, off, e1, hc⟩ := (H.out.grown (grown_alloc w _ none)) j u hj
           cases e1
           rw [add_lit]; exact hc
         intro r w1 hn hr hg)
      | fail)
    have hr := Hi hr
    have hg := Hi hg
    go_wp2
    go_ret
    exact ⟨r, rfl, hr.out, hg.out⟩
theorem info_w : (Tryz.prog.info? 32).map (fun i => (i.zero, i.size, i.bytes)) = some (some (.agg #[.int .i64 0, .int .i64 0, .int .i64 0, .slice none 0 0]), 4, 48) := by kernel_rfl
theorem parts_w : ∃ i, Tryz.prog.info? 32 = some i ∧ i.zero = some (.agg #[.int .i64 0, .int .i64 0, .int .i64 0, .slice none 0 0]) ∧ i.size = 4 ∧ i.bytes = 48 := by
  obtain ⟨i, hi, hz⟩ := Option.map_eq_some_iff.1 info_w
  simp only [Prod.mk.injEq] at hz
  exact ⟨i, hi, hz.1, hz.2.1, hz.2.2⟩
theorem clone_w (s : Sl) (us : List Value) (w : World) (h : CR w s us) (hl : us.length = s.n * 4) (h1 : ∀ u ∈ us, u.oneCell' = true) (hb : s.n * 48 ≤ 140737488355328) :
    Calls Tryz.prog 49 #[s.v] w (NewEnd 32 4 us w) := by
  obtain ⟨a, n, c⟩ := s
  dsimp only at hl hb
  obtain ⟨i, hi, hz, hs, hby⟩ := parts_w
  cases a with
  | none =>
    obtain rfl := h.nil_
    clear hl h
    show Calls Tryz.prog 49 #[.slice none n c] w _
    have hnil := Lib.run_eql_slice_nil (P := Tryz.prog) w 23 32 none n c 0 0 Tryz.underlying23
    go_enter Tryz.func49, Tryz.ntmps49
    go_wp2_with (simp only [hnil])
    go_ret
    exact ⟨⟨none, 0, 0⟩, rfl, or_nil _ _ _ _, grown_refl _ _⟩
  | some ad =>
    have hu := Hi (fun (W : World) (hW : CR W ⟨some ad, n, c⟩ us) => hW)
    have H := Hi h
    have L := Hi hl
    have O := Hi h1
    clear h hl h1
    show Calls Tryz.prog 49 #[.slice (some ad) n c] w _
    have hnil := Lib.run_eql_slice_nil (P := Tryz.prog) w 23 32 (some ad) n c 0 0 Tryz.underlying23
    go_enter Tryz.func49, Tryz.ntmps49
    go_wp2_with (first
      | (simp only [hnil])
      | (at_builtin
         refine wpList_fresh rfl _ _ 23 rfl (us := us) Tryz.underlying23 hi hz hs hby (by rfl) (by omega) rfl rfl rfl rfl L.out (fun j u hj => ?_) O.out (by omega) hb ?_
         · obtain ⟨b, off, e1, hc⟩ := (H.out.grown (grown_alloc w _ none)) j u hj
           cases e1
           rw [add_lit]; exact hc
         intro r w1 hn hr hg)
      | fail)
    have hr := Hi hr
    have hg := Hi hg
    go_wp2
    go_ret
    exact ⟨r, rfl, hr.out, hg.out⟩
theorem info_b : (Tryz.prog.info? 5).map (fun i => (i.zero, i.size, i.bytes)) = some (some (.int .u8 0), 1, 1) := by kernel_rfl
theorem parts_b : ∃ i, Tryz.prog.info? 5 = some i ∧ i.zero = some (.int .u8 0) ∧ i.size = 1 ∧ i.bytes = 1 := by
  obtain ⟨i, hi, hz⟩ := Option.map_eq_some_iff.1 info_b
  simp only [Prod.mk.injEq] at hz
  exact ⟨i, hi, hz.1, hz.2.1, hz.2.2⟩
theorem clone_b (s : Sl) (us : List Value) (w : World) (h : CR w s us) (hl : us.length = s.n * 1) (h1 : ∀ u ∈ us, u.oneCell' = true) (hb : s.n * 1 ≤ 140737488355328) :
    Calls Tryz.prog 27 #[s.v] w (NewEnd 5 1 us w) := by
  obtain ⟨a, n, c⟩ := s
  dsimp only at hl hb
  obtain ⟨i, hi, hz, hs, hby⟩ := parts_b
  cases a with
  | none =>
    obtain rfl := h.nil_
    clear hl h
    show Calls Tryz.prog 27 #[.slice none n c] w _
    have hnil := Lib.run_eql_slice_nil (P := Tryz.prog) w 22 5 none n c 0 0 Tryz.underlying22
    go_enter Tryz.func27, Tryz.ntmps27
    go_wp2_with (simp only [hnil])
    go_ret
    exact ⟨⟨none, 0, 0⟩, rfl, or_nil _ _ _ _, grown_refl _ _⟩
  | some ad =>
    have hu := Hi (fun (W : World) (hW : CR W ⟨some ad, n, c⟩ us) => hW)
    have H := Hi h
    have L := Hi hl
    have O := Hi h1
    clear h hl h1
    show Calls Tryz.prog 27 #[.slice (some ad) n c] w _
    have hnil := Lib.run_eql_slice_nil (P := Tryz.prog) w 22 5 (some ad) n c 0 0 Tryz.underlying22
    go_enter Tryz.func27, Tryz.ntmps27
    go_wp2_with (first
      | (simp only [hnil])
      | (at_builtin
         refine wpList_fresh rfl _ _ 22 rfl (us := us) Tryz.underlying22 hi hz hs hby (by rfl) (by omega) rfl rfl rfl rfl L.out (fun j u hj => ?_) O.out (by omega) hb ?_
         · obtain ⟨b, off, e1, hc⟩ := (H.out.grown (grown_alloc w _ none)) j u hj
           cases e1
           rw [add_lit]; exact hc
         intro r w1 hn hr hg)
      | fail)
    have hr := Hi hr
    have hg := Hi hg
    go_wp2
    go_ret
    exact ⟨r, rfl, hr.out, hg.out⟩
end Go.Proofs.YticmoaebegahgaaGreatDoor.Iw
namespace Go.Proofs.YticmoaebegahgaaGreatDoor.Iw
open Go.ChangeShapes Go.WideShapes Go.ChangeAt Go.RowKit
open Wr (IR RB iv ivs bv bvs grown_trans grown_refl grown_alloc ret_int ret_bool tv Ret ret_mk)
theorem f6_len (xs : List TV) : (f6 xs).length = xs.length * 6 := flat_len tcs_len xs
theorem f4_len (xs : List EV) : (f4 xs).length = xs.length * 4 := flat_len ecs_len xs
theorem f6_one (xs : List TV) : ∀ v ∈ f6 xs, v.oneCell' = true := flat_one tcs_one xs
theorem f4_one (xs : List EV) : ∀ v ∈ f4 xs, v.oneCell' = true := flat_one ecs_one xs
theorem CR.pre {w : World} {s : Sl} {a b : List Value} (ha : CR w s a) (hb : ∀ j u, b[j]? = some u → ∃ b' off, s.a = some ⟨b', off, none⟩ ∧ w.cell? ⟨b', off + (a.length + j), none⟩ = some u) : CR w s (a ++ b) := by
  intro j u hu
  rcases Nat.lt_or_ge j a.length with hj | hj
  · rw [List.getElem?_append_left hj] at hu; exact ha j u hu
  · rw [List.getElem?_append_right hj] at hu
    obtain ⟨b', off, e, hc⟩ := hb _ u hu
    exact ⟨b', off, e, by rw [show a.length + (j - a.length) = j by omega] at hc; exact hc⟩
theorem TR.list {w : World} {s : Sl} {ts : List Tm.Tg} (h : TR w s ts) : ∃ xs : List TV, xs.map Prod.fst = ts ∧ CR w s (f6 xs) ∧ ∀ x ∈ xs, VI w [] x.2 x.1.vs := by
  have hl := h.len
  have key : ∀ m, m ≤ s.n → ∃ xs : List TV, xs.map Prod.fst = ts.take m ∧ CR w s (f6 xs) ∧ ∀ x ∈ xs, VI w [] x.2 x.1.vs := by
    intro m
    induction m with
    | zero => intro _; exact ⟨[], rfl, (fun j u hu => by simp [f6] at hu), (fun x hx => by cases hx)⟩
    | succ m ih =>
      intro hm
      obtain ⟨xs, h1, h2, h3⟩ := ih (by omega)
      obtain ⟨b, off, V, e, hv, hc⟩ := h.at_ m (by omega)
      have hx : xs.length = m := by have := congrArg List.length h1; rw [List.length_map, List.length_take] at this; omega
      have e2 : ts.take (m + 1) = ts.take m ++ [ts.getD m Tm.zero] := by
        rw [List.take_add_one, List.getElem?_eq_getElem (by omega)]; simp [List.getD, List.getElem?_eq_getElem (show m < ts.length by omega)]
      refine ⟨xs ++ [(ts.getD m Tm.zero, V)], by rw [List.map_append, h1, e2]; rfl, ?_, ?_⟩
      · rw [f6, flat_app]
        refine CR.pre h2 (fun j u hu => ⟨b, off, e, ?_⟩)
        have : (f6 xs).length = m * 6 := by rw [f6_len, hx]
        rw [show (xs.flatMap tcs).length = m * 6 from this]
        exact hc j u (by simpa using hu)
      · intro x hx
        rcases List.mem_append.1 hx with hx | hx
        · exact h3 x hx
        · rw [List.mem_singleton] at hx; subst hx; exact hv
  obtain ⟨xs, h1, h2, h3⟩ := key s.n (Nat.le_refl _)
  exact ⟨xs, by rw [h1, List.take_of_length_le (by omega)], h2, h3⟩
theorem TR.of {w : World} {s : Sl} {xs : List TV} (hf : s.fit) (hl : xs.length = s.n) (hc : CR w s (f6 xs)) (hv : ∀ x ∈ xs, VI w [] x.2 x.1.vs) : TR w s (xs.map Prod.fst) := by
  refine ⟨hf, by rw [List.length_map, hl], fun i hi => ?_⟩
  have hx : xs[i]? = some xs[i] := List.getElem?_eq_getElem (by omega)
  have hg : (xs.map Prod.fst).getD i Tm.zero = xs[i].1 := by simp [List.getD, hx]
  obtain ⟨b, off, e, _⟩ := hc (i * 6 + 0) _ (by rw [f6, flat_get tcs_len xs i 0 (by omega) _ hx]; rfl)
  refine ⟨b, off, xs[i].2, e, by rw [hg]; exact hv _ (List.getElem_mem _), fun j u hu => ?_⟩
  rw [hg] at hu
  have hj : j < 6 := by
    rcases Nat.lt_or_ge j 6 with k | k
    · exact k
    · rw [List.getElem?_eq_none (by exact k)] at hu; cases hu
  obtain ⟨b', off', e', hc'⟩ := hc (i * 6 + j) u (by rw [f6, flat_get tcs_len xs i j hj _ hx]; exact hu)
  rw [e] at e'
  injection e' with e'
  injection e' with e1 e2
  subst e1; subst e2
  exact hc'
theorem ER.list {w : World} {s : Sl} {es : List Im.Wt} (h : ER w s es) : ∃ ys : List EV, ys.map Prod.fst = es ∧ CR w s (f4 ys) ∧ ∀ y ∈ ys, TR w y.2 y.1.held := by
  have hl := h.len
  have key : ∀ m, m ≤ s.n → ∃ ys : List EV, ys.map Prod.fst = es.take m ∧ CR w s (f4 ys) ∧ ∀ y ∈ ys, TR w y.2 y.1.held := by
    intro m
    induction m with
    | zero => intro _; exact ⟨[], rfl, (fun j u hu => by simp [f4] at hu), (fun x hx => by cases hx)⟩
    | succ m ih =>
      intro hm
      obtain ⟨xs, h1, h2, h3⟩ := ih (by omega)
      obtain ⟨b, off, V, e, hv, hc⟩ := h.at_ m (by omega)
      have hx : xs.length = m := by have := congrArg List.length h1; rw [List.length_map, List.length_take] at this; omega
      have e2 : es.take (m + 1) = es.take m ++ [es.getD m ⟨0, 0, 0, []⟩] := by
        rw [List.take_add_one, List.getElem?_eq_getElem (by omega)]; simp [List.getD, List.getElem?_eq_getElem (show m < es.length by omega)]
      refine ⟨xs ++ [(es.getD m ⟨0, 0, 0, []⟩, V)], by rw [List.map_append, h1, e2]; rfl, ?_, ?_⟩
      · rw [f4, flat_app]
        refine CR.pre h2 (fun j u hu => ⟨b, off, e, ?_⟩)
        have : (f4 xs).length = m * 4 := by rw [f4_len, hx]
        rw [show (xs.flatMap ecs).length = m * 4 from this]
        exact hc j u (by simpa using hu)
      · intro x hx
        rcases List.mem_append.1 hx with hx | hx
        · exact h3 x hx
        · rw [List.mem_singleton] at hx; subst hx; exact hv
  obtain ⟨xs, h1, h2, h3⟩ := key s.n (Nat.le_refl _)
  exact ⟨xs, by rw [h1, List.take_of_length_le (by omega)], h2, h3⟩
theorem ER.of {w : World} {s : Sl} {ys : List EV} (hf : s.fit) (hl : ys.length = s.n) (hc : CR w s (f4 ys)) (hv : ∀ y ∈ ys, TR w y.2 y.1.held) : ER w s (ys.map Prod.fst) := by
  refine ⟨hf, by rw [List.length_map, hl], fun i hi => ?_⟩
  have hx : ys[i]? = some ys[i] := List.getElem?_eq_getElem (by omega)
  have hg : (ys.map Prod.fst).getD i ⟨0, 0, 0, []⟩ = ys[i].1 := by simp [List.getD, hx]
  obtain ⟨b, off, e, _⟩ := hc (i * 4 + 0) _ (by rw [f4, flat_get ecs_len ys i 0 (by omega) _ hx]; rfl)
  refine ⟨b, off, ys[i].2, e, by rw [hg]; exact hv _ (List.getElem_mem _), fun j u hu => ?_⟩
  rw [hg] at hu
  have hj : j < 4 := by
    rcases Nat.lt_or_ge j 4 with k | k
    · exact k
    · rw [List.getElem?_eq_none (by exact k)] at hu; cases hu
  obtain ⟨b', off', e', hc'⟩ := hc (i * 4 + j) u (by rw [f4, flat_get ecs_len ys i j hj _ hx]; exact hu)
  rw [e] at e'
  injection e' with e'
  injection e' with e1 e2
  subst e1; subst e2
  exact hc'
theorem CR.ofIR {w : World} {s : Sl} {vs : List Int} (h : IR w s.a s.n vs) : CR w s (ivs vs) := by
  intro j u hu
  have hj : j < s.n := by
    rw [← h.1, ← Wr.ivs_len vs]
    rcases Nat.lt_or_ge j (ivs vs).length with k | k
    · exact k
    · rw [List.getElem?_eq_none k] at hu; cases hu
  obtain ⟨b, off, e, hc⟩ := h.2 j hj
  refine ⟨b, off, e, ?_⟩
  rw [hc, ← hu, Wr.ivs_get vs j (by rw [h.1]; exact hj)]; rfl
theorem IR.ofCR {w : World} {s : Sl} {vs : List Int} (h : CR w s (ivs vs)) (hl : vs.length = s.n) : IR w s.a s.n vs := by
  refine ⟨hl, fun i hi => ?_⟩
  obtain ⟨b, off, e, hc⟩ := h i _ (Wr.ivs_get vs i (by omega))
  exact ⟨b, off, e, hc⟩
theorem OR.elem {base : Nat} {w : World} {e : TypeId} {k g n c : Nat} {α : Type} {f : α → List Value} {xs : List α} (hf : ∀ x, (f x).length = k) (h : OR base w e k ⟨some ⟨g, 0, none⟩, n, c⟩ (xs.flatMap f)) {i : Nat} {x : α} (hx : xs[i]? = some x) :
    ∀ j u, (f x)[j]? = some u → w.cell? ⟨g, i * k + j, none⟩ = some u := by
  intro j u hu
  have hj : j < k := by
    rw [← hf x]
    rcases Nat.lt_or_ge j (f x).length with h' | h'
    · exact h'
    · rw [List.getElem?_eq_none h'] at hu; cases hu
  exact own_cell h.own (i * k + j) u (by rw [flat_get hf xs i j hj x hx]; exact hu)
theorem OR.open_ {base : Nat} {w : World} {e : TypeId} {k g n c : Nat} {us : List Value} (h : OR base w e k ⟨some ⟨g, 0, none⟩, n, c⟩ us) (j : Nat) : w.frozen? ⟨g, j, none⟩ = false := h.own.frozenAt j
theorem OR.put {base : Nat} {w : World} {e : TypeId} {k g n c : Nat} {α : Type} {f : α → List Value} {xs : List α} (hf : ∀ x, (f x).length = k) (h : OR base w e k ⟨some ⟨g, 0, none⟩, n, c⟩ (xs.flatMap f)) {i : Nat} (hi : i < xs.length) (y : α) :
    OR base (w.setCells g (i * k) (f y)) e k ⟨some ⟨g, 0, none⟩, n, c⟩ ((xs.set i y).flatMap f) ∧ w.grownBy (w.setCells g (i * k) (f y)) (some g) := by
  have hl := h.len
  rw [flat_len hf] at hl
  have hle : i * k + k ≤ xs.length * k := by rw [← Nat.succ_mul]; exact Nat.mul_le_mul_right _ hi
  obtain ⟨h1, h2⟩ := own_set (f y) (i * k) h.own (by rw [hf]; dsimp only at hl ⊢; omega)
  refine ⟨⟨?_⟩, h2⟩
  have e1 : (xs.set i y).flatMap f = (xs.flatMap f).take (i * k) ++ (f y ++ (xs.flatMap f).drop (i * k + (f y).length)) := by
    rw [hf, flat_take hf, ← Nat.succ_mul, flat_drop hf, List.set_eq_take_append_cons_drop, if_pos hi, flat_app, List.flatMap_cons]
  rw [e1]; exact h1
theorem results_cell {fn : Func} {p : Tmp} {ty : TypeId} (h : fn.results = #[.cell p ty]) (tmps : Array Value) (P : Program) (w : World) :
    (results fn tmps).run P w = ((asAddr (tmps.getD p undef)).run P w).andThen fun a w₁ => (loadVar ty a).run P w₁ := by
  simp only [results, h]
  simp [Sem.run_bind, Result.andThen]
def CtEnd (t : Tm.Tg) (w : World) (e : Ending) (w' : World) : Prop := ∃ V : Sl, e = .returned (tv t V.v) ∧ VI w' [] V t.vs ∧ (∀ b, V.blk = some b → w.heap.size ≤ b) ∧ w.grownBy w' none
theorem VI.ofOR {base : Nat} {w : World} {V : Sl} {vs : List Int} (h : OR base w 3 1 V (ivs vs)) (hn : V.n ≤ 17592186044416) : VI w [] V vs :=
  ⟨h.fit, hn, IR.ofCR h.cr (by have := h.len; rw [Wr.ivs_len] at this; omega), fun _ _ _ h => by cases h⟩
theorem cttel_any (t : Tm.Tg) (V : Sl) (w : World) (h : VI w [] V t.vs) :
    Calls Tryz.prog 35 #[tv t V.v] w (CtEnd t w) := by
  have hb := h.big
  have hl := h.ir.1
  have C := Hi (fun (W : World) (hW : VI W [] V t.vs) => clone_i V (ivs t.vs) W (CR.ofIR hW.ir) (by rw [Wr.ivs_len]; omega) (Wr.ivs_one _) (by omega))
  have HV := Hi h
  clear h
  obtain ⟨a, n, c⟩ := V
  obtain ⟨s, ep, q, tm, kd, vs⟩ := t
  dsimp only [tv, Sl.v] at *
  obtain ⟨w1, hw1⟩ : ∃ w1, w1 = w.alloc (Wr.tcells ⟨s, ep, q, tm, kd, vs⟩ (.slice a n c)) := ⟨_, rfl⟩
  obtain ⟨w2, hw2⟩ : ∃ w2, w2 = w1.alloc (Wr.tcells Tm.zero (.slice none 0 0)) := ⟨_, rfl⟩
  have X1 : w1.heap.size = w.heap.size + 1 := by subst hw1; simp
  have S1 : Wr.Six w2 w.heap.size ⟨s, ep, q, tm, kd, vs⟩ (.slice a n c) := by subst hw2; subst hw1; exact (Wr.Six.made _ _ _).grown (grown_alloc _ _ none) (by simp)
  have S2 : Wr.Six w2 (w.heap.size + 1) Tm.zero (.slice none 0 0) := by subst hw2; rw [← X1]; exact Wr.Six.made _ _ _
  have G := Hi (show w.grownBy w2 none by subst hw2; subst hw1; exact grown_trans (grown_alloc _ _ _) (grown_alloc _ _ _))
  clear X1
  unfold Wr.tcells Tm.zero at *
  go_enter Tryz.func35, Tryz.ntmps35
  go_wp2_with fail
  rw [← hw1, ← hw2]
  clear hw1 hw2
  refine (C.out _ (HV.out.grown G.out)).mono ?_
  rintro e w3 ⟨r, rfl, hr, G3⟩
  have S1 := S1.grown G3 (by simp)
  have S2 := S2.grown G3 (by simp)
  have HR := Hi hr
  have GZ := Hi G3
  clear hr G3
  obtain ⟨ra, rn, rc⟩ := r
  dsimp only [Sl.v] at *
  obtain ⟨⟨a0, a1, a2, a3, a4, a5⟩, f0, f1, f2, f3, f4, f5⟩ := S1
  obtain ⟨⟨b0, b1, b2, b3, b4, b5⟩, p0, p1, p2, p3, p4, p5⟩ := S2
  dsimp only at a0 a1 a2 a3 a4 a5 b0 b1 b2 b3 b4 b5
  go_wp2
  try simp only [Exit.inBlock, Exit.then]
  refine bodyPost_ret (v := tv ⟨s, ep, q, tm, kd, vs⟩ (.slice ra rn rc)) ?hr rfl ?hE
  case hr =>
    rw [results_cell rfl]
    go_simp
    rfl
  case hE =>
    have hn : rn = n := by have := HR.out.len; rw [Wr.ivs_len] at this; dsimp only at this; omega
    have hs := G.out.size
    have hx : w.heap.size + 1 < w2.heap.size := World.block_lt_of_cell? _ _ S2.1.1
    have g : Chg [w.heap.size, w.heap.size + 1] w3 _ := ((((((((Chg.refl _ w3).set ⟨w.heap.size, 5, none⟩ (.slice ra rn rc) (by simp)).set ⟨w.heap.size + 1, 0, none⟩ (.int .i64 s) (by simp)).set ⟨w.heap.size + 1, 1, none⟩ (.int .i64 ep) (by simp)).set ⟨w.heap.size + 1, 2, none⟩ (.int .i64 q) (by simp)).set ⟨w.heap.size + 1, 3, none⟩ (.int .i64 tm) (by simp)).set ⟨w.heap.size + 1, 4, none⟩ (.int .i64 kd) (by simp)).set ⟨w.heap.size + 1, 5, none⟩ (.slice ra rn rc) (by simp))
    have ho := HR.out.chg g (fun b hb hm => by
      have := (HR.out.blk b hb).1
      simp only [List.mem_cons, List.not_mem_nil, or_false] at hm
      omega)
    refine ⟨⟨ra, rn, rc⟩, rfl, VI.ofOR ho (by dsimp only; omega), fun b hb => ?_, g.grown (grown_trans G.out GZ.out) (fun b hb => ?_)⟩
    · have := (HR.out.blk b hb).1; omega
    · simp only [List.mem_cons, List.not_mem_nil, or_false] at hb
      omega
end Go.Proofs.YticmoaebegahgaaGreatDoor.Iw
namespace Go.Proofs.YticmoaebegahgaaGreatDoor.Iw
open Go.ChangeShapes Go.WideShapes Go.ChangeAt Go.RowKit
open Wr (IR RB iv ivs bv bvs grown_trans grown_refl grown_alloc ret_int ret_bool tv Ret ret_mk)
structure TO (base : Nat) (w : World) (L : List Nat) (s : Sl) (ts : List Tm.Tg) : Prop where
  row : ∃ xs : List TV, xs.map Prod.fst = ts ∧ OR base w 28 6 s (f6 xs) ∧ ∀ x ∈ xs, VI w L x.2 x.1.vs
theorem TO.tr {base : Nat} {w : World} {L : List Nat} {s : Sl} {ts : List Tm.Tg} (h : TO base w L s ts) : TR w s ts := by
  obtain ⟨xs, rfl, h1, h2⟩ := h.row
  exact TR.of h1.fit (by have := h1.len; rw [f6_len] at this; omega) h1.cr (fun x hx => (h2 x hx).free)
theorem TO.len {base : Nat} {w : World} {L : List Nat} {s : Sl} {ts : List Tm.Tg} (h : TO base w L s ts) : ts.length = s.n := h.tr.len
theorem TO.blk {base : Nat} {w : World} {L : List Nat} {s : Sl} {ts : List Tm.Tg} (h : TO base w L s ts) : ∀ b, s.blk = some b → base ≤ b ∧ b < w.heap.size := by
  obtain ⟨xs, _, h1, _⟩ := h.row
  exact h1.blk
theorem TO.step {base : Nat} {w w' : World} {L L' M : List Nat} {s : Sl} {ts : List Tm.Tg} (h : TO base w L s ts) (g : Chg M w w') (hs : ∀ b, s.blk = some b → b ∉ M) (hM : ∀ b ∈ M, b ∈ L ∨ w.heap.size ≤ b) (hL : ∀ b ∈ L', b ∈ L ∨ w.heap.size ≤ b) : TO base w' L' s ts := by
  obtain ⟨xs, h0, h1, h2⟩ := h.row
  exact ⟨xs, h0, h1.chg g hs, fun x hx => ((h2 x hx).step (Chg.refl L w) (fun b hb => .inl hb)).step (g.then (Chg.refl M w') (fun b hb => .inl hb) |>.weak (fun b hb => hb) |> fun k => ⟨k.os, k.tape, k.output, k.size, fun i hi hn => k.block i hi (fun hm => by rcases hM i hm with e | e; exact hn e; omega)⟩) hL⟩
theorem TO.grown {base : Nat} {w w' : World} {L : List Nat} {s : Sl} {ts : List Tm.Tg} (h : TO base w L s ts) (g : w.grownBy w' none) : TO base w' L s ts := h.step (M := []) (Chg.of0 g) (fun _ _ h => by cases h) (fun _ h => by cases h) (fun _ hb => .inl hb)
def CtsEnd (ts : List Tm.Tg) (w : World) (e : Ending) (w' : World) : Prop := ∃ r : Sl, e = .returned r.v ∧ TO w.heap.size w' (r.blk.toList ++ List.range w.heap.size) r ts ∧ w.grownBy w' none
theorem set_mid {α : Type} {ys xs : List α} {k : Nat} (h : ys.length = k) (hk : k < xs.length) (y : α) : (ys ++ xs.drop k).set k y = (ys ++ [y]) ++ xs.drop (k + 1) := by
  rw [List.set_append_right _ _ (by omega), h, Nat.sub_self, List.drop_eq_getElem_cons hk, List.set_cons_zero, List.append_assoc]; rfl
set_option maxHeartbeats 1000000 in
theorem cttels_any (s : Sl) (ts : List Tm.Tg) (w : World) (h : TR w s ts) (hb : s.n ≤ 1000000) :
    Calls Tryz.prog 50 #[s.v] w (CtsEnd ts w) := by
  obtain ⟨xs, hx, hc, hv⟩ := h.list
  have hl : xs.length = s.n := by have := h.len; rw [← hx, List.length_map] at this; exact this
  have C := Hi (clone_t s (f6 xs) w hc (by rw [f6_len]; omega) (f6_one xs) (by omega))
  have HV := Hi hv
  have HX := Hi hx
  clear h hc hv hx
  go_enter Tryz.func50, Tryz.ntmps50
  go_wp2_with fail
  refine (C.out).mono ?_
  rintro e w1 ⟨r, rfl, hr, G1⟩
  have hn : r.n = s.n := by have := hr.len; rw [f6_len] at this; omega
  have hrb := hr.form
  have HR := Hi hr
  have G1 := Hi G1
  clear hr
  obtain ⟨ra, rn, rc⟩ := r
  dsimp only [Sl.v] at *
  subst hn
  go_wp2
  go_loopw [10] (fun i wr => ∃ (k : Nat) (ys : List TV), i = .int .i64 k ∧ k ≤ s.n ∧ ys.length = k ∧ Hid (w.grownBy wr none) ∧ Hid (ys.map Prod.fst = (xs.take k).map Prod.fst) ∧ Hid (OR w.heap.size wr 28 6 ⟨ra, s.n, rc⟩ (f6 (ys ++ xs.drop k))) ∧ Hid (∀ y ∈ ys, VI wr ((Sl.blk ⟨ra, s.n, rc⟩).toList ++ List.range w.heap.size) y.2 y.1.vs)) (fun i _ => s.n - (intOf i).toNat)
  case atStart => exact ⟨0, [], rfl, by omega, rfl, G1, rfl, HR, fun y hy => by cases hy⟩
  case round =>
    obtain ⟨k, ys, rfl, hk, hy, GW, MW, RW, YW⟩ := hrel
    by_cases hlt : k < s.n
    · rcases hrb with ⟨_, h0, _⟩ | ⟨g, rfl, g1, g2⟩
      · omega
      · have hxk : xs[k]? = some xs[k] := List.getElem?_eq_getElem (by omega)
        have hyk : (ys ++ xs.drop k)[k]? = some xs[k] := by rw [List.getElem?_append_right (by omega), hy, Nat.sub_self, List.getElem?_drop, Nat.add_zero, hxk]
        obtain ⟨c0, c1, c2, c3, c4, c5⟩ := six_of (o := k * 6) (OR.elem tcs_len RW.out hyk)
        have V := Hi (HV.out xs[k] (List.getElem_mem _))
        have hxt : xs.take (k + 1) = xs.take k ++ [xs[k]] := by rw [List.take_add_one, hxk]; rfl
        generalize xs[k] = x at *
        obtain ⟨t, ⟨Va, Vn, Vc⟩⟩ := x
        dsimp only [Sl.v] at c0 c1 c2 c3 c4 c5
        go_wp2_with fail
        refine (cttel_any t ⟨Va, Vn, Vc⟩ _ ((V.out.grown GW.out).grown (grown_alloc _ _ _))).mono ?_
        rintro e w2 ⟨U, rfl, hU, bU, G2⟩
        have G3 := grown_trans (grown_alloc wr _ none) G2
        have R2 := RW.out.grown G3
        obtain ⟨c0, c1, c2, c3, c4, c5⟩ := six_of (o := k * 6) (OR.elem tcs_len R2 hyk)
        have o0 := R2.open_ (k * 6)
        have o1 := R2.open_ (k * 6 + 1)
        have o2 := R2.open_ (k * 6 + 2)
        have o3 := R2.open_ (k * 6 + 3)
        have o4 := R2.open_ (k * 6 + 4)
        have o5 := R2.open_ (k * 6 + 5)
        obtain ⟨P1, P2⟩ := R2.put tcs_len (i := k) (by rw [List.length_append, List.length_drop]; omega) (t, U)
        rw [set_mid hy (by omega)] at P1
        have gs : wr.heap.size < w2.heap.size := by have := G2.size; simp at this; omega
        have hgl : g < w2.heap.size := (R2.blk g rfl).2
        have G4 := Hi (grown_trans GW.out G3)
        have YW := Hi (fun y hy => (YW.out y hy).grown G3)
        have MW := Hi (show (ys ++ [(t, U)]).map Prod.fst = (xs.take (k + 1)).map Prod.fst by rw [hxt, List.map_append, List.map_append, MW.out]; rfl)
        have hgw : g < wr.heap.size := (RW.out.blk g rfl).2
        obtain ⟨Ua, Un, Uc⟩ := U
        dsimp only [Sl.v, tv] at *
        have HU := Hi hU
        have P1 := Hi P1
        have P2 := Hi P2
        have bU := Hi bU
        clear G2 G3 R2 hU
        go_wp2
        go_roundw
        case rel =>
          refine ⟨k + 1, ys ++ [((t, ⟨Ua, Un, Uc⟩) : TV)], by go_num, by omega, by simp [hy], ?_, MW, Hi P1.out, fun y hyy => ?_⟩
          · exact Wr.grown_off G4.out P2.out g1
          · have gc : Chg [g] w2 (w2.setCells g (k * 6) (tcs (t, ⟨Ua, Un, Uc⟩))) := Chg.of P2.out (fun b hb => by injection hb with hb; simp [hb])
            rcases List.mem_append.1 hyy with hyy | hyy
            · exact (YW.out y hyy).step (gc.weak (fun b hb => List.mem_append_left _ hb)) (fun b hb => .inl hb)
            · rw [List.mem_singleton] at hyy
              subst hyy
              refine (HU.out.fresh (L := [g] ++ List.range w.heap.size) (fun _ b hb hm => ?_)).step (gc.weak (fun b hb => List.mem_append_left _ hb)) (fun b hb => .inl hb)
              have := bU.out b hb
              have h9 := GW.out.size
              simp at this hm
              omega
        case measure => simp [intOf]; omega
    · obtain rfl : k = s.n := by omega
      have e1 : xs.drop s.n = [] := List.drop_of_length_le (by omega)
      have e2 : xs.take s.n = xs := List.take_of_length_le (by omega)
      rw [e1, List.append_nil] at RW
      rw [e2] at MW
      go_wp2
      go_ret
      exact ⟨⟨ra, s.n, rc⟩, rfl, ⟨ys, by rw [MW.out, HX.out], RW.out, YW.out⟩, GW.out⟩
end Go.Proofs.YticmoaebegahgaaGreatDoor.Iw
namespace Go.Proofs.YticmoaebegahgaaGreatDoor.Iw
open Go.ChangeShapes Go.WideShapes Go.ChangeAt Go.RowKit
open Wr (IR RB iv ivs bv bvs grown_trans grown_refl grown_alloc ret_int ret_bool tv Ret ret_mk)
def Tri (w : World) (B : Nat) (v0 v1 v2 : Value) : Prop := (w.cell? ⟨B, 0, none⟩ = some v0 ∧ w.cell? ⟨B, 1, none⟩ = some v1 ∧ w.cell? ⟨B, 2, none⟩ = some v2) ∧ ∀ i, w.frozen? ⟨B, i, none⟩ = false
theorem Tri.lt {w : World} {B : Nat} {v0 v1 v2 : Value} (h : Tri w B v0 v1 v2) : B < w.heap.size := World.block_lt_of_cell? _ _ h.1.1
theorem Tri.step {w w' : World} {B : Nat} {v0 v1 v2 : Value} {M : List Nat} (h : Tri w B v0 v1 v2) (g : Chg M w w') (hB : B ∉ M) : Tri w' B v0 v1 v2 :=
  ⟨⟨g.cell h.1.1 hB, g.cell h.1.2.1 hB, g.cell h.1.2.2 hB⟩, fun i => (g.frozen (a := ⟨B, i, none⟩) h.lt hB).trans (h.2 i)⟩
theorem Tri.grown {w w' : World} {B : Nat} {v0 v1 v2 : Value} (h : Tri w B v0 v1 v2) (g : w.grownBy w' none) : Tri w' B v0 v1 v2 := h.step (M := []) (Chg.of0 g) (by simp)
theorem tri_made (w : World) (v0 v1 v2 : Value) (e : TypeId) : Tri (w.alloc (Obj.cells #[v0, v1, v2] e)) w.heap.size v0 v1 v2 := by
  refine ⟨⟨?_, ?_, ?_⟩, fun i => ?_⟩ <;> go_simp
theorem Tri.set0 {w : World} {B : Nat} {v0 v1 v2 : Value} (h : Tri w B v0 v1 v2) (v : Value) : Tri (w.setCell ⟨B, 0, none⟩ v) B v v1 v2 :=
  ⟨⟨Wr.set_hit _ h.1.1, Wr.set_miss _ (Wr.off_ne B (by omega)) h.1.2.1, Wr.set_miss _ (Wr.off_ne B (by omega)) h.1.2.2⟩, fun i => by rw [World.frozen?_setCell]; exact h.2 i⟩
theorem Tri.set1 {w : World} {B : Nat} {v0 v1 v2 : Value} (h : Tri w B v0 v1 v2) (v : Value) : Tri (w.setCell ⟨B, 1, none⟩ v) B v0 v v2 :=
  ⟨⟨Wr.set_miss _ (Wr.off_ne B (by omega)) h.1.1, Wr.set_hit _ h.1.2.1, Wr.set_miss _ (Wr.off_ne B (by omega)) h.1.2.2⟩, fun i => by rw [World.frozen?_setCell]; exact h.2 i⟩
theorem Tri.set2 {w : World} {B : Nat} {v0 v1 v2 : Value} (h : Tri w B v0 v1 v2) (v : Value) : Tri (w.setCell ⟨B, 2, none⟩ v) B v0 v1 v :=
  ⟨⟨Wr.set_miss _ (Wr.off_ne B (by omega)) h.1.1, Wr.set_miss _ (Wr.off_ne B (by omega)) h.1.2.1, Wr.set_hit _ h.1.2.2⟩, fun i => by rw [World.frozen?_setCell]; exact h.2 i⟩
theorem chg_set (w : World) (B o : Nat) (v : Value) : Chg [B] w (w.setCell ⟨B, o, none⟩ v) := (Chg.refl _ w).set _ _ (by simp)
structure EP (base : Nat) (w : World) (L : List Nat) (s : Sl) (ys : List EV) (us : List Value) : Prop where
  row : OR base w 32 4 s us
  held : ∀ y ∈ ys, TO base w L y.2 y.1.held
  sub : ∀ y ∈ ys, ∀ b, y.2.blk = some b → b ∈ L
  rowin : ∀ b, s.blk = some b → b ∈ L
  apart : ∀ y ∈ ys, ∀ b, y.2.blk = some b → s.blk ≠ some b
  pair : ys.Pairwise fun x y => ∀ k, x.2.blk = some k → y.2.blk ≠ some k
  new : ∀ b ∈ L, b < w.heap.size
abbrev EO (base : Nat) (w : World) (L : List Nat) (s : Sl) (ys : List EV) : Prop := EP base w L s ys (f4 ys)
theorem EP.step {base : Nat} {w w' : World} {L M : List Nat} {s : Sl} {ys : List EV} {us : List Value} (h : EP base w L s ys us) (g : Chg M w w') (hM : ∀ b ∈ M, b ∈ L ∨ w.heap.size ≤ b) (hs : ∀ b ∈ M, s.blk ≠ some b) (hy : ∀ y ∈ ys, ∀ b ∈ M, y.2.blk ≠ some b) : EP base w' L s ys us :=
  ⟨h.row.chg g (fun b hb hm => hs b hm hb), fun y hy' => (h.held y hy').step g (fun b hb hm => hy y hy' b hm hb) hM (fun b hb => .inl hb),
    h.sub, h.rowin, h.apart, h.pair, fun b hb => Nat.lt_of_lt_of_le (h.new b hb) g.size⟩
theorem EP.grown {base : Nat} {w w' : World} {L : List Nat} {s : Sl} {ys : List EV} {us : List Value} (h : EP base w L s ys us) (g : w.grownBy w' none) : EP base w' L s ys us :=
  ⟨h.row.grown g, fun y hy => (h.held y hy).grown g, h.sub, h.rowin, h.apart, h.pair, fun b hb => Nat.lt_of_lt_of_le (h.new b hb) g.size⟩
theorem flat_set1 {α : Type} {f : α → List Value} {k : Nat} (hf : ∀ x, (f x).length = k) {j : Nat} (hj : j < k) {u : Value} {x y : α} (hu : f y = (f x).set j u) : ∀ (xs : List α) (i : Nat), xs[i]? = some x → (xs.flatMap f).set (i * k + j) u = (xs.set i y).flatMap f := by
  intro xs
  induction xs with
  | nil => intro i h; simp at h
  | cons z r ih =>
    intro i h
    cases i with
    | zero =>
      simp only [List.getElem?_cons_zero, Option.some.injEq] at h
      subst h
      rw [List.flatMap_cons, List.set_cons_zero, List.flatMap_cons, hu, Nat.zero_mul, Nat.zero_add, List.set_append_left _ _ (by rw [hf]; exact hj)]
    | succ i =>
      simp only [List.getElem?_cons_succ] at h
      rw [List.flatMap_cons, List.set_cons_succ, List.flatMap_cons, List.set_append_right _ _ (by rw [hf, Nat.succ_mul]; omega), hf, show (i + 1) * k + j - k = i * k + j by rw [Nat.succ_mul]; omega, ih i h]
theorem OR.put1 {base : Nat} {w : World} {e : TypeId} {k g n c : Nat} {α : Type} {f : α → List Value} {xs : List α} (hf : ∀ x, (f x).length = k) (h : OR base w e k ⟨some ⟨g, 0, none⟩, n, c⟩ (xs.flatMap f)) {i j : Nat} (hj : j < k) {u : Value} {x y : α} (hx : xs[i]? = some x) (hu : f y = (f x).set j u) :
    OR base (w.setCell ⟨g, i * k + j, none⟩ u) e k ⟨some ⟨g, 0, none⟩, n, c⟩ ((xs.set i y).flatMap f) := by
  have := (h.own.stored (i * k + j) u).1
  rw [flat_set1 hf hj hu xs i hx] at this
  exact ⟨this⟩
theorem EP.base_ {base b' : Nat} {w : World} {L : List Nat} {s : Sl} {ys : List EV} {us : List Value} (h : EP base w L s ys us) (hb : b' ≤ base) : EP b' w L s ys us :=
  ⟨h.row.base_ hb, fun y hy => by obtain ⟨xs, a, b, c⟩ := (h.held y hy).row; exact ⟨xs, a, b.base_ hb, c⟩, h.sub, h.rowin, h.apart, h.pair, h.new⟩
theorem EP.add {base : Nat} {w w1 : World} {L : List Nat} {g n c : Nat} {ys zs : List EV} {x : EV} {r : Sl} (h : EP base w L ⟨some ⟨g, 0, none⟩, n, c⟩ ys (f4 (ys ++ x :: zs))) (hb : base ≤ w.heap.size) (g1 : w.grownBy w1 none) (hr : TO w.heap.size w1 (r.blk.toList ++ List.range w.heap.size) r x.1.held) :
    EP base (w1.setCell ⟨g, ys.length * 4 + 3, none⟩ r.v) (L ++ r.blk.toList) ⟨some ⟨g, 0, none⟩, n, c⟩ (ys ++ [(x.1, r)]) (f4 ((ys ++ [(x.1, r)]) ++ zs)) := by
  have hg : g ∈ L := h.rowin g rfl
  have gl := h.new g hg
  have gc : Chg [g] w1 (w1.setCell ⟨g, ys.length * 4 + 3, none⟩ r.v) := chg_set _ _ _ _
  have hrb : ∀ b, r.blk = some b → w.heap.size ≤ b ∧ b < w1.heap.size := hr.blk
  have hmem : ∀ b, b ∈ r.blk.toList → r.blk = some b := fun b hb => by simpa using hb
  have hL : ∀ b ∈ L, b < w.heap.size := fun b hb => h.new b hb
  have hg1 := h.grown g1
  have hrow : OR base (w1.setCell ⟨g, ys.length * 4 + 3, none⟩ r.v) 32 4 ⟨some ⟨g, 0, none⟩, n, c⟩ (f4 ((ys ++ [(x.1, r)]) ++ zs)) := by
    have h1 := hg1.row.put1 (f := ecs) ecs_len (i := ys.length) (j := 3) (by omega) (u := r.v) (x := x) (y := (x.1, r)) (by simp) (by rfl)
    have e1 : (ys ++ x :: zs).set ys.length (x.1, r) = (ys ++ [(x.1, r)]) ++ zs := by
      rw [List.set_append_right _ _ (Nat.le_refl _), Nat.sub_self, List.set_cons_zero, List.append_assoc]; rfl
    rw [e1] at h1
    exact h1
  refine ⟨hrow, fun y hy => ?_, fun y hy b hb' => ?_, fun b hb' => List.mem_append_left _ (h.rowin b hb'), fun y hy b hb' => ?_, ?_, fun b hb' => ?_⟩
  · rcases List.mem_append.1 hy with hy | hy
    · obtain ⟨ts, t1, t2, t3⟩ := (h.held y hy).row
      refine ⟨ts, t1, (t2.grown g1).chg gc (fun b hb' hm => ?_), fun t ht => ?_⟩
      · rw [List.mem_singleton] at hm
        subst hm
        exact h.apart y hy _ hb' rfl
      · have k := (t3 t ht).step (L' := L ++ r.blk.toList) (Chg.of0 g1) (fun b hb' => by
          rcases List.mem_append.1 hb' with e | e
          · exact .inl e
          · exact .inr (hrb b (hmem b e)).1)
        exact k.step (gc.weak (fun b hb' => by rw [List.mem_singleton] at hb'; subst hb'; exact List.mem_append_left _ hg)) (fun b hb' => .inl hb')
    · rw [List.mem_singleton] at hy
      subst hy
      obtain ⟨ts, t1, t2, t3⟩ := hr.row
      refine ⟨ts, t1, (t2.base_ hb).chg gc (fun b hb' hm => ?_), fun t ht => ?_⟩
      · rw [List.mem_singleton] at hm
        have := (hrb b hb').1
        omega
      · refine (t3 t ht).step (gc.weak (fun b hb' => ?_)) (fun b hb' => .inl ?_)
        · rw [List.mem_singleton] at hb'; subst hb'
          exact List.mem_append_right _ (List.mem_range.2 gl)
        · rcases List.mem_append.1 hb' with e | e
          · exact List.mem_append_right _ (List.mem_range.2 (hL b e))
          · exact List.mem_append_left _ e
  · rcases List.mem_append.1 hy with hy | hy
    · exact List.mem_append_left _ (h.sub y hy b hb')
    · rw [List.mem_singleton] at hy
      subst hy
      exact List.mem_append_right _ (by simpa using hb')
  · rcases List.mem_append.1 hy with hy | hy
    · exact h.apart y hy b hb'
    · rw [List.mem_singleton] at hy
      subst hy
      intro e
      injection e with e
      have := (hrb b hb').1
      have e : g = b := e
      omega
  · rw [List.pairwise_append]
    refine ⟨h.pair, by simp, fun y hy z hz b hb' hc => ?_⟩
    rw [List.mem_singleton] at hz
    subst hz
    have := hL b (h.sub y hy b hb')
    have := (hrb b hc).1
    omega
  · simp only [World.size_setCell]
    rcases List.mem_append.1 hb' with e | e
    · exact Nat.lt_of_lt_of_le (h.new b e) g1.size
    · exact (hrb b (hmem b e)).2
def KoEnd (k : Ik) (w : World) (e : Ending) (w' : World) : Prop :=
  ∃ (T E : Sl) (L : List Nat) (ys : List EV), e = .returned (iv3 k.win T E) ∧ OR w.heap.size w' 5 1 T (bvs k.tail) ∧ (∀ b, T.blk = some b → b ∉ L) ∧ ys.map Prod.fst = k.es ∧ EO w.heap.size w' L E ys ∧ (∀ b, b < w.heap.size → b ∈ L) ∧ w.grownBy w' none
theorem crRB {w : World} {s : Sl} {l : List UInt8} (h : RB w s.a s.n l) : CR w s (bvs l) := by
  intro j u hu
  have hj : j < s.n := by
    rw [← h.1, ← Wr.bvs_len l]
    rcases Nat.lt_or_ge j (bvs l).length with k | k
    · exact k
    · rw [List.getElem?_eq_none k] at hu; cases hu
  obtain ⟨b, off, e, hc⟩ := h.2 j hj
  refine ⟨b, off, e, ?_⟩
  rw [hc, ← hu, Wr.bvs_get l j (by rw [h.1]; exact hj)]; rfl
theorem rbCR {w : World} {s : Sl} {l : List UInt8} (h : CR w s (bvs l)) (hl : l.length = s.n) : RB w s.a s.n l := by
  refine ⟨hl, fun i hi => ?_⟩
  obtain ⟨b, off, e, hc⟩ := h i _ (Wr.bvs_get l i (by omega))
  exact ⟨b, off, e, hc⟩
set_option maxHeartbeats 4000000 in
theorem copyof_any (T E : Sl) (k : Ik) (w : World) (h : KR w T E k) (hT : T.n ≤ 1000000) (hE : E.n ≤ 1000000) (hH : ∀ e ∈ k.es, e.held.length ≤ 1000000) :
    Calls Tryz.prog 31 #[iv3 k.win T E] w (KoEnd k w) := by
  obtain ⟨hf, hr, hes⟩ := h
  obtain ⟨xs, hx, hc, hv⟩ := hes.list
  have hxl : xs.length = E.n := by have := hes.len; rw [← hx, List.length_map] at this; exact this
  have hfe := hes.fit
  have HX := Hi hx
  have HV := Hi hv
  have hl : k.tail.length = T.n := hr.1
  have CB := Hi (fun (W : World) (hW : RB W T.a T.n k.tail) => clone_b T (bvs k.tail) W (crRB hW) (by rw [Wr.bvs_len]; omega) (Wr.bvs_one _) (by omega))
  have CW := Hi (fun (W : World) (hW : CR W E (f4 xs)) => clone_w E (f4 xs) W hW (by rw [f4_len]; omega) (f4_one xs) (by omega))
  have HR := Hi hr
  have HC := Hi hc
  have HH := Hi hH
  clear hr hes hc hv hx hH
  obtain ⟨win, tl, es⟩ := k
  obtain ⟨TA, tn, tc⟩ := T
  obtain ⟨EA, n, c⟩ := E
  unfold Sl.fit at hf hfe
  dsimp only [iv3, Sl.v] at *
  obtain ⟨X, hX⟩ : ∃ X, X = w.heap.size := ⟨_, rfl⟩
  obtain ⟨w1, hw1⟩ : ∃ w1, w1 = w.alloc (Obj.cells #[.int .i64 win, .slice TA tn tc, .slice EA n c] 25) := ⟨_, rfl⟩
  obtain ⟨w2, hw2⟩ : ∃ w2, w2 = w1.alloc (Obj.cells #[.int .i64 0, .slice none 0 0, .slice none 0 0] 25) := ⟨_, rfl⟩
  have G := Hi (show w.grownBy w2 none by subst hw2; subst hw1; exact grown_trans (grown_alloc _ _ _) (grown_alloc _ _ _))
  have X1 : w1.heap.size = X + 1 := by subst hw1; subst hX; simp
  have Z2 : w2.heap.size = X + 2 := by subst hw2; simp [X1]
  have B1 : Tri w2 X (.int .i64 win) (.slice TA tn tc) (.slice EA n c) := by subst hw2; subst hw1; subst hX; exact (tri_made _ _ _ _ _).grown (grown_alloc _ _ _)
  have B2 : Tri w2 (X + 1) (.int .i64 0) (.slice none 0 0) (.slice none 0 0) := by subst hw2; rw [← X1]; exact tri_made _ _ _ _ _
  go_enter Tryz.func31, Tryz.ntmps31
  go_wp2_with fail
  rw [← hw1, ← hw2]
  simp only [← hX]
  have HX0 := Hi hX
  clear hw1 hw2 X1 hX
  refine (CB.out _ (HR.out.grown G.out)).mono ?_
  rintro e w3 ⟨T', rfl, hT', G3⟩
  have B1 := B1.grown G3
  have B2 := Hi (B2.grown G3)
  have HT := Hi hT'
  have G3 := Hi G3
  obtain ⟨ta, tn', tc'⟩ := T'
  dsimp only [Sl.v] at *
  obtain ⟨⟨K0, K1, K2⟩, F⟩ := B1
  have F1 := F 1
  have F2 := F 2
  have B1 := Hi ((show Tri w3 X (.int .i64 win) (.slice TA tn tc) (.slice EA n c) from ⟨⟨K0, K1, K2⟩, F⟩).set1 (.slice ta tn' tc'))
  have GS := Hi (chg_set w3 X 1 (.slice ta tn' tc'))
  have B2 := Hi (B2.out.step GS.out (by simp))
  have HT := Hi (HT.out.chg GS.out (fun b hb hm => by have := (HT.out.blk b hb).1; rw [List.mem_singleton] at hm; omega))
  have GW := Hi (GS.out.grown (grown_trans G.out G3.out) (fun b hb => by rw [List.mem_singleton] at hb; have := HX0.out; omega))
  clear F hT' G3
  go_wp2_with fail
  generalize w3.setCell ⟨X, 1, none⟩ (.slice ta tn' tc') = w4 at *
  have hX2 : X + 2 ≤ w4.heap.size := by have := B2.out.lt; omega
  refine (CW.out _ (HC.out.grown GW.out)).mono ?_
  rintro e w5 ⟨E', rfl, hE', G5⟩
  have hn' : E'.n = n := by have := hE'.len; rw [f4_len] at this; omega
  have B1 := B1.out.grown G5
  have B2 := B2.out.grown G5
  have hTb : ∀ b, Sl.blk ⟨ta, tn', tc'⟩ = some b → b < w4.heap.size := fun b hb => (HT.out.blk b hb).2
  have HT := HT.out.grown G5
  have GW := grown_trans GW.out G5
  obtain ⟨ea, en, ec⟩ := E'
  dsimp only [Sl.v] at hn' ⊢
  subst hn'
  clear K0 K1 K2 F1 F2
  obtain ⟨⟨K0, K1, K2⟩, F⟩ := B1
  have F2 := F 2
  have B1 := Hi ((show Tri w5 X (.int .i64 win) (.slice ta tn' tc') (.slice EA en c) from ⟨⟨K0, K1, K2⟩, F⟩).set2 (.slice ea en ec))
  have GS := Hi (chg_set w5 X 2 (.slice ea en ec))
  have B2 := Hi (B2.step GS.out (by simp))
  have HT := Hi (HT.chg GS.out (fun b hb hm => by have := (HT.blk b hb).1; rw [List.mem_singleton] at hm; omega))
  have GW := Hi (GS.out.grown GW (fun b hb => by rw [List.mem_singleton] at hb; have := HX0.out; omega))
  have HE := Hi ((hE'.base_ hX2).chg GS.out (fun b hb hm => by have := (hE'.blk b hb).1; rw [List.mem_singleton] at hm; omega))
  have hEb := Hi hE'.blk
  have hEf := hE'.form
  have hTb := Hi hTb
  have hs5 := Hi GS.out.size
  clear F hE' G5
  go_wp2_with fail
  generalize w5.setCell ⟨X, 2, none⟩ (.slice ea en ec) = w6 at *
  obtain ⟨⟨K0, K1, K2⟩, F⟩ := B1.out
  clear F K0 K1
  go_wp2
  go_loopw [15] (fun i wr => ∃ (k : Nat) (ys : List EV) (L : List Nat), i = .int .i64 k ∧ k ≤ en ∧ ys.length = k ∧ Hid (w.grownBy wr none) ∧ Hid (Tri wr X (.int .i64 win) (.slice ta tn' tc') (.slice ea en ec)) ∧ Hid (Tri wr (X + 1) (.int .i64 0) (.slice none 0 0) (.slice none 0 0)) ∧ Hid (OR (X + 2) wr 5 1 ⟨ta, tn', tc'⟩ (bvs tl)) ∧ Hid (∀ b, Sl.blk ⟨ta, tn', tc'⟩ = some b → b ∉ L) ∧ Hid (ys.map Prod.fst = (xs.take k).map Prod.fst) ∧ Hid (X ∈ L ∧ X + 1 ∈ L ∧ ∀ b, b < X → b ∈ L) ∧ Hid (EP (X + 2) wr L ⟨ea, en, ec⟩ ys (f4 (ys ++ xs.drop k)))) (fun i _ => en - (intOf i).toNat)
  case atStart =>
    refine ⟨0, [], ([X, X + 1] ++ List.range X) ++ (Sl.blk ⟨ea, en, ec⟩).toList, rfl, by omega, rfl, GW, B1, B2, Hi (by rw [← Z2]; exact HT.out), fun b hb hm => ?_, rfl, ⟨by simp, by simp, fun b hb => ?_⟩, ⟨HE.out, (fun y hy => by cases hy), (fun y hy => by cases hy), (fun b hb => by simp [hb]), (fun y hy => by cases hy), .nil, fun b hb => ?_⟩⟩
    · have h1 := hTb.out b hb
      have h3 := (HT.out.blk b hb).1
      rcases List.mem_append.1 hm with hm | hm
      · simp at hm; omega
      · have h2 := (hEb.out b (by simpa using hm)).1
        omega
    · simp [hb]
    · have := hs5.out
      rcases List.mem_append.1 hb with hb | hb
      · simp at hb
        have h9 := B2.out.lt
        omega
      · have h2 := hEb.out b (by simpa using hb)
        omega
  case round =>
    obtain ⟨k, ys, L, rfl, hk, hy, GR, B1, B2, HT, TL, MY, XL, EY⟩ := hrel
    obtain ⟨⟨-, -, K2⟩, F⟩ := B1.out
    clear F
    by_cases hlt : k < en
    · rcases hEf with ⟨_, h0, _⟩ | ⟨g, rfl, g1, g2⟩
      · omega
      · have hxk : xs[k]? = some xs[k] := List.getElem?_eq_getElem (by omega)
        have hxd : xs.drop k = xs[k] :: xs.drop (k + 1) := List.drop_eq_getElem_cons (by omega)
        have hxt : xs.take (k + 1) = xs.take k ++ [xs[k]] := by rw [List.take_add_one, hxk]; rfl
        rw [hxd] at EY
        have hyk : (ys ++ xs[k] :: xs.drop (k + 1))[k]? = some xs[k] := by rw [List.getElem?_append_right (by omega), hy, Nat.sub_self]; rfl
        have V := Hi (HV.out xs[k] (List.getElem_mem _))
        have VL : xs[k].2.n ≤ 1000000 := by
          have := V.out.len
          rw [← this]
          exact HH.out _ (by rw [← HX.out]; exact List.mem_map.2 ⟨_, List.getElem_mem _, rfl⟩)
        obtain ⟨-, -, -, c3⟩ := four_of (o := k * 4) (OR.elem ecs_len EY.out.row hyk)
        have o3 : ∀ W, wr.grownBy W none → W.frozen? ⟨g, k * 4 + 3, none⟩ = false := fun W hW => (EY.out.row.grown hW).open_ _
        have O3 := Hi o3
        generalize xs[k] = x at *
        obtain ⟨xw, ⟨Ha, Hn, Hc⟩⟩ := x
        unfold Sl.v at c3
        have C3 := Hi c3
        clear o3 c3
        go_wp2_with fail
        refine wp_region_held_drew (S := (fun wx : World => wx.cell? ⟨X, 2, none⟩ = some (.slice (some ⟨g, 0, none⟩) en ec))) (by kernel_rfl) ?_ (fun hHeld => ?_)
        · exact K2
        try simp only [Act.put, lsA, lsB, lsC]
        refine takeL (i := 0) (v := ?_) rfl (by kernel_rfl) (by kernel_rfl) (by kernel_rfl) (fun _ _ _ h => h) (Or.inl ⟨by rfl, ?_⟩) (by assumption) ?_
        rotate_left 1
        · intro w hSw; have s1 := hSw; first | (go_simp; done) | (go_simp; with_reducible rfl)
        try simp only [Act.put, lsA, lsB, lsC]
        refine takeL (i := 1) (v := ?_) rfl (by kernel_rfl) (by kernel_rfl) (by kernel_rfl) (fun _ _ _ h => h) (Or.inl ⟨by rfl, ?_⟩) (by assumption) ?_
        rotate_left 1
        · intro w hSw; have s1 := hSw; first | (go_simp; done) | (go_simp; with_reducible rfl)
        try simp only [Act.put, lsA, lsB, lsC]
        refine takeL (i := 2) (v := ?_) rfl (by kernel_rfl) (by kernel_rfl) (by kernel_rfl) (fun _ _ _ h => h) (Or.inl ⟨by rfl, ?_⟩) (by assumption) ?_
        rotate_left 1
        · intro w hSw; have s1 := hSw; first | (go_simp; done) | (go_simp; with_reducible rfl)
        try simp only [Act.put, lsA, lsB, lsC]
        refine takeL (i := 3) (v := ?_) rfl (by kernel_rfl) (by kernel_rfl) (by kernel_rfl) (fun _ _ _ h => h) (Or.inl ⟨by rfl, ?_⟩) (by assumption) ?_
        rotate_left 1
        · intro w hSw; have s1 := hSw; first | (go_simp; done) | (go_simp; with_reducible rfl)
        try simp only [Act.put, lsA, lsB, lsC]
        refine takeL (i := 4) (v := ?_) rfl (by kernel_rfl) (by kernel_rfl) (by kernel_rfl) (fun _ _ _ h => h) (Or.inl ⟨by rfl, ?_⟩) (by assumption) ?_
        rotate_left 1
        · intro w hSw; have s1 := hSw; first | (go_simp; done) | (go_simp; with_reducible rfl)
        try simp only [Act.put, lsA, lsB, lsC]
        refine takeL (i := 5) (v := ?_) rfl (by kernel_rfl) (by kernel_rfl) (by kernel_rfl) (fun _ _ _ h => h) (Or.inl ⟨by rfl, ?_⟩) (by assumption) ?_
        rotate_left 1
        · intro w hSw; have s1 := hSw; first | (go_simp; done) | (go_simp; with_reducible rfl)
        try simp only [Act.put, lsA, lsB, lsC]
        refine takeL (i := 6) (v := ?_) rfl (by kernel_rfl) (by kernel_rfl) (by kernel_rfl) (fun _ _ _ h => h) (Or.inl ⟨by rfl, ?_⟩) (by assumption) ?_
        rotate_left 1
        · intro w hSw; have s1 := hSw; first | (go_simp; done) | (go_simp; with_reducible rfl)
        try simp only [Act.put, lsA, lsB, lsC]
        refine takeL (i := 7) (v := ?_) rfl (by kernel_rfl) (by kernel_rfl) (by kernel_rfl) (fun _ _ _ h => h) (Or.inl ⟨by rfl, ?_⟩) (by assumption) ?_
        rotate_left 1
        · intro w hSw; have s1 := hSw; first | (go_simp; done) | (go_simp; with_reducible rfl)
        try simp only [Act.put, lsA, lsB, lsC]
        have C4 : wr.drew.cell? ⟨g, k * 4 + 3, none⟩ = some (.slice Ha Hn Hc) := C3.out
        refine wpAnyH_ready (rs := [8]) (by kernel_rfl) (by simp) (consL rfl (fun K hK => ?_) AllReadyH.nil)
        go_simp
        refine hK.out _ _ ?_ (fun hHeld => ?_)
        · exact K2
        clear hK K
        try simp only [Act.put, lsA, lsB, lsC]
        clear C4
        refine wpAnyH_ready (rs := [9]) (by kernel_rfl) (by simp) (consL rfl (fun K hK => ?_) AllReadyH.nil)
        go_simp
        refine (cttels_any ⟨Ha, Hn, Hc⟩ xw.held wr.drew ((V.out.grown GR.out).grown (Wr.grown_drew _ _)) VL).mono ?_
        rintro e w7 ⟨r, rfl, hr, G7⟩
        have G8 := grown_trans (Wr.grown_drew wr none) G7
        try dsimp only
        refine hK.out _ _ ?_ (fun hHeld => ?_)
        · exact G8.cell K2 (by simp)
        clear hK K
        try simp only [Act.put, lsA, lsB, lsC]
        have C7 : w7.cell? ⟨g, k * 4 + 3, none⟩ = some (.slice Ha Hn Hc) := G8.cell C3.out (by simp)
        have O7 := O3.out w7 G8
        have R7 := Hi hr
        have K27 := G8.cell K2 (by simp)
        have G8 := Hi G8
        have hgX : g ≠ X := by omega
        obtain ⟨ra, rn, rc⟩ := r
        dsimp only [Sl.v]
        clear hr G7
        refine takeL (i := 10) (v := ?_) rfl (by kernel_rfl) (by kernel_rfl) (by kernel_rfl) (fun _ _ _ h => h) (Or.inl ⟨by rfl, ?_⟩) (by assumption) ?_
        rotate_left 1
        · intro w hSw; have s1 := hSw; first | (go_simp; done) | (go_simp; with_reducible rfl)
        try simp only [Act.put, lsA, lsB, lsC]
        refine takeL (i := 11) (v := ?_) rfl (by kernel_rfl) (by kernel_rfl) (by kernel_rfl) (fun _ _ _ h => h) (Or.inl ⟨by rfl, ?_⟩) (by assumption) ?_
        rotate_left 1
        · intro w hSw; have s1 := hSw; first | (go_simp; done) | (go_simp; with_reducible rfl)
        try simp only [Act.put, lsA, lsB, lsC]
        refine wpAnyH_ready (rs := [12]) (by kernel_rfl) (by simp) (consL rfl (fun K hK => ?_) AllReadyH.nil)
        go_simp
        refine hK.out _ _ ?_ (fun hHeld => ?_)
        · exact (chg_set w7 g _ _).cell K27 (by simp; omega)
        clear hK K
        try simp only [Act.put, lsA, lsB, lsC]
        refine wpAnyH_done (by kernel_rfl) ?_ _
        have EN := Hi (EP.add (x := (xw, ⟨Ha, Hn, Hc⟩)) (r := ⟨ra, rn, rc⟩) EY.out (by have := GR.out.size; have := B2.out.lt; omega) G8.out R7.out)
        rw [hy] at EN
        have GS := Hi (chg_set w7 g (k * 4 + 3) (.slice ra rn rc))
        have GRS := Hi B1.out.lt
        have B1 := Hi ((B1.out.grown G8.out).step GS.out (by simp; omega))
        have B2 := Hi ((B2.out.grown G8.out).step GS.out (by simp; omega))
        have HT' := Hi ((HT.out.grown G8.out).chg GS.out (fun b hb hm => TL.out b hb (by rw [List.mem_singleton] at hm; subst hm; exact EY.out.rowin _ rfl)))
        have TL := Hi (fun b (hb : Sl.blk ⟨ta, tn', tc'⟩ = some b) (hm : b ∈ L ++ (Sl.blk ⟨ra, rn, rc⟩).toList) => by
          rcases List.mem_append.1 hm with e | e
          · exact TL.out b hb e
          · have h1 := (HT.out.blk b hb).2
            have h2 := (R7.out.blk b (by simpa using e)).1
            simp at h2
            omega)
        have GR := Hi (GS.out.grown (grown_trans GR.out G8.out) (fun b hb => by rw [List.mem_singleton] at hb; have := HX0.out; omega))
        have MY := Hi (show (ys ++ [((xw, ⟨ra, rn, rc⟩) : EV)]).map Prod.fst = (xs.take (k + 1)).map Prod.fst by rw [hxt, List.map_append, List.map_append, MY.out]; rfl)
        have XL := Hi (show X ∈ L ++ (Sl.blk ⟨ra, rn, rc⟩).toList ∧ X + 1 ∈ L ++ (Sl.blk ⟨ra, rn, rc⟩).toList ∧ ∀ b, b < X → b ∈ L ++ (Sl.blk ⟨ra, rn, rc⟩).toList from ⟨List.mem_append_left _ XL.out.1, List.mem_append_left _ XL.out.2.1, fun b hb => List.mem_append_left _ (XL.out.2.2 b hb)⟩)
        clear C7 O7 K27
        go_wp2
        go_roundw
        case rel => exact ⟨k + 1, ys ++ [((xw, ⟨ra, rn, rc⟩) : EV)], _, by go_num, by omega, by simp [hy], GR, B1, B2, HT', TL, MY, XL, EN⟩
        case measure => simp [intOf]; omega
    · obtain rfl : k = en := by omega
      have e1 : xs.drop k = [] := List.drop_of_length_le (by omega)
      have e2 : xs.take k = xs := List.take_of_length_le (by omega)
      rw [e1, List.append_nil] at EY
      rw [e2] at MY
      obtain ⟨⟨a0, a1, a2⟩, fa⟩ := B1.out
      obtain ⟨⟨b0, b1, b2⟩, fb⟩ := B2.out
      have p0 := fb 0
      have p1 := fb 1
      have p2 := fb 2
      clear fa fb
      go_wp2
      try simp only [Exit.inBlock, Exit.then]
      refine bodyPost_ret (v := iv3 win ⟨ta, tn', tc'⟩ ⟨ea, k, ec⟩) ?hr rfl ?hE
      case hr =>
        rw [results_cell rfl]
        go_simp
        rfl
      case hE =>
        have g := (((Chg.refl [X + 1] wr).set ⟨X + 1, 0, none⟩ (.int .i64 win) (by simp)).set ⟨X + 1, 1, none⟩ (.slice ta tn' tc') (by simp)).set ⟨X + 1, 2, none⟩ (.slice ea k ec) (by simp)
        have hX := HX0.out
        refine ⟨⟨ta, tn', tc'⟩, ⟨ea, k, ec⟩, L, ys, rfl, (HT.out.base_ (by omega)).chg g (fun b hb hm => ?_), TL.out, by rw [MY.out, HX.out], ?_, fun b hb => by rw [← hX] at hb; exact XL.out.2.2 b hb, g.grown GR.out (fun b hb => by rw [List.mem_singleton] at hb; omega)⟩
        · have := (HT.out.blk b hb).1
          rw [List.mem_singleton] at hm
          omega
        · have h1 := EY.out.step g (fun b hb => by rw [List.mem_singleton] at hb; subst hb; exact .inl XL.out.2.1) (fun b hb hs => by
            have := (EY.out.row.blk b hs).1
            rw [List.mem_singleton] at hb
            omega) (fun y hy' b hb hs => by
            have := ((EY.out.held y hy').blk b hs).1
            rw [List.mem_singleton] at hb
            omega)
          exact h1.base_ (by omega)
end Go.Proofs.YticmoaebegahgaaGreatDoor.Iw
