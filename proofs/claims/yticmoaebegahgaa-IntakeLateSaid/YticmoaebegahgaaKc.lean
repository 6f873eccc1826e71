/- Late telegrams: plain, and rows of numbers and of truth values. -/
import Derived.Test.YticmoaebegahgaaKb
namespace Go.Proofs.Yticmoaebegahgaa.Iw
open Go.ChangeShapes Go.WideShapes Go.ChangeAt Go.RowKit
open Wr (IR RB iv ivs bv bvs grown_trans grown_refl grown_alloc ret_int ret_bool tv Ret ret_mk)

def lmk (q : Int) : Tm.Tg := ⟨7, 0, q, 0, 1, []⟩
theorem lmk_ok {q : Int} (h : 0 ≤ q ∧ q ≤ 30) : (lmk q).ok = true := by
  rw [Tm.Tg.ok_iff]
  simp only [lmk]
  refine ⟨by omega, by omega, by omega, by omega, by omega, ?_⟩
  simp
def CM (cs : List Bool) (q : Int) : Prop := 0 ≤ q ∧ cs.getD q.toNat false = true
theorem cm_set {cs : List Bool} {q : Nat} (h : q < cs.length) (x : Int) : CM (cs.set q true) x ↔ (CM cs x ∨ x = (q : Int)) := by
  unfold CM
  by_cases e : x = (q : Int)
  · subst e
    simp [List.getD_eq_getElem?_getD, h]
  · by_cases h0 : 0 ≤ x
    · have : x.toNat ≠ q := by omega
      simp [List.getD_eq_getElem?_getD, List.getElem?_set, this.symm, e]
    · simp [h0, e]
structure Lt (win : Int) (cs : List Bool) (f : Int) (es : List Im.Wt) (x : Im.Wt) : Prop where
  ent : (es = [] ∧ x = ⟨7, 0, 0, []⟩) ∨ es = [x]
  ok : Im.WOk win x
  st : x.st = 7
  lok : Im.LOk win (CM cs) f lmk x
theorem lt_zero {win : Int} (hw : 0 ≤ win) (n : Nat) : Lt win (List.replicate n false) 0 [] ⟨7, 0, 0, []⟩ := by
  have hc : ∀ q, ¬ CM (List.replicate n false) q := by
    rintro q ⟨_, h⟩
    rw [List.getD_eq_getElem?_getD, List.getElem?_replicate] at h
    split at h <;> simp at h
  refine ⟨.inl ⟨rfl, rfl⟩, ⟨trivial, (fun y hy => by cases hy), by simpa using hw, by simp, by simp, by simp⟩, rfl, ⟨fun q => ⟨rfl, rfl⟩, rfl, trivial, (fun y hy => by cases hy), fun q => ⟨(fun ⟨y, hy, _⟩ => by cases hy), fun h => absurd h.1 (hc q)⟩, fun q h0 h1 => by omega, hc _, fun q h => absurd h (hc q), Int.le_refl _⟩⟩
theorem Lt.sok {win f : Int} {cs : List Bool} {es : List Im.Wt} {x : Im.Wt} (h : Lt win cs f es x) : Im.SOk win es := by
  rcases h.ent with ⟨rfl, _⟩ | rfl
  · exact Im.sok_nil win
  · exact ⟨⟨by rw [h.st]; omega, trivial⟩, (fun w hw => by rw [List.mem_singleton] at hw; subst hw; exact h.ok), by simp⟩
theorem Lt.len {win f : Int} {cs : List Bool} {es : List Im.Wt} {x : Im.Wt} (h : Lt win cs f es x) : es.length ≤ 1 := by
  rcases h.ent with ⟨rfl, _⟩ | rfl <;> simp
theorem Lt.acc {win f : Int} {cs : List Bool} {es : List Im.Wt} {x : Im.Wt} (h : Lt win cs f es x) (q : Int) : Im.acc win es (lmk q) = ([(Im.take win x (lmk q)).1], (Im.take win x (lmk q)).2) := by
  rcases h.ent with ⟨rfl, rfl⟩ | rfl
  · simp [Im.acc, Im.put, lmk, Im.new]
  · have h7 := h.st
    simp [Im.acc, Im.put, lmk, h7]
theorem Lt.accF {win f : Int} {cs : List Bool} {es : List Im.Wt} {x : Im.Wt} (hw : 0 ≤ win ∧ win ≤ 4) (h : Lt win cs f es x) {q : Int} (hq : 0 ≤ q ∧ q ≤ 30) : accF ⟨win, [], es⟩ (lmk q) = (⟨win, [], (Im.acc win es (lmk q)).1⟩, (Im.acc win es (lmk q)).2, 0) := by
  have hk : (Ik.mk win [] es).ok = true := Ik.ok_iff.2 ⟨⟨hw.1, by dsimp only; omega⟩, by simp, .inl rfl, h.sok⟩
  have hl := h.len
  unfold Iw.accF
  rw [if_pos hk, if_pos (lmk_ok hq), if_pos (.inl (by dsimp only; omega))]
theorem Lt.step {win f : Int} {cs : List Bool} {es : List Im.Wt} {x : Im.Wt} (hw : 0 ≤ win) (h : Lt win cs f es x) {q : Nat} (hq : q < cs.length) (hq2 : (q : Int) ≤ f + win) (hq3 : q ≤ 30) :
    ∃ x', Lt win (cs.set q true) (f + ((Im.acc win es (lmk q)).2.length : Int)) (Im.acc win es (lmk q)).1 x' ∧ Im.Run f (Im.acc win es (lmk q)).2 ∧ (Im.acc win es (lmk q)).2.length ≤ x.held.length + 1 := by
  have ha := h.acc q
  obtain ⟨f', k1, k2, k3⟩ := Im.late_take hw h.lok (by omega : (0 : Int) ≤ q) hq2
  obtain ⟨t1, t2, t3, t4⟩ := Im.take_spec hw h.ok (lmk_ok ⟨by omega, by omega⟩ : (lmk q).ok = true) (by rw [h.st]; rfl)
  have hp : (fun y => CM cs y ∨ y = (q : Int)) = CM (cs.set q true) := funext fun y => propext (cm_set hq y).symm
  rw [hp] at k1
  rw [ha]
  refine ⟨(Im.take win x (lmk q)).1, ⟨.inr rfl, t1, by rw [t4, h.st], ?_⟩, k2, take_len win x _⟩
  dsimp only
  rw [← k3]; exact k1
theorem run_sq {l : List Tm.Tg} : ∀ {n : Int} {i : Nat}, Im.Run n l → i < l.length → (l.getD i Tm.zero).sq = n + i := by
  induction l with
  | nil => intro n i _ h; simp at h
  | cons t r ih =>
    intro n i h hi
    cases i with
    | zero => have := h.1; simpa using this
    | succ i =>
      have := ih (i := i) h.2 (by simpa using hi)
      rw [List.getD_cons_succ, this]; push_cast; omega
/-- What has not come yet. -/
structure Ms (n : Nat) (cs : List Bool) (ms : List Int) : Prop where
  pw : ms.Pairwise (· < ·)
  mem : ∀ x, x ∈ ms ↔ 0 ≤ x ∧ x < n ∧ ¬ CM cs x
theorem Ms.drop {n : Nat} {cs : List Bool} {ms : List Int} (h : Ms n cs ms) {k : Nat} (hk : k < ms.length) {q : Nat} (hq : ms[k] = (q : Int)) (hl : q < cs.length) : Ms n (cs.set q true) (ms.take k ++ ms.drop (k + 1)) := by
  have e : ms = ms.take k ++ (q : Int) :: ms.drop (k + 1) := by
    conv => lhs; rw [← List.take_append_drop k ms]
    rw [List.drop_eq_getElem_cons hk, hq]
  have hp := h.pw
  rw [e] at hp
  obtain ⟨p1, p2, p3⟩ := List.pairwise_append.1 hp
  obtain ⟨p4, p5⟩ := List.pairwise_cons.1 p2
  refine ⟨List.pairwise_append.2 ⟨p1, p5, fun a ha b hb => p3 a ha b (List.mem_cons_of_mem _ hb)⟩, fun x => ?_⟩
  have hm := h.mem x
  rw [e] at hm
  have hx : x ∈ ms.take k ++ ms.drop (k + 1) ↔ x ∈ ms.take k ++ (q : Int) :: ms.drop (k + 1) ∧ x ≠ (q : Int) := by
    simp only [List.mem_append, List.mem_cons]
    constructor
    · rintro (hx | hx)
      · exact ⟨.inl hx, fun e => by have := p3 x hx q (by simp); omega⟩
      · exact ⟨.inr (.inr hx), fun e => by have := p4 x hx; omega⟩
    · rintro ⟨hx | hx | hx, hne⟩
      · exact .inl hx
      · exact absurd hx hne
      · exact .inr hx
  rw [hx, hm, cm_set hl]
  constructor
  · rintro ⟨⟨a, b, c⟩, d⟩; exact ⟨a, b, fun k => by rcases k with k | k; exact c k; exact d k⟩
  · rintro ⟨a, b, c⟩; exact ⟨⟨a, b, fun k => c (.inl k)⟩, fun k => c (.inr k)⟩
theorem Ms.first {n : Nat} {cs : List Bool} {ms : List Int} {win f : Int} {es : List Im.Wt} {x : Im.Wt} (h : Ms n cs ms) (k : Lt win cs f es x) (h0 : 0 < ms.length) : ms[0] = f := by
  have hm := (h.mem ms[0]).1 (List.getElem_mem _)
  have h1 : f ≤ ms[0] := by
    rcases Int.lt_or_le ms[0] f with e | e
    · exact absurd (k.lok.low _ hm.1 e) hm.2.2
    · exact e
  have h2 : f ∈ ms := (h.mem f).2 ⟨k.lok.f0, by omega, k.lok.not⟩
  have h3 : ms[0] ≤ f := by
    cases ms with
    | nil => simp at h0
    | cons a r =>
      rcases List.mem_cons.1 h2 with e | e
      · simp [e]
      · have := (List.pairwise_cons.1 h.pw).1 f e
        simp; omega
  omega
theorem Ms.done {n : Nat} {cs : List Bool} {win f : Int} {es : List Im.Wt} {x : Im.Wt} (h : Ms n cs []) (k : Lt win cs f es x) (hl : cs.length = n) : f = n := by
  have h1 : ∀ y : Int, 0 ≤ y → y < n → CM cs y := fun y a b => Classical.byContradiction fun c => by have := (h.mem y).2 ⟨a, b, c⟩; cases this
  have h2 := k.lok.f0
  rcases Int.lt_or_le f n with e | e
  · exact absurd (h1 f h2 e) k.lok.not
  · rcases Int.lt_or_le n f with e2 | e2
    · have := k.lok.low n (by omega) e2
      have h3 := this.2
      rw [List.getD_eq_getElem?_getD, List.getElem?_eq_none (by omega)] at h3
      cases h3
    · omega
theorem Lt.le {n : Nat} {cs : List Bool} {win f : Int} {es : List Im.Wt} {x : Im.Wt} (k : Lt win cs f es x) (hl : cs.length = n) : f ≤ n := by
  rcases Int.lt_or_le n f with e2 | e2
  · have := k.lok.low n (by omega) e2
    have h3 := this.2
    rw [List.getD_eq_getElem?_getD, List.getElem?_eq_none (by omega)] at h3
    cases h3
  · exact e2
theorem pw_len {n : Int} : ∀ {l : List Int} {a : Int}, l.Pairwise (· < ·) → (∀ x ∈ l, a ≤ x ∧ x < n) → a ≤ n → (l.length : Int) ≤ n - a := by
  intro l
  induction l with
  | nil => intro a _ _ h; simp; omega
  | cons y r ih =>
    intro a h1 h2 h3
    obtain ⟨p1, p2⟩ := List.pairwise_cons.1 h1
    have hy := h2 y List.mem_cons_self
    have := ih (a := y + 1) p2 (fun x hx => ⟨by have := p1 x hx; omega, (h2 x (List.mem_cons_of_mem _ hx)).2⟩) (by omega)
    rw [List.length_cons]; push_cast; omega
theorem Ms.len {n : Nat} {cs : List Bool} {ms : List Int} (h : Ms n cs ms) : ms.length ≤ n := by
  have := pw_len (a := 0) (n := n) h.pw (fun x hx => ⟨((h.mem x).1 hx).1, ((h.mem x).1 hx).2.1⟩) (by omega)
  omega
def ups (n : Nat) : List Int := (List.range n).map Int.ofNat
theorem ups_succ (n : Nat) : ups (n + 1) = ups n ++ [(n : Int)] := by simp [ups, List.range_succ]
theorem ups_len (n : Nat) : (ups n).length = n := by simp [ups]
theorem ms_zero (n : Nat) : Ms n (List.replicate n false) (ups n) := by
  refine ⟨?_, fun x => ?_⟩
  · unfold ups
    rw [List.pairwise_map]
    exact List.pairwise_lt_range.imp (fun h => by simpa using h)
  · unfold ups
    simp only [List.mem_map, List.mem_range]
    constructor
    · rintro ⟨a, ha, rfl⟩
      refine ⟨by simp, by simpa using ha, ?_⟩
      rintro ⟨_, h⟩
      rw [List.getD_eq_getElem?_getD, List.getElem?_replicate] at h
      split at h <;> simp at h
    · rintro ⟨h0, h1, _⟩
      exact ⟨x.toNat, by omega, by simp; omega⟩

/-! ## Rows of numbers, of truth values -/
def ovs (l : List Bool) : List Value := l.map Value.bool
theorem ovs_len (l : List Bool) : (ovs l).length = l.length := List.length_map _
theorem info_bo : (Try.prog.info? 4).map (fun i => (i.zero, i.size, i.bytes)) = some (some (.bool false), 1, 1) := by kernel_rfl
theorem parts_bo : ∃ i, Try.prog.info? 4 = some i ∧ i.zero = some (.bool false) ∧ i.size = 1 ∧ i.bytes = 1 := by
  obtain ⟨i, hi, hz⟩ := Option.map_eq_some_iff.1 info_bo
  simp only [Prod.mk.injEq] at hz
  exact ⟨i, hi, hz.1, hz.2.1, hz.2.2⟩
theorem OR.at1 {base : Nat} {w : World} {e : TypeId} {g n c : Nat} {us : List Value} (h : OR base w e 1 ⟨some ⟨g, 0, none⟩, n, c⟩ us) {j : Nat} {u : Value} (hu : us[j]? = some u) : w.cell? ⟨g, j, none⟩ = some u := by
  obtain ⟨b, off, e1, hc⟩ := h.cr j u hu
  injection e1 with e1
  injection e1 with e1 e2
  subst e1; subst e2
  rwa [Nat.zero_add] at hc
theorem made_ovs (n : Nat) : (madeCells (Value.bool false).cells (n * 1)).toList = ovs (List.replicate n false) := by
  apply List.ext_getElem?
  intro i
  rw [Nat.mul_one]
  by_cases h : i < n
  · have := Wr.made_get (Value.bool false) n i h
    rw [Array.getElem?_toList]
    rw [show (Value.bool false).cells = #[Value.bool false] from rfl, this]
    simp [ovs, h]
  · simp [ovs, madeCells, h]
section
variable {P : Program} {w : World} {ops : Array Oper} {rest : List Oper} {o : Oper} {a : Act} {Q : Exit → Act → World → Prop}
set_option maxRecDepth 4000 in
/-- 'make([]bool, n)'. -/
theorem wpList_mkb (hgd : o.guard = none) (lo co : Operand) (hop : o.op = Op.makeSlice 33 lo co) (n : Nat) (hl : a.eval lo = .int .i64 n) (hc : a.eval co = .int .i64 n) (hn : n ≤ 1000)
    (h : ∀ w', OR w.heap.size w' 4 1 ⟨some ⟨w.heap.size, 0, none⟩, n, n⟩ (ovs (List.replicate n false)) → w.grownBy w' none → wpList Try.prog ops Q rest (a.put o.dst (.slice (some ⟨w.heap.size, 0, none⟩) n n)) w') : wpList Try.prog ops Q (o :: rest) a w := by
  obtain ⟨i, hi, hz, hs, hby⟩ := parts_bo
  refine wpList_make_full w hgd lo co 33 hop w.heap.size 4 i (.bool false) 1 Try.underlying33 hi hz hs .i64 .i64 n n n hl hc rfl rfl (by rw [hby]; omega) (by unfold maxLen; omega) (Nat.le_refl _) ?_
  intro w' ho hg
  rw [made_ovs] at ho
  exact h w' ⟨ho⟩ hg
/-- 'append(s, v...)', s of the call's own, v any row. -/
theorem step_appC {K : Act → World → Prop} {E : Prop} (hgd : o.guard = none) (s x : Operand) (t : TypeId) (ho : o.op = .call { callee := .builtin .append, args := #[s, x], argTypes := #[t, t] })
    {base : Nat} {e : TypeId} {i : TypeInfo} {z : Value} {k bytes m c : Nat} {S : Sl} {ad : Addr} {us vs : List Value}
    (ht : P.underlying t = some (.slice e)) (hi : P.info? e = some i) (hz : i.zero = some z) (hsz : i.size = k) (hby : i.bytes = bytes) (hzs : z.cells.size = k) (hk : 0 < k)
    (hs : a.eval s = S.v) (hx : a.eval x = .slice (some ad) m c) (own : OR base w e k S us) (hb0 : base ≤ w.heap.size) (hl : vs.length = m * k) (hu : ∀ j u, vs[j]? = some u → w.cell? (ad.add j) = some u) (h1 : ∀ u ∈ vs, u.oneCell' = true) (hb : (S.n + m) * bytes ≤ 140737488355328) (h63 : S.n + m ≤ 1000000000)
    (hq : ∀ (r : Sl) (w' : World), r.n = S.n + m → OR base w' e k r (us ++ vs) → w.grownBy w' S.blk → (∀ b, r.blk = some b → S.blk = some b ∨ b = w.heap.size) → K (a.put o.dst r.v) w') :
    if Region.wanted o (yielded ops a.tmps) = true then Oper.wp P o a w K Q else E := by
  have hw : Region.wanted o (yielded ops a.tmps) = true := by simp [Region.wanted, hgd]
  rw [if_pos hw]
  obtain ⟨v', w', hr, hown', hgr, _, hblk⟩ := run_append_own_at (P := P) w base t o.type e i z k bytes ht hi hz hsz hby hzs hk S.v S.n us own.own ad m c vs hl hu h1 (by unfold maxLen; omega) hb hb0
  have hv' : ∃ r : Sl, v' = r.v ∧ r.n = S.n + m := by
    rcases hown'.2 with ⟨q1, q2⟩ | ⟨g, cap, cur, q1, _⟩
    · exact ⟨⟨none, 0, 0⟩, q1, q2.symm⟩
    · exact ⟨⟨some ⟨g, 0, none⟩, S.n + m, cap⟩, q1, rfl⟩
  obtain ⟨r, rfl, hn⟩ := hv'
  rw [blk_own] at hgr hblk
  rw [blk_own] at hblk
  unfold Oper.wp execOp
  simp only [ho, resolve, invoke, builtin, Sem.run_bind, Sem.run_pure, Result.andThen_ok, List.map_toArray, List.map_cons, List.map_nil, hs, hx, hr]
  exact hq r w' hn ⟨by rw [hn]; exact hown'⟩ hgr (fun b hb => by
    rcases hblk with q | q
    · left; rw [← q]; exact hb
    · right; rw [q] at hb; injection hb with hb; exact hb.symm)
end
theorem or_int1 (w : World) (x : Int) : OR w.heap.size (w.alloc (.cells #[.int .i64 x] 3)) 3 1 ⟨some ⟨w.heap.size, 0, none⟩, 1, 1⟩ (ivs [x]) := by
  have := World.ownsRow_lit (base := w.heap.size) (e := 3) (size := 1) w #[.int .i64 x] 1 (Nat.le_refl _) (by unfold maxLen; omega) (by simp)
  exact ⟨this⟩
theorem or_int0 (w : World) : OR w.heap.size (w.alloc (.cells #[] 3)) 3 1 ⟨some ⟨w.heap.size, 0, none⟩, 0, 0⟩ [] := by
  have := World.ownsRow_lit (base := w.heap.size) (e := 3) (size := 1) w #[] 0 (Nat.le_refl _) (by unfold maxLen; omega) (by simp)
  exact ⟨this⟩
theorem ivs_one (l : List Int) : ∀ u ∈ ivs l, u.oneCell' = true := by
  intro u hu
  obtain ⟨x, _, rfl⟩ := List.mem_map.1 hu
  rfl
/-- What the loop over the late ones keeps. M: the missing ones' row; C: the row of those that came. -/
structure Late (w0 : World) (lo S sB : Nat) (win : Int) (es : List Im.Wt) (ms : List Int) (cs : List Bool) (T E M C : Sl) (w : World) : Prop where
  g : w0.grownBy w none
  src : Wr.SrcOK w S
  bs : Tri w sB (.int .i64 win) T.v E.v
  ks : KL (LL lo M C) w T E ⟨win, [], es⟩
  m : OR lo w 3 1 M (ivs ms)
  c : OR lo w 4 1 C (ovs cs)
  mc : ∀ x, M.blk = some x → C.blk ≠ some x
  low : lo ≤ w.heap.size
  ord : w0.heap.size ≤ S ∧ S < sB ∧ sB < lo
  nil : T.n = 0
section
variable {w0 : World} {lo S sB : Nat} {win : Int} {es : List Im.Wt} {ms : List Int} {cs : List Bool} {T E M C : Sl} {w w' : World}
theorem Late.lt (h : Late w0 lo S sB win es ms cs T E M C w) : ∀ b ∈ LL lo M C, b < w.heap.size := by
  intro b hb
  rcases ll_mem hb with e | e | e
  · have := h.low; omega
  · exact (h.m.blk b e).2
  · exact (h.c.blk b e).2
theorem Late.src_ (h : Late w0 lo S sB win es ms cs T E M C w) (g : w.grownBy w' (some S)) (hs : Wr.SrcOK w' S) : Late w0 lo S sB win es ms cs T E M C w' := by
  obtain ⟨o0, o1, o2⟩ := h.ord
  have gc : Chg [S] w w' := Chg.of g (fun b hb => by injection hb with hb; subst hb; exact List.mem_cons_self)
  have hM : ∀ b ∈ [S], b ∈ LL lo M C ∨ w.heap.size ≤ b := fun b hb => by rw [List.mem_singleton] at hb; subst hb; exact .inl (ll_lo (by omega))
  refine ⟨Wr.grown_off h.g g o0, hs, h.bs.step gc (by simp; omega), h.ks.step gc hM (fun _ hb => .inl hb), h.m.chg gc (fun b hb hm => ?_), h.c.chg gc (fun b hb hm => ?_), h.mc, Nat.le_trans h.low g.size, h.ord, h.nil⟩
  · rw [List.mem_singleton] at hm; have := (h.m.blk b hb).1; omega
  · rw [List.mem_singleton] at hm; have := (h.c.blk b hb).1; omega
theorem Late.grown (h : Late w0 lo S sB win es ms cs T E M C w) (g : w.grownBy w' none) : Late w0 lo S sB win es ms cs T E M C w' :=
  ⟨grown_trans h.g g, h.src.grown g, h.bs.grown g, h.ks.grown g, h.m.grown g, h.c.grown g, h.mc, Nat.le_trans h.low g.size, h.ord, h.nil⟩
theorem Late.setS {es' : List Im.Wt} {T' E' : Sl} (h : Late w0 lo S sB win es ms cs T E M C w) (g : Chg [sB] w w') (hb : Tri w' sB (.int .i64 win) T'.v E'.v) (hk : KL (LL lo M C) w T' E' ⟨win, [], es'⟩) (hn : T'.n = 0) : Late w0 lo S sB win es' ms cs T' E' M C w' := by
  obtain ⟨o0, o1, o2⟩ := h.ord
  have hM : ∀ b ∈ [sB], b ∈ LL lo M C ∨ w.heap.size ≤ b := fun b hb => by rw [List.mem_singleton] at hb; subst hb; exact .inl (ll_lo (by omega))
  refine ⟨g.grown h.g (fun b hb => by rw [List.mem_singleton] at hb; omega), src_chg h.src g o1, hb, hk.step g hM (fun _ hb => .inl hb), h.m.chg g (fun b hb hm => ?_), h.c.chg g (fun b hb hm => ?_), h.mc, Nat.le_trans h.low g.size, h.ord, hn⟩
  · rw [List.mem_singleton] at hm; have := (h.m.blk b hb).1; omega
  · rw [List.mem_singleton] at hm; have := (h.c.blk b hb).1; omega
/-- A new row of missing ones. -/
theorem Late.newM {ms' : List Int} {M' : Sl} (h : Late w0 lo S sB win es ms cs T E M C w) (g : w.grownBy w' none) (hm : OR w.heap.size w' 3 1 M' (ivs ms')) : Late w0 lo S sB win es ms' cs T E M' C w' := by
  have hn : ∀ b, M'.blk = some b → w.heap.size ≤ b := fun b hb => (hm.blk b hb).1
  refine ⟨grown_trans h.g g, h.src.grown g, h.bs.grown g, h.ks.step (M := []) (Chg.of0 g) (fun _ h => by cases h) (fun b hb => ?_), hm.base_ h.low, h.c.grown g, (fun x hx hc => by have := hn x hx; have := (h.c.blk x hc).2; omega), Nat.le_trans h.low g.size, h.ord, h.nil⟩
  rcases ll_mem hb with e | e | e
  · exact .inl (ll_lo e)
  · exact .inr (hn b e)
  · exact .inl (ll_b e)
/-- One more has come. -/
theorem Late.came {Cb n c q : Nat} (h : Late w0 lo S sB win es ms cs T E M ⟨some ⟨Cb, 0, none⟩, n, c⟩ w) : Late w0 lo S sB win es ms (cs.set q true) T E M ⟨some ⟨Cb, 0, none⟩, n, c⟩ (w.setCell ⟨Cb, q, none⟩ (.bool true)) := by
  obtain ⟨o0, o1, o2⟩ := h.ord
  have g : Chg [Cb] w (w.setCell ⟨Cb, q, none⟩ (.bool true)) := (Chg.refl [Cb] w).set ⟨Cb, q, none⟩ (.bool true) (by simp)
  have hCb := h.c.blk Cb rfl
  have hM : ∀ b ∈ [Cb], b ∈ LL lo M ⟨some ⟨Cb, 0, none⟩, n, c⟩ ∨ w.heap.size ≤ b := fun b hb => by rw [List.mem_singleton] at hb; subst hb; exact .inl (ll_b rfl)
  have hc : OR lo (w.setCell ⟨Cb, q, none⟩ (.bool true)) 4 1 ⟨some ⟨Cb, 0, none⟩, n, c⟩ (ovs (cs.set q true)) := by
    have := (h.c.own.stored q (.bool true)).1
    rw [show (ovs cs).set q (Value.bool true) = ovs (cs.set q true) from (List.map_set ..).symm] at this
    exact ⟨this⟩
  refine ⟨g.grown h.g (fun b hb => by rw [List.mem_singleton] at hb; omega), src_chg h.src g (by omega), h.bs.step g (by simp; omega), h.ks.step g hM (fun _ hb => .inl hb), h.m.chg g (fun b hb hm => ?_), hc, h.mc, Nat.le_trans h.low g.size, h.ord, h.nil⟩
  rw [List.mem_singleton] at hm; subst hm; exact h.mc b hb rfl
end
end Go.Proofs.Yticmoaebegahgaa.Iw
