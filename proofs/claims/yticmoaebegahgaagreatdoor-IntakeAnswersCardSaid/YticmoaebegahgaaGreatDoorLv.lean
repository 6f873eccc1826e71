import Derived.Test.YticmoaebegahgaaGreatDoorJ5
set_option linter.all false
namespace Go.Proofs.YticmoaebegahgaaGreatDoor.Iw
open Go.ChangeShapes Go.WideShapes Go.ChangeAt Go.RowKit
open Wr (IR RB iv ivs bv bvs grown_trans grown_refl grown_alloc ret_int ret_bool tv Ret ret_mk)
section
variable {P : Program} {w : World} {ops : Array Oper} {rest : List Oper} {o : Oper} {a : Act} {Q : Exit → Act → World → Prop}
theorem run_append_none_c (base : Nat) (t ty e : TypeId) (i : TypeInfo) (size : Nat) (ht : P.underlying t = some (.slice e)) (hi : P.info? e = some i) (v : Value) (n c : Nat) (xs : List Value) (hown : w.ownsRow base e size v n xs) :
    (Builtin.append_ #[t, t] ty #[v, .slice none 0 c]).run P w = .ok v w := by
  rcases hown.2 with ⟨rfl, rfl⟩ | ⟨g, cap, cur, rfl, _, _, hnc, _⟩
  · simp [Builtin.append_, run_underlying ht, sizeOf, typeInfo, hi, Builtin.lenOf, Builtin.firstCells]
  · simp [Builtin.append_, run_underlying ht, sizeOf, typeInfo, hi, Builtin.lenOf, Builtin.firstCells, hnc, storeCells]
theorem appV_run {base : Nat} {e : TypeId} {i : TypeInfo} {z : Value} {k bytes : Nat} {S V : Sl} {us vs : List Value} (t ty : TypeId)
    (ht : P.underlying t = some (.slice e)) (hi : P.info? e = some i) (hz : i.zero = some z) (hsz : i.size = k) (hby : i.bytes = bytes) (hzs : z.cells.size = k) (hk : 0 < k)
    (own : OR base w e k S us) (hb0 : base ≤ w.heap.size) (hl : vs.length = V.n * k) (hv : CR w V vs) (h1 : ∀ u ∈ vs, u.oneCell' = true) (hb : (S.n + V.n) * bytes ≤ 140737488355328) (h63 : S.n + V.n ≤ 1000000000) :
    ∃ (r : Sl) (w' : World), (Builtin.append_ #[t, t] ty #[S.v, V.v]).run P w = .ok r.v w' ∧ r.n = S.n + V.n ∧ OR base w' e k r (us ++ vs) ∧ w.grownBy w' S.blk ∧ (∀ b, r.blk = some b → S.blk = some b ∨ b = w.heap.size) := by
  obtain ⟨va, vn, vc⟩ := V
  cases va with
  | none =>
    have e1 := hv.nil_
    subst e1
    have e2 : vn = 0 := by
      rcases Nat.eq_zero_or_pos vn with h | h
      · exact h
      · have := Nat.mul_pos h hk; dsimp only at hl; simp at hl; omega
    subst e2
    refine ⟨S, w, run_append_none_c base t ty e i k ht hi S.v S.n vc us own.own, by simp, by simpa using own, grown_refl _ _, fun b hb => .inl hb⟩
  | some ad =>
    have hu : ∀ j u, vs[j]? = some u → w.cell? (ad.add j) = some u := by
      intro j u hj
      obtain ⟨b, off, e1, hc⟩ := hv j u hj
      injection e1 with e1
      subst e1
      rw [add_lit]; exact hc
    obtain ⟨v', w', hr, hown', hgr, _, hblk⟩ := run_append_own_at (P := P) w base t ty e i z k bytes ht hi hz hsz hby hzs hk S.v S.n us own.own ad vn vc vs hl hu h1 (by unfold maxLen; dsimp only at h63; omega) hb hb0
    have hv' : ∃ r : Sl, v' = r.v ∧ r.n = S.n + vn := by
      rcases hown'.2 with ⟨q1, q2⟩ | ⟨g, cap, cur, q1, _⟩
      · exact ⟨⟨none, 0, 0⟩, q1, q2.symm⟩
      · exact ⟨⟨some ⟨g, 0, none⟩, S.n + vn, cap⟩, q1, rfl⟩
    obtain ⟨r, rfl, hn⟩ := hv'
    rw [blk_own] at hgr hblk
    rw [blk_own] at hblk
    refine ⟨r, w', hr, hn, ⟨by rw [hn]; exact hown'⟩, hgr, fun b hb => ?_⟩
    rcases hblk with q | q
    · left; rw [← q]; exact hb
    · right; rw [q] at hb; injection hb with hb; exact hb.symm
theorem wpList_appV (hgd : o.guard = none) (s x : Operand) (t : TypeId) (ho : o.op = .call { callee := .builtin .append, args := #[s, x], argTypes := #[t, t] })
    {base : Nat} {e : TypeId} {i : TypeInfo} {z : Value} {k bytes : Nat} {S V : Sl} {us vs : List Value}
    (ht : P.underlying t = some (.slice e)) (hi : P.info? e = some i) (hz : i.zero = some z) (hsz : i.size = k) (hby : i.bytes = bytes) (hzs : z.cells.size = k) (hk : 0 < k)
    (hs : a.eval s = S.v) (hx : a.eval x = V.v) (own : OR base w e k S us) (hb0 : base ≤ w.heap.size) (hl : vs.length = V.n * k) (hv : CR w V vs) (h1 : ∀ u ∈ vs, u.oneCell' = true) (hb : (S.n + V.n) * bytes ≤ 140737488355328) (h63 : S.n + V.n ≤ 1000000000)
    (hq : ∀ (r : Sl) (w' : World), r.n = S.n + V.n → OR base w' e k r (us ++ vs) → w.grownBy w' S.blk → (∀ b, r.blk = some b → S.blk = some b ∨ b = w.heap.size) → wpList P ops Q rest (a.put o.dst r.v) w') : wpList P ops Q (o :: rest) a w := by
  refine wpList_plain hgd fun K hK => ?_
  obtain ⟨r, w', hr, h2, h3, h4, h5⟩ := appV_run (P := P) t o.type ht hi hz hsz hby hzs hk own hb0 hl hv h1 hb h63
  unfold Oper.wp execOp
  simp only [ho, resolve, invoke, builtin, Sem.run_bind, Sem.run_pure, Result.andThen_ok, List.map_toArray, List.map_cons, List.map_nil, hs, hx, hr]
  exact hK _ _ (hq r w' h2 h3 h4 h5)
theorem step_appV {K : Act → World → Prop} {E : Prop} (hgd : o.guard = none) (s x : Operand) (t : TypeId) (ho : o.op = .call { callee := .builtin .append, args := #[s, x], argTypes := #[t, t] })
    {base : Nat} {e : TypeId} {i : TypeInfo} {z : Value} {k bytes : Nat} {S V : Sl} {us vs : List Value}
    (ht : P.underlying t = some (.slice e)) (hi : P.info? e = some i) (hz : i.zero = some z) (hsz : i.size = k) (hby : i.bytes = bytes) (hzs : z.cells.size = k) (hk : 0 < k)
    (hs : a.eval s = S.v) (hx : a.eval x = V.v) (own : OR base w e k S us) (hb0 : base ≤ w.heap.size) (hl : vs.length = V.n * k) (hv : CR w V vs) (h1 : ∀ u ∈ vs, u.oneCell' = true) (hb : (S.n + V.n) * bytes ≤ 140737488355328) (h63 : S.n + V.n ≤ 1000000000)
    (hq : ∀ (r : Sl) (w' : World), r.n = S.n + V.n → OR base w' e k r (us ++ vs) → w.grownBy w' S.blk → (∀ b, r.blk = some b → S.blk = some b ∨ b = w.heap.size) → K (a.put o.dst r.v) w') :
    if Region.wanted o (yielded ops a.tmps) = true then Oper.wp P o a w K Q else E := by
  have hw : Region.wanted o (yielded ops a.tmps) = true := by simp [Region.wanted, hgd]
  rw [if_pos hw]
  obtain ⟨r, w', hr, h2, h3, h4, h5⟩ := appV_run (P := P) t o.type ht hi hz hsz hby hzs hk own hb0 hl hv h1 hb h63
  unfold Oper.wp execOp
  simp only [ho, resolve, invoke, builtin, Sem.run_bind, Sem.run_pure, Result.andThen_ok, List.map_toArray, List.map_cons, List.map_nil, hs, hx, hr]
  exact hq r w' h2 h3 h4 h5
end
end Go.Proofs.YticmoaebegahgaaGreatDoor.Iw
