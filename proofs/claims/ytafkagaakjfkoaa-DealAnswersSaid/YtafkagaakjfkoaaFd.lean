/- Contract of the reference's Joined. -/
import Derived.Test.YtafkagaakjfkoaaFc
namespace Go.Proofs.Ytafkagaakjfkoaa
open Go.ChangeShapes Go.WideShapes Go.ChangeAt Go.RowKit

theorem info_p : (Try.prog.info? 38).map (fun i => (i.zero, i.size, i.bytes)) = some (some (.agg #[.int .i64 0, .int .i64 0]), 2, 16) := by kernel_rfl
theorem parts_p : ∃ i, Try.prog.info? 38 = some i ∧ i.zero = some (.agg #[.int .i64 0, .int .i64 0]) ∧ i.size = 2 ∧ i.bytes = 16 := by
  obtain ⟨i, hi, hz⟩ := Option.map_eq_some_iff.1 info_p
  simp only [Prod.mk.injEq] at hz
  exact ⟨i, hi, hz.1, hz.2.1, hz.2.2⟩
/-- A row of pieces that the call made since base. -/
abbrev OP (base : Nat) (w : World) (s : Sl) (f : List Fm.Pc) : Prop := OR base w 38 2 s (f2 f)
/-- What a function that makes pieces leaves. -/
def PEnd (f : List Fm.Pc) (w : World) (e : Ending) (w' : World) : Prop := ∃ r : Sl, e = .returned r.v ∧ OP w.heap.size w' r f ∧ w.grownBy w' none

theorem f2_set {m : List Fm.Pc} {q : Fm.Pc} {d : List Fm.Pc} (h : m = d ++ [q]) {j : Nat} (hj : d.length = j) (v : Int) : (f2 m).set (j * 2 + 1) (.int .i64 v) = f2 (d ++ [(q.1, v)]) := by
  subst h; subst hj
  rw [f2_app, List.set_append_right _ _ (by rw [f2_len]; omega), f2_len, f2_app, show d.length * 2 + 1 - d.length * 2 = 1 by omega]
  rfl
/-- A number is written into a row of the call's own. -/
theorem OR.stored {base : Nat} {w : World} {T : TypeId} {k g n c : Nat} {us : List Value} (h : OR base w T k ⟨some ⟨g, 0, none⟩, n, c⟩ us) (o : Nat) (v : Value) : OR base (w.setCell ⟨g, o, none⟩ v) T k ⟨some ⟨g, 0, none⟩, n, c⟩ (us.set o v) ∧ w.grownBy (w.setCell ⟨g, o, none⟩ v) (some g) := by
  obtain ⟨h1, h2⟩ := (show w.ownsRow base T k (.slice (some ⟨g, 0, none⟩) n c) n us from h.own).stored o v
  exact ⟨⟨h1⟩, h2⟩
theorem jstep_none {m : List Fm.Pc} {p : Fm.Pc} (h : p.2 ≠ 0) (hm : m.length = 0) : Fm.jstep m p = m ++ [p] := by
  have : m = [] := List.eq_nil_of_length_eq_zero hm
  subst this
  unfold Fm.jstep
  rw [if_neg h]; rfl
theorem jstep_same {m d : List Fm.Pc} {p q : Fm.Pc} (h : p.2 ≠ 0) (hm : m = d ++ [q]) (hq : q.1 = p.1) : Fm.jstep m p = d ++ [(q.1, q.2 + p.2)] := by
  subst hm
  unfold Fm.jstep
  rw [if_neg h]
  simp [hq]
theorem jstep_other {m d : List Fm.Pc} {p q : Fm.Pc} (h : p.2 ≠ 0) (hm : m = d ++ [q]) (hq : ¬ q.1 = p.1) : Fm.jstep m p = m ++ [p] := by
  subst hm
  unfold Fm.jstep
  rw [if_neg h]
  simp [hq]
theorem jstep_zero {m : List Fm.Pc} {p : Fm.Pc} (h : p.2 = 0) : Fm.jstep m p = m := by unfold Fm.jstep; rw [if_pos h]
/-- The last piece. -/
theorem last_piece {m : List Fm.Pc} {n : Nat} (h : m.length = n) (h0 : 0 < n) : ∃ d q, m = d ++ [q] ∧ d.length = n - 1 ∧ m.getD (n - 1) Fm.zp = q := by
  refine ⟨m.dropLast, m[n - 1]'(by omega), ?_, by rw [List.length_dropLast, h], ?_⟩
  · have := List.dropLast_concat_getLast (l := m) (by intro e; subst e; simp at h; omega)
    conv => lhs; rw [← this]
    rw [List.getLast_eq_getElem]
    simp [h]
  · simp [List.getD_eq_getElem?_getD, List.getElem?_eq_getElem (show n - 1 < m.length by omega)]
theorem last_vol {f m d : List Fm.Pc} {q : Fm.Pc} {k : Nat} (hp : Fm.Pos f) (h : m = Fm.mer (Fm.lit (f.take k))) (hm : m = d ++ [q]) : 1 ≤ q.2 ∧ q.2 ≤ Fm.vol (f.take k) := by
  have h1 := Fm.mer_mgd (Fm.lit (f.take k))
  have h2 := Fm.lit_len h1.pos
  have h3 := Fm.lit_len (hp.take k)
  rw [Fm.lit_mer] at h2
  rw [← h, hm] at h2 h1
  have h4 := h1.one q (by simp)
  rw [Fm.vol_app, Fm.vol_one] at h2
  have h5 := Fm.vol_pos (Fm.mgd_front h1).pos
  exact ⟨h4, by omega⟩
theorem f2_snoc2 (f : List Fm.Pc) (p : Fm.Pc) : f2 f ++ pcs p = f2 (f ++ [p]) := by rw [f2_app]; simp [f2]
/-- A literal of one piece. -/
theorem cr_new (w : World) (x y : Int) {A : Nat} (hA : A = w.heap.size) : CR (w.alloc (.cells #[.int .i64 x, .int .i64 y] 38)) ⟨some ⟨A, 0, none⟩, 1, 1⟩ (pcs (x, y)) := by
  subst hA
  intro j u hu
  refine ⟨w.heap.size, 0, rfl, ?_⟩
  rw [Nat.zero_add]
  match j, hu with
  | 0, hu => simp [pcs] at hu; subst hu; simp
  | 1, hu => simp [pcs] at hu; subst hu; simp

set_option maxHeartbeats 1000000 in
theorem rjoined_any (s : Sl) (f : List Fm.Pc) (w : World) (h : FR w s f) (hp : Fm.Pos f) (hl : f.length ≤ 100000) (hv : Fm.vol f ≤ 1152921504606846976) : Calls Try.prog 40 #[s.v] w (PEnd (Fm.mer (Fm.lit f)) w) := by
  obtain ⟨i0, hi, hz0, hz1, hz2⟩ := parts_p
  obtain ⟨a, n, c⟩ := s
  have hlen := h.len
  have fit := h.fit
  dsimp only [Sl.fit] at hlen fit
  have HF := Lib.hid h
  have HP := Lib.hid hp
  have HV := Lib.hid (fun k => Fm.vol_take_le hp k)
  clear h hp
  unfold Sl.v
  dsimp only
  go_enter Try.func40, Try.ntmps40
  go_wp2
  go_loopw [3, 8] (fun so i wr => ∃ (k : Nat) (o : Sl) (m : List Fm.Pc), so = .slice o.a o.n o.c ∧ i = .int .i64 k ∧ k ≤ n ∧ Hid (m = Fm.mer (Fm.lit (f.take k))) ∧ Hid (OP w.heap.size wr o m) ∧ Hid (w.grownBy wr none)) (fun _ i _ => n - (intOf i).toNat)
  case atStart => exact ⟨0, ⟨none, 0, 0⟩, [], rfl, rfl, by omega, Lib.hid (by simp [Fm.lit, Fm.mer]), Lib.hid (or_nil _ _ _ _), grown_refl _ _⟩
  case round =>
    obtain ⟨k, ⟨oa, on, oc⟩, m, rfl, rfl, hk, M, O, G⟩ := hrel
    dsimp only
    by_cases hlt : k < n
    · obtain ⟨b, off, x0, y0, rfl, hp0, c0, c1⟩ := (HF.out.grown G.out).at_ k hlt
      have hy := HP.out _ (Fm.getD_mem (f := f) (i := k) (by omega))
      rw [hp0] at hy
      dsimp only at hy
      have v1 := HV.out k
      have v2 := HV.out (k + 1)
      rw [Fm.vol_next (by omega), hp0] at v2
      dsimp only at v2
      have J := Lib.hid (Fm.join_next (f := f) (i := k) (by omega) HP.out)
      rw [hp0, ← M.out] at J
      have GA := Lib.hid (grown_trans G.out (World.grownBy_alloc wr (.cells #[.int .i64 x0, .int .i64 y0] 38) none))
      have OA := Lib.hid (O.out.grown (World.grownBy_alloc wr (.cells #[.int .i64 x0, .int .i64 y0] 38) none))
      have hml : m.length = on := (O.out.fr).len
      have ofit := O.out.fit
      dsimp only [Sl.fit] at ofit
      have hon : on ≤ k := by
        have h1 := Fm.mer_lit_len (f.take k)
        rw [← M.out, List.length_take] at h1
        omega
      clear hp0
      by_cases hy0 : y0 = 0
      · subst hy0
        rw [jstep_zero (p := (x0, 0)) rfl] at J
        go_wp2
        go_roundw
        case rel => exact ⟨k + 1, ⟨oa, on, oc⟩, m, rfl, by go_num, by omega, J, OA, GA⟩
        case measure => simp [intOf]; omega
      · have hb : (y0 == 0) = false := by rw [beq_eq_false_iff_ne]; exact hy0
        by_cases h0 : 0 < on
        · obtain ⟨d, q, hd, hdl, hq⟩ := last_piece hml h0
          have hqv := last_vol HP.out M.out hd
          obtain ⟨j, hj⟩ : ∃ j, j = on - 1 := ⟨_, rfl⟩
          rw [← hj] at hdl hq
          have hjn : (j : Int) < (on : Int) := by omega
          have hw : IntKind.i64.wrap ((on : Int) - 1) = (j : Int) := by rw [IntWalk.i64_in _ (by omega)]; omega
          have h0i : (0 : Int) < (on : Int) := by omega
          rcases O.out.form with ⟨_, e0, _⟩ | ⟨g, e0, g1, g2⟩
          · dsimp only at e0; omega
          · dsimp only at e0
            subst e0
            have hgn : ¬ wr.heap.size = g := by omega
            obtain ⟨x1, y1, hp1, c2, c3⟩ := OA.out.fr.got j (by omega)
            rw [hq] at hp1
            subst hp1
            have fz := OA.out.own.frozenAt (j * 2 + 1)
            rw [Nat.zero_add] at c2 c3
            have D := Lib.hid hd
            have DL := Lib.hid hdl
            clear hd hdl hq hj
            by_cases hx : x1 = x0
            · subst hx
              have JS := Lib.hid (show d ++ [(x1, y1 + y0)] = Fm.mer (Fm.lit (f.take (k + 1))) by rw [← J.out, jstep_same (p := (x1, y0)) hy0 D.out rfl])
              have ST := fun nq => Lib.hid ((OA.out.grown (grown_drewN _ nq none)).stored (j * 2 + 1) (.int .i64 (y1 + y0)))
              rw [f2_set D.out DL.out] at ST
              go_wp2
              go_quiet (fail)
              go_wp2
              go_region
              have S1 := Lib.hid (ST (nq + 1)).out.1
              have S2 := Lib.hid (grown_row0 (grown_trans GA.out (grown_drewN _ (nq + 1) none)) (ST (nq + 1)).out.2 (fun b hb => by cases hb; exact g1))
              clear ST
              go_wp2
              go_roundw
              case rel => exact ⟨k + 1, ⟨some ⟨g, 0, none⟩, on, oc⟩, _, rfl, by go_num, by omega, JS, S1, S2⟩
              case measure => simp [intOf]; omega
            · have hxb : (x1 == x0) = false := by rw [beq_eq_false_iff_ne]; exact hx
              have JS := Lib.hid (show m ++ [(x0, y0)] = Fm.mer (Fm.lit (f.take (k + 1))) by rw [← J.out, jstep_other (p := (x0, y0)) hy0 D.out hx])
              go_wp2
              go_quiet (fail)
              have OW := Lib.hid (OA.out.grown (grown_drewN _ nq none))
              go_wp2_with (first
                | (at_builtin
                   refine wpList_appV rfl _ _ 23 rfl (S := ⟨some ⟨g, 0, none⟩, on, oc⟩) (V := ⟨some ⟨wr.heap.size + 1, 0, none⟩, 1, 1⟩) (vs := pcs (x0, y0)) Try.underlying23 hi hz0 hz1 hz2 (by rfl) (by omega) rfl rfl (OW.out.grown (World.grownBy_alloc _ _ _)) ?a1 (by rfl) (cr_new _ _ _ (by simp)) (pcs_one _) ?a2 ?a3 ?_
                   case a1 => simp; have := G.out.size; omega
                   case a2 => dsimp only; omega
                   case a3 => dsimp only; omega
                   intro r w5 hrn hr hg5 hbl)
                | fail)
              rw [f2_snoc2, JS.out] at hr
              have RR := Lib.hid hr
              have R5 := Lib.hid (grown_row0 (grown_trans (grown_trans GA.out (grown_drewN _ nq none)) (World.grownBy_alloc _ _ _)) hg5 (fun b hb => (O.out.blk b hb).1))
              clear hr hg5 hbl hrn
              obtain ⟨ra, rn, rc⟩ := r
              dsimp only [Sl.v]
              go_wp2
              go_roundw
              case rel => exact ⟨k + 1, ⟨ra, rn, rc⟩, _, rfl, by go_num, by omega, Lib.hid rfl, RR, R5⟩
              case measure => simp [intOf]; omega
        · have e0 : decide ((0 : Int) < (on : Int)) = false := decide_eq_false (by omega)
          have JS := Lib.hid (show m ++ [(x0, y0)] = Fm.mer (Fm.lit (f.take (k + 1))) by rw [← J.out, jstep_none (p := (x0, y0)) hy0 (by omega)])
          go_wp2
          go_quiet (fail)
          have OW := Lib.hid (OA.out.grown (grown_drewN _ nq none))
          go_wp2_with (first
            | (at_builtin
               refine wpList_appV rfl _ _ 23 rfl (S := ⟨oa, on, oc⟩) (V := ⟨some ⟨wr.heap.size + 1, 0, none⟩, 1, 1⟩) (vs := pcs (x0, y0)) Try.underlying23 hi hz0 hz1 hz2 (by rfl) (by omega) rfl rfl (OW.out.grown (World.grownBy_alloc _ _ _)) ?a1 (by rfl) (cr_new _ _ _ (by simp)) (pcs_one _) ?a2 ?a3 ?_
               case a1 => simp; have := G.out.size; omega
               case a2 => dsimp only; omega
               case a3 => dsimp only; omega
               intro r w5 hrn hr hg5 hbl)
            | fail)
          rw [f2_snoc2, JS.out] at hr
          have RR := Lib.hid hr
          have R5 := Lib.hid (grown_row0 (grown_trans (grown_trans GA.out (grown_drewN _ nq none)) (World.grownBy_alloc _ _ _)) hg5 (fun b hb => (O.out.blk b hb).1))
          clear hr hg5 hbl hrn
          obtain ⟨ra, rn, rc⟩ := r
          dsimp only [Sl.v]
          go_wp2
          go_roundw
          case rel => exact ⟨k + 1, ⟨ra, rn, rc⟩, _, rfl, by go_num, by omega, Lib.hid rfl, RR, R5⟩
          case measure => simp [intOf]; omega
    · obtain rfl : k = n := by omega
      go_wp2
      go_ret
      refine ⟨⟨oa, on, oc⟩, rfl, ?_, G.out⟩
      have := M.out
      rw [List.take_of_length_le (by omega)] at this
      rw [← this]; exact O.out
end Go.Proofs.Ytafkagaakjfkoaa
