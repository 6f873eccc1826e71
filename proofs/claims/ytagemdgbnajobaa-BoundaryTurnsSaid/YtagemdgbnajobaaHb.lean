/- Contracts of the reference's Turned, Ahead, Mixture, Cut. -/
import Derived.Test.YtagemdgbnajobaaHa
import Derived.OwnWalk
namespace Go.Proofs.Ytagemdgbnajobaa
open Go.ChangeShapes Go.WideShapes Go.ChangeAt Go.RowKit

theorem results_tmp4 {fn : Func} {t u v x : Tmp} (h : fn.results = #[.tmp t, .tmp u, .tmp v, .tmp x]) (tmps : Array Value) (P : Program) (w : World) :
    (results fn tmps).run P w = .ok (.tuple #[tmps.getD t undef, tmps.getD u undef, tmps.getD v undef, tmps.getD x undef]) w := by
  simp [results, h]
theorem drop_at {f : List Fm.Pc} {i : Nat} (hi : i < f.length) : f.drop i = f.getD i Fm.zp :: f.drop (i + 1) := by
  rw [List.drop_eq_getElem_cons hi]
  simp [List.getD_eq_getElem?_getD, List.getElem?_eq_getElem hi]

set_option maxHeartbeats 400000 in
theorem turned_any (s : Sl) (f : List Fm.Pc) (w : World) (h : FR w s f) (hb : s.n ≤ 1000) : Calls Try.prog 26 #[s.v] w (PEnd f.reverse w) := by
  obtain ⟨i0, hi, hz0, hz1, hz2⟩ := parts_p
  obtain ⟨a, n, c⟩ := s
  have hlen := h.len
  have fit := h.fit
  dsimp only [Sl.fit] at hlen fit hb
  have HF := Lib.hid h
  clear h
  unfold Sl.v
  dsimp only
  have hw0 : IntKind.i64.wrap ((n : Int) - 1) = (n : Int) - 1 := IntWalk.i64_in _ (by omega)
  go_enter Try.func26, Try.ntmps26
  go_wp2
  go_loopw [3, 4] (fun so i wr => ∃ (j : Nat) (x : Int) (o : Sl), so = .slice o.a o.n o.c ∧ i = .int .i64 x ∧ x = (j : Int) - 1 ∧ j ≤ n ∧ Hid (OP w.heap.size wr o (f.drop j).reverse) ∧ Hid (w.grownBy wr none)) (fun _ i _ => (intOf i + 1).toNat)
  case atStart => exact ⟨n, (n : Int) - 1, ⟨none, 0, 0⟩, rfl, rfl, rfl, by omega, Lib.hid (by rw [List.drop_of_length_le (by omega)]; exact or_nil _ _ _ _), grown_refl _ _⟩
  case round =>
    obtain ⟨j, x, ⟨oa, on, oc⟩, rfl, rfl, hx, hj, O, G⟩ := hrel
    dsimp only
    have hon : on = n - j := by have := O.out.fr.len; rw [List.length_reverse, List.length_drop] at this; dsimp only at this; omega
    by_cases h0 : 0 < j
    · obtain ⟨q, rfl⟩ : ∃ q, j = q + 1 := ⟨j - 1, by omega⟩
      obtain rfl : x = (q : Int) := by omega
      obtain ⟨b, off, x0, y0, rfl, hp0, c0, c1⟩ := (HF.out.grown G.out).at_ q (show q < n by omega)
      have hqn : (q : Int) < (n : Int) := by omega
      have hon2 : on ≤ 1000 := by omega
      have D := Lib.hid (show (f.drop (q + 1)).reverse ++ [(x0, y0)] = (f.drop q).reverse by rw [drop_at (f := f) (i := q) (by omega), hp0, List.reverse_cons])
      have hw : IntKind.i64.wrap ((q : Int) - 1) = (q : Int) - 1 := IntWalk.i64_in _ (by omega)
      have szw := G.out.size
      clear hp0 hon hx
      go_wp2_with (first
        | (at_builtin
           refine wpList_appV rfl _ _ 22 rfl (S := ⟨oa, on, oc⟩) (V := ⟨some ⟨wr.heap.size, 0, none⟩, 1, 1⟩) (vs := pcs (x0, y0)) Try.underlying22 hi hz0 hz1 hz2 (by rfl) (by omega) rfl rfl (O.out.grown (World.grownBy_alloc _ _ _)) ?a1 (by rfl) (cr_new _ _ _ rfl) (pcs_one _) ?a2 ?a3 ?_
           case a1 => rw [World.size_alloc]; omega
           case a2 => dsimp only; omega
           case a3 => dsimp only; omega
           intro r w5 hrn hr hg5 hbl)
        | fail)
      rw [f2_snoc2, D.out] at hr
      have RR := Lib.hid hr
      have R5 := Lib.hid (grown_row0 (grown_trans G.out (World.grownBy_alloc _ _ _)) hg5 (fun b hb => (O.out.blk b hb).1))
      clear hr hg5 hbl hrn
      obtain ⟨ra, rn, rc⟩ := r
      dsimp only [Sl.v]
      go_wp2
      go_roundw
      case rel => exact ⟨q, _, ⟨ra, rn, rc⟩, rfl, rfl, rfl, by omega, RR, R5⟩
      case measure => simp [intOf]
    · obtain rfl : j = 0 := by omega
      have e0 : decide ((0 : Int) ≤ x) = false := decide_eq_false (by omega)
      have D := Lib.hid (show OP w.heap.size wr ⟨oa, on, oc⟩ f.reverse by have := O.out; rw [List.drop_zero] at this; exact this)
      clear hon hx
      go_wp2
      go_ret
      exact ⟨⟨oa, on, oc⟩, rfl, D.out, G.out⟩

/-- The list in the order in which its litres leave. -/
def dirOf (f : List Fm.Pc) (back : Bool) : List Fm.Pc := if back then f else f.reverse
noncomputable def aheadV (f : List Fm.Pc) (b : Int) (back : Bool) : Int := if Fm.valid f = true then (Bm.ahd b 0 (dirOf f back)).getD 0 else 0
noncomputable def aheadE (f : List Fm.Pc) (b : Int) (back : Bool) : Int := if Fm.valid f = true then (if (Bm.ahd b 0 (dirOf f back)).isSome = true then 0 else 8) else 9
/-- Two values are returned, and memory is made at most. -/
abbrev Ret2 (x y : Int) (w : World) (e : Ending) (w' : World) : Prop := Ret (.tuple #[.int .i64 x, .int .i64 y]) w e w'
theorem ret_two {x y x' y' : Int} (h1 : x = x') (h2 : y = y') : Ending.returned (.tuple #[.int .i64 x, .int .i64 y]) = .returned (.tuple #[.int .i64 x', .int .i64 y']) := by rw [h1, h2]
theorem ahd_next {b x : Int} {f : List Fm.Pc} {k : Nat} (hk : k < f.length) : Bm.ahd b x (f.drop k) = if (f.getD k Fm.zp).1 = b then some x else Bm.ahd b (x + (f.getD k Fm.zp).2) (f.drop (k + 1)) := by
  rw [drop_at hk, Bm.ahd]

set_option maxHeartbeats 1000000 in
theorem rahead_any (s : Sl) (f : List Fm.Pc) (d : Int) (back : Bool) (w : World) (h : FR w s f) :
    Calls Try.prog 17 #[s.v, .int .i64 d, .bool back] w (Ret2 (aheadV f d back) (aheadE f d back) w) := by
  have HF := Lib.hid h
  clear h
  unfold aheadV aheadE
  cases hv : Fm.valid f with
  | false =>
    have V := Lib.hid hv
    clear hv
    go_enter Try.func17, Try.ntmps17
    go_wp2_with fail
    refine (rvalid_any s f w HF.out).mono ?_
    rintro e w1 ⟨rfl, hg⟩
    have G := Lib.hid hg
    clear hg
    rw [V.out]
    go_wp2
    go_ret2
    exact ⟨ret_two (by simp) (by simp), G.out⟩
  | true =>
    have V := Lib.hid hv
    have hV := Fm.valid_iff.1 hv
    have VV := Lib.hid hV
    clear hv hV
    cases back with
    | true =>
      have P := Lib.hid (show Fm.Pos f from VV.out.pos)
      have HB := Lib.hid (show ∀ k, 0 ≤ Fm.vol (f.take k) ∧ Fm.vol (f.take k) ≤ 1000000 from fun k => by have h1 := Fm.vol_take_le P.out k; have h2 := VV.out.vol; omega)
      have hlen : (f).length ≤ 200 := by exact VV.out.len
      unfold dirOf
      simp only [if_true]
      obtain ⟨OUT, hO⟩ : ∃ O, O = Bm.ahd d 0 f := ⟨_, rfl⟩
      rw [← hO]
      have OO := Lib.hid hO
      clear hO
      obtain ⟨V0, hV0⟩ : ∃ V0, V0 = OUT.getD 0 := ⟨_, rfl⟩
      rw [← hV0]
      obtain ⟨C0, hC0⟩ : ∃ C0, C0 = (if OUT.isSome = true then (0 : Int) else 8) := ⟨_, rfl⟩
      rw [← hC0]
      have HV0 := Lib.hid hV0
      have HC0 := Lib.hid hC0
      clear hV0 hC0
      go_enter Try.func17, Try.ntmps17
      go_wp2_with fail
      refine (rvalid_any s f w HF.out).mono ?_
      rintro e w1 ⟨rfl, hg⟩
      have G1 := Lib.hid hg
      clear hg
      rw [V.out]
      obtain ⟨a, n, c⟩ := s
      have R := Lib.hid (HF.out.grown G1.out)
      dsimp only [Sl.v]
      go_wp2
      have hn : (f).length = n := R.out.len
      have fit := R.out.fit
      dsimp only [Sl.fit] at fit
      go_loopw [9, 22] (fun sm i wr => ∃ (k : Nat) (x : Int), sm = .int .i64 x ∧ i = .int .i64 k ∧ k ≤ n ∧ Hid (x = Fm.vol (f.take k)) ∧ Hid (OUT = Bm.ahd d x (f.drop k)) ∧ Hid (w1.grownBy wr none)) (fun _ i _ => n - (intOf i).toNat)
      case atStart => exact ⟨0, 0, rfl, rfl, by omega, Lib.hid (by simp [Fm.vol]), Lib.hid (by rw [List.drop_zero]; exact OO.out), grown_refl _ _⟩
      case round =>
        obtain ⟨k, x, rfl, rfl, hk, X, A, G⟩ := hrel
        by_cases hlt : k < n
        · obtain ⟨b, off, x0, y0, rfl, hp0, c0, c1⟩ := (R.out.grown G.out).at_ k hlt
          have A1 := A.out
          rw [ahd_next (by omega), hp0] at A1
          dsimp only at A1
          have E := Lib.hid (show x + y0 = Fm.vol (f.take (k + 1)) by have := Fm.vol_next (f := f) (k := k) (by omega); rw [hp0] at this; rw [this, X.out])
          have v1 := HB.out k
          have v2 := HB.out (k + 1)
          rw [← E.out] at v2
          rw [← X.out] at v1
          by_cases hd : x0 = d
          · rw [if_pos hd] at A1
            have AF := Lib.hid A1
            subst hd
            clear hp0 A1
            go_wp2
            go_ret2
            exact ⟨ret_two (by rw [HV0.out, AF.out]; rfl) (by rw [HC0.out, AF.out]; rfl), grown_trans G1.out (grown_trans G.out (World.grownBy_alloc _ _ _))⟩
          · rw [if_neg hd] at A1
            have AF := Lib.hid A1
            have hb : (x0 == d) = false := by rw [beq_eq_false_iff_ne]; exact hd
            clear hp0 A1
            go_wp2
            go_roundw
            case rel => exact ⟨k + 1, _, rfl, by go_num, by omega, E, AF, Lib.hid (grown_trans G.out (World.grownBy_alloc _ _ _))⟩
            case measure => simp [intOf]; omega
        · obtain rfl : k = n := by omega
          have AF := Lib.hid (show OUT = none by have := A.out; rw [List.drop_of_length_le (by omega)] at this; exact this)
          go_wp2
          go_ret2
          exact ⟨ret_two (by rw [HV0.out, AF.out]; rfl) (by rw [HC0.out, AF.out]; rfl), grown_trans G1.out G.out⟩
    | false =>
      have P := Lib.hid (show Fm.Pos f.reverse from fun p hp => VV.out.pos p (List.mem_reverse.1 hp))
      have HB := Lib.hid (show ∀ k, 0 ≤ Fm.vol (f.reverse.take k) ∧ Fm.vol (f.reverse.take k) ≤ 1000000 from fun k => by have h1 := Fm.vol_take_le P.out k; have h2 := VV.out.vol; rw [Bm.vol_reverse] at h1; omega)
      have hlen : (f.reverse).length ≤ 200 := by rw [List.length_reverse]; exact VV.out.len
      unfold dirOf
      simp only [if_true, if_false, Bool.false_eq_true]
      obtain ⟨OUT, hO⟩ : ∃ O, O = Bm.ahd d 0 f.reverse := ⟨_, rfl⟩
      rw [← hO]
      have OO := Lib.hid hO
      clear hO
      obtain ⟨V0, hV0⟩ : ∃ V0, V0 = OUT.getD 0 := ⟨_, rfl⟩
      rw [← hV0]
      obtain ⟨C0, hC0⟩ : ∃ C0, C0 = (if OUT.isSome = true then (0 : Int) else 8) := ⟨_, rfl⟩
      rw [← hC0]
      have HV0 := Lib.hid hV0
      have HC0 := Lib.hid hC0
      clear hV0 hC0
      go_enter Try.func17, Try.ntmps17
      go_wp2_with fail
      refine (rvalid_any s f w HF.out).mono ?_
      rintro e w1 ⟨rfl, hg⟩
      have G1 := Lib.hid hg
      clear hg
      rw [V.out]
      go_wp2_with fail
      refine (turned_any s f w1 (HF.out.grown G1.out) (by have := HF.out.len; have := VV.out.len; omega)).mono ?_
      rintro e w2 ⟨⟨a, n, c⟩, rfl, hr, hg⟩
      have R := Lib.hid hr.fr
      replace G1 := Lib.hid (grown_trans G1.out hg)
      clear hr hg
      dsimp only [Sl.v]
      go_wp2
      have hn : (f.reverse).length = n := R.out.len
      have fit := R.out.fit
      dsimp only [Sl.fit] at fit
      go_loopw [9, 22] (fun sm i wr => ∃ (k : Nat) (x : Int), sm = .int .i64 x ∧ i = .int .i64 k ∧ k ≤ n ∧ Hid (x = Fm.vol (f.reverse.take k)) ∧ Hid (OUT = Bm.ahd d x (f.reverse.drop k)) ∧ Hid (w2.grownBy wr none)) (fun _ i _ => n - (intOf i).toNat)
      case atStart => exact ⟨0, 0, rfl, rfl, by omega, Lib.hid (by simp [Fm.vol]), Lib.hid (by rw [List.drop_zero]; exact OO.out), grown_refl _ _⟩
      case round =>
        obtain ⟨k, x, rfl, rfl, hk, X, A, G⟩ := hrel
        by_cases hlt : k < n
        · obtain ⟨b, off, x0, y0, rfl, hp0, c0, c1⟩ := (R.out.grown G.out).at_ k hlt
          have A1 := A.out
          rw [ahd_next (by omega), hp0] at A1
          dsimp only at A1
          have E := Lib.hid (show x + y0 = Fm.vol (f.reverse.take (k + 1)) by have := Fm.vol_next (f := f.reverse) (k := k) (by omega); rw [hp0] at this; rw [this, X.out])
          have v1 := HB.out k
          have v2 := HB.out (k + 1)
          rw [← E.out] at v2
          rw [← X.out] at v1
          by_cases hd : x0 = d
          · rw [if_pos hd] at A1
            have AF := Lib.hid A1
            subst hd
            clear hp0 A1
            go_wp2
            go_ret2
            exact ⟨ret_two (by rw [HV0.out, AF.out]; rfl) (by rw [HC0.out, AF.out]; rfl), grown_trans G1.out (grown_trans G.out (World.grownBy_alloc _ _ _))⟩
          · rw [if_neg hd] at A1
            have AF := Lib.hid A1
            have hb : (x0 == d) = false := by rw [beq_eq_false_iff_ne]; exact hd
            clear hp0 A1
            go_wp2
            go_roundw
            case rel => exact ⟨k + 1, _, rfl, by go_num, by omega, E, AF, Lib.hid (grown_trans G.out (World.grownBy_alloc _ _ _))⟩
            case measure => simp [intOf]; omega
        · obtain rfl : k = n := by omega
          have AF := Lib.hid (show OUT = none by have := A.out; rw [List.drop_of_length_le (by omega)] at this; exact this)
          go_wp2
          go_ret2
          exact ⟨ret_two (by rw [HV0.out, AF.out]; rfl) (by rw [HC0.out, AF.out]; rfl), grown_trans G1.out G.out⟩

/-- What Mixture returns. -/
def MixOf (f t r c : Int) : Prop := ((0 ≤ f ∧ f ≤ 1000000 ∧ 0 ≤ t ∧ t ≤ 1099511627776) ∧ c = 0 ∧ IsRootUp (f * t) r) ∨ (¬ (0 ≤ f ∧ f ≤ 1000000 ∧ 0 ≤ t ∧ t ≤ 1099511627776) ∧ r = 0 ∧ c = 1)
theorem mixOf_one {f t r c r' c' : Int} (h : MixOf f t r c) (k : MixOf f t r' c') : r = r' ∧ c = c' := by
  rcases h with ⟨h1, rfl, h3⟩ | ⟨h1, rfl, rfl⟩
  · rcases k with ⟨k1, rfl, k3⟩ | ⟨k1, rfl, rfl⟩
    · exact ⟨rootUp_one _ _ _ h3 k3, rfl⟩
    · exact absurd h1 k1
  · rcases k with ⟨k1, rfl, k3⟩ | ⟨k1, rfl, rfl⟩
    · exact absurd k1 h1
    · exact ⟨rfl, rfl⟩
def MixEnd (f t : Int) (w : World) (e : Ending) (w' : World) : Prop := ∃ r c, e = .returned (.tuple #[.int .i64 r, .int .i64 c]) ∧ MixOf f t r c ∧ w.grownBy w' none
theorem mix_bound {f t : Int} (h : 0 ≤ f ∧ f ≤ 1000000 ∧ 0 ≤ t ∧ t ≤ 1099511627776) : 0 ≤ f * t ∧ f * t ≤ 1099511627776000000 :=
  ⟨Int.mul_nonneg h.1 h.2.2.1, Int.le_trans (Int.mul_le_mul h.2.1 h.2.2.2 h.2.2.1 (by omega)) (by omega)⟩
theorem rmixture_any (f t : Int) (w : World) : Calls Try.prog 19 #[.int .i64 f, .int .i64 t] w (MixEnd f t w) := by
  by_cases h0 : f < 0
  · have M := Lib.hid (show MixOf f t 0 1 from .inr ⟨by omega, rfl, rfl⟩)
    go_enter Try.func19, Try.ntmps19
    go_wp2
    go_ret2
    exact ⟨_, _, rfl, M.out, grown_refl _ _⟩
  have e0 : decide (f < 0) = false := decide_eq_false h0
  by_cases h1 : 1000000 < f
  · have M := Lib.hid (show MixOf f t 0 1 from .inr ⟨by omega, rfl, rfl⟩)
    go_enter Try.func19, Try.ntmps19
    go_wp2
    go_ret2
    exact ⟨_, _, rfl, M.out, grown_refl _ _⟩
  have e1 : decide (1000000 < f) = false := decide_eq_false h1
  by_cases h2 : t < 0
  · have M := Lib.hid (show MixOf f t 0 1 from .inr ⟨by omega, rfl, rfl⟩)
    go_enter Try.func19, Try.ntmps19
    go_wp2
    go_ret2
    exact ⟨_, _, rfl, M.out, grown_refl _ _⟩
  have e2 : decide (t < 0) = false := decide_eq_false h2
  by_cases h3 : 1099511627776 < t
  · have M := Lib.hid (show MixOf f t 0 1 from .inr ⟨by omega, rfl, rfl⟩)
    go_enter Try.func19, Try.ntmps19
    go_wp2
    go_ret2
    exact ⟨_, _, rfl, M.out, grown_refl _ _⟩
  have e3 : decide (1099511627776 < t) = false := decide_eq_false h3
  have hok : 0 ≤ f ∧ f ≤ 1000000 ∧ 0 ≤ t ∧ t ≤ 1099511627776 := by omega
  have OK := Lib.hid hok
  have hb := mix_bound hok
  clear hok
  go_enter Try.func19, Try.ntmps19
  go_wp2_with fail
  refine (rrootUp_yes (f * t) w hb.1 (by omega)).mono ?_
  rintro e w1 ⟨r, hr, rfl, rfl⟩
  have R := Lib.hid hr
  clear hr
  go_wp2
  go_ret2
  exact ⟨_, _, rfl, .inl ⟨OK.out, rfl, R.out⟩, grown_refl _ _⟩

def cutV (m r : Int) : Value := .tuple #[.int .i64 (Bm.cutOf m r).1, .int .i64 (Bm.cutOf m r).2.1, .int .i64 (Bm.cutOf m r).2.2.1, .int .i64 (Bm.cutOf m r).2.2.2]
theorem cutV_of {m r x y z c : Int} (h : Bm.cutOf m r = (x, y, z, c)) : Ending.returned (.tuple #[.int .i64 x, .int .i64 y, .int .i64 z, .int .i64 c]) = .returned (cutV m r) := by unfold cutV; rw [h]
theorem half_div {m : Int} (h : 0 ≤ m) : m.tdiv 2 = m / 2 := Int.tdiv_eq_ediv_of_nonneg h
theorem third_div {m : Int} (h : 0 ≤ m) : m.tdiv 3 = m / 3 := Int.tdiv_eq_ediv_of_nonneg h
theorem rcut_any (m r : Int) (w : World) : Calls Try.prog 21 #[.int .i64 m, .int .i64 r] w (Ret (cutV m r) w) := by
  by_cases h0 : m < 0
  · have C := Lib.hid (show Bm.cutOf m r = (0, 0, 0, 1) from if_pos (.inl h0))
    go_enter Try.func21, Try.ntmps21
    go_wp2
    (try simp only [Exit.inBlock, Exit.then]); refine bodyPost_ret (results_tmp4 rfl _ _ _) rfl ?_
    exact ⟨cutV_of C.out, grown_refl _ _⟩
  have e0 : decide (m < 0) = false := decide_eq_false h0
  by_cases h1 : 1000000 < m
  · have C := Lib.hid (show Bm.cutOf m r = (0, 0, 0, 1) from if_pos (.inr h1))
    go_enter Try.func21, Try.ntmps21
    go_wp2
    (try simp only [Exit.inBlock, Exit.then]); refine bodyPost_ret (results_tmp4 rfl _ _ _) rfl ?_
    exact ⟨cutV_of C.out, grown_refl _ _⟩
  have e1 : decide (1000000 < m) = false := decide_eq_false h1
  have D2 := half_div (m := m) (by omega)
  have D3 := third_div (m := m) (by omega)
  by_cases k1 : r = 1
  · subst k1
    have C := Lib.hid (show Bm.cutOf m 1 = (m - m / 2, m / 2, 0, 0) by unfold Bm.cutOf; rw [if_neg (by omega)]; simp)
    go_enter Try.func21, Try.ntmps21
    go_wp2
    (try simp only [Exit.inBlock, Exit.then]); refine bodyPost_ret (results_tmp4 rfl _ _ _) rfl ?_
    exact ⟨cutV_of C.out, grown_refl _ _⟩
  have n1 : (r == 1) = false := by rw [beq_eq_false_iff_ne]; exact k1
  by_cases k2 : r = 2
  · subst k2
    have C := Lib.hid (show Bm.cutOf m 2 = (m, 0, 0, 0) by unfold Bm.cutOf; rw [if_neg (by omega)]; simp)
    go_enter Try.func21, Try.ntmps21
    go_wp2
    (try simp only [Exit.inBlock, Exit.then]); refine bodyPost_ret (results_tmp4 rfl _ _ _) rfl ?_
    exact ⟨cutV_of C.out, grown_refl _ _⟩
  have n2 : (r == 2) = false := by rw [beq_eq_false_iff_ne]; exact k2
  by_cases k3 : r = 3
  · subst k3
    have C := Lib.hid (show Bm.cutOf m 3 = (0, m, 0, 0) by unfold Bm.cutOf; rw [if_neg (by omega)]; simp)
    go_enter Try.func21, Try.ntmps21
    go_wp2
    (try simp only [Exit.inBlock, Exit.then]); refine bodyPost_ret (results_tmp4 rfl _ _ _) rfl ?_
    exact ⟨cutV_of C.out, grown_refl _ _⟩
  have n3 : (r == 3) = false := by rw [beq_eq_false_iff_ne]; exact k3
  by_cases k4 : r = 4
  · subst k4
    have C := Lib.hid (show Bm.cutOf m 4 = (0, 0, m, 0) by unfold Bm.cutOf; rw [if_neg (by omega)]; simp)
    go_enter Try.func21, Try.ntmps21
    go_wp2
    (try simp only [Exit.inBlock, Exit.then]); refine bodyPost_ret (results_tmp4 rfl _ _ _) rfl ?_
    exact ⟨cutV_of C.out, grown_refl _ _⟩
  have n4 : (r == 4) = false := by rw [beq_eq_false_iff_ne]; exact k4
  by_cases k5 : r = 5
  · subst k5
    have C := Lib.hid (show Bm.cutOf m 5 = (m / 3, m / 3, m - 2 * (m / 3), 0) by unfold Bm.cutOf; rw [if_neg (by omega)]; simp)
    go_enter Try.func21, Try.ntmps21
    go_wp2
    (try simp only [Exit.inBlock, Exit.then]); refine bodyPost_ret (results_tmp4 rfl _ _ _) rfl ?_
    exact ⟨cutV_of C.out, grown_refl _ _⟩
  have n5 : (r == 5) = false := by rw [beq_eq_false_iff_ne]; exact k5
  have C := Lib.hid (show Bm.cutOf m r = (0, 0, 0, 3) by unfold Bm.cutOf; rw [if_neg (by omega), if_neg k1, if_neg k2, if_neg k3, if_neg k4, if_neg k5])
  go_enter Try.func21, Try.ntmps21
  go_wp2
  (try simp only [Exit.inBlock, Exit.then]); refine bodyPost_ret (results_tmp4 rfl _ _ _) rfl ?_
  exact ⟨cutV_of C.out, grown_refl _ _⟩
end Go.Proofs.Ytagemdgbnajobaa
