/- Package deal's check: slices.ContainsFunc at numbers, sum, volume, check. -/
import Derived.Test.YtafkagaakjfkoaaDh
import Derived.Test.YtafkagaakjfkoaaDu
namespace Go.Proofs.Ytafkagaakjfkoaa
open Go.ChangeShapes Go.WideShapes Go.ChangeAt Go.RowKit

/-- A rate that can be none. -/
def outR (x : Int) : Bool := decide (x < 0) || decide (1000 < x)
theorem outR_yes {x : Int} (h : ¬ (0 ≤ x ∧ x ≤ 1000)) : outR x = true := by
  unfold outR
  simp only [Bool.or_eq_true, decide_eq_true_eq]
  omega
theorem outR_no {x : Int} (h : 0 ≤ x ∧ x ≤ 1000) : outR x = false := by
  unfold outR
  simp only [Bool.or_eq_false_iff, decide_eq_false_iff_not]
  omega
theorem doutr_any (x : Int) (w : World) : Calls Try.prog 42 #[.int .i64 x] w fun e w' => e = .returned (.bool (outR x)) ∧ w' = w := by
  by_cases d1 : x < 0
  · have H := Lib.hid (outR_yes (x := x) (by omega))
    go_enter Try.func42, Try.ntmps42
    go_wp2
    go_ret
    exact ⟨ret_bool H.out.symm, rfl⟩
  · have e1 : decide (x < 0) = false := decide_eq_false d1
    by_cases d2 : 1000 < x
    · have H := Lib.hid (outR_yes (x := x) (by omega))
      go_enter Try.func42, Try.ntmps42
      go_wp2
      go_ret
      exact ⟨ret_bool H.out.symm, rfl⟩
    · have e2 : decide (1000 < x) = false := decide_eq_false d2
      have H := Lib.hid (outR_no (x := x) (by omega))
      go_enter Try.func42, Try.ntmps42
      go_wp2
      go_ret
      exact ⟨ret_bool H.out.symm, rfl⟩

set_option maxHeartbeats 400000 in
theorem dindex_any (s : Sl) (r : List Int) (w : World) (h : NR w s r) :
    Calls Try.prog 47 #[s.v, .func (.func 42) #[] #[]] w (fun e w' => ∃ i : Int, e = .returned (.int .i64 i) ∧ -1 ≤ i ∧ (i = -1 ↔ okr r) ∧ w' = w) := by
  obtain ⟨a, n, c⟩ := s
  have hlen := h.len
  have fit := h.fit
  dsimp only [Sl.fit] at hlen fit
  have HF := Lib.hid h
  clear h
  unfold Sl.v
  dsimp only
  go_enter Try.func47, Try.ntmps47
  go_wp2
  go_loopw [5, 8] (fun i5 i wr => ∃ (k : Nat), i = .int .i64 k ∧ k ≤ n ∧ Hid (∀ i, i < k → 0 ≤ r.getD i 0 ∧ r.getD i 0 ≤ 1000) ∧ wr = w) (fun _ i _ => n - (intOf i).toNat)
  case atStart => exact ⟨0, rfl, by omega, Lib.hid (fun p hp => by omega), rfl⟩
  case round =>
    obtain ⟨k, rfl, hk, U, rfl⟩ := hrel
    by_cases hlt : k < n
    · obtain ⟨b, off, rfl, c0⟩ := HF.out.at_ k hlt
      obtain ⟨y, hy⟩ : ∃ y, y = r.getD k 0 := ⟨_, rfl⟩
      rw [← hy] at c0
      have HY := Lib.hid hy
      clear hy
      by_cases d1 : 0 ≤ y ∧ y ≤ 1000
      · have B := Lib.hid (outR_no d1)
        have UN := Lib.hid (show ∀ i, i < k + 1 → 0 ≤ r.getD i 0 ∧ r.getD i 0 ≤ 1000 from fun i hi => by
          by_cases e : i = k
          · subst e; rw [← HY.out]; exact d1
          · exact U.out i (by omega))
        clear d1
        go_wp2_with fail
        refine (doutr_any y _).mono ?_
        rintro e w1 ⟨rfl, rfl⟩
        rw [B.out]
        go_wp2
        go_roundw
        case rel => exact ⟨k + 1, by go_num, by omega, UN, trivial⟩
        case measure => simp [intOf]; omega
      · have B := Lib.hid (outR_yes d1)
        have D := Lib.hid (show ¬ okr r from fun h => d1 (by rw [HY.out]; exact h k (by omega)))
        clear d1
        go_wp2_with fail
        refine (doutr_any y _).mono ?_
        rintro e w1 ⟨rfl, rfl⟩
        rw [B.out]
        go_wp2
        go_ret
        exact ⟨_, rfl, by omega, ⟨fun e => by omega, fun h => absurd h D.out⟩, rfl⟩
    · obtain rfl : k = n := by omega
      have D := Lib.hid (show okr r from fun i hi => U.out i (by omega))
      go_wp2
      go_ret
      exact ⟨_, rfl, by omega, ⟨fun _ => D.out, fun _ => rfl⟩, rfl⟩
theorem dcontains_any (s : Sl) (r : List Int) (w : World) (h : NR w s r) :
    Calls Try.prog 41 #[s.v, .func (.func 42) #[] #[]] w (fun e w' => ∃ b, e = .returned (.bool b) ∧ (b = true ↔ ¬ okr r) ∧ w' = w) := by
  have HF := Lib.hid h
  clear h
  go_enter Try.func41, Try.ntmps41
  go_wp2_with fail
  refine (dindex_any s r w HF.out).mono ?_
  rintro e w1 ⟨i, rfl, h1, h2, rfl⟩
  have H2 := Lib.hid h2
  clear h2
  go_wp2
  go_ret
  refine ⟨_, rfl, ?_, rfl⟩
  rw [← H2.out]
  simp
  omega

set_option maxHeartbeats 400000 in
theorem dsum_any (s : Sl) (r : List Int) (w : World) (h : NR w s r) (ok : okr r) (hn : r.length ≤ 64) : Calls Try.prog 43 #[s.v] w fun e w' => e = .returned (.int .i64 r.sum) ∧ w' = w := by
  obtain ⟨a, n, c⟩ := s
  have hlen := h.len
  have fit := h.fit
  dsimp only [Sl.fit] at hlen fit
  have HF := Lib.hid h
  have OK := Lib.hid (fun k hk => okr_sum ok k hk)
  clear h ok
  unfold Sl.v
  dsimp only
  go_enter Try.func43, Try.ntmps43
  go_wp2
  go_loopw [3, 5, 8] (fun sm i5 i wr => ∃ (j : Nat) (x : Int), sm = .int .i64 x ∧ i = .int .i64 j ∧ j ≤ n ∧ Hid (x = (r.take j).sum) ∧ wr = w) (fun _ _ i _ => n - (intOf i).toNat)
  case atStart => exact ⟨0, 0, rfl, rfl, by omega, Lib.hid (by simp), rfl⟩
  case round =>
    obtain ⟨j, x, rfl, rfl, hj, X, rfl⟩ := hrel
    by_cases hlt : j < n
    · obtain ⟨b, off, rfl, c0⟩ := HF.out.at_ j hlt
      have v1 := OK.out j (by omega)
      have v2 := OK.out (j + 1) (by omega)
      have E := Lib.hid (show x + r.getD j 0 = (r.take (j + 1)).sum by rw [take_sum (by omega), X.out])
      rw [← E.out] at v2
      rw [← X.out] at v1
      obtain ⟨y, hy⟩ : ∃ y, y = r.getD j 0 := ⟨_, rfl⟩
      rw [← hy] at c0 E v2
      clear hy
      go_wp2
      go_roundw
      case rel => exact ⟨j + 1, _, rfl, by go_num, by omega, E, trivial⟩
      case measure => simp [intOf]; omega
    · obtain rfl : j = n := by omega
      have E := Lib.hid (show x = r.sum by rw [X.out, List.take_of_length_le (by omega)])
      go_wp2
      go_ret
      exact ⟨ret_i E.out, rfl⟩

set_option maxHeartbeats 400000 in
theorem dvolume_any (s : Sl) (f : List Fm.Pc) (w : World) (h : FR w s f) (hp : Fm.Pos f) (hv : Fm.vol f ≤ 4611686018427387904) : Calls Try.prog 36 #[s.v] w (Ret (.int .i64 (Fm.vol f)) w) := by
  obtain ⟨a, n, c⟩ := s
  have hlen := h.len
  dsimp only at hlen
  have HF := Lib.hid h
  have fit := h.fit
  dsimp only [Sl.fit] at fit
  have HV := Lib.hid (fun k => Fm.vol_take_le hp k)
  clear h hp
  unfold Sl.v
  dsimp only
  go_enter Try.func36, Try.ntmps36
  go_wp2
  go_loopw [3, 8] (fun sm i wr => ∃ (k : Nat) (x : Int), sm = .int .i64 x ∧ i = .int .i64 k ∧ k ≤ n ∧ Hid (x = Fm.vol (f.take k)) ∧ Hid (w.grownBy wr none)) (fun _ i _ => n - (intOf i).toNat)
  case atStart => exact ⟨0, 0, rfl, rfl, by omega, Lib.hid (by simp [Fm.vol]), grown_refl _ _⟩
  case round =>
    obtain ⟨k, x, rfl, rfl, hk, X, G⟩ := hrel
    by_cases hlt : k < n
    · obtain ⟨b, off, x0, y0, rfl, hp0, c0, c1⟩ := (HF.out.grown G.out).at_ k hlt
      have E := Lib.hid (show x + y0 = Fm.vol (f.take (k + 1)) by have := Fm.vol_next (f := f) (k := k) (by omega); rw [hp0] at this; rw [this, X.out])
      have v1 := HV.out k
      have v2 := HV.out (k + 1)
      rw [← E.out] at v2
      rw [← X.out] at v1
      clear hp0
      go_wp2
      go_roundw
      case rel => exact ⟨k + 1, _, rfl, by go_num, by omega, E, Lib.hid (grown_trans G.out (World.grownBy_alloc _ _ _))⟩
      case measure => simp [intOf]; omega
    · obtain rfl : k = n := by omega
      have E := Lib.hid (show x = Fm.vol f by rw [X.out, List.take_of_length_le (by omega)])
      go_wp2
      go_ret
      exact ⟨ret_int E.out, G.out⟩

set_option maxHeartbeats 1000000 in
theorem dcheck_any (s : Sl) (r : List Int) (k : Int) (w : World) (h : NR w s r) : Calls Try.prog 29 #[s.v, .int .i64 k] w fun e w' => e = .returned (.int .i64 (chk r k)) ∧ w' = w := by
  obtain ⟨a, n, c⟩ := s
  have hlen := h.len
  have fit := h.fit
  dsimp only [Sl.fit] at hlen fit
  have HF := Lib.hid h
  clear h
  obtain ⟨E, hE⟩ : ∃ E, E = chk r k := ⟨_, rfl⟩
  rw [← hE]
  have HE := Lib.hid hE
  clear hE
  by_cases h64 : 64 < n
  · have h64' : (64 : Int) < (n : Int) := by omega
    have X := Lib.hid (show chk r k = 4 from if_pos (by omega))
    unfold Sl.v
    dsimp only
    go_enter Try.func29, Try.ntmps29
    go_wp2
    go_ret
    exact ⟨ret_i (by rw [HE.out, X.out]), rfl⟩
  have e64 : decide ((64 : Int) < (n : Int)) = false := decide_eq_false (by omega)
  have C1 := Lib.hid (show chk r k = (if ¬ okr r then 1 else if r.sum = 0 then 9 else if k < 0 ∨ r.sum < k then 1 else 0) from if_neg (by omega))
  have CO := Lib.hid (dcontains_any ⟨a, n, c⟩ r w HF.out)
  unfold Sl.v at CO ⊢
  dsimp only at CO ⊢
  by_cases ok : okr r
  · have OK := Lib.hid ok
    have C2 := Lib.hid (show chk r k = (if r.sum = 0 then 9 else if k < 0 ∨ r.sum < k then 1 else 0) by rw [C1.out]; exact if_neg (Classical.not_not.2 ok))
    have SU := Lib.hid (dsum_any ⟨a, n, c⟩ r w HF.out ok (by omega))
    unfold Sl.v at SU
    dsimp only at SU
    obtain ⟨x, hx⟩ : ∃ x, x = r.sum := ⟨_, rfl⟩
    rw [← hx] at SU
    have XS := Lib.hid hx
    clear hx ok
    go_enter Try.func29, Try.ntmps29
    go_wp2_with fail
    refine CO.out.mono ?_
    rintro e w1 ⟨b, rfl, hb, rfl⟩
    have b0 : b = false := by
      cases b with
      | false => rfl
      | true => exact absurd OK.out (hb.1 rfl)
    subst b0
    clear hb
    go_wp2_with fail
    refine SU.out.mono ?_
    rintro e w1 ⟨rfl, rfl⟩
    by_cases hs : x = 0
    · subst hs
      have X := Lib.hid (show chk r k = 9 by rw [C2.out]; exact if_pos XS.out.symm)
      go_wp2
      go_ret
      exact ⟨ret_i (by rw [HE.out, X.out]), rfl⟩
    have es : (x == 0) = false := by rw [beq_eq_false_iff_ne]; exact hs
    have C3 := Lib.hid (show chk r k = (if k < 0 ∨ r.sum < k then 1 else 0) by rw [C2.out]; exact if_neg (by rw [← XS.out]; exact hs))
    by_cases k0 : k < 0
    · have X := Lib.hid (show chk r k = 1 by rw [C3.out]; exact if_pos (.inl k0))
      go_wp2
      go_ret
      exact ⟨ret_i (by rw [HE.out, X.out]), rfl⟩
    have e0 : decide (k < 0) = false := decide_eq_false k0
    by_cases k1 : x < k
    · have X := Lib.hid (show chk r k = 1 by rw [C3.out]; exact if_pos (.inr (by rw [← XS.out]; exact k1)))
      go_wp2_with fail
      refine SU.out.mono ?_
      rintro e w1 ⟨rfl, rfl⟩
      go_wp2
      go_ret
      exact ⟨ret_i (by rw [HE.out, X.out]), rfl⟩
    have e1 : decide (x < k) = false := decide_eq_false k1
    have X := Lib.hid (show chk r k = 0 by rw [C3.out]; exact if_neg (by rw [← XS.out]; omega))
    go_wp2_with fail
    refine SU.out.mono ?_
    rintro e w1 ⟨rfl, rfl⟩
    go_wp2
    go_ret
    exact ⟨ret_i (by rw [HE.out, X.out]), rfl⟩
  · have NO := Lib.hid ok
    have X := Lib.hid (show chk r k = 1 by rw [C1.out]; exact if_pos ok)
    clear ok
    go_enter Try.func29, Try.ntmps29
    go_wp2_with fail
    refine CO.out.mono ?_
    rintro e w1 ⟨b, rfl, hb, rfl⟩
    have b0 : b = true := hb.2 NO.out
    subst b0
    clear hb
    go_wp2
    go_ret
    exact ⟨ret_i (by rw [HE.out, X.out]), rfl⟩
end Go.Proofs.Ytafkagaakjfkoaa
