/- Contracts of the reference's looks at a fill: Proper, Valid, Sum, Volume, At, Of, Batch, Same. -/
import Derived.Test.YtafkagaakjfkoaaFa
namespace Go.Proofs.Ytafkagaakjfkoaa
open Go.ChangeShapes Go.WideShapes Go.ChangeAt Go.RowKit

/-- As far as a fill has been looked at, it is valid. -/
structure Upto (f : List Fm.Pc) (k : Nat) (sum : Int) : Prop where
  ok : ∀ p ∈ f.take k, Fm.okp p
  mgd : Fm.Mgd (f.take k)
  sum : sum = Fm.vol (f.take k)
theorem Upto.zero (f : List Fm.Pc) : Upto f 0 0 := ⟨fun p hp => by simp at hp, by simp [Fm.Mgd], by simp [Fm.vol]⟩
theorem vol_le {f : List Fm.Pc} (h : ∀ p ∈ f, Fm.okp p) : 0 ≤ Fm.vol f ∧ Fm.vol f ≤ 1000000 * f.length := by
  induction f with
  | nil => simp [Fm.vol]
  | cons p r ih =>
    have h1 := ih fun q hq => h q (by simp [hq])
    have h2 := h p (by simp)
    unfold Fm.okp at h2
    simp only [Fm.vol, List.length_cons]
    omega
theorem Upto.bound {f : List Fm.Pc} {k : Nat} {sum : Int} (h : Upto f k sum) : 0 ≤ sum ∧ sum ≤ 1000000 * k := by
  have := vol_le h.ok
  have hl : (f.take k).length ≤ k := by rw [List.length_take]; omega
  rw [h.sum]
  omega
theorem Upto.next {f : List Fm.Pc} {k : Nat} {sum : Int} {p : Fm.Pc} (h : Upto f k sum) (hk : k < f.length) (hp : f.getD k Fm.zp = p) (h1 : Fm.okp p) (h2 : 0 < k → p.1 ≠ (f.getD (k - 1) Fm.zp).1) : Upto f (k + 1) (sum + p.2) := by
  subst hp
  refine ⟨fun q hq => ?_, Fm.mgd_next h.mgd hk h1.2.2.1 h2, ?_⟩
  · rw [Fm.take_next hk] at hq
    rcases List.mem_append.1 hq with e | e
    · exact h.ok q e
    · rw [List.mem_singleton] at e; subst e; exact h1
  · rw [Fm.take_next hk, Fm.vol_app, Fm.vol_one, h.sum]
theorem Upto.whole {f : List Fm.Pc} {sum : Int} (h : Upto f f.length sum) (hl : f.length ≤ 200) : Fm.valid f = decide (sum ≤ 1000000) := by
  obtain ⟨h1, h2, h3⟩ := h
  rw [List.take_length] at h1 h2 h3
  by_cases e : sum ≤ 1000000
  · rw [Fm.valid_yes ⟨hl, h1, h2, by omega⟩, decide_eq_true e]
  · rw [Fm.valid_no (fun v => e (by have := v.vol; omega)), decide_eq_false e]
theorem bad_piece {f : List Fm.Pc} {k : Nat} (hk : k < f.length) (h : ¬ Fm.okp (f.getD k Fm.zp)) : Fm.valid f = false := Fm.valid_no fun v => h (v.ok _ (Fm.getD_mem hk))
theorem bad_pair {f : List Fm.Pc} {k : Nat} (hk : k < f.length) (h0 : 0 < k) (h : (f.getD k Fm.zp).1 = (f.getD (k - 1) Fm.zp).1) : Fm.valid f = false := Fm.valid_no fun v => Fm.mgd_at v.mgd k h0 hk h

theorem rproper_any (b : Int) (w : World) : Calls Try.prog 39 #[.int .i64 b] w fun e w' => e = .returned (.bool (Fm.proper b)) ∧ w = w' := by
  unfold Fm.proper
  by_cases h : 0 ≤ b
  · go_enter Try.func39, Try.ntmps39
    go_wp2
    go_ret
    exact ⟨ret_bool (by simp [h]), rfl⟩
  · go_enter Try.func39, Try.ntmps39
    go_wp2
    go_ret
    exact ⟨ret_bool (by simp; omega), rfl⟩

set_option maxHeartbeats 1000000 in
theorem rvalid_any (s : Sl) (f : List Fm.Pc) (w : World) (h : FR w s f) : Calls Try.prog 23 #[s.v] w (Ret (.bool (Fm.valid f)) w) := by
  obtain ⟨a, n, c⟩ := s
  have hlen := h.len
  dsimp only at hlen
  have HF := Lib.hid h
  have fit := h.fit
  dsimp only [Sl.fit] at fit
  clear h
  unfold Sl.v
  dsimp only
  by_cases hl : n ≤ 200
  · go_enter Try.func23, Try.ntmps23
    go_wp2
    go_loopw [3, 11] (fun sm i wr => ∃ (k : Nat) (x : Int), sm = .int .i64 x ∧ i = .int .i64 k ∧ k ≤ n ∧ Hid (Upto f k x) ∧ Hid (w.grownBy wr none)) (fun _ i _ => n - (intOf i).toNat)
    case atStart => exact ⟨0, 0, rfl, rfl, by omega, Upto.zero f, grown_refl _ _⟩
    case round =>
      obtain ⟨k, x, rfl, rfl, hk, U, G⟩ := hrel
      by_cases hlt : k < n
      · obtain ⟨b, off, x0, y0, rfl, hp, c0, c1⟩ := (HF.out.grown G.out).at_ k hlt
        have HP := Lib.hid hp
        have hx := U.out.bound
        clear hp
        have GE : ∀ nq, Hid (w.grownBy ((wr.alloc (.cells #[.int .i64 x0, .int .i64 y0] 38)).drewN nq) none) := fun nq => Lib.hid (grown_trans G.out (grown_trans (World.grownBy_alloc _ _ _) (grown_drewN _ _ _)))
        cases hpr : Fm.proper x0 with
        | false =>
          have H := Lib.hid (bad_piece (f := f) (k := k) (by omega) (by rw [HP.out]; intro o; unfold Fm.proper at hpr; unfold Fm.okp at o; simp at hpr; dsimp only at o; omega))
          have P := Lib.hid hpr
          clear hpr
          go_wp2_with fail
          go_quiet ((go_at_call 39; exact quiet_same (P.out ▸ rproper_any _ _)))
          go_wp2
          go_ret
          exact ⟨ret_bool H.out.symm, (GE nq).out⟩
        | true =>
          have P := Lib.hid hpr
          have px : 0 ≤ x0 ∧ x0 < 1000 := by unfold Fm.proper at hpr; simp at hpr; exact hpr
          clear hpr
          by_cases d1 : y0 < 1
          · have H := Lib.hid (bad_piece (f := f) (k := k) (by omega) (by rw [HP.out]; intro o; unfold Fm.okp at o; dsimp only at o; omega))
            go_wp2_with fail
            go_quiet ((go_at_call 39; exact quiet_same (P.out ▸ rproper_any _ _)))
            go_wp2
            go_ret
            exact ⟨ret_bool H.out.symm, (GE nq).out⟩
          · have e1 : decide (y0 < 1) = false := decide_eq_false d1
            by_cases d2 : 1000000 < y0
            · have H := Lib.hid (bad_piece (f := f) (k := k) (by omega) (by rw [HP.out]; intro o; unfold Fm.okp at o; dsimp only at o; omega))
              go_wp2_with fail
              go_quiet ((go_at_call 39; exact quiet_same (P.out ▸ rproper_any _ _)))
              go_wp2
              go_ret
              exact ⟨ret_bool H.out.symm, (GE nq).out⟩
            · have e2 : decide (1000000 < y0) = false := decide_eq_false d2
              by_cases d3 : 0 < k
              · have d4 : (0 : Int) < (k : Int) := by omega
                obtain ⟨j, hj⟩ : ∃ j, j = k - 1 := ⟨_, rfl⟩
                have hjn : (j : Int) < (n : Int) := by omega
                obtain ⟨x1, y1, hp1, c2, c3⟩ := (HF.out.grown G.out).got j (by omega)
                rw [hj] at hp1
                have HP1 := Lib.hid hp1
                have hw : IntKind.i64.wrap ((k : Int) - 1) = (j : Int) := by rw [IntWalk.i64_in _ (by omega)]; omega
                have c4 := (World.grownBy_alloc wr (.cells #[.int .i64 x0, .int .i64 y0] 38) none).cell c2 (by simp)
                clear hp1 hj c2 c3
                by_cases d5 : x0 = x1
                · have H := Lib.hid (bad_pair (f := f) (k := k) (by omega) d3 (by rw [HP.out, HP1.out]; exact d5))
                  subst d5
                  go_wp2_with fail
                  go_quiet ((go_at_call 39; exact quiet_same (P.out ▸ rproper_any _ _)))
                  go_wp2
                  go_ret
                  exact ⟨ret_bool H.out.symm, (GE nq).out⟩
                · have e5 : (x0 == x1) = false := by rw [beq_eq_false_iff_ne]; exact d5
                  have UN := Lib.hid (U.out.next (by omega) HP.out ⟨px.1, px.2, by dsimp only; omega, by dsimp only; omega⟩ (fun _ => by rw [HP1.out]; exact d5))
                  go_wp2_with fail
                  go_quiet ((go_at_call 39; exact quiet_same (P.out ▸ rproper_any _ _)))
                  go_wp2
                  go_roundw
                  case rel => exact ⟨k + 1, _, rfl, by go_num, by omega, UN, GE nq⟩
                  case measure => simp [intOf]; omega
              · have d4 : decide ((0 : Int) < (k : Int)) = false := decide_eq_false (by omega)
                have UN := Lib.hid (U.out.next (by omega) HP.out ⟨px.1, px.2, by dsimp only; omega, by dsimp only; omega⟩ (fun h => absurd h d3))
                go_wp2_with fail
                go_quiet ((go_at_call 39; exact quiet_same (P.out ▸ rproper_any _ _)))
                go_wp2
                go_roundw
                case rel => exact ⟨k + 1, _, rfl, by go_num, by omega, UN, GE nq⟩
                case measure => simp [intOf]; omega
      · obtain rfl : k = n := by omega
        have hx := U.out.bound
        have H := Lib.hid (Upto.whole (hlen ▸ U.out) (by omega))
        go_wp2
        go_ret
        exact ⟨ret_bool H.out.symm, G.out⟩
  · have H := Lib.hid (Fm.valid_no (f := f) (fun v => by have := v.len; omega))
    go_enter Try.func23, Try.ntmps23
    go_wp2
    go_ret
    exact ⟨ret_bool H.out.symm, grown_refl _ _⟩

end Go.Proofs.Ytafkagaakjfkoaa
