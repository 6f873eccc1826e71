/- The walk of RoundShares. -/
import Derived.Test.YtkpmhgikcipedaaDeal
import Derived.Test.YtkpmhgikcipedaaAwake
import Derived.Maps.AppendAt
namespace Go.Proofs.Ytkpmhgikcipedaa
open Go.ChangeShapes Go.WideShapes Go.ChangeAt Go.RowKit

def SharesBad (c : Int) (w : World) (e : Ending) (w' : World) : Prop := e = .returned (.tuple #[.slice none 0 0, .int .i64 c]) ∧ w = w'

theorem shares_bad (t c : Int) (a : Option Addr) (n cap : Nat) (w : World) (h : Calls Try.prog 36 #[.int .i64 t, .slice a n cap] w (Two 0 c w)) (hc : (c == 0) = false) :
    Calls Try.prog 25 #[.int .i64 t, .slice a n cap] w (SharesBad c w) := by
  have H := Lib.hid h
  clear h
  go_enter Try.func25, Try.ntmps25
  go_wp2_with (go_at_call 36; refine H.out.mono ?_; rintro e w' ⟨rfl, rfl⟩)
  go_ret2
  exact ⟨rfl, rfl⟩

/-- The first m numbers of x as values. -/
def vals (x : Nat → Int) (m : Nat) : List Value := (List.range m).map (fun i => Value.int .i64 (x i))

theorem vals_len (x : Nat → Int) (m : Nat) : (vals x m).length = m := by simp [vals]
theorem vals_get (x : Nat → Int) (m i : Nat) (h : i < m) : (vals x m)[i]? = some (.int .i64 (x i)) := by simp [vals, h]
theorem vals_snoc (x : Nat → Int) (m : Nat) (v : Int) : vals (setF x m v) (m + 1) = vals x m ++ [.int .i64 v] := by
  unfold vals
  rw [List.range_succ, List.map_append]
  congr 1
  · apply List.map_congr_left
    intro i hi
    have : i ≠ m := by have := List.mem_range.1 hi; omega
    unfold setF; rw [if_neg this]
  · simp [setF]

/-- A row of the call's own reads as its numbers. -/
theorem own_cells {w : World} {base m cap g : Nat} {x : Nat → Int} (h : w.ownsRow base 3 1 (.slice (some ⟨g, 0, none⟩) m cap) m (vals x m)) (i : Nat) (hi : i < m) : w.cell? ⟨g, i, none⟩ = some (.int .i64 (x i)) := by
  rw [h.cellAt i (by omega)]; exact vals_get x m i hi
theorem own_shape {w : World} {base m : Nat} {v : Value} {x : Nat → Int} (h : w.ownsRow base 3 1 v m (vals x m)) : ∃ (a : Option Addr) (cap : Nat), v = .slice a m cap ∧ (0 < m → ∃ g, a = some ⟨g, 0, none⟩ ∧ base ≤ g ∧ g < w.heap.size) := by
  rcases h.2 with ⟨rfl, rfl⟩ | ⟨g, cap, cur, rfl, hb, hg, _⟩
  · exact ⟨none, 0, rfl, fun h => absurd h (by omega)⟩
  · exact ⟨_, cap, rfl, fun _ => ⟨g, rfl, hb, (Array.getElem?_eq_some_iff.1 hg).1⟩⟩
theorem own_ws {w : World} {base m cap : Nat} {a : Option Addr} {x : Nat → Int} (h : w.ownsRow base 3 1 (.slice a m cap) m (vals x m)) : Ws w a m x := by
  intro i hi
  obtain ⟨a', cap', e, ha⟩ := own_shape h
  injection e with e1 e2 e3
  subst e1
  obtain ⟨g, rfl, _, _⟩ := ha (by omega)
  exact ⟨g, 0, rfl, by rw [Nat.zero_add]; exact own_cells h i hi⟩

/-- The weights that have been collected. -/
def WOK (w : World) (S : Nat) (wr : World) (v : Value) (m : Nat) (x : Nat → Int) : Prop :=
  wr.ownsRow (S + 1) 3 1 v m (vals x m) ∧ (∀ p, p < m → 0 ≤ x p ∧ x p ≤ 1000) ∧ SrcOK wr S ∧ w.grownBy wr none ∧ S < wr.heap.size

theorem info_parts3 : ∃ i, Try.prog.info? 3 = some i ∧ i.zero = some (.int .i64 0) ∧ i.size = 1 ∧ i.bytes = 8 := by
  obtain ⟨i, hi, hz⟩ := Option.map_eq_some_iff.1 info3
  simp only [Prod.mk.injEq] at hz
  exact ⟨i, hi, hz.1, hz.2.1, hz.2.2⟩

theorem own_kept {w w' : World} {S m : Nat} {v : Value} {x : Nat → Int} (h : w.ownsRow (S + 1) 3 1 v m (vals x m)) (hg : w.grownBy w' (some S)) : w'.ownsRow (S + 1) 3 1 v m (vals x m) := by
  refine h.kept hg ?_
  cases hv : v.ownBlock with
  | none => exact .inl rfl
  | some k => exact .inr (by intro e; injection e with e; have := (h.lt k hv).1; omega)

theorem own_row_lt {w : World} {S m : Nat} {v : Value} {x : Nat → Int} (h : w.ownsRow (S + 1) 3 1 v m (vals x m)) : ∀ k, v.ownBlock = some k → S < k := fun k hk => by have := (h.lt k hk).1; omega

theorem WOK.next {w wr w' : World} {S m : Nat} {v v' : Value} {x : Nat → Int} {c : Int} (h : WOK w S wr v m x) (hw : w.heap.size = S) (w4 w5 : World) (h4 : wr.grownBy w4 (some S)) (hs : SrcOK w4 S) (h5 : w4.grownBy w5 none)
    (hown : w'.ownsRow (S + 1) 3 1 v' (m + 1) (vals x m ++ [.int .i64 c])) (hg : w5.grownBy w' v.ownBlock) (hc : 0 ≤ c ∧ c ≤ 1000) : WOK w S w' v' (m + 1) (setF x m c) := by
  obtain ⟨a1, a2, a3, a4, a5⟩ := h
  have g4 := grown_off a4 h4 (by omega)
  have g5 := grown_trans g4 h5
  have rowlt := own_row_lt a1
  have g6 : w.grownBy w' none := by
    cases hv : v.ownBlock with
    | none => rw [hv] at hg; exact grown_trans g5 hg
    | some k => rw [hv] at hg; exact grown_off g5 hg (by have := rowlt k hv; omega)
  refine ⟨by rw [vals_snoc]; exact hown, fun p hp => ?_, (hs.grown h5).grownRow hg rowlt, g6, ?_⟩
  · unfold setF
    by_cases e : p = m
    · rw [if_pos e]; exact hc
    · rw [if_neg e]; exact a2 p (by omega)
  · have := h4.size; have := h5.size; have := hg.size; omega

theorem pick7 (r c : Int) (h : ∃ j, j < 7 ∧ c = [0, 1, 1, 2, 5, 1000, r].getD j 0) (hr : 0 ≤ r ∧ r < 50) : 0 ≤ c ∧ c ≤ 1000 := by
  obtain ⟨j, hj, rfl⟩ := h
  match j, hj with
  | 0, _ => simp
  | 1, _ => simp
  | 2, _ => simp
  | 3, _ => simp
  | 4, _ => simp
  | 5, _ => simp
  | 6, _ => simp; omega

theorem tri (a b c d : Int) (h : a = b → c = d ∨ c = d + 1) :
    (a == b) = false ∨ ((a == b) = true ∧ (c != d) = false ∧ (c == d) = true) ∨ ((a == b) = true ∧ (c != d) = true ∧ (c == d) = false ∧ (c != d + 1) = false ∧ (c == d + 1) = true) := by
  by_cases e : a = b
  · rcases h e with h | h
    · exact .inr (.inl (by simp [e, h]))
    · refine .inr (.inr ⟨by simp [e], ?_, ?_, by simp [h], by simp [h]⟩)
      · rw [bne_iff_ne]; omega
      · rw [beq_eq_false_iff_ne]; omega
  · exact .inl (by rw [beq_eq_false_iff_ne]; exact e)

set_option maxRecDepth 100000 in
set_option maxHeartbeats 1000000 in
theorem sharesLaw (a0 : Option Addr) (len0 cap0 : Nat) (zs : List Int) (t : Int) (w : World) (hin : InRow w a0 len0 cap0 zs) (ht : 0 ≤ t) (ht2 : t ≤ 4294967295) :
    Calls Try.prog 6 #[.slice a0 len0 cap0, .int .u32 t] w fun e w' => e = .returned (.bool true) ∧ Below w.heap.size w w' := by
  obtain ⟨i0, hi, hz0, hz1, hz2⟩ := info_parts3
  have HI := Lib.hid hin
  clear hin
  go_enter Try.func6, Try.ntmps6
  go_wp2_with fail
  refine (new_any a0 len0 cap0 zs w HI.out).mono ?_
  rintro e w1 ⟨rfl, hg1, hs1, hb1⟩
  generalize hS : w.heap.size = S at *
  have HS := Lib.hid hS
  have G1 := Lib.hid hg1
  have S1 := Lib.hid hs1
  clear hS hg1 hs1
  go_wp2_with fail
  refine (range_any S 1 10 w1 S1.out (by omega) (by omega) (by omega)).mono ?_
  rintro e w2 ⟨N, hN, rfl, hg2, hs2⟩
  have hb2 : S < w2.heap.size := by have := hg2.size; omega
  have G2 := Lib.hid (grown_off G1.out hg2 (by rw [HS.out]; exact Nat.le_refl _))
  have S2 := Lib.hid hs2
  clear hg2 hs2 G1 S1
  go_wp2
  go_loopw [6, 7, 8] (fun s6 s7 s8 wr => ∃ (i : Int) (m : Nat) (x : Nat → Int), s8 = .int .i64 i ∧ s7 = .int .i64 (psum x m) ∧ 0 ≤ i ∧ m + i = N ∧ Hid (WOK w S wr s6 m x)) (fun _ _ s8 _ => (intOf s8).toNat)
  case atStart => exact ⟨N, 0, fun _ => 0, rfl, rfl, by omega, by omega, World.ownsRow_nil _ _ _ _, fun p hp => absurd hp (by omega), S2.out, G2.out, hb2⟩
  case round =>
    obtain ⟨i, m, x, rfl, rfl, hi0, hmi, W⟩ := hrel
    by_cases hlt : 0 < i
    · have hps := psum_range x 1000 m W.out.2.1
      have hm10 : (m : Int) ≤ 9 := by omega
      have hi10 : i ≤ 10 := by omega
      have HM := Lib.hid hmi
      clear hmi
      generalize hy : psum x m = y at *
      have HY := Lib.hid hy
      clear hy
      go_wp2_with fail
      refine (n_any S 50 wr W.out.2.2.1 (by omega) (by omega)).mono ?_
      rintro e w3 ⟨r, hr, rfl, hg3, hs3⟩
      have G3 := Lib.hid hg3
      have S3 := Lib.hid hs3
      have hb3 : S < w3.heap.size := by have := hg3.size; have := W.out.2.2.2.2; omega
      clear hg3 hs3
      go_wp2_with fail
      refine (pick_any S w3.heap.size 0 7 7 [0, 1, 1, 2, 5, 1000, r] (w3.alloc (.cells #[.int .i64 0, .int .i64 1, .int .i64 1, .int .i64 2, .int .i64 5, .int .i64 1000, .int .i64 r] 3)) (S3.out.grown (World.grownBy_alloc _ _ _)) (by omega) rfl (by omega) (by omega) ?_).mono ?_
      · intro j hj
        match j, hj with
        | 0, _ => simp
        | 1, _ => simp
        | 2, _ => simp
        | 3, _ => simp
        | 4, _ => simp
        | 5, _ => simp
        | 6, _ => simp
      · rintro e w4 ⟨c, hc, rfl, hg4, hs4⟩
        have hcc := pick7 r c hc hr
        have G4 := Lib.hid (grown_trans (grown_trans G3.out (World.grownBy_alloc w3 _ (some S))) hg4)
        have S4 := Lib.hid hs4
        have O4 := Lib.hid (own_kept W.out.1 G4.out)
        clear hg4 hs4 hc
        go_wp2_with (at_builtin; refine wpList_append_own _ rfl _ _ 22 rfl (S + 1) 3 i0 (.int .i64 0) 1 8 Try.underlying22 hi hz0 hz1 hz2 rfl (by decide) _ _ _ rfl (O4.out.alloc _) ⟨w4.heap.size, 0, none⟩ 1 1 [.int .i64 c] rfl rfl ?c1 ?c2 ?c3 ?c4 ?c5 ?_)
        case c1 => exact cell_one_new _ _ _
        case c2 => intro u hu; simp at hu; subst hu; rfl
        case c3 => unfold maxLen; omega
        case c4 => omega
        case c5 => simp; have := G4.out.size; have := W.out.2.2.2.2; omega
        intro v' w5 hown hg5 _
        have W5 := Lib.hid (W.out.next HS.out w4 _ G4.out S4.out (World.grownBy_alloc w4 _ none) hown hg5 hcc)
        have HP := Lib.hid (show psum (setF x m c) (m + 1) = psum x m + c from by show psum (setF x m c) m + setF x m c m = _; rw [psum_congr (y := x) (fun p hp => by unfold setF; rw [if_neg (by omega)])]; unfold setF; rw [if_pos rfl])
        obtain ⟨a', cap', rfl, ha'⟩ := own_shape W5.out.1
        obtain ⟨g, rfl, _, _⟩ := ha' (by omega)
        have c1 := own_cells W5.out.1 m (by omega)
        rw [show setF x m c m = c from by unfold setF; rw [if_pos rfl]] at c1
        clear hown hg5 ha'
        go_wp2
        go_roundw
        case rel => exact ⟨i - 1, m + 1, setF x m c, rfl, congrArg (Value.int .i64) (by rw [HP.out, HY.out]), by omega, by have := HM.out; omega, W5⟩
        case measure => simp [intOf]; omega
    · obtain rfl : i = 0 := by omega
      obtain ⟨a, cap, rfl, ha⟩ := own_shape W.out.1
      have hm1 : 1 ≤ m := by omega
      have hm10 : m ≤ 10 := by omega
      have HA := Lib.hid ha
      have hps := psum_range x 1000 m W.out.2.1
      have WS := Lib.hid (own_ws W.out.1)
      have hbw := W.out.2.2.2.2
      have good : ∀ i, i < m → goodW (x i) := fun i hi => by have := W.out.2.1 i hi; exact ⟨this.1, by omega⟩
      have GD := Lib.hid good
      clear ha good hmi hlt hi0 hN
      by_cases hz : psum x m = 0
      · have hbad := shares_bad t 9 a m cap wr (sumW_good t a m cap x wr (by omega) ht (by omega) WS.out GD.out 0 9 (.inl ⟨hz, rfl, rfl⟩)) rfl
        have HB := Lib.hid hbad
        have HZ := Lib.hid hz
        rw [hz]
        clear hbad hz hps
        go_wp2_with fail
        refine HB.out.mono ?_
        rintro e w6 ⟨rfl, rfl⟩
        go_wp2_with fail
        refine (awake_any _).mono ?_; rintro e w' ⟨rfl, hg⟩
        have G := Lib.hid (grown_below (grown_trans W.out.2.2.2.1 hg))
        clear hg
        go_wp2
        go_ret
        exact ⟨rfl, G.out⟩
      · have hs1 : 1 ≤ psum x m := by omega
        have hok := shares_ok t (psum x m) a m cap x wr (by omega) (by omega) ht (by omega) WS.out GD.out rfl hs1
        have HO := Lib.hid hok
        have hz' : (psum x m == 0) = false := by rw [beq_eq_false_iff_ne]; exact hz
        have hs2 : psum x m ≤ 10000 := by omega
        obtain ⟨s, hs⟩ : ∃ s, s = psum x m := ⟨_, rfl⟩
        rw [← hs] at HO hz' hs1 hs2 ⊢
        have HSM := Lib.hid hs
        clear hok hz hps hs
        go_wp2_with fail
        refine HO.out.mono ?_
        rintro e w6 ⟨B, g, rfl, hB, hB2, hso, hrow, hg6⟩
        have SO := Lib.hid hso
        have RW := Lib.hid hrow
        have G6 := Lib.hid (grown_trans W.out.2.2.2.1 hg6)
        have W6 := Lib.hid (show ∃ b off, a = some ⟨b, off, none⟩ ∧ ∀ i, i < m → w6.cell? ⟨b, off + i, none⟩ = some (.int .i64 (x i)) from by
          obtain ⟨b, off, e, _⟩ := WS.out 0 (by omega)
          exact ⟨b, off, e, fun i hi => by
            obtain ⟨b', off', e', c⟩ := WS.out i hi
            rw [e] at e'; injection e' with e'; injection e' with e1 e2 e3; subst e1 e2
            exact hg6.cell c (by simp)⟩)
        obtain ⟨sh, hsh⟩ : ∃ sh, sh = share t s x g (left t s x m).toNat := ⟨_, rfl⟩
        have RW2 := Lib.hid (show RowZ w6 B m sh from by rw [hsh]; exact RW.out)
        have F1 := Lib.hid (show psum sh m = t from by rw [hsh]; exact share_sum t s x m g hs1 HSM.out.symm (by omega) SO.out)
        have F2 := Lib.hid (show ∀ p, sh p * s ≤ t * x p + s - 1 from fun p => by rw [hsh]; exact share_up t s x m g hs1 HSM.out.symm (by omega) SO.out p)
        have F3 := Lib.hid (show ∀ p, t * x p < (sh p + 1) * s from fun p => by rw [hsh]; exact share_down t s x g _ hs1 p)
        have F4 := Lib.hid (show ∀ p, x p = 0 → sh p = 0 from fun p h => by rw [hsh]; exact share_none t s x m g hs1 HSM.out.symm (by omega) SO.out p h)
        have F5 := Lib.hid (show ∀ k i, k < i → i < m → x k = x i → sh k = sh i ∨ sh k = sh i + 1 from fun k i h1 h2 h3 => by rw [hsh]; exact share_equal t s x m g hs1 HSM.out.symm (by omega) SO.out k i h1 h2 h3)
        have F6 := Lib.hid (show ∀ p, p < m → 0 ≤ sh p ∧ sh p ≤ 1152921504606846977 from fun p h => by rw [hsh]; exact share_range t s x m g _ p ht (by omega) hs1 GD.out h)
        have hb6 : S < w6.heap.size := by have := hg6.size; omega
        clear hso hrow hg6 hsh RW SO
        obtain ⟨b, off, ea, hcw⟩ := W6.out
        subst ea
        have CW := Lib.hid hcw
        have PS := Lib.hid (show ∀ k, k ≤ m → 0 ≤ psum sh k ∧ psum sh k ≤ t from fun k hk => by
          have h1 := psum_mono sh m (fun i hi => (F6.out i hi).1) k hk
          have h2 := psum_mono sh k (fun i hi => (F6.out i (by omega)).1) 0 (by omega)
          rw [F1.out] at h1
          exact ⟨h2, h1⟩)
        clear hcw W6 HO HA
        go_wp2
        go_loopw [11, 12, 13, 14, 64] (fun s11 _ _ _ s64 wr => ∃ (k q : Nat), s64 = .int .i64 k ∧ k ≤ m ∧ s11 = .int .i64 (psum sh k) ∧ wr = w6.drewN q) (fun _ _ _ _ i _ => m - (intOf i).toNat)
        case atStart => exact ⟨0, 0, rfl, by omega, rfl, rfl⟩
        case round =>
          obtain ⟨k, q, rfl, hk, rfl, rfl⟩ := hrel
          have ps1 := PS.out k hk
          by_cases hlt : k < m
          · have c1 := RW2.out.1 k hlt
            have c2 := CW.out k hlt
            have f2 := F2.out k
            have f3 := F3.out k
            have f4 := F4.out k
            have f6 := F6.out k hlt
            have g1 := W.out.2.1 k hlt
            have ps2 := PS.out (k + 1) hlt
            have HPS := Lib.hid (show psum sh (k + 1) = psum sh k + sh k from rfl)
            rw [HPS.out] at ps2
            have m1 : 0 ≤ t * x k := Int.mul_nonneg ht g1.1
            have m2 : t * x k ≤ 4294967295 * 1000 := Int.mul_le_mul ht2 g1.2 g1.1 (by omega)
            have m3 : 0 ≤ sh k * s := Int.mul_nonneg f6.1 (by omega)
            have m4 : (sh k + 1) * s ≤ 4294967295 * 1000 + 20000 := by rw [Int.add_mul, Int.one_mul]; omega
            have HS := Lib.hid (show ∃ y, y = sh k from ⟨_, rfl⟩)
            generalize hy : sh k = y at *
            generalize hv : x k = v at *
            generalize hz : psum sh k = z at *
            have HY := Lib.hid hy
            have HV := Lib.hid hv
            have HZ := Lib.hid hz
            clear hy hv hz
            have hv4 : (v == 0) = false ∨ ((v == 0) = true ∧ (y != 0) = false ∧ (y == 0) = true) := by
              by_cases h : v = 0
              · have := f4 h; exact .inr (by simp [h, this])
              · exact .inl (by rw [beq_eq_false_iff_ne]; exact h)
            clear f4
            rcases hv4 with hv1 | ⟨hv1, hv2, hv3⟩
            all_goals
              go_wp2
              go_loopw [14] (fun s14 wq => ∃ (j q2 : Nat), s14 = .int .i64 j ∧ j ≤ k ∧ wq = w6.drewN q2) (fun i _ => k - (intOf i).toNat)
              case atStart => exact ⟨0, q, rfl, by omega, rfl⟩
              case round =>
                obtain ⟨j, q2, rfl, hj, rfl⟩ := hrel
                by_cases hjk : j < k
                · have d1 := RW2.out.1 j (by omega)
                  have d2 := CW.out j (by omega)
                  have d6 := F6.out j (by omega)
                  have d7 := W.out.2.1 j (by omega)
                  have d5 := F5.out j k hjk hlt
                  rw [HY.out, HV.out] at d5
                  have hjm : (j : Int) < (m : Int) := by omega
                  have hkm : (k : Int) < (m : Int) := by omega
                  clear f2 f3 m1 m2 m3 m4
                  generalize sh j = yj at *
                  generalize x j = vj at *
                  have hw1 : IntKind.i64.wrap (y + 1) = y + 1 := IntWalk.i64_in _ (by omega)
                  clear hv1
                  rcases tri vj v yj y d5 with t1 | ⟨t1, t2, t3⟩ | ⟨t1, t2, t3, t4, t5⟩
                  all_goals
                    clear d5
                    go_wp2
                    go_quiet (fail)
                    go_wp2
                    go_roundw
                    case rel => exact ⟨j + 1, _, by go_num, by omega, rfl⟩
                    case measure => simp [intOf]; omega
                · go_wp2
                  go_roundw
                  case rel => exact ⟨k + 1, q2, by go_num, by omega, congrArg (Value.int .i64) (by have := HPS.out; omega), rfl⟩
                  case measure => simp [intOf]; omega
          · obtain rfl : k = m := by omega
            rw [F1.out]
            have HA2 := fun w => awake_any w
            go_wp2_with fail
            refine (awake_any _).mono ?_; rintro e w' ⟨rfl, hg⟩
            have G := Lib.hid (grown_below (grown_trans (grown_trans G6.out (grown_drewN _ q none)) hg))
            clear hg
            go_wp2
            go_ret
            exact ⟨rfl, G.out⟩
end Go.Proofs.Ytkpmhgikcipedaa
