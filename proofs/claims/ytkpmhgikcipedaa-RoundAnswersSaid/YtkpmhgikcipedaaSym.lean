/- The contract of symMerge. -/
import Derived.Test.YtkpmhgikcipedaaMerge
namespace Go.Proofs.Ytkpmhgikcipedaa
open Go.ChangeShapes Go.WideShapes Go.ChangeAt Go.RowKit

/-- What symMerge is handed. -/
structure SymIn (B N n : Nat) (r : Nat → Int) (f : Nat → Nat) (a m b : Nat) (w : World) : Prop where
  row : Row w B n f
  keys : Keys w N n r B
  in1 : a < m
  in2 : m < b
  in3 : b ≤ n
  lim : n ≤ 1000000
  lt : ∀ p, p < n → f p < n
  runs : Runs r f a m b

def symArgs (B N n a m b : Nat) : Array Value := #[.slice (some ⟨B, 0, none⟩) n n, .int .i64 a, .int .i64 m, .int .i64 b, .func (.func 39) #[] #[.pointer (some ⟨N, 0, none⟩)]]

theorem rot_up (f : Nat → Nat) (a k p : Nat) (h : a ≤ k) : swap (rotF f a (a + 1) (k + 1)) k (k + 1) p = rotF f a (a + 1) (k + 2) p := by
  unfold swap rotF
  repeat' split
  all_goals first | rfl | (exfalso; omega) | (congr 1; omega)
theorem rot_down (f : Nat → Nat) (m k p : Nat) (h : k + 1 ≤ m) : swap (rotF f (k + 1) m (m + 1)) (k + 1) k p = rotF f k m (m + 1) p := by
  unfold swap rotF
  repeat' split
  all_goals first | rfl | (exfalso; omega) | (congr 1; omega)

set_option maxRecDepth 100000 in
set_option maxHeartbeats 2000000 in
theorem sym_one (B N n : Nat) (r : Nat → Int) (f : Nat → Nat) (a b : Nat) (w : World) (H : SymIn B N n r f a (a + 1) b w) :
    Calls Try.prog 44 (symArgs B N n a (a + 1) b) w (SortEnd B n (Merged r f a b) w) := by
  have HH := Lib.hid H
  have h1 := H.in2
  have h2 := H.in3
  have h3 := H.lim
  have HR := Lib.hid H.row
  clear H
  unfold symArgs
  go_enter Try.func44, Try.ntmps44
  go_wp2
  go_loopw [10, 11, 12] (fun s10 s11 _ wr => ∃ i j : Nat, s10 = .int .i64 i ∧ s11 = .int .i64 j ∧ a + 1 ≤ i ∧ i ≤ j ∧ j ≤ b ∧ Hid ((∀ c, a + 1 ≤ c → c < i → Lt r (f c) (f a)) ∧ ∀ c, j ≤ c → c < b → Lt r (f a) (f c)) ∧ Hid (Row wr B n f) ∧ Hid (w.grownBy wr (some B))) (fun i j _ _ => (intOf j - intOf i).toNat)
  case atStart => exact ⟨a + 1, b, by go_num, rfl, by omega, by omega, by omega, ⟨fun c c1 c2 => absurd c1 (by omega), fun c c1 c2 => absurd c1 (by omega)⟩, HR, grown_refl _ _⟩
  case round =>
    obtain ⟨i, j, rfl, rfl, hi, hij, hj, I, R, G⟩ := hrel
    by_cases hlt : i < j
    · obtain ⟨h, hh⟩ : ∃ h, (i + j) / 2 = h := ⟨_, rfl⟩
      have hm1 : i ≤ h := by omega
      have hm2 : h < j := by omega
      have hmz : ((i : Int) + (j : Int)) / 2 = (h : Int) := by omega
      have c1 := R.out.1 h (by omega)
      have c2 := R.out.1 a (by omega)
      have l1 := HH.out.lt h (by omega)
      have l2 := HH.out.lt a (by omega)
      have HC := Lib.hid (fun q => clo39 N n B r (f h) (f a) (wr.drewN q) ((HH.out.keys.grown G.out).grown (grown_drewN _ _ _)) l1 l2 h3)
      have e1 : (h : Int) < (n : Int) := by omega
      have e2 : (a : Int) < (n : Int) := by omega
      clear hh
      by_cases hc : r (f a) < r (f h)
      · have I2 := Lib.hid (show (∀ c, a + 1 ≤ c → c < h + 1 → Lt r (f c) (f a)) ∧ ∀ c, j ≤ c → c < b → Lt r (f a) (f c) from ⟨fun c d1 d2 => by
          by_cases e : c = h
          · subst e; exact .inl hc
          · exact (HH.out.runs.2.1 c h d1 (by omega) (by omega)).trans (.inl hc), I.out.2⟩)
        have hcm := cmp3_neg hc
        clear hc I
        generalize f h = x at *
        generalize f a = y at *
        go_wp2
        go_quiet ((go_at_call 39; exact Calls.quiet_of (HC.out _)))
        go_wp2
        go_roundw
        case rel => exact ⟨h + 1, j, by go_num, rfl, by omega, by omega, by omega, I2, R.out.drewN _, grown_trans G.out (grown_drewN _ _ _)⟩
        case measure => simp [intOf]; omega
      · have I2 := Lib.hid (show (∀ c, a + 1 ≤ c → c < i → Lt r (f c) (f a)) ∧ ∀ c, h ≤ c → c < b → Lt r (f a) (f c) from ⟨I.out.1, fun c d1 d2 => by
          have k := lt_of_not (HH.out.runs.2.2 a h (by omega) (by omega) (by omega) (by omega)) hc
          by_cases e : c = h
          · subst e; exact k
          · exact k.trans (HH.out.runs.2.1 h c (by omega) (by omega) d2)⟩)
        have hcm := cmp3_nonneg hc
        clear hc I
        generalize f h = x at *
        generalize f a = y at *
        go_wp2
        go_quiet ((go_at_call 39; exact Calls.quiet_of (HC.out _)))
        go_wp2
        go_roundw
        case rel => exact ⟨i, h, rfl, rfl, by omega, by omega, by omega, I2, R.out.drewN _, grown_trans G.out (grown_drewN _ _ _)⟩
        case measure => simp [intOf]; omega
    · obtain rfl : i = j := by omega
      obtain ⟨wo, rfl⟩ : ∃ wo : World, wo = wr := ⟨_, rfl⟩
      go_wp2
      go_loopw [13] (fun s13 wk => ∃ k : Nat, s13 = .int .i64 k ∧ a ≤ k ∧ k ≤ i - 1 ∧ Hid (Row wk B n (rotF f a (a + 1) (k + 1))) ∧ Hid (w.grownBy wk (some B))) (fun s _ => i - (intOf s).toNat)
      case atStart => exact ⟨a, rfl, by omega, by omega, R.out.congr (fun p => by unfold rotF; repeat' split
                                                                                  all_goals first | rfl | (exfalso; omega) | (congr 1; omega)), G⟩
      case round =>
        obtain ⟨k, rfl, hk1, hk2, RK, GK⟩ := hrel
        by_cases hlk : k < i - 1
        · have c1 := RK.out.1 k (by omega)
          have c2 := RK.out.1 (k + 1) (by omega)
          have f1 := RK.out.2 k
          have f2 := RK.out.2 (k + 1)
          have R2 := Lib.hid (fun q => (RK.out.put k (k + 1) (rotF f a (a + 1) (k + 1) (k + 1)) (rotF f a (a + 1) (k + 1) k) q (by omega) (by omega) rfl rfl).congr (fun p => rot_up f a k p hk1))
          have e1 : (k : Int) < (i : Int) - 1 := by omega
          generalize rotF f a (a + 1) (k + 1) (k + 1) = x at *
          generalize rotF f a (a + 1) (k + 1) k = y at *
          go_wp2
          go_region
          all_goals go_wp2
          go_roundw
          case rel => exact ⟨k + 1, by go_num, by omega, by omega, R2.out _, grown_put GK.out _ _ _ _ _⟩
          case measure => simp [intOf]; omega
        · obtain rfl : k = i - 1 := by omega
          have e1 : ¬ ((i - 1 : Nat) : Int) < (i : Int) - 1 := by omega
          have F := Lib.hid (show SortEnd B n (Merged r f a b) w (.returned (.tuple #[])) wr from ⟨rfl, rotF f a (a + 1) i, ⟨rotF_from f (Nat.le_refl _) (by omega) (by omega) (by omega), merge_one r f a b i (by omega) (by omega) HH.out.runs.2.1 I.out.1 I.out.2⟩, by
            have := RK.out; rw [show i - 1 + 1 = i by omega] at this; exact this, GK.out⟩)
          go_wp2
          go_end0
          exact F.out

set_option maxRecDepth 100000 in
set_option maxHeartbeats 2000000 in
theorem sym_last (B N n : Nat) (r : Nat → Int) (f : Nat → Nat) (a m : Nat) (w : World) (H : SymIn B N n r f a m (m + 1) w) (hne : ¬ m = a + 1) :
    Calls Try.prog 44 (symArgs B N n a m (m + 1)) w (SortEnd B n (Merged r f a (m + 1)) w) := by
  have HH := Lib.hid H
  have h1 := H.in1
  have h2 := H.in3
  have h3 := H.lim
  have HR := Lib.hid H.row
  have hb1 : ((m : Int) - (a : Int) == 1) = false := by rw [beq_eq_false_iff_ne]; omega
  clear H hne
  unfold symArgs
  go_enter Try.func44, Try.ntmps44
  go_wp2
  go_loopw [14, 15, 16] (fun s10 s11 _ wr => ∃ i j : Nat, s10 = .int .i64 i ∧ s11 = .int .i64 j ∧ a ≤ i ∧ i ≤ j ∧ j ≤ m ∧ Hid ((∀ c, a ≤ c → c < i → Lt r (f c) (f m)) ∧ ∀ c, j ≤ c → c < m → Lt r (f m) (f c)) ∧ Hid (Row wr B n f) ∧ Hid (w.grownBy wr (some B))) (fun i j _ _ => (intOf j - intOf i).toNat)
  case atStart => exact ⟨a, m, rfl, rfl, by omega, by omega, by omega, ⟨fun c c1 c2 => absurd c1 (by omega), fun c c1 c2 => absurd c1 (by omega)⟩, HR, grown_refl _ _⟩
  case round =>
    obtain ⟨i, j, rfl, rfl, hi, hij, hj, I, R, G⟩ := hrel
    by_cases hlt : i < j
    · obtain ⟨h, hh⟩ : ∃ h, (i + j) / 2 = h := ⟨_, rfl⟩
      have hm1 : i ≤ h := by omega
      have hm2 : h < j := by omega
      have hmz : ((i : Int) + (j : Int)) / 2 = (h : Int) := by omega
      have c1 := R.out.1 h (by omega)
      have c2 := R.out.1 m (by omega)
      have l1 := HH.out.lt h (by omega)
      have l2 := HH.out.lt m (by omega)
      have HC := Lib.hid (fun q => clo39 N n B r (f m) (f h) (wr.drewN q) ((HH.out.keys.grown G.out).grown (grown_drewN _ _ _)) l2 l1 h3)
      have e1 : (h : Int) < (n : Int) := by omega
      have e2 : (m : Int) < (n : Int) := by omega
      clear hh
      by_cases hc : r (f h) < r (f m)
      · have I2 := Lib.hid (show (∀ c, a ≤ c → c < i → Lt r (f c) (f m)) ∧ ∀ c, h ≤ c → c < m → Lt r (f m) (f c) from ⟨I.out.1, fun c d1 d2 => by
          by_cases e : c = h
          · subst e; exact .inl hc
          · exact Lt.trans (.inl hc) (HH.out.runs.1 h c (by omega) (by omega) d2)⟩)
        have hcm := cmp3_neg hc
        clear hc I
        generalize f h = x at *
        generalize f m = y at *
        go_wp2
        go_quiet ((go_at_call 39; exact Calls.quiet_of (HC.out _)))
        go_wp2
        go_roundw
        case rel => exact ⟨i, h, rfl, rfl, by omega, by omega, by omega, I2, R.out.drewN _, grown_trans G.out (grown_drewN _ _ _)⟩
        case measure => simp [intOf]; omega
      · have I2 := Lib.hid (show (∀ c, a ≤ c → c < h + 1 → Lt r (f c) (f m)) ∧ ∀ c, j ≤ c → c < m → Lt r (f m) (f c) from ⟨fun c d1 d2 => by
          have k := lt_of_not (HH.out.runs.2.2 h m (by omega) (by omega) (by omega) (by omega)) hc
          by_cases e : c = h
          · subst e; exact k
          · exact (HH.out.runs.1 c h d1 (by omega) (by omega)).trans k, I.out.2⟩)
        have hcm := cmp3_nonneg hc
        clear hc I
        generalize f h = x at *
        generalize f m = y at *
        go_wp2
        go_quiet ((go_at_call 39; exact Calls.quiet_of (HC.out _)))
        go_wp2
        go_roundw
        case rel => exact ⟨h + 1, j, by go_num, rfl, by omega, by omega, by omega, I2, R.out.drewN _, grown_trans G.out (grown_drewN _ _ _)⟩
        case measure => simp [intOf]; omega
    · obtain rfl : i = j := by omega
      obtain ⟨wo, rfl⟩ : ∃ wo : World, wo = wr := ⟨_, rfl⟩
      go_wp2
      go_loopw [17] (fun s13 wk => ∃ k : Nat, s13 = .int .i64 k ∧ i ≤ k ∧ k ≤ m ∧ Hid (Row wk B n (rotF f k m (m + 1))) ∧ Hid (w.grownBy wk (some B))) (fun s _ => (intOf s).toNat)
      case atStart => exact ⟨m, rfl, by omega, by omega, R.out.congr (fun p => by unfold rotF; repeat' split
                                                                                  all_goals first | rfl | (exfalso; omega) | (congr 1; omega)), G⟩
      case round =>
        obtain ⟨k, rfl, hk1, hk2, RK, GK⟩ := hrel
        by_cases hlk : i < k
        · obtain ⟨k', hk'⟩ : ∃ k', k = k' + 1 := ⟨k - 1, by omega⟩
          have c1 := RK.out.1 k (by omega)
          have c2 := RK.out.1 (k - 1) (by omega)
          have f1 := RK.out.2 k
          have f2 := RK.out.2 (k - 1)
          have R2 := Lib.hid (fun q => (RK.out.put k (k - 1) (rotF f k m (m + 1) (k - 1)) (rotF f k m (m + 1) k) q (by omega) (by omega) rfl rfl).congr (g := rotF f (k - 1) m (m + 1)) (fun p => by
            subst hk'; exact rot_down f m k' p (by omega)))
          clear hk'
          generalize rotF f k m (m + 1) k = x at *
          generalize rotF f k m (m + 1) (k - 1) = y at *
          go_wp2
          go_region
          all_goals go_wp2
          go_roundw
          case rel => exact ⟨k - 1, congrArg (Value.int .i64) (by omega), by omega, by omega, R2.out _, grown_put GK.out _ _ _ _ _⟩
          case measure => simp [intOf]; omega
        · obtain rfl : i = k := by omega
          have F := Lib.hid (show SortEnd B n (Merged r f a (m + 1)) w (.returned (.tuple #[])) wr from ⟨rfl, rotF f i m (m + 1), ⟨rotF_from f hi (by omega) (by omega) (by omega), merge_last r f a m i hi (by omega) HH.out.runs.1 I.out.1 I.out.2⟩, RK.out, GK.out⟩)
          go_wp2
          go_end0
          exact F.out
end Go.Proofs.Ytkpmhgikcipedaa
