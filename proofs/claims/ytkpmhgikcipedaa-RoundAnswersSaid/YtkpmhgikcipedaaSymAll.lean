/- The contract of symMerge, whole; the stable sort at whatever length. -/
import Derived.Test.YtkpmhgikcipedaaSym
import Derived.Deep.DeepCutAuto
namespace Go.Proofs.Ytkpmhgikcipedaa
open Go.ChangeShapes Go.WideShapes Go.ChangeAt Go.RowKit

theorem rot_runs_left {r : Nat → Int} {f : Nat → Nat} {a s m e b : Nat} (R : Runs r f a m b) (_h1 : a ≤ s) (h2 : s ≤ m) (h3 : m ≤ e) (h4 : e ≤ b) : Runs r (rotF f s m e) a s (s + (e - m)) := by
  refine ⟨fun p q p1 pq qb => ?_, fun p q p1 pq qb => ?_, fun p q p1 p2 q1 q2 => ?_⟩
  · rw [rotF_lo f (by omega), rotF_lo f qb]; exact R.1 p q p1 pq (by omega)
  · rw [rotF_mid f p1 (by omega), rotF_mid f (by omega) qb]; exact R.2.1 _ _ (by omega) (by omega) (by omega)
  · rw [rotF_lo f p2, rotF_mid f q1 q2]; exact R.2.2 _ _ p1 (by omega) (by omega) (by omega)
theorem rot_runs_right {r : Nat → Int} {f : Nat → Nat} {a s m e b : Nat} (R : Runs r f a m b) (h1 : a ≤ s) (h2 : s ≤ m) (h3 : m ≤ e) (_h4 : e ≤ b) : Runs r (rotF f s m e) (s + (e - m)) e b := by
  refine ⟨fun p q p1 pq qb => ?_, fun p q p1 pq qb => ?_, fun p q p1 p2 q1 q2 => ?_⟩
  · rw [rotF_hi f p1 (by omega), rotF_hi f (by omega) qb]; exact R.1 _ _ (by omega) (by omega) (by omega)
  · rw [rotF_out f h2 h3 p1, rotF_out f h2 h3 (by omega)]; exact R.2.1 p q (by omega) pq qb
  · rw [rotF_hi f p1 p2, rotF_out f h2 h3 q1]; exact R.2.2 _ _ (by omega) (by omega) (by omega) q2
theorem Runs.congr {r : Nat → Int} {f g : Nat → Nat} {a m b : Nat} (R : Runs r f a m b) (h : ∀ p, a ≤ p → p < b → g p = f p) (h1 : a ≤ m) (h2 : m ≤ b) : Runs r g a m b := by
  refine ⟨fun p q p1 pq qb => ?_, fun p q p1 pq qb => ?_, fun p q p1 p2 q1 q2 => ?_⟩
  · rw [h p p1 (by omega), h q (by omega) (by omega)]; exact R.1 p q p1 pq qb
  · rw [h p (by omega) (by omega), h q (by omega) qb]; exact R.2.1 p q p1 pq qb
  · rw [h p p1 (by omega), h q (by omega) q2]; exact R.2.2 p q p1 p2 q1 q2
/-- Where one of the two runs is empty. -/
theorem Runs.sorted {r : Nat → Int} {f : Nat → Nat} {a m b : Nat} (R : Runs r f a m b) (h : a = m ∨ m = b) : SortedOn r f a b := by
  rcases h with h | h
  · subst h; exact R.2.1
  · subst h; exact R.1
theorem rotF_idle (f : Nat → Nat) (s m e : Nat) (h1 : s ≤ m) (h2 : m ≤ e) (h : s = m ∨ m = e) (p : Nat) : f p = rotF f s m e p := by
  unfold rotF
  repeat' split
  all_goals first | rfl | (exfalso; omega) | (congr 1; omega)

/-- What is known behind the rotation. -/
theorem split_done {r : Nat → Int} {f : Nat → Nat} {a m b s0 r0 mid s : Nat} (R : Runs r f a m b) (I : Split r f s0 r0 (mid + m) s s) (hs0 : (mid < m ∧ s0 = mid + m - b ∧ r0 = mid) ∨ (m ≤ mid ∧ s0 = a ∧ r0 = m))
    (_ha : a < m) (_hb : m < b) (_hmid : a ≤ mid ∧ mid < b) (hmm : 2 * mid ≤ a + b ∧ a + b ≤ 2 * mid + 1) (h1 : s0 ≤ s) (h2 : s ≤ r0) :
    a ≤ s ∧ s ≤ m ∧ s ≤ mid ∧ m ≤ mid + m - s ∧ mid + m - s ≤ b ∧ s + ((mid + m - s) - m) = mid ∧
      (∀ p q, a ≤ p → p < mid → mid ≤ q → q < b → Lt r (rotF f s m (mid + m - s) p) (rotF f s m (mid + m - s) q)) := by
  have k1 : a ≤ s := by omega
  have k2 : s ≤ m := by omega
  have k3 : s ≤ mid := by omega
  have k5 : mid + m - s ≤ b := by omega
  have k6 : s + ((mid + m - s) - m) = mid := by omega
  refine ⟨k1, k2, k3, by omega, k5, k6, fun p q p1 p2 q1 q2 => ?_⟩
  refine rot_cross r f a s m (mid + m - s) b k1 k2 (by omega) k5 R.1 R.2.1 (fun c1 c2 => ?_) (fun c1 c2 => ?_) p q p1 (by omega) (by omega) q2
  · have := I.1 (s - 1) (by omega) (by omega)
    rw [show mid + m - 1 - (s - 1) = mid + m - s by omega] at this
    exact this
  · have := I.2 s (Nat.le_refl _) (by omega)
    rw [show mid + m - 1 - s = mid + m - s - 1 by omega] at this
    exact this

theorem merged_of {r : Nat → Int} {f g0 g h : Nat → Nat} {a mid b : Nat} (F1 : From a b f g0) (M1 : From a mid g0 g) (M2 : SortedOn r g a mid) (fh : From mid b g h) (sh : SortedOn r h mid b)
    (K : ∀ p q, a ≤ p → p < mid → mid ≤ q → q < b → Lt r (g0 p) (g0 q)) (h1 : a ≤ mid) (h2 : mid ≤ b) : Merged r f a b h := by
  refine ⟨F1.trans ((M1.wide (Nat.le_refl _) h2).trans (fh.wide h1 (Nat.le_refl _))), ?_⟩
  refine halves r g h a mid b (fun p hp => fh.1 p (by omega)) M2 sh (fun p q p1 p2 q1 q2 => ?_)
  obtain ⟨p', p3, p4, e1⟩ := M1.2 p p1 p2
  obtain ⟨q', q3, q4, e2⟩ := fh.2 q q1 q2
  rw [e1, e2, M1.1 q' (by omega)]
  exact K p' q' p3 p4 q3 q4

set_option maxRecDepth 100000 in
set_option maxHeartbeats 8000000 in
theorem sym_gen (B N n : Nat) (r : Nat → Int) (f : Nat → Nat) (a m b : Nat) (w : World) (H : SymIn B N n r f a m b w) (hne : ¬ m = a + 1) (hne2 : ¬ b = m + 1)
    (ih : ∀ (f' : Nat → Nat) (a' m' b' : Nat) (w' : World), b' - a' < b - a → SymIn B N n r f' a' m' b' w' → Calls Try.prog 44 (symArgs B N n a' m' b') w' (SortEnd B n (Merged r f' a' b') w')) :
    Calls Try.prog 44 (symArgs B N n a m b) w (SortEnd B n (Merged r f a b) w) := by
  have HH := Lib.hid H
  have IH := Lib.hid ih
  have h1 := H.in1
  have h2 := H.in2
  have h3 := H.in3
  have h4 := H.lim
  have HR := Lib.hid H.row
  have hb1 : ((m : Int) - (a : Int) == 1) = false := by rw [beq_eq_false_iff_ne]; omega
  have hb2 : ((b : Int) - (m : Int) == 1) = false := by rw [beq_eq_false_iff_ne]; omega
  obtain ⟨mid, hmid⟩ : ∃ d, (a + b) / 2 = d := ⟨_, rfl⟩
  have hmz : ((a : Int) + (b : Int)) / 2 = (mid : Int) := by omega
  have hmm : 2 * mid ≤ a + b ∧ a + b ≤ 2 * mid + 1 := by omega
  have hmd : a < mid ∧ mid < b := by omega
  clear H ih hne hne2 hmid
  unfold symArgs
  by_cases hcase : mid < m
  · obtain ⟨s0, hs0⟩ : ∃ d, mid + m - b = d := ⟨_, rfl⟩
    have hsz : (mid : Int) + (m : Int) - (b : Int) = (s0 : Int) := by omega
    have hsb : s0 ≤ mid := by omega
    have hsa : a ≤ s0 := by omega
    have hz0 := Lib.hid hs0
    clear hs0
    go_enter Try.func44, Try.ntmps44
    go_wp2
    go_loopw [20, 21, 23] (fun s20 s21 _ wr => ∃ s t : Nat, s20 = .int .i64 s ∧ s21 = .int .i64 t ∧ s0 ≤ s ∧ s ≤ t ∧ t ≤ mid ∧ Hid (Split r f s0 mid (mid + m) s t) ∧ Hid (Row wr B n f) ∧ Hid (w.grownBy wr (some B))) (fun i j _ _ => (intOf j - intOf i).toNat)
    case atStart => exact ⟨s0, mid, rfl, rfl, by omega, by omega, by omega, ⟨fun c c1 c2 => absurd c1 (by omega), fun c c1 c2 => absurd c1 (by omega)⟩, HR, grown_refl _ _⟩
    case round =>
      obtain ⟨s, t, rfl, rfl, hs, hst, ht, I, R, G⟩ := hrel
      by_cases hlt : s < t
      · obtain ⟨c, hc⟩ : ∃ c, (s + t) / 2 = c := ⟨_, rfl⟩
        have hm1 : s ≤ c := by omega
        have hm2 : c < t := by omega
        have hcz : ((s : Int) + (t : Int)) / 2 = (c : Int) := by omega
        obtain ⟨d, hd⟩ : ∃ d, mid + m - 1 - c = d := ⟨_, rfl⟩
        have hw : IntKind.i64.wrap ((mid : Int) + (m : Int) - 1 - (c : Int)) = (d : Int) := by rw [show (mid : Int) + (m : Int) - 1 - (c : Int) = (d : Int) by omega]; exact IntWalk.i64_in _ (by omega)
        have e1 : (c : Int) < (n : Int) := by omega
        have e2 : (d : Int) < (n : Int) := by omega
        have c1 := R.out.1 c (by omega)
        have c2 := R.out.1 d (by omega)
        have l1 := HH.out.lt c (by omega)
        have l2 := HH.out.lt d (by omega)
        have HC := Lib.hid (fun q => clo39 N n B r (f d) (f c) (wr.drewN q) ((HH.out.keys.grown G.out).grown (grown_drewN _ _ _)) l2 l1 h4)
        by_cases hcc : r (f c) < r (f d)
        · have I2 := Lib.hid (split_right (c := c) HH.out.runs I.out (by omega) (by omega) (by omega) (by omega) (by omega) (by omega) (by rw [hd]; exact hcc))
          have hcm := cmp3_neg hcc
          clear hcc I hc hd
          generalize f c = x at *
          generalize f d = y at *
          go_wp2
          go_quiet ((go_at_call 39; exact Calls.quiet_of (HC.out _)))
          clear hw
          go_wp2
          go_roundw
          case rel => exact ⟨s, c, rfl, rfl, by omega, by omega, by omega, I2, R.out.drewN _, grown_trans G.out (grown_drewN _ _ _)⟩
          case measure => simp [intOf]; omega
        · have I2 := Lib.hid (split_left (c := c) HH.out.runs I.out (by omega) (by omega) (by omega) (by omega) (by omega) (by omega) (by omega) (by rw [hd]; exact hcc))
          have hcm := cmp3_nonneg hcc
          clear hcc I hc hd
          generalize f c = x at *
          generalize f d = y at *
          go_wp2
          go_quiet ((go_at_call 39; exact Calls.quiet_of (HC.out _)))
          clear hw
          go_wp2
          go_roundw
          case rel => exact ⟨c + 1, t, by go_num, rfl, by omega, by omega, by omega, I2, R.out.drewN _, grown_trans G.out (grown_drewN _ _ _)⟩
          case measure => simp [intOf]; omega
      · obtain rfl : s = t := by omega
        obtain ⟨wo, rfl⟩ : ∃ wo : World, wo = wr := ⟨_, rfl⟩
        obtain ⟨k1, k2, k3, k4, k5, k6, k7⟩ := split_done HH.out.runs I.out (.inl ⟨hcase, hz0.out.symm, rfl⟩) (by omega) (by omega) (by omega) hmm hs ht
        obtain ⟨e, he⟩ : ∃ e, mid + m - s = e := ⟨_, rfl⟩
        rw [he] at k4 k5 k6 k7
        have hez : (mid : Int) + (m : Int) - (s : Int) = (e : Int) := by omega
        have K6 := Lib.hid k6
        have K7 := Lib.hid k7
        have HE := Lib.hid he
        have em : e = m ↔ s = mid := by omega
        clear k6 k7 he I
        go_upto_if 185 with (fail)
        go_cut [] (fun wx => Hid (Row wx B n (rotF f s m e)) ∧ Hid (w.grownBy wx (some B)))
        case first =>
          by_cases d1 : s < m
          · by_cases d2 : m < e
            · have HC := Lib.hid (rotate_any B n f s m e (.func (.func 39) #[] #[.pointer (some ⟨N, 0, none⟩)]) wo R.out d1 d2 (by omega) h4)
              go_wp2_with fail
              refine HC.out.mono ?_
              rintro e' w2 ⟨rfl, g, rfl, hr2, hg2⟩
              have R2 := Lib.hid hr2
              have G2 := Lib.hid (grown_trans G.out hg2)
              clear hr2 hg2
              go_wp2
              go_meet
              exact ⟨R2, G2⟩
            · go_wp2
              go_meet
              exact ⟨R.out.congr (rotF_idle f s m e k2 k4 (by omega)), G⟩
          · exact absurd d1 (by omega)
        case rest =>
          obtain ⟨R2, G2⟩ := hcut
          have F0 := rotF_from f (a := a) (b := b) k1 k2 k4 k5
          have L0 := F0.lt HH.out.lt h3
          have HL := Lib.hid (show ∀ p, p < n → rotF f s m e p < n from L0)
          have RL := Lib.hid (show Runs r (rotF f s m e) a s mid from by have := rot_runs_left HH.out.runs k1 k2 k4 k5; rw [K6.out] at this; exact this)
          have RR := Lib.hid (show Runs r (rotF f s m e) mid e b from by have := rot_runs_right HH.out.runs k1 k2 k4 k5; rw [K6.out] at this; exact this)
          have F1 := Lib.hid F0
          have KS := Lib.hid (HH.out.keys)
          clear F0 L0 R G
          by_cases c1 : a < s
          · by_cases c2 : s < mid
            · have hc := IH.out (rotF f s m e) a s mid wc (by omega) ⟨R2.out, KS.out.grown G2.out, c1, c2, by omega, h4, HL.out, RL.out⟩
              unfold symArgs at hc
              have HC := Lib.hid hc
              clear hc
              go_wp2_with fail
              refine HC.out.mono ?_
              rintro e' w3 ⟨rfl, g, hg, hr2, hg2⟩
              have R3 := Lib.hid hr2
              have G3 := Lib.hid (grown_trans G2.out hg2)
              have M3 := Lib.hid hg
              clear hr2 hg2 hg HC
              have hm : mid ≤ e := by have := HE.out; omega
              have RG := Lib.hid (show Runs r g mid e b from RR.out.congr (fun p p1 p2 => M3.out.1.1 p (by omega)) hm k5)
              have LG := Lib.hid (show ∀ p, p < n → g p < n from M3.out.1.lt HL.out (by omega))
              have FIN := Lib.hid (show ∀ h, From mid b g h → SortedOn r h mid b → Merged r f a b h from fun h fh sh => merged_of F1.out M3.out.1 M3.out.2 fh sh K7.out (by omega) (by omega))
              by_cases d1 : mid < e
              · by_cases d2 : e < b
                · have hc := IH.out g mid e b w3 (by omega) ⟨R3.out, KS.out.grown G3.out, d1, d2, by omega, h4, LG.out, RG.out⟩
                  unfold symArgs at hc
                  have HC := Lib.hid hc
                  clear hc
                  go_wp2_with fail
                  refine HC.out.mono ?_
                  rintro e' w2 ⟨rfl, h, hh, hr2, hg2⟩
                  have F := Lib.hid (show SortEnd B n (Merged r f a b) w (.returned (.tuple #[])) w2 from ⟨rfl, h, FIN.out h hh.1 hh.2, hr2, grown_trans G3.out hg2⟩)
                  clear hr2 hg2 hh
                  go_wp2
                  go_end0
                  exact F.out
                · have F := Lib.hid (show SortEnd B n (Merged r f a b) w (.returned (.tuple #[])) w3 from ⟨rfl, g, FIN.out g (From.refl _ _ _) (RG.out.sorted (by omega)), R3.out, G3.out⟩)
                  go_wp2
                  go_end0
                  exact F.out
              · have F := Lib.hid (show SortEnd B n (Merged r f a b) w (.returned (.tuple #[])) w3 from ⟨rfl, g, FIN.out g (From.refl _ _ _) (RG.out.sorted (by omega)), R3.out, G3.out⟩)
                go_wp2
                go_end0
                exact F.out
            · have M3 := Lib.hid (show From a mid (rotF f s m e) (rotF f s m e) ∧ SortedOn r (rotF f s m e) a mid from ⟨From.refl _ _ _, RL.out.sorted (by omega)⟩)
              obtain ⟨g, hg⟩ : ∃ g, g = rotF f s m e := ⟨_, rfl⟩
              rw [← hg] at M3 R2 F1 K7 RR RL HL
              have G3 := G2
              have R3 := R2
              clear hg
              have hm : mid ≤ e := by have := HE.out; omega
              have RG := Lib.hid (show Runs r g mid e b from RR.out.congr (fun p p1 p2 => M3.out.1.1 p (by omega)) hm k5)
              have LG := Lib.hid (show ∀ p, p < n → g p < n from M3.out.1.lt HL.out (by omega))
              have FIN := Lib.hid (show ∀ h, From mid b g h → SortedOn r h mid b → Merged r f a b h from fun h fh sh => merged_of F1.out M3.out.1 M3.out.2 fh sh K7.out (by omega) (by omega))
              by_cases d1 : mid < e
              · by_cases d2 : e < b
                · have hc := IH.out g mid e b wc (by omega) ⟨R3.out, KS.out.grown G3.out, d1, d2, by omega, h4, LG.out, RG.out⟩
                  unfold symArgs at hc
                  have HC := Lib.hid hc
                  clear hc
                  go_wp2_with fail
                  refine HC.out.mono ?_
                  rintro e' w2 ⟨rfl, h, hh, hr2, hg2⟩
                  have F := Lib.hid (show SortEnd B n (Merged r f a b) w (.returned (.tuple #[])) w2 from ⟨rfl, h, FIN.out h hh.1 hh.2, hr2, grown_trans G3.out hg2⟩)
                  clear hr2 hg2 hh
                  go_wp2
                  go_end0
                  exact F.out
                · have F := Lib.hid (show SortEnd B n (Merged r f a b) w (.returned (.tuple #[])) wc from ⟨rfl, g, FIN.out g (From.refl _ _ _) (RG.out.sorted (by omega)), R3.out, G3.out⟩)
                  go_wp2
                  go_end0
                  exact F.out
              · have F := Lib.hid (show SortEnd B n (Merged r f a b) w (.returned (.tuple #[])) wc from ⟨rfl, g, FIN.out g (From.refl _ _ _) (RG.out.sorted (by omega)), R3.out, G3.out⟩)
                go_wp2
                go_end0
                exact F.out
          · have M3 := Lib.hid (show From a mid (rotF f s m e) (rotF f s m e) ∧ SortedOn r (rotF f s m e) a mid from ⟨From.refl _ _ _, RL.out.sorted (by omega)⟩)
            obtain ⟨g, hg⟩ : ∃ g, g = rotF f s m e := ⟨_, rfl⟩
            rw [← hg] at M3 R2 F1 K7 RR RL HL
            have G3 := G2
            have R3 := R2
            clear hg
            have hm : mid ≤ e := by have := HE.out; omega
            have RG := Lib.hid (show Runs r g mid e b from RR.out.congr (fun p p1 p2 => M3.out.1.1 p (by omega)) hm k5)
            have LG := Lib.hid (show ∀ p, p < n → g p < n from M3.out.1.lt HL.out (by omega))
            have FIN := Lib.hid (show ∀ h, From mid b g h → SortedOn r h mid b → Merged r f a b h from fun h fh sh => merged_of F1.out M3.out.1 M3.out.2 fh sh K7.out (by omega) (by omega))
            by_cases d1 : mid < e
            · by_cases d2 : e < b
              · have hc := IH.out g mid e b wc (by omega) ⟨R3.out, KS.out.grown G3.out, d1, d2, by omega, h4, LG.out, RG.out⟩
                unfold symArgs at hc
                have HC := Lib.hid hc
                clear hc
                go_wp2_with fail
                refine HC.out.mono ?_
                rintro e' w2 ⟨rfl, h, hh, hr2, hg2⟩
                have F := Lib.hid (show SortEnd B n (Merged r f a b) w (.returned (.tuple #[])) w2 from ⟨rfl, h, FIN.out h hh.1 hh.2, hr2, grown_trans G3.out hg2⟩)
                clear hr2 hg2 hh
                go_wp2
                go_end0
                exact F.out
              · have F := Lib.hid (show SortEnd B n (Merged r f a b) w (.returned (.tuple #[])) wc from ⟨rfl, g, FIN.out g (From.refl _ _ _) (RG.out.sorted (by omega)), R3.out, G3.out⟩)
                go_wp2
                go_end0
                exact F.out
            · have F := Lib.hid (show SortEnd B n (Merged r f a b) w (.returned (.tuple #[])) wc from ⟨rfl, g, FIN.out g (From.refl _ _ _) (RG.out.sorted (by omega)), R3.out, G3.out⟩)
              go_wp2
              go_end0
              exact F.out
  · go_enter Try.func44, Try.ntmps44
    go_wp2
    go_loopw [20, 21, 23] (fun s20 s21 _ wr => ∃ s t : Nat, s20 = .int .i64 s ∧ s21 = .int .i64 t ∧ a ≤ s ∧ s ≤ t ∧ t ≤ m ∧ Hid (Split r f a m (mid + m) s t) ∧ Hid (Row wr B n f) ∧ Hid (w.grownBy wr (some B))) (fun i j _ _ => (intOf j - intOf i).toNat)
    case atStart => exact ⟨a, m, rfl, rfl, by omega, by omega, by omega, ⟨fun c c1 c2 => absurd c1 (by omega), fun c c1 c2 => absurd c1 (by omega)⟩, HR, grown_refl _ _⟩
    case round =>
      obtain ⟨s, t, rfl, rfl, hs, hst, ht, I, R, G⟩ := hrel
      by_cases hlt : s < t
      · obtain ⟨c, hc⟩ : ∃ c, (s + t) / 2 = c := ⟨_, rfl⟩
        have hm1 : s ≤ c := by omega
        have hm2 : c < t := by omega
        have hcz : ((s : Int) + (t : Int)) / 2 = (c : Int) := by omega
        obtain ⟨d, hd⟩ : ∃ d, mid + m - 1 - c = d := ⟨_, rfl⟩
        have hw : IntKind.i64.wrap ((mid : Int) + (m : Int) - 1 - (c : Int)) = (d : Int) := by rw [show (mid : Int) + (m : Int) - 1 - (c : Int) = (d : Int) by omega]; exact IntWalk.i64_in _ (by omega)
        have e1 : (c : Int) < (n : Int) := by omega
        have e2 : (d : Int) < (n : Int) := by omega
        have c1 := R.out.1 c (by omega)
        have c2 := R.out.1 d (by omega)
        have l1 := HH.out.lt c (by omega)
        have l2 := HH.out.lt d (by omega)
        have HC := Lib.hid (fun q => clo39 N n B r (f d) (f c) (wr.drewN q) ((HH.out.keys.grown G.out).grown (grown_drewN _ _ _)) l2 l1 h4)
        by_cases hcc : r (f c) < r (f d)
        · have I2 := Lib.hid (split_right (c := c) HH.out.runs I.out (by omega) (by omega) (by omega) (by omega) (by omega) (by omega) (by rw [hd]; exact hcc))
          have hcm := cmp3_neg hcc
          clear hcc I hc hd
          generalize f c = x at *
          generalize f d = y at *
          go_wp2
          go_quiet ((go_at_call 39; exact Calls.quiet_of (HC.out _)))
          clear hw
          go_wp2
          go_roundw
          case rel => exact ⟨s, c, rfl, rfl, by omega, by omega, by omega, I2, R.out.drewN _, grown_trans G.out (grown_drewN _ _ _)⟩
          case measure => simp [intOf]; omega
        · have I2 := Lib.hid (split_left (c := c) HH.out.runs I.out (by omega) (by omega) (by omega) (by omega) (by omega) (by omega) (by omega) (by rw [hd]; exact hcc))
          have hcm := cmp3_nonneg hcc
          clear hcc I hc hd
          generalize f c = x at *
          generalize f d = y at *
          go_wp2
          go_quiet ((go_at_call 39; exact Calls.quiet_of (HC.out _)))
          clear hw
          go_wp2
          go_roundw
          case rel => exact ⟨c + 1, t, by go_num, rfl, by omega, by omega, by omega, I2, R.out.drewN _, grown_trans G.out (grown_drewN _ _ _)⟩
          case measure => simp [intOf]; omega
      · obtain rfl : s = t := by omega
        obtain ⟨wo, rfl⟩ : ∃ wo : World, wo = wr := ⟨_, rfl⟩
        obtain ⟨k1, k2, k3, k4, k5, k6, k7⟩ := split_done HH.out.runs I.out (.inr ⟨by omega, rfl, rfl⟩) (by omega) (by omega) (by omega) hmm hs ht
        obtain ⟨e, he⟩ : ∃ e, mid + m - s = e := ⟨_, rfl⟩
        rw [he] at k4 k5 k6 k7
        have hez : (mid : Int) + (m : Int) - (s : Int) = (e : Int) := by omega
        have K6 := Lib.hid k6
        have K7 := Lib.hid k7
        have HE := Lib.hid he
        have em : e = m ↔ s = mid := by omega
        clear k6 k7 he I
        by_cases d1 : s < m
        · have d2 : m < e := by omega
          go_upto_if 185 with (fail)
          go_cut [] (fun wx => Hid (Row wx B n (rotF f s m e)) ∧ Hid (w.grownBy wx (some B)))
          case first =>
            have HC := Lib.hid (rotate_any B n f s m e (.func (.func 39) #[] #[.pointer (some ⟨N, 0, none⟩)]) wo R.out d1 d2 (by omega) h4)
            go_wp2_with fail
            refine HC.out.mono ?_
            rintro e' w2 ⟨rfl, g, rfl, hr2, hg2⟩
            have R2 := Lib.hid hr2
            have G2 := Lib.hid (grown_trans G.out hg2)
            clear hr2 hg2
            go_wp2
            go_meet
            exact ⟨R2, G2⟩
          case rest =>
            obtain ⟨R2, G2⟩ := hcut
            have F0 := rotF_from f (a := a) (b := b) k1 k2 k4 k5
            have L0 := F0.lt HH.out.lt h3
            have HL := Lib.hid (show ∀ p, p < n → rotF f s m e p < n from L0)
            have RL := Lib.hid (show Runs r (rotF f s m e) a s mid from by have := rot_runs_left HH.out.runs k1 k2 k4 k5; rw [K6.out] at this; exact this)
            have RR := Lib.hid (show Runs r (rotF f s m e) mid e b from by have := rot_runs_right HH.out.runs k1 k2 k4 k5; rw [K6.out] at this; exact this)
            have F1 := Lib.hid F0
            have KS := Lib.hid (HH.out.keys)
            clear F0 L0 R G
            by_cases c1 : a < s
            · by_cases c2 : s < mid
              · have hc := IH.out (rotF f s m e) a s mid wc (by omega) ⟨R2.out, KS.out.grown G2.out, c1, c2, by omega, h4, HL.out, RL.out⟩
                unfold symArgs at hc
                have HC := Lib.hid hc
                clear hc
                go_wp2_with fail
                refine HC.out.mono ?_
                rintro e' w3 ⟨rfl, g, hg, hr2, hg2⟩
                have R3 := Lib.hid hr2
                have G3 := Lib.hid (grown_trans G2.out hg2)
                have M3 := Lib.hid hg
                clear hr2 hg2 hg HC
                have hm : mid ≤ e := by have := HE.out; omega
                have RG := Lib.hid (show Runs r g mid e b from RR.out.congr (fun p p1 p2 => M3.out.1.1 p (by omega)) hm k5)
                have LG := Lib.hid (show ∀ p, p < n → g p < n from M3.out.1.lt HL.out (by omega))
                have FIN := Lib.hid (show ∀ h, From mid b g h → SortedOn r h mid b → Merged r f a b h from fun h fh sh => merged_of F1.out M3.out.1 M3.out.2 fh sh K7.out (by omega) (by omega))
                by_cases d1 : mid < e
                · by_cases d2 : e < b
                  · have hc := IH.out g mid e b w3 (by omega) ⟨R3.out, KS.out.grown G3.out, d1, d2, by omega, h4, LG.out, RG.out⟩
                    unfold symArgs at hc
                    have HC := Lib.hid hc
                    clear hc
                    go_wp2_with fail
                    refine HC.out.mono ?_
                    rintro e' w2 ⟨rfl, h, hh, hr2, hg2⟩
                    have F := Lib.hid (show SortEnd B n (Merged r f a b) w (.returned (.tuple #[])) w2 from ⟨rfl, h, FIN.out h hh.1 hh.2, hr2, grown_trans G3.out hg2⟩)
                    clear hr2 hg2 hh
                    go_wp2
                    go_end0
                    exact F.out
                  · have F := Lib.hid (show SortEnd B n (Merged r f a b) w (.returned (.tuple #[])) w3 from ⟨rfl, g, FIN.out g (From.refl _ _ _) (RG.out.sorted (by omega)), R3.out, G3.out⟩)
                    go_wp2
                    go_end0
                    exact F.out
                · have F := Lib.hid (show SortEnd B n (Merged r f a b) w (.returned (.tuple #[])) w3 from ⟨rfl, g, FIN.out g (From.refl _ _ _) (RG.out.sorted (by omega)), R3.out, G3.out⟩)
                  go_wp2
                  go_end0
                  exact F.out
              · have M3 := Lib.hid (show From a mid (rotF f s m e) (rotF f s m e) ∧ SortedOn r (rotF f s m e) a mid from ⟨From.refl _ _ _, RL.out.sorted (by omega)⟩)
                obtain ⟨g, hg⟩ : ∃ g, g = rotF f s m e := ⟨_, rfl⟩
                rw [← hg] at M3 R2 F1 K7 RR RL HL
                have G3 := G2
                have R3 := R2
                clear hg
                have hm : mid ≤ e := by have := HE.out; omega
                have RG := Lib.hid (show Runs r g mid e b from RR.out.congr (fun p p1 p2 => M3.out.1.1 p (by omega)) hm k5)
                have LG := Lib.hid (show ∀ p, p < n → g p < n from M3.out.1.lt HL.out (by omega))
                have FIN := Lib.hid (show ∀ h, From mid b g h → SortedOn r h mid b → Merged r f a b h from fun h fh sh => merged_of F1.out M3.out.1 M3.out.2 fh sh K7.out (by omega) (by omega))
                by_cases d1 : mid < e
                · by_cases d2 : e < b
                  · have hc := IH.out g mid e b wc (by omega) ⟨R3.out, KS.out.grown G3.out, d1, d2, by omega, h4, LG.out, RG.out⟩
                    unfold symArgs at hc
                    have HC := Lib.hid hc
                    clear hc
                    go_wp2_with fail
                    refine HC.out.mono ?_
                    rintro e' w2 ⟨rfl, h, hh, hr2, hg2⟩
                    have F := Lib.hid (show SortEnd B n (Merged r f a b) w (.returned (.tuple #[])) w2 from ⟨rfl, h, FIN.out h hh.1 hh.2, hr2, grown_trans G3.out hg2⟩)
                    clear hr2 hg2 hh
                    go_wp2
                    go_end0
                    exact F.out
                  · have F := Lib.hid (show SortEnd B n (Merged r f a b) w (.returned (.tuple #[])) wc from ⟨rfl, g, FIN.out g (From.refl _ _ _) (RG.out.sorted (by omega)), R3.out, G3.out⟩)
                    go_wp2
                    go_end0
                    exact F.out
                · have F := Lib.hid (show SortEnd B n (Merged r f a b) w (.returned (.tuple #[])) wc from ⟨rfl, g, FIN.out g (From.refl _ _ _) (RG.out.sorted (by omega)), R3.out, G3.out⟩)
                  go_wp2
                  go_end0
                  exact F.out
            · have M3 := Lib.hid (show From a mid (rotF f s m e) (rotF f s m e) ∧ SortedOn r (rotF f s m e) a mid from ⟨From.refl _ _ _, RL.out.sorted (by omega)⟩)
              obtain ⟨g, hg⟩ : ∃ g, g = rotF f s m e := ⟨_, rfl⟩
              rw [← hg] at M3 R2 F1 K7 RR RL HL
              have G3 := G2
              have R3 := R2
              clear hg
              have hm : mid ≤ e := by have := HE.out; omega
              have RG := Lib.hid (show Runs r g mid e b from RR.out.congr (fun p p1 p2 => M3.out.1.1 p (by omega)) hm k5)
              have LG := Lib.hid (show ∀ p, p < n → g p < n from M3.out.1.lt HL.out (by omega))
              have FIN := Lib.hid (show ∀ h, From mid b g h → SortedOn r h mid b → Merged r f a b h from fun h fh sh => merged_of F1.out M3.out.1 M3.out.2 fh sh K7.out (by omega) (by omega))
              by_cases d1 : mid < e
              · by_cases d2 : e < b
                · have hc := IH.out g mid e b wc (by omega) ⟨R3.out, KS.out.grown G3.out, d1, d2, by omega, h4, LG.out, RG.out⟩
                  unfold symArgs at hc
                  have HC := Lib.hid hc
                  clear hc
                  go_wp2_with fail
                  refine HC.out.mono ?_
                  rintro e' w2 ⟨rfl, h, hh, hr2, hg2⟩
                  have F := Lib.hid (show SortEnd B n (Merged r f a b) w (.returned (.tuple #[])) w2 from ⟨rfl, h, FIN.out h hh.1 hh.2, hr2, grown_trans G3.out hg2⟩)
                  clear hr2 hg2 hh
                  go_wp2
                  go_end0
                  exact F.out
                · have F := Lib.hid (show SortEnd B n (Merged r f a b) w (.returned (.tuple #[])) wc from ⟨rfl, g, FIN.out g (From.refl _ _ _) (RG.out.sorted (by omega)), R3.out, G3.out⟩)
                  go_wp2
                  go_end0
                  exact F.out
              · have F := Lib.hid (show SortEnd B n (Merged r f a b) w (.returned (.tuple #[])) wc from ⟨rfl, g, FIN.out g (From.refl _ _ _) (RG.out.sorted (by omega)), R3.out, G3.out⟩)
                go_wp2
                go_end0
                exact F.out
        · have R2 := Lib.hid (R.out.congr (rotF_idle f s m e k2 k4 (by omega)))
          have G2 := G
          have F0 := rotF_from f (a := a) (b := b) k1 k2 k4 k5
          have L0 := F0.lt HH.out.lt h3
          have HL := Lib.hid (show ∀ p, p < n → rotF f s m e p < n from L0)
          have RL := Lib.hid (show Runs r (rotF f s m e) a s mid from by have := rot_runs_left HH.out.runs k1 k2 k4 k5; rw [K6.out] at this; exact this)
          have RR := Lib.hid (show Runs r (rotF f s m e) mid e b from by have := rot_runs_right HH.out.runs k1 k2 k4 k5; rw [K6.out] at this; exact this)
          have F1 := Lib.hid F0
          have KS := Lib.hid (HH.out.keys)
          clear F0 L0 R G
          by_cases c1 : a < s
          · by_cases c2 : s < mid
            · have hc := IH.out (rotF f s m e) a s mid wo (by omega) ⟨R2.out, KS.out.grown G2.out, c1, c2, by omega, h4, HL.out, RL.out⟩
              unfold symArgs at hc
              have HC := Lib.hid hc
              clear hc
              go_wp2_with fail
              refine HC.out.mono ?_
              rintro e' w3 ⟨rfl, g, hg, hr2, hg2⟩
              have R3 := Lib.hid hr2
              have G3 := Lib.hid (grown_trans G2.out hg2)
              have M3 := Lib.hid hg
              clear hr2 hg2 hg HC
              have hm : mid ≤ e := by have := HE.out; omega
              have RG := Lib.hid (show Runs r g mid e b from RR.out.congr (fun p p1 p2 => M3.out.1.1 p (by omega)) hm k5)
              have LG := Lib.hid (show ∀ p, p < n → g p < n from M3.out.1.lt HL.out (by omega))
              have FIN := Lib.hid (show ∀ h, From mid b g h → SortedOn r h mid b → Merged r f a b h from fun h fh sh => merged_of F1.out M3.out.1 M3.out.2 fh sh K7.out (by omega) (by omega))
              have d1 : ¬ mid < e := by omega
              have F := Lib.hid (show SortEnd B n (Merged r f a b) w (.returned (.tuple #[])) w3 from ⟨rfl, g, FIN.out g (From.refl _ _ _) (RG.out.sorted (by omega)), R3.out, G3.out⟩)
              go_wp2
              go_end0
              exact F.out
            · have M3 := Lib.hid (show From a mid (rotF f s m e) (rotF f s m e) ∧ SortedOn r (rotF f s m e) a mid from ⟨From.refl _ _ _, RL.out.sorted (by omega)⟩)
              obtain ⟨g, hg⟩ : ∃ g, g = rotF f s m e := ⟨_, rfl⟩
              rw [← hg] at M3 R2 F1 K7 RR RL HL
              have G3 := G2
              have R3 := R2
              clear hg
              have hm : mid ≤ e := by have := HE.out; omega
              have RG := Lib.hid (show Runs r g mid e b from RR.out.congr (fun p p1 p2 => M3.out.1.1 p (by omega)) hm k5)
              have LG := Lib.hid (show ∀ p, p < n → g p < n from M3.out.1.lt HL.out (by omega))
              have FIN := Lib.hid (show ∀ h, From mid b g h → SortedOn r h mid b → Merged r f a b h from fun h fh sh => merged_of F1.out M3.out.1 M3.out.2 fh sh K7.out (by omega) (by omega))
              have d1 : ¬ mid < e := by omega
              have F := Lib.hid (show SortEnd B n (Merged r f a b) w (.returned (.tuple #[])) wo from ⟨rfl, g, FIN.out g (From.refl _ _ _) (RG.out.sorted (by omega)), R3.out, G3.out⟩)
              go_wp2
              go_end0
              exact F.out
          · have M3 := Lib.hid (show From a mid (rotF f s m e) (rotF f s m e) ∧ SortedOn r (rotF f s m e) a mid from ⟨From.refl _ _ _, RL.out.sorted (by omega)⟩)
            obtain ⟨g, hg⟩ : ∃ g, g = rotF f s m e := ⟨_, rfl⟩
            rw [← hg] at M3 R2 F1 K7 RR RL HL
            have G3 := G2
            have R3 := R2
            clear hg
            have hm : mid ≤ e := by have := HE.out; omega
            have RG := Lib.hid (show Runs r g mid e b from RR.out.congr (fun p p1 p2 => M3.out.1.1 p (by omega)) hm k5)
            have LG := Lib.hid (show ∀ p, p < n → g p < n from M3.out.1.lt HL.out (by omega))
            have FIN := Lib.hid (show ∀ h, From mid b g h → SortedOn r h mid b → Merged r f a b h from fun h fh sh => merged_of F1.out M3.out.1 M3.out.2 fh sh K7.out (by omega) (by omega))
            have d1 : ¬ mid < e := by omega
            have F := Lib.hid (show SortEnd B n (Merged r f a b) w (.returned (.tuple #[])) wo from ⟨rfl, g, FIN.out g (From.refl _ _ _) (RG.out.sorted (by omega)), R3.out, G3.out⟩)
            go_wp2
            go_end0
            exact F.out

theorem sym_all (B N n : Nat) (r : Nat → Int) : ∀ (d : Nat) (f : Nat → Nat) (a m b : Nat) (w : World), b - a ≤ d → SymIn B N n r f a m b w → Calls Try.prog 44 (symArgs B N n a m b) w (SortEnd B n (Merged r f a b) w) := by
  intro d
  induction d with
  | zero => intro f a m b w h H; have := H.in1; have := H.in2; omega
  | succ d ih =>
    intro f a m b w h H
    by_cases h1 : m = a + 1
    · subst h1; exact sym_one B N n r f a b w H
    · by_cases h2 : b = m + 1
      · subst h2; exact sym_last B N n r f a m w H h1
      · exact sym_gen B N n r f a m b w H h1 h2 (fun f' a' m' b' w' h' H' => ih f' a' m' b' w' (by omega) H')
end Go.Proofs.Ytkpmhgikcipedaa
