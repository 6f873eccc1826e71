/- The stable sort at up to 64 places. -/
import Derived.Test.YtkpmhgikcipedaaSymAll
import Derived.Test.YtkpmhgikcipedaaStable
namespace Go.Proofs.Ytkpmhgikcipedaa
open Go.ChangeShapes Go.WideShapes Go.ChangeAt Go.RowKit

/-- Blocks of c places are sorted, and each holds its own places. -/
def Lvl (r : Nat → Int) (c n : Nat) (f : Nat → Nat) : Prop := (∀ p, p < n → f p < n) ∧ (∀ p q, p < q → q < n → p / c = q / c → Lt r (f p) (f q)) ∧ ∀ p, p < n → f p / c = p / c
/-- So far in blocks of d up to a, and from there on in blocks of c. -/
def Pass (r : Nat → Int) (c d n : Nat) (f : Nat → Nat) (a : Nat) : Prop :=
  (∀ p, p < n → f p < n) ∧ (∀ p q, p < q → q < a → p / d = q / d → Lt r (f p) (f q)) ∧ (∀ p, p < a → f p / d = p / d) ∧ (∀ p q, a ≤ p → p < q → q < n → p / c = q / c → Lt r (f p) (f q)) ∧ ∀ p, a ≤ p → p < n → f p / c = p / c

theorem Lvl.pass {r : Nat → Int} {c d n : Nat} {f : Nat → Nat} (L : Lvl r c n f) : Pass r c d n f 0 :=
  ⟨L.1, fun p q h1 h2 _ => absurd h2 (by omega), fun p h => absurd h (by omega), fun p q _ h2 h3 h4 => L.2.1 p q h2 h3 h4, fun p _ h2 => L.2.2 p h2⟩

theorem pass20_runs {r : Nat → Int} {n : Nat} {f : Nat → Nat} {a b : Nat} (P : Pass r 20 40 n f a) (ha : a % 40 = 0) (h0 : a + 20 ≤ b) (hb : b ≤ a + 40) (hbn : b ≤ n) : Runs r f a (a + 20) b := by
  obtain ⟨_, _, _, p3, p4⟩ := P
  refine ⟨fun p q h1 h2 h3 => p3 p q h1 h2 (by omega) (by omega), fun p q h1 h2 h3 => p3 p q (by omega) h2 (by omega) (by omega), fun p q h1 h2 h3 h4 => ?_⟩
  have := p4 p h1 (by omega)
  have := p4 q (by omega) (by omega)
  omega

theorem pass40_runs {r : Nat → Int} {n : Nat} {f : Nat → Nat} {a b : Nat} (P : Pass r 40 80 n f a) (ha : a % 80 = 0) (h0 : a + 40 ≤ b) (hb : b ≤ a + 80) (hbn : b ≤ n) : Runs r f a (a + 40) b := by
  obtain ⟨_, _, _, p3, p4⟩ := P
  refine ⟨fun p q h1 h2 h3 => p3 p q h1 h2 (by omega) (by omega), fun p q h1 h2 h3 => p3 p q (by omega) h2 (by omega) (by omega), fun p q h1 h2 h3 h4 => ?_⟩
  have := p4 p h1 (by omega)
  have := p4 q (by omega) (by omega)
  omega

theorem pass1_step {r : Nat → Int} {n : Nat} {f g : Nat → Nat} {a : Nat} (P : Pass r 1 20 n f a) (ha : a % 20 = 0) (hb : a + 20 ≤ n) (M : Merged r f a (a + 20) g) : Pass r 1 20 n g (a + 20) := by
  obtain ⟨p0, p1, p2, p3, p4⟩ := P
  obtain ⟨m1, m2⟩ := M
  refine ⟨fun p hp => m1.lt p0 hb p hp, fun p q h1 h2 h3 => ?_, fun p hp => ?_, fun p q h1 h2 h3 h4 => ?_, fun p h1 h2 => ?_⟩
  · by_cases c1 : q < a
    · rw [m1.1 p (by omega), m1.1 q (by omega)]; exact p1 p q h1 c1 h3
    · exact m2 p q (by omega) h1 h2
  · by_cases c1 : p < a
    · rw [m1.1 p (by omega)]; exact p2 p c1
    · obtain ⟨q, q1, q2, e⟩ := m1.2 p (by omega) hp
      have := p4 q q1 (by omega)
      rw [e]; omega
  · rw [m1.1 p (by omega), m1.1 q (by omega)]; exact p3 p q (by omega) h2 h3 h4
  · rw [m1.1 p (by omega)]; exact p4 p (by omega) h2
theorem pass1_last {r : Nat → Int} {n : Nat} {f g : Nat → Nat} {a : Nat} (P : Pass r 1 20 n f a) (ha : a % 20 = 0) (hb : a ≤ n) (hb2 : n < a + 20) (M : Merged r f a n g) : Lvl r 20 n g := by
  obtain ⟨p0, p1, p2, p3, p4⟩ := P
  obtain ⟨m1, m2⟩ := M
  refine ⟨fun p hp => m1.lt p0 (Nat.le_refl _) p hp, fun p q h1 h2 h3 => ?_, fun p hp => ?_⟩
  · by_cases c1 : q < a
    · rw [m1.1 p (by omega), m1.1 q (by omega)]; exact p1 p q h1 c1 h3
    · exact m2 p q (by omega) h1 h2
  · by_cases c1 : p < a
    · rw [m1.1 p (by omega)]; exact p2 p c1
    · obtain ⟨q, q1, q2, e⟩ := m1.2 p (by omega) hp
      have := p4 q q1 (by omega)
      rw [e]; omega
theorem pass1_stop {r : Nat → Int} {n : Nat} {f : Nat → Nat} {a : Nat} (P : Pass r 1 20 n f a) (ha : a % 20 = 0) (hb : a ≤ n) (hb2 : n ≤ a + 1) : Lvl r 20 n f := by
  refine pass1_last P ha hb (by omega) ⟨From.refl _ _ _, fun p q h1 h2 h3 => ?_⟩
  exact P.2.2.2.1 p q h1 h2 h3 (by omega)

theorem pass20_step {r : Nat → Int} {n : Nat} {f g : Nat → Nat} {a : Nat} (P : Pass r 20 40 n f a) (ha : a % 40 = 0) (hb : a + 40 ≤ n) (M : Merged r f a (a + 40) g) : Pass r 20 40 n g (a + 40) := by
  obtain ⟨p0, p1, p2, p3, p4⟩ := P
  obtain ⟨m1, m2⟩ := M
  refine ⟨fun p hp => m1.lt p0 hb p hp, fun p q h1 h2 h3 => ?_, fun p hp => ?_, fun p q h1 h2 h3 h4 => ?_, fun p h1 h2 => ?_⟩
  · by_cases c1 : q < a
    · rw [m1.1 p (by omega), m1.1 q (by omega)]; exact p1 p q h1 c1 h3
    · exact m2 p q (by omega) h1 h2
  · by_cases c1 : p < a
    · rw [m1.1 p (by omega)]; exact p2 p c1
    · obtain ⟨q, q1, q2, e⟩ := m1.2 p (by omega) hp
      have := p4 q q1 (by omega)
      rw [e]; omega
  · rw [m1.1 p (by omega), m1.1 q (by omega)]; exact p3 p q (by omega) h2 h3 h4
  · rw [m1.1 p (by omega)]; exact p4 p (by omega) h2
theorem pass20_last {r : Nat → Int} {n : Nat} {f g : Nat → Nat} {a : Nat} (P : Pass r 20 40 n f a) (ha : a % 40 = 0) (hb : a ≤ n) (hb2 : n < a + 40) (M : Merged r f a n g) : Lvl r 40 n g := by
  obtain ⟨p0, p1, p2, p3, p4⟩ := P
  obtain ⟨m1, m2⟩ := M
  refine ⟨fun p hp => m1.lt p0 (Nat.le_refl _) p hp, fun p q h1 h2 h3 => ?_, fun p hp => ?_⟩
  · by_cases c1 : q < a
    · rw [m1.1 p (by omega), m1.1 q (by omega)]; exact p1 p q h1 c1 h3
    · exact m2 p q (by omega) h1 h2
  · by_cases c1 : p < a
    · rw [m1.1 p (by omega)]; exact p2 p c1
    · obtain ⟨q, q1, q2, e⟩ := m1.2 p (by omega) hp
      have := p4 q q1 (by omega)
      rw [e]; omega
theorem pass20_stop {r : Nat → Int} {n : Nat} {f : Nat → Nat} {a : Nat} (P : Pass r 20 40 n f a) (ha : a % 40 = 0) (hb : a ≤ n) (hb2 : n ≤ a + 20) : Lvl r 40 n f := by
  refine pass20_last P ha hb (by omega) ⟨From.refl _ _ _, fun p q h1 h2 h3 => ?_⟩
  exact P.2.2.2.1 p q h1 h2 h3 (by omega)

theorem pass40_step {r : Nat → Int} {n : Nat} {f g : Nat → Nat} {a : Nat} (P : Pass r 40 80 n f a) (ha : a % 80 = 0) (hb : a + 80 ≤ n) (M : Merged r f a (a + 80) g) : Pass r 40 80 n g (a + 80) := by
  obtain ⟨p0, p1, p2, p3, p4⟩ := P
  obtain ⟨m1, m2⟩ := M
  refine ⟨fun p hp => m1.lt p0 hb p hp, fun p q h1 h2 h3 => ?_, fun p hp => ?_, fun p q h1 h2 h3 h4 => ?_, fun p h1 h2 => ?_⟩
  · by_cases c1 : q < a
    · rw [m1.1 p (by omega), m1.1 q (by omega)]; exact p1 p q h1 c1 h3
    · exact m2 p q (by omega) h1 h2
  · by_cases c1 : p < a
    · rw [m1.1 p (by omega)]; exact p2 p c1
    · obtain ⟨q, q1, q2, e⟩ := m1.2 p (by omega) hp
      have := p4 q q1 (by omega)
      rw [e]; omega
  · rw [m1.1 p (by omega), m1.1 q (by omega)]; exact p3 p q (by omega) h2 h3 h4
  · rw [m1.1 p (by omega)]; exact p4 p (by omega) h2
theorem pass40_last {r : Nat → Int} {n : Nat} {f g : Nat → Nat} {a : Nat} (P : Pass r 40 80 n f a) (ha : a % 80 = 0) (hb : a ≤ n) (hb2 : n < a + 80) (M : Merged r f a n g) : Lvl r 80 n g := by
  obtain ⟨p0, p1, p2, p3, p4⟩ := P
  obtain ⟨m1, m2⟩ := M
  refine ⟨fun p hp => m1.lt p0 (Nat.le_refl _) p hp, fun p q h1 h2 h3 => ?_, fun p hp => ?_⟩
  · by_cases c1 : q < a
    · rw [m1.1 p (by omega), m1.1 q (by omega)]; exact p1 p q h1 c1 h3
    · exact m2 p q (by omega) h1 h2
  · by_cases c1 : p < a
    · rw [m1.1 p (by omega)]; exact p2 p c1
    · obtain ⟨q, q1, q2, e⟩ := m1.2 p (by omega) hp
      have := p4 q q1 (by omega)
      rw [e]; omega
theorem pass40_stop {r : Nat → Int} {n : Nat} {f : Nat → Nat} {a : Nat} (P : Pass r 40 80 n f a) (ha : a % 80 = 0) (hb : a ≤ n) (hb2 : n ≤ a + 40) : Lvl r 80 n f := by
  refine pass40_last P ha hb (by omega) ⟨From.refl _ _ _, fun p q h1 h2 h3 => ?_⟩
  exact P.2.2.2.1 p q h1 h2 h3 (by omega)

theorem Lvl.start (r : Nat → Int) (n : Nat) (f : Nat → Nat) (h : ∀ p, p < n → f p = p) : Lvl r 1 n f :=
  ⟨fun p hp => by rw [h p hp]; exact hp, fun p q h1 h2 h3 => by omega, fun p hp => by rw [h p hp]⟩
theorem Lvl.done {r : Nat → Int} {c n : Nat} {f : Nat → Nat} (L : Lvl r c n f) (hc : n ≤ c) : Sorted r n f :=
  ⟨L.1, fun p q _ h2 h3 => L.2.1 p q h2 h3 (by rw [Nat.div_eq_of_lt (by omega), Nat.div_eq_of_lt (by omega)])⟩
theorem pass1_asc {r : Nat → Int} {n : Nat} {f : Nat → Nat} {a : Nat} (P : Pass r 1 20 n f a) (p q : Nat) (h1 : a ≤ p) (h2 : p < q) (h3 : q < n) : f p < f q := by
  have := P.2.2.2.2 p h1 (by omega)
  have := P.2.2.2.2 q (by omega) h3
  omega

set_option maxRecDepth 100000 in
set_option maxHeartbeats 2000000 in
theorem stable_any (B N n : Nat) (r : Nat → Int) (f : Nat → Nat) (w : World) (hr : Row w B n f) (hk : Keys w N n r B) (hn : n ≤ 64) (hf : ∀ p, p < n → f p = p) :
    Calls Try.prog 41 #[.slice (some ⟨B, 0, none⟩) n n, .int .i64 n, .func (.func 39) #[] #[.pointer (some ⟨N, 0, none⟩)]] w (SortEnd B n (Sorted r n) w) := by
  have HR := Lib.hid hr
  have HK := Lib.hid hk
  have P0 := Lib.hid (show Pass r 1 20 n f 0 from (Lvl.start r n f hf).pass)
  clear hr hk hf
  go_enter Try.func41, Try.ntmps41
  go_wp2
  go_loopw [7, 8] (fun s7 s8 wr => ∃ (a : Nat) (g : Nat → Nat), s7 = .int .i64 a ∧ s8 = .int .i64 ((a + 20 : Nat) : Int) ∧ a % 20 = 0 ∧ a ≤ n ∧ Hid (Pass r 1 20 n g a) ∧ Hid (Row wr B n g) ∧ Hid (w.grownBy wr (some B))) (fun s7 _ _ => n - (intOf s7).toNat)
  case atStart => exact ⟨0, f, rfl, rfl, rfl, by omega, P0, HR, grown_refl _ _⟩
  case round =>
    obtain ⟨a, g, rfl, rfl, ha, han, P, R, G⟩ := hrel
    by_cases hlt : a + 20 ≤ n
    · have hc := insertion_any B N n r g a (a + 20) wr R.out (HK.out.grown G.out) (by omega) hlt (by omega) P.out.1 (fun p q h1 h2 h3 => pass1_asc P.out p q h1 h2 (by omega))
      have HC := Lib.hid hc
      clear hc
      go_wp2_with fail
      refine HC.out.mono ?_
      rintro e w2 ⟨rfl, h, hh, hr2, hg2⟩
      have R2 := Lib.hid hr2
      have G2 := Lib.hid (grown_trans G.out hg2)
      have P2 := Lib.hid (pass1_step P.out ha hlt hh)
      clear hr2 hg2 hh
      go_wp2
      go_roundw
      case rel => exact ⟨a + 20, h, by go_num, by go_num, by omega, hlt, P2, R2, G2⟩
      case measure => simp [intOf]; omega
    · have hc := insertion_any B N n r g a n wr R.out (HK.out.grown G.out) han (Nat.le_refl _) (by omega) P.out.1 (fun p q h1 h2 h3 => pass1_asc P.out p q h1 h2 h3)
      have HC := Lib.hid hc
      clear hc
      obtain ⟨wo, rfl⟩ : ∃ wo : World, wo = wr := ⟨_, rfl⟩
      go_wp2_with fail
      refine HC.out.mono ?_
      rintro e w2 ⟨rfl, h, hh, hr2, hg2⟩
      have R2 := Lib.hid hr2
      have G2 := Lib.hid (grown_trans G.out hg2)
      have L2 := Lib.hid (pass1_last P.out ha han (by omega) hh)
      clear hr2 hg2 hh
      go_wp2
      go_loopw [6, 7, 8, 9] (fun s6 _ _ _ wr => ∃ (c : Int) (g : Nat → Nat), s6 = .int .i64 c ∧ (c = 20 ∨ c = 40 ∨ c = 80) ∧ Hid (Lvl r c.toNat n g) ∧ Hid (Row wr B n g) ∧ Hid (w.grownBy wr (some B))) (fun s6 _ _ _ _ => 80 - (intOf s6).toNat)
      case atStart => exact ⟨20, h, rfl, by omega, L2, R2, G2⟩
      case round =>
        obtain ⟨c, g, rfl, hc, L, R3, G3⟩ := hrel
        obtain ⟨wp, rfl⟩ : ∃ wp : World, wp = wr := ⟨_, rfl⟩
        by_cases hlt : c < n
        · rcases hc with rfl | rfl | rfl
          · have L := Lib.hid (show Lvl r 20 n g from L.out)
            go_wp2
            go_loopw [7, 8] (fun s7 s8 wr => ∃ (a : Nat) (h : Nat → Nat), s7 = .int .i64 a ∧ s8 = .int .i64 ((a + 40 : Nat) : Int) ∧ a % 40 = 0 ∧ a ≤ n ∧ Hid (Pass r 20 40 n h a) ∧ Hid (Row wr B n h) ∧ Hid (w.grownBy wr (some B))) (fun s7 _ _ => n - (intOf s7).toNat)
            case atStart => exact ⟨0, g, rfl, rfl, rfl, by omega, L.out.pass, R3, G3⟩
            case round =>
              obtain ⟨a, h, rfl, rfl, ha, han, P, R4, G4⟩ := hrel
              clear R3 G3
              by_cases hlt2 : a + 40 ≤ n
              · have hc := sym_all B N n r 40 h a (a + 20) (a + 40) wr (by omega) ⟨R4.out, HK.out.grown G4.out, by omega, by omega, hlt2, by omega, P.out.1, pass20_runs P.out ha (by omega) (Nat.le_refl _) hlt2⟩
                unfold symArgs at hc
                have HC := Lib.hid hc
                clear hc
                go_wp2_with fail
                refine HC.out.mono ?_
                rintro e w2 ⟨rfl, g2, hh, hr2, hg2⟩
                have R5 := Lib.hid hr2
                have G5 := Lib.hid (grown_trans G4.out hg2)
                have P5 := Lib.hid (pass20_step P.out ha hlt2 hh)
                clear hr2 hg2 hh
                go_wp2
                go_roundw
                case rel => exact ⟨a + 40, g2, by go_num, by go_num, by omega, hlt2, P5, R5, G5⟩
                case measure => simp [intOf]; omega
              · by_cases hlt3 : a + 20 < n
                · have hc := sym_all B N n r n h a (a + 20) n wr (by omega) ⟨R4.out, HK.out.grown G4.out, by omega, hlt3, Nat.le_refl _, by omega, P.out.1, pass20_runs P.out ha (by omega) (by omega) (Nat.le_refl _)⟩
                  unfold symArgs at hc
                  have HC := Lib.hid hc
                  clear hc
                  go_wp2_with fail
                  refine HC.out.mono ?_
                  rintro e w2 ⟨rfl, g2, hh, hr2, hg2⟩
                  have R5 := Lib.hid hr2
                  have G5 := Lib.hid (grown_trans G4.out hg2)
                  have L5 := Lib.hid (pass20_last P.out ha han (by omega) hh)
                  clear hr2 hg2 hh
                  go_wp2
                  go_roundw
                  case rel => exact ⟨40, g2, rfl, by omega, L5, R5, G5⟩
                  case measure => simp [intOf]
                · have L5 := Lib.hid (pass20_stop P.out ha han (by omega))
                  go_wp2
                  go_roundw
                  case rel => exact ⟨40, h, rfl, by omega, L5, R4, G4⟩
                  case measure => simp [intOf]
          · have L := Lib.hid (show Lvl r 40 n g from L.out)
            go_wp2
            go_loopw [7, 8] (fun s7 s8 wr => ∃ (a : Nat) (h : Nat → Nat), s7 = .int .i64 a ∧ s8 = .int .i64 ((a + 80 : Nat) : Int) ∧ a % 80 = 0 ∧ a ≤ n ∧ Hid (Pass r 40 80 n h a) ∧ Hid (Row wr B n h) ∧ Hid (w.grownBy wr (some B))) (fun s7 _ _ => n - (intOf s7).toNat)
            case atStart => exact ⟨0, g, rfl, rfl, rfl, by omega, L.out.pass, R3, G3⟩
            case round =>
              obtain ⟨a, h, rfl, rfl, ha, han, P, R4, G4⟩ := hrel
              clear R3 G3
              by_cases hlt2 : a + 80 ≤ n
              · exfalso; omega
              · by_cases hlt3 : a + 40 < n
                · have hc := sym_all B N n r n h a (a + 40) n wr (by omega) ⟨R4.out, HK.out.grown G4.out, by omega, hlt3, Nat.le_refl _, by omega, P.out.1, pass40_runs P.out ha (by omega) (by omega) (Nat.le_refl _)⟩
                  unfold symArgs at hc
                  have HC := Lib.hid hc
                  clear hc
                  go_wp2_with fail
                  refine HC.out.mono ?_
                  rintro e w2 ⟨rfl, g2, hh, hr2, hg2⟩
                  have R5 := Lib.hid hr2
                  have G5 := Lib.hid (grown_trans G4.out hg2)
                  have L5 := Lib.hid (pass40_last P.out ha han (by omega) hh)
                  clear hr2 hg2 hh
                  go_wp2
                  go_roundw
                  case rel => exact ⟨80, g2, rfl, by omega, L5, R5, G5⟩
                  case measure => simp [intOf]
                · exfalso; omega
          · omega
        · have F := Lib.hid (show SortEnd B n (Sorted r n) w (.returned (.tuple #[])) wp from ⟨rfl, g, L.out.done (by omega), R3.out, G3.out⟩)
          go_wp2
          go_end0
          exact F.out
end Go.Proofs.Ytkpmhgikcipedaa
