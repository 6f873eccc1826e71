/- Contracts of the stable sort of greatestFirst. -/
import Derived.Test.YtkpmhgikcipedaaKeep
import Derived.RegionTactic
import Derived.ChangeAlike
import Derived.BigRegion
import Derived.IntWalk
namespace Go.Proofs.Ytkpmhgikcipedaa
open Go.ChangeShapes Go.WideShapes Go.ChangeAt Go.RowKit

theorem quiet_same {P : Program} {f : FuncId} {args : Array Value} {w : World} {n : Nat} {v : Value}
    (h : Calls P f args (w.drewN n) fun e w' => e = .returned v ∧ w.drewN n = w') : Calls P f args (w.drewN n) fun e w'' => e = .returned v ∧ ∃ m, w'' = w.drewN m :=
  h.mono fun _ _ ⟨he, hm⟩ => ⟨he, n, hm.symm⟩

def cmp3 (x y : Int) : Int := if x < y then -1 else if y < x then 1 else 0

theorem isNaN_any (x : Int) (w : World) : Calls Try.prog 42 #[.int .i64 x] w fun e w' => e = .returned (.bool false) ∧ w = w' := by
  go_enter Try.func42, Try.ntmps42
  go_wp2
  go_ret
  exact ⟨by simp, rfl⟩

theorem compare_any (x y : Int) (w : World) : Calls Try.prog 40 #[.int .i64 x, .int .i64 y] w fun e w' => e = .returned (.int .i64 (cmp3 x y)) ∧ w = w' := by
  by_cases h1 : x < y
  · have H := Lib.hid (show cmp3 x y = -1 by unfold cmp3; rw [if_pos h1])
    go_enter Try.func40, Try.ntmps40
    go_wp2_with (go_at_call 42; refine (isNaN_any _ _).mono ?_; rintro e w' ⟨rfl, rfl⟩)
    go_ret
    exact ⟨ret_int H.out.symm, rfl⟩
  · by_cases h2 : y < x
    · have H := Lib.hid (show cmp3 x y = 1 by unfold cmp3; rw [if_neg h1, if_pos h2])
      go_enter Try.func40, Try.ntmps40
      go_wp2_with (go_at_call 42; refine (isNaN_any _ _).mono ?_; rintro e w' ⟨rfl, rfl⟩)
      go_ret
      exact ⟨ret_int H.out.symm, rfl⟩
    · have H := Lib.hid (show cmp3 x y = 0 by unfold cmp3; rw [if_neg h1, if_neg h2])
      go_enter Try.func40, Try.ntmps40
      go_wp2_with (go_at_call 42; refine (isNaN_any _ _).mono ?_; rintro e w' ⟨rfl, rfl⟩)
      go_ret
      exact ⟨ret_int H.out.symm, rfl⟩

/-- The numbers that the closure captured: the box at block N holds the slice of the numbers r; block B is another one. -/
def Keys (w : World) (N n : Nat) (r : Nat → Int) (B : Nat) : Prop :=
  N ≠ B ∧ ∃ b off cap, b ≠ B ∧ w.cell? ⟨N, 0, none⟩ = some (.slice (some ⟨b, off, none⟩) n cap) ∧ ∀ i, i < n → w.cell? ⟨b, off + i, none⟩ = some (.int .i64 (r i))

theorem Keys.grown {w w' : World} {N n B : Nat} {r : Nat → Int} (h : Keys w N n r B) (hg : w.grownBy w' (some B)) : Keys w' N n r B := by
  obtain ⟨h1, b, off, cap, hb, h0, hc⟩ := h
  exact ⟨h1, b, off, cap, hb, hg.cell h0 (by simpa using h1), fun i hi => hg.cell (hc i hi) (by simpa using hb)⟩

theorem clo39 (N n B : Nat) (r : Nat → Int) (i j : Nat) (w : World) (hk : Keys w N n r B) (hi : i < n) (hj : j < n) (_hn : n ≤ 1000000) :
    Calls Try.prog 39 #[.int .i64 i, .int .i64 j, .pointer (some ⟨N, 0, none⟩)] w fun e w' => e = .returned (.int .i64 (cmp3 (r j) (r i))) ∧ ∃ q, w' = w.drewN q := by
  obtain ⟨_, b, off, cap, _, h0, hc⟩ := hk
  have c1 := hc i hi
  have c2 := hc j hj
  generalize r i = x at *
  generalize r j = y at *
  clear hc
  go_enter Try.func39, Try.ntmps39
  go_wp2
  go_quiet ((go_at_call 40; exact quiet_same (compare_any _ _ _)))
  go_wp2
  go_ret
  exact ⟨rfl, _, rfl⟩

theorem eg39 : ∀ args w, (callFunc 39 args).run Try.prog w = .ok (.enter 39 args) w := fun _ _ => by kernel_rfl

/-- The row that is sorted: block B holds the places f. -/
def Row (w : World) (B n : Nat) (f : Nat → Nat) : Prop :=
  (∀ p, p < n → w.cell? ⟨B, p, none⟩ = some (.int .i64 (f p))) ∧ ∀ p, w.frozen? ⟨B, p, none⟩ = false

/-- Sorted: greater keys first, of equal ones the lesser place. -/
def Lt (r : Nat → Int) (i j : Nat) : Prop := r j < r i ∨ (r j = r i ∧ i < j)
def SortedOn (r : Nat → Int) (f : Nat → Nat) (a b : Nat) : Prop := ∀ p q, a ≤ p → p < q → q < b → Lt r (f p) (f q)
/-- g differs from f in a to b - 1 alone, and has there what f had there. -/
def From (a b : Nat) (f g : Nat → Nat) : Prop := (∀ p, p < a ∨ b ≤ p → g p = f p) ∧ ∀ p, a ≤ p → p < b → ∃ q, a ≤ q ∧ q < b ∧ g p = f q

def swap (f : Nat → Nat) (i j : Nat) : Nat → Nat := fun p => if p = i then f j else if p = j then f i else f p

theorem From.refl (a b : Nat) (f : Nat → Nat) : From a b f f := ⟨fun _ _ => rfl, fun p h1 h2 => ⟨p, h1, h2, rfl⟩⟩
theorem From.trans {a b : Nat} {f g h : Nat → Nat} (x : From a b f g) (y : From a b g h) : From a b f h :=
  ⟨fun p hp => (y.1 p hp).trans (x.1 p hp), fun p h1 h2 => by
    obtain ⟨q, q1, q2, e⟩ := y.2 p h1 h2
    obtain ⟨s, s1, s2, e2⟩ := x.2 q q1 q2
    exact ⟨s, s1, s2, e.trans e2⟩⟩
theorem From.swap {a b : Nat} (f : Nat → Nat) (i j : Nat) (h1 : a ≤ i) (h2 : i < b) (h3 : a ≤ j) (h4 : j < b) : From a b f (swap f i j) := by
  refine ⟨fun p hp => ?_, fun p p1 p2 => ?_⟩
  · unfold Ytkpmhgikcipedaa.swap; rw [if_neg (by omega), if_neg (by omega)]
  · unfold Ytkpmhgikcipedaa.swap
    by_cases e : p = i
    · exact ⟨j, h3, h4, by rw [if_pos e]⟩
    · by_cases e2 : p = j
      · exact ⟨i, h1, h2, by rw [if_neg e, if_pos e2]⟩
      · exact ⟨p, p1, p2, by rw [if_neg e, if_neg e2]⟩
theorem From.wide {a b a' b' : Nat} {f g : Nat → Nat} (h : From a b f g) (h1 : a' ≤ a) (h2 : b ≤ b') : From a' b' f g := by
  refine ⟨fun p hp => h.1 p (by omega), fun p p1 p2 => ?_⟩
  by_cases e : a ≤ p ∧ p < b
  · obtain ⟨q, q1, q2, e3⟩ := h.2 p e.1 e.2
    exact ⟨q, by omega, by omega, e3⟩
  · exact ⟨p, p1, p2, h.1 p (by omega)⟩

/-- Insertion: all is in order up to i, but for what stands at j; that belongs ahead of all that is behind it, and is the greatest place. -/
def Ins (r : Nat → Int) (g : Nat → Nat) (a i j : Nat) : Prop :=
  (∀ p q, a ≤ p → p < q → q ≤ i → p ≠ j → q ≠ j → Lt r (g p) (g q)) ∧ (∀ q, j < q → q ≤ i → Lt r (g j) (g q)) ∧ (∀ p, a ≤ p → p ≤ i → p ≠ j → g p < g j)

theorem ins_start (r : Nat → Int) (g : Nat → Nat) (a i : Nat) (h : SortedOn r g a i) (h2 : ∀ p, a ≤ p → p < i → g p < g i) : Ins r g a i i :=
  ⟨fun p q h1 h3 h4 h5 h6 => h p q h1 h3 (by omega), fun q h1 h3 => absurd h1 (by omega), fun p h1 h3 h4 => h2 p h1 (by omega)⟩
theorem ins_step (r : Nat → Int) (g : Nat → Nat) (a i j : Nat) (h : Ins r g a i (j + 1)) (ha : a ≤ j) (hi : j + 1 ≤ i) (hlt : r (g j) < r (g (j + 1))) : Ins r (swap g (j + 1) j) a i j := by
  obtain ⟨x, y, z⟩ := h
  have s1 : swap g (j + 1) j (j + 1) = g j := by unfold swap; rw [if_pos rfl]
  have s2 : swap g (j + 1) j j = g (j + 1) := by unfold swap; rw [if_neg (by omega), if_pos rfl]
  have s3 : ∀ p, p ≠ j → p ≠ j + 1 → swap g (j + 1) j p = g p := fun p h1 h2 => by unfold swap; rw [if_neg h2, if_neg h1]
  refine ⟨fun p q h1 h2 h3 h4 h5 => ?_, fun q h1 h2 => ?_, fun p h1 h2 h3 => ?_⟩
  · by_cases e : p = j + 1
    · subst e; rw [s1, s3 q (by omega) (by omega)]; exact x j q (by omega) (by omega) h3 (by omega) (by omega)
    · by_cases e2 : q = j + 1
      · subst e2; rw [s1, s3 p h4 e]; exact x p j h1 (by omega) (by omega) (by omega) (by omega)
      · rw [s3 p h4 e, s3 q h5 e2]; exact x p q h1 h2 h3 e e2
  · rw [s2]
    by_cases e : q = j + 1
    · subst e; rw [s1]; exact .inl hlt
    · rw [s3 q (by omega) e]; exact y q (by omega) h2
  · rw [s2]
    by_cases e : p = j + 1
    · subst e; rw [s1]; exact z j ha (by omega) (by omega)
    · rw [s3 p h3 e]; exact z p h1 h2 e
theorem ins_end (r : Nat → Int) (g : Nat → Nat) (a i j : Nat) (h : Ins r g a i j) (hj : a ≤ j) (hi : j ≤ i) (hs : j = a ∨ ∃ k, j = k + 1 ∧ a ≤ k ∧ r (g j) ≤ r (g k)) : SortedOn r g a (i + 1) := by
  obtain ⟨x, y, z⟩ := h
  intro p q h1 h2 h3
  by_cases e : p = j
  · subst e; exact y q h2 (by omega)
  · by_cases e2 : q = j
    · subst e2
      rcases hs with rfl | ⟨k, rfl, hk, hr⟩
      · omega
      · have zp := z p h1 (by omega) (by omega)
        have zk := z k hk (by omega) (by omega)
        by_cases e3 : p = k
        · subst e3
          by_cases e4 : r (g (p + 1)) = r (g p)
          · exact .inr ⟨e4, zp⟩
          · exact .inl (by omega)
        · rcases x p k h1 (by omega) (by omega) (by omega) (by omega) with l | ⟨l1, l2⟩
          · exact .inl (by omega)
          · by_cases e4 : r (g (k + 1)) = r (g p)
            · exact .inr ⟨e4, zp⟩
            · exact .inl (by omega)
    · exact x p q h1 h2 (by omega) e e2

theorem Row.drewN {w : World} {B n : Nat} {f : Nat → Nat} (h : Row w B n f) (q : Nat) : Row (w.drewN q) B n f := ⟨fun p hp => by simpa using h.1 p hp, fun p => by simpa using h.2 p⟩

theorem cmp3_neg {x y : Int} (h : x < y) : decide (cmp3 x y < 0) = true := by unfold cmp3; rw [if_pos h]; rfl
theorem cmp3_nonneg {x y : Int} (h : ¬ x < y) : decide (cmp3 x y < 0) = false := by unfold cmp3; rw [if_neg h]; split <;> rfl

/-- What a sort leaves. -/
def SortEnd (B n : Nat) (P : (Nat → Nat) → Prop) (w : World) (e : Ending) (w' : World) : Prop :=
  e = .returned (.tuple #[]) ∧ ∃ g, P g ∧ Row w' B n g ∧ w.grownBy w' (some B)

def InsOut (r : Nat → Int) (f g : Nat → Nat) (a b i : Nat) : Prop :=
  From a b f g ∧ SortedOn r g a i ∧ ∀ p q, a ≤ p → p < q → i ≤ q → q < b → g p < g q

theorem insOut_step (r : Nat → Int) (f g h : Nat → Nat) (a b i : Nat) (H : InsOut r f g a b i) (hf : From a (i + 1) g h) (hs : SortedOn r h a (i + 1)) (hi : i < b) : InsOut r f h a b (i + 1) := by
  obtain ⟨x, y, z⟩ := H
  refine ⟨x.trans (hf.wide (Nat.le_refl _) hi), hs, fun p q h1 h2 h3 h4 => ?_⟩
  rw [hf.1 q (by omega)]
  by_cases e : p < i + 1
  · obtain ⟨p', p1, p2, e'⟩ := hf.2 p h1 e
    rw [e']; exact z p' q p1 (by omega) (by omega) h4
  · rw [hf.1 p (by omega)]; exact z p q h1 h2 (by omega) h4

theorem Row.put {w : World} {B n : Nat} {h : Nat → Nat} (hr : Row w B n h) (j k x y q : Nat) (hj : j < n) (hk : k < n) (hx : h k = x) (hy : h j = y) :
    Row (((w.drewN q).setCell ⟨B, j, none⟩ (.int .i64 x)).setCell ⟨B, k, none⟩ (.int .i64 y)) B n (swap h j k) := by
  refine ⟨fun p hp => ?_, fun p => ?_⟩
  · have c0 : (w.drewN q).cell? ⟨B, p, none⟩ = some (.int .i64 (h p)) := by simpa using hr.1 p hp
    have cj : (w.drewN q).cell? ⟨B, j, none⟩ = some (.int .i64 (h j)) := by simpa using hr.1 j hj
    have ck : (w.drewN q).cell? ⟨B, k, none⟩ = some (.int .i64 (h k)) := by simpa using hr.1 k hk
    unfold swap
    by_cases e : p = k
    · subst e
      have : ((w.drewN q).setCell ⟨B, j, none⟩ (.int .i64 x)).cell? ⟨B, p, none⟩ = some (if p = j then .int .i64 x else .int .i64 (h p)) := by
        split
        · rename_i e; subst e; exact World.cell?_setCell_same _ _ _ cj
        · rename_i e; rw [World.cell?_setCell_other _ _ _ _ (by intro h; injection h with _ h2; exact e h2.symm)]; exact ck
      rw [World.cell?_setCell_same _ _ _ this]
      by_cases e : p = j
      · subst e; rw [if_pos rfl, ← hy]
      · rw [if_neg e, if_pos rfl, ← hy]
    · rw [World.cell?_setCell_other _ _ _ _ (by intro h; injection h with _ h2; exact e h2.symm)]
      by_cases e2 : p = j
      · subst e2; rw [World.cell?_setCell_same _ _ _ cj, if_pos rfl, ← hx]
      · rw [World.cell?_setCell_other _ _ _ _ (by intro h; injection h with _ h2; exact e2 h2.symm), if_neg e2, if_neg e]; exact c0
  · simpa using hr.2 p
theorem grown_put {w wr : World} {B : Nat} (h : w.grownBy wr (some B)) (j k q : Nat) (u v : Value) : w.grownBy (((wr.drewN q).setCell ⟨B, j, none⟩ u).setCell ⟨B, k, none⟩ v) (some B) :=
  grown_trans h (grown_trans (grown_drewN _ q _) (grown_trans (grown_set _ ⟨B, j, none⟩ _) (grown_set _ ⟨B, k, none⟩ _)))

theorem From.lt {a b n : Nat} {f g : Nat → Nat} (h : From a b f g) (hf : ∀ p, p < n → f p < n) (hb : b ≤ n) (p : Nat) (hp : p < n) : g p < n := by
  by_cases e : a ≤ p ∧ p < b
  · obtain ⟨q, _, q2, e2⟩ := h.2 p e.1 e.2
    rw [e2]; exact hf q (by omega)
  · rw [h.1 p (by omega)]; exact hf p hp

set_option maxHeartbeats 1000000 in
theorem insertion_any (B N n : Nat) (r : Nat → Int) (f : Nat → Nat) (a b : Nat) (w : World) (hr : Row w B n f) (hk : Keys w N n r B) (hab : a ≤ b) (hb : b ≤ n) (hn : n ≤ 1000000)
    (hf : ∀ p, p < n → f p < n) (hasc : ∀ p q, a ≤ p → p < q → q < b → f p < f q) :
    Calls Try.prog 43 #[.slice (some ⟨B, 0, none⟩) n n, .int .i64 a, .int .i64 b, .func (.func 39) #[] #[.pointer (some ⟨N, 0, none⟩)]] w
      (SortEnd B n (fun g => From a b f g ∧ SortedOn r g a b) w) := by
  have HR := Lib.hid hr
  have HK := Lib.hid hk
  have HF := Lib.hid hf
  have H0 := Lib.hid (show InsOut r f f a b (a + 1) from ⟨From.refl _ _ _, fun p q h1 h2 h3 => by omega, fun p q h1 h2 _ h4 => hasc p q h1 h2 h4⟩)
  clear hr hk hf hasc
  go_enter Try.func43, Try.ntmps43
  go_wp2
  go_loopw [8] (fun s8 wr => ∃ (i : Nat) (g : Nat → Nat), s8 = .int .i64 i ∧ a < i ∧ i ≤ b + 1 ∧ Hid (InsOut r f g a b i) ∧ Hid (Row wr B n g) ∧ Hid (w.grownBy wr (some B))) (fun s8 _ => b + 1 - (intOf s8).toNat)
  case atStart => exact ⟨a + 1, f, by go_num, by omega, by omega, H0, HR, grown_refl _ _⟩
  case round =>
    obtain ⟨i, g, rfl, hai, hib, I, R, G⟩ := hrel
    obtain ⟨wo, rfl⟩ : ∃ wo : World, wo = wr := ⟨_, rfl⟩
    by_cases hlt : i < b
    · go_wp2
      go_loopw [9] (fun s9 wj => ∃ (j : Nat) (h : Nat → Nat), s9 = .int .i64 j ∧ a ≤ j ∧ j ≤ i ∧ Hid (From a (i + 1) g h) ∧ Hid (Ins r h a i j) ∧ Hid (Row wj B n h) ∧ Hid (w.grownBy wj (some B))) (fun s9 _ => (intOf s9).toNat)
      case atStart => exact ⟨i, g, rfl, by omega, by omega, From.refl _ _ _, ins_start r g a i I.out.2.1 (fun p h1 h2 => I.out.2.2 p i h1 h2 (Nat.le_refl _) hlt), R, G⟩
      case round =>
        obtain ⟨j, h, rfl, haj, hji, F, J, R2, G2⟩ := hrel
        clear R G
        have OUT := Lib.hid (fun hs => insOut_step r f g h a b i I.out F.out (ins_end r h a i j J.out haj hji hs) hlt)
        by_cases hja : a < j
        · obtain ⟨k, hjk⟩ : ∃ k, j = k + 1 := ⟨j - 1, by omega⟩
          have hln := (I.out.1.trans (F.out.wide (Nat.le_refl _) hlt)).lt HF.out hb
          have hxk : h k < n := hln k (by omega)
          have hyk : h j < n := hln j (by omega)
          have c1 := R2.out.1 k (by omega)
          have c2 := R2.out.1 j (by omega)
          have f1 := R2.out.2 k
          have f2 := R2.out.2 j
          have hw : IntKind.i64.wrap ((j : Int) - 1) = (k : Int) := by rw [show (j : Int) - 1 = (k : Int) by omega]; exact IntWalk.i64_in _ (by omega)
          have hg : (a : Int) < (j : Int) := by omega
          have hjn : (j : Int) < (n : Int) := by omega
          have hkn : (k : Int) < (n : Int) := by omega
          have HJK := Lib.hid hjk
          clear hjk hln
          by_cases hc : r (h k) < r (h j)
          · have hcm := cmp3_neg hc
            have hclo := fun q => clo39 N n B r (h j) (h k) (wr.drewN q) ((HK.out.grown G2.out).grown (grown_drewN _ _ _)) hyk hxk hn
            have HC := Lib.hid hclo
            have HSW := Lib.hid (show Ins r (swap h j k) a i k by have := HJK.out; subst this; exact ins_step r h a i k J.out (by omega) hji hc)
            clear hclo OUT
            generalize hx : h k = x at *
            generalize hy : h j = y at *
            have HX := Lib.hid hx
            have HY := Lib.hid hy
            clear hx hy hc
            go_wp2
            go_quiet ((go_at_call 39; exact Calls.quiet_of (HC.out _)))
            clear hw
            have e1 : j - 1 = k := by have := HJK.out; omega
            rw [← e1] at c1 f1
            have E1 := Lib.hid e1
            clear e1
            go_wp2
            go_region
            all_goals go_wp2
            refine ⟨⟨k, swap h j k, congrArg (Value.int .i64) (by have := HJK.out; omega), by have := HJK.out; omega, by have := HJK.out; omega, ?_, HSW, ?_, ?_⟩, by have := HJK.out; simp [intOf]; omega⟩
            · exact F.out.trans (From.swap h j k (by omega) (by omega) (by have := HJK.out; omega) (by have := HJK.out; omega))
            · rw [E1.out]; exact R2.out.put j k x y _ (by omega) (by omega) HX.out HY.out
            · exact grown_put G2.out _ _ _ _ _
          · have hcm := cmp3_nonneg hc
            have hclo := fun q => clo39 N n B r (h j) (h k) (wr.drewN q) ((HK.out.grown G2.out).grown (grown_drewN _ _ _)) hyk hxk hn
            have HC := Lib.hid hclo
            have OUT2 := Lib.hid (OUT.out (.inr ⟨k, HJK.out, by have := HJK.out; omega, by omega⟩))
            clear hclo OUT
            generalize hx : h k = x at *
            generalize hy : h j = y at *
            clear hx hy hc
            go_wp2
            go_quiet ((go_at_call 39; exact Calls.quiet_of (HC.out _)))
            go_wp2
            go_roundw
            case rel => exact ⟨i + 1, h, by go_num, by omega, by omega, OUT2, R2.out.drewN _, grown_trans G2.out (grown_drewN _ _ _)⟩
            case measure => simp [intOf]; omega
        · have hd : decide ((a : Int) < (j : Int)) = false := by simp; omega
          have OUT2 := Lib.hid (OUT.out (.inl (by omega)))
          clear OUT
          go_wp2
          go_quiet (fail)
          go_wp2
          go_roundw
          case rel => exact ⟨i + 1, h, by go_num, by omega, by omega, OUT2, R2.out.drewN _, grown_trans G2.out (grown_drewN _ _ _)⟩
          case measure => simp [intOf]; omega
    · have OUT2 := Lib.hid (show From a b f g ∧ SortedOn r g a b from ⟨I.out.1, fun p q h1 h2 h3 => I.out.2.1 p q h1 h2 (by omega)⟩)
      go_wp2
      go_end0
      exact ⟨rfl, g, OUT2.out, R, G⟩
end Go.Proofs.Ytkpmhgikcipedaa
