/- The contract of round.Shares. -/
import Derived.Test.YtkpmhgikcipedaaSum
namespace Go.Proofs.Ytkpmhgikcipedaa
open Go.ChangeShapes Go.WideShapes Go.ChangeAt Go.RowKit

/-- Block B holds the n numbers f. -/
def RowZ (w : World) (B n : Nat) (f : Nat → Int) : Prop :=
  (∀ p, p < n → w.cell? ⟨B, p, none⟩ = some (.int .i64 (f p))) ∧ ∀ p, w.frozen? ⟨B, p, none⟩ = false

theorem RowZ.grown {w w' : World} {B n : Nat} {f : Nat → Int} {row : Option Nat} (h : RowZ w B n f) (hg : w.grownBy w' row) (hn : 0 < n) (hr : some B ≠ row) : RowZ w' B n f :=
  ⟨fun p hp => hg.cell (h.1 p hp) hr, fun p => by rw [World.frozen?_of_block (hg.block B (World.block_lt_of_cell? w _ (h.1 0 hn)) hr)]; exact h.2 p⟩

def setF (f : Nat → Int) (k : Nat) (v : Int) : Nat → Int := fun p => if p = k then v else f p

theorem RowZ.set {w : World} {B n : Nat} {f : Nat → Int} (h : RowZ w B n f) (k : Nat) (v : Int) : RowZ (w.setCell ⟨B, k, none⟩ (.int .i64 v)) B n (setF f k v) := by
  refine ⟨fun p hp => ?_, fun p => by simpa using h.2 p⟩
  unfold setF
  by_cases e : p = k
  · subst e; rw [if_pos rfl]; exact World.cell?_setCell_same _ _ _ (h.1 p hp)
  · rw [if_neg e, World.cell?_setCell_other _ _ _ _ (by intro h; injection h with _ h2; exact e h2.symm)]; exact h.1 p hp
theorem RowZ.far {w : World} {B n : Nat} {f : Nat → Int} (h : RowZ w B n f) (p : Addr) (v : Value) (hp : p.block ≠ B) : RowZ (w.setCell p v) B n f :=
  ⟨fun q hq => by rw [World.cell?_setCell_other _ _ _ _ (by intro h; subst h; exact hp rfl)]; exact h.1 q hq, fun q => by simpa using h.2 q⟩
theorem RowZ.congr {w : World} {B n : Nat} {f g : Nat → Int} (h : RowZ w B n f) (e : ∀ p, p < n → f p = g p) : RowZ w B n g := ⟨fun p hp => by rw [← e p hp]; exact h.1 p hp, h.2⟩

def quo (t s : Int) (x : Nat → Int) : Nat → Int := fun p => t * x p / s
def rem (t s : Int) (x : Nat → Int) : Nat → Int := fun p => t * x p % s
/-- The first k numbers of f, then zeros. -/
def pre (f : Nat → Int) (k : Nat) : Nat → Int := fun p => if p < k then f p else 0

theorem pre_step (f : Nat → Int) (k p : Nat) : setF (pre f k) k (f k) p = pre f (k + 1) p := by
  unfold setF pre
  by_cases e : p = k
  · subst e; rw [if_pos rfl, if_pos (by omega)]
  · rw [if_neg e]
    by_cases e2 : p < k
    · rw [if_pos e2, if_pos (by omega)]
    · rw [if_neg e2, if_neg (by omega)]

/-- How many litres are left over. -/
def left (t s : Int) (x : Nat → Int) (n : Nat) : Int := t - psum (quo t s x) n

/-- One of the first j of the order is p. -/
def hit (g : Nat → Nat) : Nat → Nat → Bool
  | 0, _ => false
  | j + 1, p => hit g j p || (g j == p)
def share (t s : Int) (x : Nat → Int) (g : Nat → Nat) (j : Nat) : Nat → Int := fun p => quo t s x p + if hit g j p then 1 else 0

theorem share_step (t s : Int) (x : Nat → Int) (g : Nat → Nat) (j p : Nat) (hinj : ∀ i, i < j → g i ≠ g j) : setF (share t s x g j) (g j) (share t s x g j (g j) + 1) p = share t s x g (j + 1) p := by
  have hno : ∀ k, k ≤ j → hit g k (g j) = false := by
    intro k
    induction k with
    | zero => intro _; rfl
    | succ k ih => intro hk; unfold hit; rw [ih (by omega), Bool.false_or, beq_eq_false_iff_ne]; exact hinj k (by omega)
  have h0 := hno j (Nat.le_refl _)
  unfold setF share
  by_cases e : p = g j
  · subst e
    rw [if_pos rfl]
    show _ = _ + if hit g j (g j) || (g j == g j) then 1 else 0
    rw [h0]; simp
  · rw [if_neg e]
    show _ = _ + if hit g j p || (g j == p) then 1 else 0
    have : (g j == p) = false := by rw [beq_eq_false_iff_ne]; exact fun h => e h.symm
    rw [this, Bool.or_false]

theorem quo_range (t s : Int) (x : Nat → Int) (p : Nat) (ht : 0 ≤ t) (hs : 1 ≤ s) (hx : 0 ≤ x p) : 0 ≤ quo t s x p ∧ quo t s x p ≤ t * x p := by
  have h0 : 0 ≤ t * x p := Int.mul_nonneg ht hx
  have := Rd.ediv_range (t * x p) s hs (t * x p) h0 (by omega) (by omega)
  exact ⟨Int.ediv_nonneg h0 (by omega), this.2⟩
theorem rem_range (t s : Int) (x : Nat → Int) (p : Nat) (hs : 1 ≤ s) : 0 ≤ rem t s x p ∧ rem t s x p < s := ⟨Int.emod_nonneg _ (by omega), Int.emod_lt_of_pos _ (by omega)⟩

theorem psum_split (t s : Int) (x : Nat → Int) (k : Nat) : t * psum x k = s * psum (quo t s x) k + psum (rem t s x) k := by
  induction k with
  | zero => simp [psum]
  | succ k ih =>
    unfold psum
    have e := Int.mul_ediv_add_emod (t * x k) s
    unfold quo rem at ih ⊢
    rw [Int.mul_add, Int.mul_add, ih]
    omega

theorem psum_lt (x : Nat → Int) (s : Int) (n : Nat) (hn : 0 < n) (h : ∀ i, i < n → x i < s) : psum x n < s * n := by
  induction n with
  | zero => omega
  | succ k ih =>
    have b := h k (by omega)
    have e : s * ((k + 1 : Nat) : Int) = s * (k : Int) + s := by rw [Int.natCast_succ, Int.mul_add, Int.mul_one]
    unfold psum
    by_cases h0 : k = 0
    · subst h0; simp [psum]; exact b
    · have := ih (by omega) (fun i hi => h i (by omega)); omega

theorem left_range (t s : Int) (x : Nat → Int) (n : Nat) (hs : 1 ≤ s) (hp : psum x n = s) (hn : 0 < n) : 0 ≤ left t s x n ∧ left t s x n < n := by
  have e := psum_split t s x n
  rw [hp] at e
  have r0 : 0 ≤ psum (rem t s x) n := (psum_range _ s n (fun i _ => by have := rem_range t s x i hs; omega)).1
  have r1 := psum_lt (rem t s x) s n hn (fun i _ => (rem_range t s x i hs).2)
  have e2 : s * left t s x n = psum (rem t s x) n := by
    unfold left
    rw [Int.mul_sub, Int.mul_comm s t]; omega
  constructor
  · by_cases h : 0 ≤ left t s x n
    · exact h
    · have : s * left t s x n < 0 := Int.mul_neg_of_pos_of_neg (by omega) (by omega)
      omega
  · by_cases h : left t s x n < n
    · exact h
    · have : s * n ≤ s * left t s x n := Int.mul_le_mul_of_nonneg_left (by omega) (by omega)
      omega

theorem psum_mono (x : Nat → Int) (n : Nat) (h : ∀ i, i < n → 0 ≤ x i) (k : Nat) (hk : k ≤ n) : psum x k ≤ psum x n := by
  induction n with
  | zero => obtain rfl : k = 0 := by omega
            exact Int.le_refl _
  | succ n ih =>
    by_cases e : k = n + 1
    · subst e; exact Int.le_refl _
    · have := ih (fun i hi => h i (by omega)) (by omega)
      have := h n (by omega)
      show _ ≤ psum x n + x n
      omega

theorem psum_quo (t s : Int) (x : Nat → Int) (n : Nat) (hs : 1 ≤ s) (hp : psum x n = s) (ht : 0 ≤ t) (hx : ∀ i, i < n → 0 ≤ x i) (k : Nat) (hk : k ≤ n) :
    0 ≤ psum (quo t s x) k ∧ psum (quo t s x) k ≤ t := by
  have e := psum_split t s x k
  have r0 : 0 ≤ psum (rem t s x) k := (psum_range _ s k (fun i _ => by have := rem_range t s x i hs; omega)).1
  have m := psum_mono x n hx k hk
  rw [hp] at m
  have q0 : ∀ j, j ≤ k → 0 ≤ psum (quo t s x) j := by
    intro j
    induction j with
    | zero => intro _; simp [psum]
    | succ j ih => intro hj; have := ih (by omega); have := (quo_range t s x j ht hs (hx j (by omega))).1; show 0 ≤ _ + _; omega
  refine ⟨q0 k (Nat.le_refl _), ?_⟩
  have m2 : t * psum x k ≤ t * s := Int.mul_le_mul_of_nonneg_left m ht
  by_cases h : psum (quo t s x) k ≤ t
  · exact h
  · have : s * (t + 1) ≤ s * psum (quo t s x) k := Int.mul_le_mul_of_nonneg_left (by omega) (by omega)
    rw [Int.mul_add, Int.mul_one, Int.mul_comm s t] at this
    omega

theorem hit_or (g : Nat → Nat) (j p : Nat) : hit g j p = true → ∃ i, i < j ∧ g i = p := by
  induction j with
  | zero => intro h; cases h
  | succ j ih =>
    intro h
    unfold hit at h
    rw [Bool.or_eq_true] at h
    rcases h with h | h
    · obtain ⟨i, hi, e⟩ := ih h; exact ⟨i, by omega, e⟩
    · exact ⟨j, by omega, by simpa using h⟩

theorem Sorted.inj {r : Nat → Int} {n : Nat} {g : Nat → Nat} (h : Sorted r n g) (i j : Nat) (hij : i < j) (hj : j < n) : g i ≠ g j := by
  intro e
  have := h.2 i j (Nat.zero_le _) hij hj
  rw [e] at this
  rcases this with h | h <;> omega

theorem share_range (t s : Int) (x : Nat → Int) (n : Nat) (g : Nat → Nat) (j p : Nat) (ht : 0 ≤ t) (ht2 : t ≤ 1099511627776) (hs : 1 ≤ s) (hx : ∀ i, i < n → goodW (x i)) (hp : p < n) :
    0 ≤ share t s x g j p ∧ share t s x g j p ≤ 1152921504606846977 := by
  have h1 := quo_range t s x p ht hs (hx p hp).1
  have : t * x p ≤ 1099511627776 * 1048576 := Int.mul_le_mul ht2 (hx p hp).2 (hx p hp).1 (by omega)
  unfold share
  split <;> omega

def SharesEnd (t s : Int) (x : Nat → Int) (n : Nat) (w : World) (e : Ending) (w' : World) : Prop :=
  ∃ B g, e = .returned (.tuple #[.slice (some ⟨B, 0, none⟩) n n, .int .i64 0]) ∧ w.heap.size ≤ B ∧ B < w'.heap.size ∧ Sorted (rem t s x) n g ∧ RowZ w' B n (share t s x g (left t s x n).toNat) ∧ w.grownBy w' none

set_option maxHeartbeats 1000000 in
theorem shares_ok (t s : Int) (a : Option Addr) (n cap : Nat) (x : Nat → Int) (w : World) (h0 : 0 < n) (hn : n < 20) (ht : 0 ≤ t) (ht2 : t ≤ 1099511627776) (hx : Ws w a n x) (hg : ∀ i, i < n → goodW (x i))
    (hs : psum x n = s) (hs1 : 1 ≤ s) :
    Calls Try.prog 25 #[.int .i64 t, .slice a n cap] w (SharesEnd t s x n w) := by
  have hsum := sumW_good t a n cap x w (by omega) ht ht2 hx hg s 0 (.inr ⟨by omega, hs.symm, rfl⟩)
  have hmk := run_make_row' (P := Try.prog) 22 3 (.int .i64 0) 8 Try.underlying22 info3 rfl .i64 .i64 n (by omega) (by omega)
  have hs2 : s ≤ 67108864 := by have := (psum_range x 1048576 n (fun i hi => hg i hi)).2; omega
  have HS := Lib.hid hsum
  have HX := Lib.hid hx
  have HG := Lib.hid hg
  have HP := Lib.hid hs
  clear hsum hx hg hs
  obtain ⟨W1, hW1⟩ : ∃ W1, W1 = w.alloc (.cells (madeCells #[.int .i64 0] n) 3) := ⟨_, rfl⟩
  obtain ⟨W2, hW2⟩ : ∃ W2, W2 = W1.alloc (.cells (madeCells #[.int .i64 0] n) 3) := ⟨_, rfl⟩
  have sz1 : W1.heap.size = w.heap.size + 1 := by rw [hW1]; simp
  have sz2 : W2.heap.size = w.heap.size + 2 := by rw [hW2]; simp; omega
  have gr1 : w.grownBy W1 none := by rw [hW1]; exact World.grownBy_alloc _ _ _
  have gr2 : W1.grownBy W2 none := by rw [hW2]; exact World.grownBy_alloc _ _ _
  have rowS : RowZ W2 w.heap.size n (pre (quo t s x) 0) := by
    refine RowZ.grown (w := W1) ?_ gr2 h0 (by simp)
    rw [hW1]
    exact ⟨fun p hp => by rw [made_cell _ _ _ _ _ hp]; unfold pre; rw [if_neg (by omega)], fun p => made_frozen _ _ _ _⟩
  have rowR : RowZ W2 (w.heap.size + 1) n (pre (rem t s x) 0) := by
    rw [hW2, ← sz1]
    exact ⟨fun p hp => by rw [made_cell _ _ _ _ _ hp]; unfold pre; rw [if_neg (by omega)], fun p => made_frozen _ _ _ _⟩
  have hw2 : W2 = (w.alloc (.cells (madeCells #[.int .i64 0] n) 3)).alloc (.cells (madeCells #[.int .i64 0] n) 3) := by rw [hW2, hW1]
  have GR := Lib.hid (grown_trans gr1 gr2)
  have SZ := Lib.hid sz2
  have RS := Lib.hid rowS
  have RR := Lib.hid rowR
  have HW2 := Lib.hid hw2
  clear hW1 hW2 sz1 sz2 gr1 gr2 rowS rowR hw2
  go_enter Try.func25, Try.ntmps25
  go_wp2_with (go_at_call 36; refine HS.out.mono ?_; rintro e w' ⟨rfl, rfl⟩)
  go_loopw [10, 11, 12, 33] (fun s10 _ _ s33 wr => ∃ k : Nat, s33 = .int .i64 k ∧ k ≤ n ∧ s10 = .int .i64 (t - psum (quo t s x) k) ∧
      Hid (w.grownBy wr none ∧ RowZ wr w.heap.size n (pre (quo t s x) k) ∧ RowZ wr (w.heap.size + 1) n (pre (rem t s x) k) ∧ w.heap.size + 1 < wr.heap.size)) (fun _ _ _ i _ => n - (intOf i).toNat)
  case atStart => exact ⟨0, rfl, by omega, by simp [psum], by rw [← HW2.out]; exact ⟨GR.out, RS.out, RR.out, by rw [SZ.out]; omega⟩⟩
  case round =>
    obtain ⟨k, rfl, hk, rfl, I⟩ := hrel
    have hq := psum_quo t s x n hs1 HP.out ht (fun i hi => (HG.out i hi).1) k hk
    by_cases hlt : k < n
    · obtain ⟨b, off, rfl, c1⟩ := HX.out k hlt
      have hbw := World.block_lt_of_cell? _ _ c1
      have c1 := I.out.1.cell c1 (by simp)
      have cS := I.out.2.1.1 k hlt
      have fS := I.out.2.1.2 k
      have cR := I.out.2.2.1.1 k hlt
      have fR := I.out.2.2.1.2 k
      obtain ⟨g1, g2⟩ := HG.out k hlt
      have m1 : 0 ≤ t * x k := Int.mul_nonneg ht g1
      have m2 : t * x k ≤ 1099511627776 * 1048576 := Int.mul_le_mul ht2 g2 g1 (by omega)
      have q1 := quo_range t s x k ht hs1 g1
      have r1 := rem_range t s x k hs1
      unfold quo at q1
      unfold rem at r1
      have HE := Lib.hid (show psum (quo t s x) (k + 1) = psum (quo t s x) k + t * x k / s from rfl)
      have I2 := Lib.hid (show w.grownBy ((wr.setCell ⟨w.heap.size, k, none⟩ (.int .i64 (quo t s x k))).setCell ⟨w.heap.size + 1, k, none⟩ (.int .i64 (rem t s x k))) none ∧
          RowZ ((wr.setCell ⟨w.heap.size, k, none⟩ (.int .i64 (quo t s x k))).setCell ⟨w.heap.size + 1, k, none⟩ (.int .i64 (rem t s x k))) w.heap.size n (pre (quo t s x) (k + 1)) ∧
          RowZ ((wr.setCell ⟨w.heap.size, k, none⟩ (.int .i64 (quo t s x k))).setCell ⟨w.heap.size + 1, k, none⟩ (.int .i64 (rem t s x k))) (w.heap.size + 1) n (pre (rem t s x) (k + 1)) ∧
          w.heap.size + 1 < ((wr.setCell ⟨w.heap.size, k, none⟩ (.int .i64 (quo t s x k))).setCell ⟨w.heap.size + 1, k, none⟩ (.int .i64 (rem t s x k))).heap.size from
        ⟨grown_new (grown_new I.out.1 _ _ (Nat.le_refl _)) _ _ (Nat.le_succ _), ((I.out.2.1.set k _).congr (fun p _ => pre_step _ k p)).far _ _ (by simp),
          ((I.out.2.2.1.far ⟨w.heap.size, k, none⟩ _ (by simp)).set k _).congr (fun p _ => pre_step _ k p), by simpa [World.setCell] using I.out.2.2.2⟩)
      unfold quo rem at I2
      clear I
      go_wp2
      go_roundw
      case rel => exact ⟨k + 1, by go_num, by omega, congrArg (Value.int .i64) (by rw [HE.out]; omega), I2⟩
      case measure => simp [intOf]; omega
    · obtain rfl : k = n := by omega
      have hl := left_range t s x k hs1 HP.out h0
      unfold left at hl
      obtain ⟨L, hL⟩ : ∃ L : Nat, t - psum (quo t s x) k = (L : Int) := ⟨(t - psum (quo t s x) k).toNat, by omega⟩
      have hLk : L < k := by omega
      have hLL : (left t s x k).toNat = L := by unfold left; omega
      have HL := Lib.hid hLL
      have hgr := greatest_any (w.heap.size + 1) 0 k k (rem t s x) wr (fun i hi => by rw [Nat.zero_add, I.out.2.2.1.1 i hi]; unfold pre; rw [if_pos hi]) I.out.2.2.2 h0 hn
      have HGR := Lib.hid hgr
      have RS2 := Lib.hid (I.out.2.1.congr (g := quo t s x) (fun p hp => by unfold pre; rw [if_pos hp]))
      have G2 := Lib.hid I.out.1
      have hws := Lib.hid I.out.2.2.2
      rw [hL]
      clear hgr hl hL hLL I
      go_wp2_with fail
      refine HGR.out.mono ?_
      rintro e w1 ⟨B, g, rfl, hB, hB2, hso, hrow, hgw⟩
      have SO := Lib.hid hso
      have G3 := Lib.hid (grown_trans G2.out hgw)
      have S3 := Lib.hid (show RowZ w1 w.heap.size k (share t s x g 0) from (RS2.out.grown hgw h0 (by simp)).congr (fun p _ => by unfold share; simp [hit]))
      have O3 := Lib.hid hrow
      have hSB : w.heap.size ≠ B := by have := hws.out; omega
      clear hso hgw hrow
      go_wp2
      go_loopw [14, 66] (fun _ i wq => ∃ j : Nat, i = .int .i64 j ∧ j ≤ L ∧ Hid (RowZ wq w.heap.size k (share t s x g j) ∧ Row wq B k g ∧ w.grownBy wq none ∧ w.heap.size < wq.heap.size)) (fun _ i _ => L - (intOf i).toNat)
      case atStart => exact ⟨0, rfl, by omega, S3.out, O3.out, G3.out, by have := hws.out; omega⟩
      case round =>
        obtain ⟨wo, rfl⟩ : ∃ wo : World, wo = wr := ⟨_, rfl⟩
        obtain ⟨j, rfl, hj, J⟩ := hrel
        by_cases hjl : j < L
        · have co := J.out.2.1.1 j (by omega)
          have hgj := SO.out.1 j (by omega)
          have cs := J.out.1.1 (g j) hgj
          have fs := J.out.1.2 (g j)
          have sr := share_range t s x k g j (g j) ht ht2 hs1 HG.out hgj
          have J2 := Lib.hid (show RowZ (wo.setCell ⟨w.heap.size, g j, none⟩ (.int .i64 (share t s x g j (g j) + 1))) w.heap.size k (share t s x g (j + 1)) ∧ Row (wo.setCell ⟨w.heap.size, g j, none⟩ (.int .i64 (share t s x g j (g j) + 1))) B k g ∧
              w.grownBy (wo.setCell ⟨w.heap.size, g j, none⟩ (.int .i64 (share t s x g j (g j) + 1))) none ∧ w.heap.size < (wo.setCell ⟨w.heap.size, g j, none⟩ (.int .i64 (share t s x g j (g j) + 1))).heap.size from
            ⟨(J.out.1.set (g j) _).congr (fun p _ => share_step t s x g j p (fun i hi => SO.out.inj i j hi (by omega))), RowZ.far (f := fun p => (g p : Int)) J.out.2.1 ⟨w.heap.size, g j, none⟩ _ hSB, grown_new J.out.2.2.1 _ _ (Nat.le_refl _), by simpa [World.setCell] using J.out.2.2.2⟩)
          clear J
          generalize share t s x g j (g j) = v at *
          generalize g j = m at *
          go_wp2
          go_roundw
          case rel => exact ⟨j + 1, by go_num, by omega, J2⟩
          case measure => simp [intOf]; omega
        · obtain rfl : j = L := by omega
          go_wp2
          go_ret2
          exact ⟨w.heap.size, g, rfl, Nat.le_refl _, J.out.2.2.2, SO.out, by rw [HL.out]; exact J.out.1, J.out.2.2.1⟩
end Go.Proofs.Ytkpmhgikcipedaa
