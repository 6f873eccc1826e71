/- The contracts of greatestFirst and of round.Shares at up to 64 weights. -/
import Derived.Test.YtkpmhgikcipedaaStab
import Derived.Test.YtkpmhgikcipedaaShares
namespace Go.Proofs.Ytkpmhgikcipedaa
open Go.ChangeShapes Go.WideShapes Go.ChangeAt Go.RowKit

theorem sortStable64 (B N n : Nat) (r : Nat → Int) (f : Nat → Nat) (w : World) (hr : Row w B n f) (hk : Keys w N n r B) (hn : n ≤ 64)
    (hf : ∀ p, p < n → f p = p) :
    Calls Try.prog 38 #[.slice (some ⟨B, 0, none⟩) n n, .func (.func 39) #[] #[.pointer (some ⟨N, 0, none⟩)]] w (SortEnd B n (Sorted r n) w) := by
  have HI := Lib.hid (stable_any B N n r f w hr hk hn hf)
  clear hr hk hf
  go_enter Try.func38, Try.ntmps38
  go_wp2_with fail
  refine HI.out.mono ?_
  rintro e w' ⟨rfl, g, hg, hr, hw⟩
  have HG := Lib.hid hg
  have HR := Lib.hid hr
  have HW := Lib.hid hw
  clear hg hr hw
  go_wp2
  go_end0
  exact ⟨rfl, g, HG.out, HR.out, HW.out⟩

set_option maxHeartbeats 400000 in
theorem greatest64 (b off n cap : Nat) (r : Nat → Int) (w : World) (hc : ∀ i, i < n → w.cell? ⟨b, off + i, none⟩ = some (.int .i64 (r i))) (hb : b < w.heap.size) (h0 : 0 < n) (hn : n ≤ 64) :
    Calls Try.prog 37 #[.slice (some ⟨b, off, none⟩) n cap] w (OrderEnd n r w) := by
  have hmk := run_make_row' (P := Try.prog) 22 3 (.int .i64 0) 8 Try.underlying22 info3 rfl .i64 .i64 n (by omega) (by omega)
  have HC := Lib.hid hc
  clear hc
  obtain ⟨W1, hW1⟩ : ∃ W1, W1 = w.alloc (.cells #[.slice (some ⟨b, off, none⟩) n cap] 22) := ⟨_, rfl⟩
  have sz1 : W1.heap.size = w.heap.size + 1 := by rw [hW1]; simp
  have gr1 : w.grownBy W1 none := by rw [hW1]; exact World.grownBy_alloc _ _ _
  have cn1 : W1.cell? ⟨w.heap.size, 0, none⟩ = some (.slice (some ⟨b, off, none⟩) n cap) := by rw [hW1]; simp
  have gr2 : W1.grownBy (W1.alloc (.cells (madeCells #[.int .i64 0] n) 3)) none := World.grownBy_alloc _ _ _
  have row2 : Row (W1.alloc (.cells (madeCells #[.int .i64 0] n) 3)) (w.heap.size + 1) n (upTo 0) := by
    rw [← sz1]
    exact ⟨fun p hp => by rw [made_cell _ _ _ _ _ hp]; unfold upTo; rw [if_neg (by omega)]; rfl, fun p => made_frozen _ _ _ _⟩
  have hlt2 : w.heap.size + 1 < (W1.alloc (.cells (madeCells #[.int .i64 0] n) 3)).heap.size := by simp; omega
  rw [hW1] at gr2 row2 hlt2
  have S := Lib.hid (And.intro gr2 (And.intro row2 hlt2))
  have HW1 := Lib.hid hW1
  have SZ1 := Lib.hid sz1
  have GR1 := Lib.hid gr1
  have CN1 := Lib.hid cn1
  clear hW1 sz1 gr1 cn1 gr2 row2 hlt2
  go_enter Try.func37, Try.ntmps37
  go_wp2
  go_loopw [4, 10] (fun _ s10 wr => ∃ k : Nat, s10 = .int .i64 k ∧ k ≤ n ∧ Hid (W1.grownBy wr none ∧ Row wr (w.heap.size + 1) n (upTo k) ∧ w.heap.size + 1 < wr.heap.size)) (fun _ s _ => n - (intOf s).toNat)
  case atStart => exact ⟨0, rfl, by omega, by rw [HW1.out]; exact S⟩
  case round =>
    obtain ⟨k, rfl, hk, I⟩ := hrel
    by_cases hlt : k < n
    · have c1 := I.out.2.1.1 k hlt
      have f1 := I.out.2.1.2 k
      have I2 := Lib.hid (show W1.grownBy (wr.setCell ⟨w.heap.size + 1, k, none⟩ (.int .i64 k)) none ∧ Row (wr.setCell ⟨w.heap.size + 1, k, none⟩ (.int .i64 k)) (w.heap.size + 1) n (upTo (k + 1)) ∧ w.heap.size + 1 < (wr.setCell ⟨w.heap.size + 1, k, none⟩ (.int .i64 k)).heap.size from
        ⟨grown_new I.out.1 _ _ (by rw [SZ1.out]; exact Nat.le_refl _), I.out.2.1.grow hlt, by simpa [World.setCell] using I.out.2.2⟩)
      go_wp2
      go_roundw
      case rel => exact ⟨k + 1, by go_num, by omega, I2⟩
      case measure => simp [intOf]; omega
    · obtain rfl : k = n := by omega
      have hup : ∀ p, p < k → upTo k p = p := fun p hp => by unfold upTo; rw [if_pos hp]
      have hks : Keys wr w.heap.size k r (w.heap.size + 1) := ⟨by omega, b, off, cap, by omega, I.out.1.cell CN1.out (by simp), fun i hi => I.out.1.cell (GR1.out.cell (HC.out i hi) (by simp)) (by simp)⟩
      have hs := sortStable64 (w.heap.size + 1) w.heap.size k r (upTo k) wr I.out.2.1 hks hn hup
      have HS := Lib.hid hs
      clear hs hks hup
      go_wp2_with fail
      refine HS.out.mono ?_
      rintro e w' ⟨rfl, g, hg, hr, hw⟩
      have H := Lib.hid (show OrderEnd k r w (.returned (.slice (some ⟨w.heap.size + 1, 0, none⟩) k k)) w' from ⟨w.heap.size + 1, g, rfl, by omega, by have := hw.size; have := I.out.2.2; omega, hg, hr, grown_off (grown_trans GR1.out I.out.1) hw (by omega)⟩)
      clear hg hr hw
      go_wp2
      go_ret
      exact H.out

set_option maxHeartbeats 1000000 in
theorem shares64 (t s : Int) (a : Option Addr) (n cap : Nat) (x : Nat → Int) (w : World) (h0 : 0 < n) (hn : n ≤ 64) (ht : 0 ≤ t) (ht2 : t ≤ 1099511627776) (hx : Ws w a n x) (hg : ∀ i, i < n → goodW (x i))
    (hs : psum x n = s) (hs1 : 1 ≤ s) :
    Calls Try.prog 25 #[.int .i64 t, .slice a n cap] w (SharesEnd t s x n w) := by
  have hsum := sumW_good t a n cap x w (by omega) ht ht2 hx hg s 0 (.inr ⟨by omega, hs.symm, rfl⟩)
  have hmk := run_make_row' (P := Try.prog) 22 3 (.int .i64 0) 8 Try.underlying22 info3 rfl .i64 .i64 n (by omega) (by omega)
  have hs2 : s ≤ 67108864 := by have := (psum_range x 1048576 n (fun i hi => hg i hi)).2; omega
  have HS := Lib.hid hsum
  have HX := Lib.hid hx
  have HG := Lib.hid hg
  have HP := Lib.hid hs
  clear hsum hx hg hs
  obtain ⟨W1, hW1⟩ : ∃ W1, W1 = w.alloc (.cells (madeCells #[.int .i64 0] n) 3) := ⟨_, rfl⟩
  obtain ⟨W2, hW2⟩ : ∃ W2, W2 = W1.alloc (.cells (madeCells #[.int .i64 0] n) 3) := ⟨_, rfl⟩
  have sz1 : W1.heap.size = w.heap.size + 1 := by rw [hW1]; simp
  have sz2 : W2.heap.size = w.heap.size + 2 := by rw [hW2]; simp; omega
  have gr1 : w.grownBy W1 none := by rw [hW1]; exact World.grownBy_alloc _ _ _
  have gr2 : W1.grownBy W2 none := by rw [hW2]; exact World.grownBy_alloc _ _ _
  have rowS : RowZ W2 w.heap.size n (pre (quo t s x) 0) := by
    refine RowZ.grown (w := W1) ?_ gr2 h0 (by simp)
    rw [hW1]
    exact ⟨fun p hp => by rw [made_cell _ _ _ _ _ hp]; unfold pre; rw [if_neg (by omega)], fun p => made_frozen _ _ _ _⟩
  have rowR : RowZ W2 (w.heap.size + 1) n (pre (rem t s x) 0) := by
    rw [hW2, ← sz1]
    exact ⟨fun p hp => by rw [made_cell _ _ _ _ _ hp]; unfold pre; rw [if_neg (by omega)], fun p => made_frozen _ _ _ _⟩
  have hw2 : W2 = (w.alloc (.cells (madeCells #[.int .i64 0] n) 3)).alloc (.cells (madeCells #[.int .i64 0] n) 3) := by rw [hW2, hW1]
  have GR := Lib.hid (grown_trans gr1 gr2)
  have SZ := Lib.hid sz2
  have RS := Lib.hid rowS
  have RR := Lib.hid rowR
  have HW2 := Lib.hid hw2
  clear hW1 hW2 sz1 sz2 gr1 gr2 rowS rowR hw2
  go_enter Try.func25, Try.ntmps25
  go_wp2_with (go_at_call 36; refine HS.out.mono ?_; rintro e w' ⟨rfl, rfl⟩)
  go_loopw [10, 11, 12, 33] (fun s10 _ _ s33 wr => ∃ k : Nat, s33 = .int .i64 k ∧ k ≤ n ∧ s10 = .int .i64 (t - psum (quo t s x) k) ∧
      Hid (w.grownBy wr none ∧ RowZ wr w.heap.size n (pre (quo t s x) k) ∧ RowZ wr (w.heap.size + 1) n (pre (rem t s x) k) ∧ w.heap.size + 1 < wr.heap.size)) (fun _ _ _ i _ => n - (intOf i).toNat)
  case atStart => exact ⟨0, rfl, by omega, by simp [psum], by rw [← HW2.out]; exact ⟨GR.out, RS.out, RR.out, by rw [SZ.out]; omega⟩⟩
  case round =>
    obtain ⟨k, rfl, hk, rfl, I⟩ := hrel
    have hq := psum_quo t s x n hs1 HP.out ht (fun i hi => (HG.out i hi).1) k hk
    by_cases hlt : k < n
    · obtain ⟨b, off, rfl, c1⟩ := HX.out k hlt
      have hbw := World.block_lt_of_cell? _ _ c1
      have c1 := I.out.1.cell c1 (by simp)
      have cS := I.out.2.1.1 k hlt
      have fS := I.out.2.1.2 k
      have cR := I.out.2.2.1.1 k hlt
      have fR := I.out.2.2.1.2 k
      obtain ⟨g1, g2⟩ := HG.out k hlt
      have m1 : 0 ≤ t * x k := Int.mul_nonneg ht g1
      have m2 : t * x k ≤ 1099511627776 * 1048576 := Int.mul_le_mul ht2 g2 g1 (by omega)
      have q1 := quo_range t s x k ht hs1 g1
      have r1 := rem_range t s x k hs1
      unfold quo at q1
      unfold rem at r1
      have HE := Lib.hid (show psum (quo t s x) (k + 1) = psum (quo t s x) k + t * x k / s from rfl)
      have I2 := Lib.hid (show w.grownBy ((wr.setCell ⟨w.heap.size, k, none⟩ (.int .i64 (quo t s x k))).setCell ⟨w.heap.size + 1, k, none⟩ (.int .i64 (rem t s x k))) none ∧
          RowZ ((wr.setCell ⟨w.heap.size, k, none⟩ (.int .i64 (quo t s x k))).setCell ⟨w.heap.size + 1, k, none⟩ (.int .i64 (rem t s x k))) w.heap.size n (pre (quo t s x) (k + 1)) ∧
          RowZ ((wr.setCell ⟨w.heap.size, k, none⟩ (.int .i64 (quo t s x k))).setCell ⟨w.heap.size + 1, k, none⟩ (.int .i64 (rem t s x k))) (w.heap.size + 1) n (pre (rem t s x) (k + 1)) ∧
          w.heap.size + 1 < ((wr.setCell ⟨w.heap.size, k, none⟩ (.int .i64 (quo t s x k))).setCell ⟨w.heap.size + 1, k, none⟩ (.int .i64 (rem t s x k))).heap.size from
        ⟨grown_new (grown_new I.out.1 _ _ (Nat.le_refl _)) _ _ (Nat.le_succ _), ((I.out.2.1.set k _).congr (fun p _ => pre_step _ k p)).far _ _ (by simp),
          ((I.out.2.2.1.far ⟨w.heap.size, k, none⟩ _ (by simp)).set k _).congr (fun p _ => pre_step _ k p), by simpa [World.setCell] using I.out.2.2.2⟩)
      unfold quo rem at I2
      clear I
      go_wp2
      go_roundw
      case rel => exact ⟨k + 1, by go_num, by omega, congrArg (Value.int .i64) (by rw [HE.out]; omega), I2⟩
      case measure => simp [intOf]; omega
    · obtain rfl : k = n := by omega
      have hl := left_range t s x k hs1 HP.out h0
      unfold left at hl
      obtain ⟨L, hL⟩ : ∃ L : Nat, t - psum (quo t s x) k = (L : Int) := ⟨(t - psum (quo t s x) k).toNat, by omega⟩
      have hLk : L < k := by omega
      have hLL : (left t s x k).toNat = L := by unfold left; omega
      have HL := Lib.hid hLL
      have hgr := greatest64 (w.heap.size + 1) 0 k k (rem t s x) wr (fun i hi => by rw [Nat.zero_add, I.out.2.2.1.1 i hi]; unfold pre; rw [if_pos hi]) I.out.2.2.2 h0 hn
      have HGR := Lib.hid hgr
      have RS2 := Lib.hid (I.out.2.1.congr (g := quo t s x) (fun p hp => by unfold pre; rw [if_pos hp]))
      have G2 := Lib.hid I.out.1
      have hws := Lib.hid I.out.2.2.2
      rw [hL]
      clear hgr hl hL hLL I
      go_wp2_with fail
      refine HGR.out.mono ?_
      rintro e w1 ⟨B, g, rfl, hB, hB2, hso, hrow, hgw⟩
      have SO := Lib.hid hso
      have G3 := Lib.hid (grown_trans G2.out hgw)
      have S3 := Lib.hid (show RowZ w1 w.heap.size k (share t s x g 0) from (RS2.out.grown hgw h0 (by simp)).congr (fun p _ => by unfold share; simp [hit]))
      have O3 := Lib.hid hrow
      have hSB : w.heap.size ≠ B := by have := hws.out; omega
      clear hso hgw hrow
      go_wp2
      go_loopw [14, 66] (fun _ i wq => ∃ j : Nat, i = .int .i64 j ∧ j ≤ L ∧ Hid (RowZ wq w.heap.size k (share t s x g j) ∧ Row wq B k g ∧ w.grownBy wq none ∧ w.heap.size < wq.heap.size)) (fun _ i _ => L - (intOf i).toNat)
      case atStart => exact ⟨0, rfl, by omega, S3.out, O3.out, G3.out, by have := hws.out; omega⟩
      case round =>
        obtain ⟨wo, rfl⟩ : ∃ wo : World, wo = wr := ⟨_, rfl⟩
        obtain ⟨j, rfl, hj, J⟩ := hrel
        by_cases hjl : j < L
        · have co := J.out.2.1.1 j (by omega)
          have hgj := SO.out.1 j (by omega)
          have cs := J.out.1.1 (g j) hgj
          have fs := J.out.1.2 (g j)
          have sr := share_range t s x k g j (g j) ht ht2 hs1 HG.out hgj
          have J2 := Lib.hid (show RowZ (wo.setCell ⟨w.heap.size, g j, none⟩ (.int .i64 (share t s x g j (g j) + 1))) w.heap.size k (share t s x g (j + 1)) ∧ Row (wo.setCell ⟨w.heap.size, g j, none⟩ (.int .i64 (share t s x g j (g j) + 1))) B k g ∧
              w.grownBy (wo.setCell ⟨w.heap.size, g j, none⟩ (.int .i64 (share t s x g j (g j) + 1))) none ∧ w.heap.size < (wo.setCell ⟨w.heap.size, g j, none⟩ (.int .i64 (share t s x g j (g j) + 1))).heap.size from
            ⟨(J.out.1.set (g j) _).congr (fun p _ => share_step t s x g j p (fun i hi => SO.out.inj i j hi (by omega))), RowZ.far (f := fun p => (g p : Int)) J.out.2.1 ⟨w.heap.size, g j, none⟩ _ hSB, grown_new J.out.2.2.1 _ _ (Nat.le_refl _), by simpa [World.setCell] using J.out.2.2.2⟩)
          clear J
          generalize share t s x g j (g j) = v at *
          generalize g j = m at *
          go_wp2
          go_roundw
          case rel => exact ⟨j + 1, by go_num, by omega, J2⟩
          case measure => simp [intOf]; omega
        · obtain rfl : j = L := by omega
          go_wp2
          go_ret2
          exact ⟨w.heap.size, g, rfl, Nat.le_refl _, J.out.2.2.2, SO.out, by rw [HL.out]; exact J.out.1, J.out.2.2.1⟩
end Go.Proofs.Ytkpmhgikcipedaa
