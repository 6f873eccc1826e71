/- The contract of the reference's Shares. -/
import Derived.Test.YtkpmhgikcipedaaDeal
import Derived.Test.YtkpmhgikcipedaaExists
import Derived.Test.YtkpmhgikcipedaaLawS
import Derived.Deep.RegionHeld3
import Derived.Deep.AppendLies
import Derived.Deep.RegionLaw
namespace Go.Proofs.Ytkpmhgikcipedaa
open Go.ChangeShapes Go.WideShapes Go.ChangeAt Go.RowKit

theorem rshares_limit (t : Int) (a : Option Addr) (n cap : Nat) (w : World) (hn : 64 < n) (hn2 : n ≤ 9223372036854775807) :
    Calls Try.prog 26 #[.int .i64 t, .slice a n cap] w (SharesBad 4 w) := by
  go_enter Try.func26, Try.ntmps26
  go_wp2
  go_ret2
  exact ⟨rfl, rfl⟩
theorem rshares_total (t : Int) (a : Option Addr) (n cap : Nat) (w : World) (hn : n ≤ 64) (ht : t < 0 ∨ 1099511627776 < t) :
    Calls Try.prog 26 #[.int .i64 t, .slice a n cap] w (SharesBad 1 w) := by
  by_cases h1 : t < 0
  · clear ht
    go_enter Try.func26, Try.ntmps26
    go_wp2
    go_ret2
    exact ⟨rfl, rfl⟩
  · have h2 : 1099511627776 < t := by omega
    clear ht
    go_enter Try.func26, Try.ntmps26
    go_wp2
    go_ret2
    exact ⟨rfl, rfl⟩

set_option maxHeartbeats 400000 in
theorem rshares_bad (t : Int) (a : Option Addr) (n cap : Nat) (x : Nat → Int) (w : World) (hn : n ≤ 64) (ht : 0 ≤ t) (ht2 : t ≤ 1099511627776) (hx : Ws w a n x) (j : Nat) (hj : j < n) (hg : ∀ i, i < j → goodW (x i))
    (hb : x j < 0 ∨ 1048576 < x j) (_h64 : IsI64 (x j)) :
    Calls Try.prog 26 #[.int .i64 t, .slice a n cap] w (SharesBad 1 w) := by
  have HX := Lib.hid hx
  have HG := Lib.hid hg
  have HB := Lib.hid hb
  clear hx hg hb
  go_enter Try.func26, Try.ntmps26
  go_wp2
  go_loop [6, 7, 25] (fun s6 _ i => ∃ k : Nat, i = .int .i64 k ∧ k ≤ j ∧ s6 = .int .i64 (psum x k)) (fun _ _ i => j - (intOf i).toNat)
  case atStart => exact ⟨0, rfl, by omega, rfl⟩
  case round =>
    obtain ⟨k, rfl, hk, rfl⟩ := hrel
    have hr := psum_range x 1048576 k (fun i hi => HG.out i (by omega))
    obtain ⟨b, off, rfl, c1⟩ := HX.out k (by omega)
    by_cases hlt : k < j
    · obtain ⟨g1, g2⟩ := HG.out k hlt
      have HS := Lib.hid (show psum x (k + 1) = psum x k + x k from rfl)
      generalize psum x k = y at *
      generalize x k = v at *
      go_wp2
      go_round
      case rel => exact ⟨k + 1, by go_num, by omega, by rw [HS.out]⟩
      case measure => simp [intOf]; omega
    · obtain rfl : k = j := by omega
      have hb := HB.out
      clear HB _h64 HG
      generalize psum x k = y at *
      generalize x k = v at *
      by_cases h1 : v < 0
      · clear hb
        go_wp2
        go_ret2
        exact ⟨rfl, rfl⟩
      · have h2 : 1048576 < v := by omega
        clear hb
        go_wp2
        go_ret2
        exact ⟨rfl, rfl⟩

set_option maxHeartbeats 400000 in
theorem rshares_zero (t : Int) (a : Option Addr) (n cap : Nat) (x : Nat → Int) (w : World) (hn : n ≤ 64) (ht : 0 ≤ t) (ht2 : t ≤ 1099511627776) (hx : Ws w a n x) (hg : ∀ i, i < n → goodW (x i)) (hz : psum x n = 0) :
    Calls Try.prog 26 #[.int .i64 t, .slice a n cap] w (SharesBad 9 w) := by
  have HX := Lib.hid hx
  have HG := Lib.hid hg
  have HE := Lib.hid hz
  clear hx hg hz
  go_enter Try.func26, Try.ntmps26
  go_wp2
  go_loop [6, 7, 25] (fun s6 _ i => ∃ k : Nat, i = .int .i64 k ∧ k ≤ n ∧ s6 = .int .i64 (psum x k)) (fun _ _ i => n - (intOf i).toNat)
  case atStart => exact ⟨0, rfl, by omega, rfl⟩
  case round =>
    obtain ⟨k, rfl, hk, rfl⟩ := hrel
    have hr := psum_range x 1048576 k (fun i hi => HG.out i (by omega))
    by_cases hlt : k < n
    · obtain ⟨b, off, rfl, c1⟩ := HX.out k hlt
      obtain ⟨g1, g2⟩ := HG.out k hlt
      have HS := Lib.hid (show psum x (k + 1) = psum x k + x k from rfl)
      generalize psum x k = y at *
      generalize x k = v at *
      go_wp2
      go_round
      case rel => exact ⟨k + 1, by go_num, by omega, by rw [HS.out]⟩
      case measure => simp [intOf]; omega
    · obtain rfl : k = n := by omega
      rw [HE.out]
      go_wp2
      go_ret2
      exact ⟨rfl, rfl⟩

/-- The two rows that are being made. -/
structure Pair (w wr : World) (v8 v9 : Value) (k : Nat) (q r : Nat → Int) : Prop where
  o8 : wr.ownsRow w.heap.size 3 1 v8 k (vals q k)
  o9 : wr.ownsRow w.heap.size 3 1 v9 k (vals r k)
  ne : v8.ownBlock = none ∨ v8.ownBlock ≠ v9.ownBlock
  gr : w.grownBy wr none

theorem own_rowZ {w : World} {base m cap g : Nat} {x : Nat → Int} (h : w.ownsRow base 3 1 (.slice (some ⟨g, 0, none⟩) m cap) m (vals x m)) : RowZ w g m x :=
  ⟨fun p hp => own_cells h p hp, fun p => h.frozenAt p⟩

theorem grown_drew' {a b : World} {row : Option Nat} (h : a.grownBy b row) : a.grownBy b.drew row := ⟨h.os, h.tape, h.output, h.size, h.block⟩

/-- Behind the first of the two appends. -/
structure Half (w wr W w1 : World) (g cap : Nat) (v8 v9 : Value) (k : Nat) (q r : Nat → Int) : Prop where
  o8 : w1.ownsRow w.heap.size 3 1 (.slice (some ⟨g, 0, none⟩) (k + 1) cap) (k + 1) (vals q (k + 1))
  o9 : w1.ownsRow w.heap.size 3 1 v9 k (vals r k)
  ne : v9.ownBlock ≠ some g
  gr : w.grownBy w1 none
  new : ∀ (A : Nat) (u : Value), wr.heap.size ≤ A → W.cell? ⟨A, 0, none⟩ = some u → w1.cell? ⟨A, 0, none⟩ = some u

theorem vals_next (x : Nat → Int) (k : Nat) (c : Int) (h : c = x k) : vals x k ++ [.int .i64 c] = vals x (k + 1) := by
  unfold vals; rw [List.range_succ, List.map_append, h]; rfl

theorem one_cell (W : World) (A : Nat) (c : Int) (h : W.cell? ⟨A, 0, none⟩ = some (.int .i64 c)) : ∀ j u, [Value.int .i64 c][j]? = some u → W.cell? ((⟨A, 0, none⟩ : Addr).add j) = some u := by
  intro j u hu
  cases j with
  | zero => simp at hu; subst hu; rw [addr_add _ A 0 rfl]; exact h
  | succ j => simp at hu

theorem step8 {ops : Array Oper} {o : Oper} {a : Act} {W w wr : World} {K : Act → World → Prop} {Q : Exit → Act → World → Prop} {E : Prop} {v8 v9 : Value} {k : Nat} {q r : Nat → Int} (hgd : o.guard = none) (s x : Operand)
    (ho : o.op = .call { callee := .builtin .append, args := #[s, x], argTypes := #[22, 22] }) (P : Pair w wr v8 v9 k q r) (hs : a.eval s = v8) (A : Nat) (hx : a.eval x = .slice (some ⟨A, 0, none⟩) 1 1)
    (hW : wr.grownBy W none) (c : Int) (hA : W.cell? ⟨A, 0, none⟩ = some (.int .i64 c)) (hc : c = q k) (hk : k ≤ 64)
    (h : ∀ g cap w1, Half w wr W w1 g cap v8 v9 k q r → K (a.put o.dst (.slice (some ⟨g, 0, none⟩) (k + 1) cap)) w1) :
    if Region.wanted o (yielded ops a.tmps) = true then Oper.wp Try.prog o a W K Q else E := by
  obtain ⟨i0, hi, hz0, hz1, hz2⟩ := info_parts3
  have o8 : W.ownsRow w.heap.size 3 1 v8 k (vals q k) := P.o8.kept hW (by cases v8.ownBlock <;> simp)
  have o9 : W.ownsRow w.heap.size 3 1 v9 k (vals r k) := P.o9.kept hW (by cases v9.ownBlock <;> simp)
  have sz := hW.size
  have szw := P.gr.size
  refine step_append_lies W hgd s x 22 ho w.heap.size 3 i0 (.int .i64 0) 1 8 Try.underlying22 hi hz0 hz1 hz2 rfl (by decide) v8 k _ hs o8 ⟨A, 0, none⟩ 1 1 [.int .i64 c] hx rfl (one_cell W A c hA) (by intro u hu; simp at hu; subst hu; rfl) (by omega) (by unfold maxLen; omega) (by omega) (by omega) W.heap.size rfl ?_
  intro g cap w1 hown hg hat _
  have lt8 := P.o8.lt
  have lt9 := P.o9.lt
  refine h g cap w1 ⟨by rw [vals_next q k c hc] at hown; exact hown, o9.kept hg ?_, ?_, ?_, ?_⟩
  · rcases P.ne with e | e
    · cases h9 : v9.ownBlock with
      | none => exact .inl rfl
      | some b => right; rw [e]; simp
    · exact .inr (fun e' => e e'.symm)
  · intro e9
    rcases hat with e | e
    · rcases P.ne with n | n
      · rw [n] at e; cases e
      · exact n (e.trans e9.symm)
    · have := (lt9 g e9).2; omega
  · cases h8 : v8.ownBlock with
    | none => rw [h8] at hg; exact grown_trans (grown_trans P.gr hW) hg
    | some b => rw [h8] at hg; exact grown_off (grown_trans P.gr hW) hg (lt8 b h8).1
  · intro A' u hA' hcell
    exact hg.cell hcell (fun e => by have := (lt8 A' e.symm).2; omega)

theorem step9 {ops : Array Oper} {o : Oper} {a : Act} {W w wr W0 w1 : World} {K : Act → World → Prop} {Q : Exit → Act → World → Prop} {E : Prop} {v8 v9 : Value} {k g cap : Nat} {q r : Nat → Int} (hgd : o.guard = none) (s x : Operand)
    (ho : o.op = .call { callee := .builtin .append, args := #[s, x], argTypes := #[22, 22] }) (H : Half w wr W0 w1 g cap v8 v9 k q r) (hs : a.eval s = v9) (A : Nat) (hx : a.eval x = .slice (some ⟨A, 0, none⟩) 1 1)
    (hW : w1.grownBy W none) (c : Int) (hA : W.cell? ⟨A, 0, none⟩ = some (.int .i64 c)) (hc : c = r k) (hk : k ≤ 64)
    (h : ∀ g2 cap2 w2, Pair w w2 (.slice (some ⟨g, 0, none⟩) (k + 1) cap) (.slice (some ⟨g2, 0, none⟩) (k + 1) cap2) (k + 1) q r → K (a.put o.dst (.slice (some ⟨g2, 0, none⟩) (k + 1) cap2)) w2) :
    if Region.wanted o (yielded ops a.tmps) = true then Oper.wp Try.prog o a W K Q else E := by
  obtain ⟨i0, hi, hz0, hz1, hz2⟩ := info_parts3
  have o8 := H.o8.kept hW (.inr (by simp [Value.ownBlock]))
  have o9 : W.ownsRow w.heap.size 3 1 v9 k (vals r k) := H.o9.kept hW (by cases v9.ownBlock <;> simp)
  have sz := hW.size
  have szw := H.gr.size
  have lt8 := (H.o8.lt g rfl).2
  refine step_append_lies W hgd s x 22 ho w.heap.size 3 i0 (.int .i64 0) 1 8 Try.underlying22 hi hz0 hz1 hz2 rfl (by decide) v9 k _ hs o9 ⟨A, 0, none⟩ 1 1 [.int .i64 c] hx rfl (one_cell W A c hA) (by intro u hu; simp at hu; subst hu; rfl) (by omega) (by unfold maxLen; omega) (by omega) (by omega) W.heap.size rfl ?_
  intro g2 cap2 w2 hown hg hat _
  refine h g2 cap2 w2 ⟨o8.kept hg (.inr (fun e => H.ne e.symm)), by rw [vals_next r k c hc] at hown; exact hown, .inr ?_, ?_⟩
  · intro e
    have e : g = g2 := by simpa [Value.ownBlock] using e
    rcases hat with e2 | e2
    · exact H.ne (by rw [e2, e])
    · omega
  · cases h9 : v9.ownBlock with
    | none => rw [h9] at hg; exact grown_trans (grown_trans H.gr hW) hg
    | some b => rw [h9] at hg; exact grown_off (grown_trans H.gr hW) hg (H.o9.lt b h9).1

def RSharesEnd (t s : Int) (x : Nat → Int) (n : Nat) (w : World) (e : Ending) (w' : World) : Prop :=
  ∃ B c g, e = .returned (.tuple #[.slice (some ⟨B, 0, none⟩) n c, .int .i64 0]) ∧ w.heap.size ≤ B ∧ B < w'.heap.size ∧ Sorted (rem t s x) n g ∧ RowZ w' B n (share t s x g (left t s x n).toNat) ∧ w.grownBy w' none

set_option maxRecDepth 100000 in
set_option maxHeartbeats 2000000 in
theorem rshares_ok (t s : Int) (a : Option Addr) (n cap : Nat) (x : Nat → Int) (w : World) (h0 : 0 < n) (hn : n ≤ 64) (ht : 0 ≤ t) (ht2 : t ≤ 1099511627776) (hx : Ws w a n x) (hg : ∀ i, i < n → goodW (x i))
    (hs : psum x n = s) (hs1 : 1 ≤ s) :
    Calls Try.prog 26 #[.int .i64 t, .slice a n cap] w (RSharesEnd t s x n w) := by
  obtain ⟨i0, hi, hz0, hz1, hz2⟩ := info_parts3
  have hs2 : s ≤ 67108864 := by have := (psum_range x 1048576 n (fun i hi => hg i hi)).2; omega
  have HX := Lib.hid hx
  have HG := Lib.hid hg
  have HP := Lib.hid hs
  clear hx hg hs
  go_enter Try.func26, Try.ntmps26
  go_wp2
  go_loop [6, 7, 25] (fun s6 _ i => ∃ k : Nat, i = .int .i64 k ∧ k ≤ n ∧ s6 = .int .i64 (psum x k)) (fun _ _ i => n - (intOf i).toNat)
  case atStart => exact ⟨0, rfl, by omega, rfl⟩
  case round =>
    obtain ⟨k, rfl, hk, rfl⟩ := hrel
    have hr := psum_range x 1048576 k (fun i hi => HG.out i (by omega))
    by_cases hlt : k < n
    · obtain ⟨b, off, rfl, c1⟩ := HX.out k hlt
      obtain ⟨g1, g2⟩ := HG.out k hlt
      have HS := Lib.hid (show psum x (k + 1) = psum x k + x k from rfl)
      generalize psum x k = y at *
      generalize x k = v at *
      go_wp2
      go_round
      case rel => exact ⟨k + 1, by go_num, by omega, by rw [HS.out]⟩
      case measure => simp [intOf]; omega
    · obtain rfl : k = n := by omega
      rw [HP.out]
      have hs3 : (s == 0) = false := by rw [beq_eq_false_iff_ne]; omega
      clear hr hlt hk
      go_wp2
      go_loopw [8, 9, 10, 11, 52] (fun s8 s9 s10 _ s52 wr => ∃ i : Nat, s52 = .int .i64 i ∧ i ≤ k ∧ s10 = .int .i64 (t - psum (quo t s x) i) ∧ Hid (Pair w wr s8 s9 i (quo t s x) (rem t s x))) (fun _ _ _ _ i _ => k - (intOf i).toNat)
      case atStart => exact ⟨0, rfl, by omega, by simp [psum], ⟨World.ownsRow_nil _ _ _ _, World.ownsRow_nil _ _ _ _, .inl rfl, grown_refl _ _⟩⟩
      case round =>
        obtain ⟨i, rfl, hik, rfl, P⟩ := hrel
        have hq := psum_quo t s x k hs1 HP.out ht (fun i hi => (HG.out i hi).1) i hik
        by_cases hlt : i < k
        · obtain ⟨b, off, rfl, c0⟩ := HX.out i hlt
          have c1 := P.out.gr.cell c0 (by simp)
          have hbw := World.block_lt_of_cell? _ _ c0
          obtain ⟨g1, g2⟩ := HG.out i hlt
          have m1 : 0 ≤ t * x i := Int.mul_nonneg ht g1
          have m2 : t * x i ≤ 1099511627776 * 1048576 := Int.mul_le_mul ht2 g2 g1 (by omega)
          have q1 := quo_range t s x i ht hs1 g1
          have r1 := rem_range t s x i hs1
          unfold quo at q1
          unfold rem at r1
          have e1 : (i : Int) < (k : Int) := by omega
          have hsn : ¬ s = 0 := by omega
          have hw1 : IntKind.i64.wrap (t * x i) = t * x i := IntWalk.i64_in _ (by omega)
          have hd0 := Rd.tdiv_same (t * x i) s hs1 (Int.tmod_nonneg _ m1)
          have hw2 : IntKind.i64.wrap ((t * x i).tdiv s) = t * x i / s := by rw [hd0]; exact IntWalk.i64_in _ (by omega)
          have hw3 : (t * x i).tmod s = t * x i % s := Int.tmod_eq_emod_of_nonneg m1
          clear hd0
          generalize hv : x i = v at *
          have HV := Lib.hid hv
          clear hv
          go_wp2
          have PP := P.out
          have Q1 := Lib.hid (show t * v / s = quo t s x i from by unfold quo; rw [HV.out])
          have Q2 := Lib.hid (show t * v % s = rem t s x i from by unfold rem; rw [HV.out])
          go_region_held3 (fun w' => w'.cell? ⟨b, off + i, none⟩ = some (.int .i64 v)) (first | go_keep | exact hh.gr.cell c0 (by simp) | exact hp.gr.cell c0 (by simp)) (first | (refine step8 rfl (.tmp 55) (.tmp 64) rfl P.out (by rfl) _ (by rfl) (by first | exact grown_drew' (World.grownBy_alloc _ _ _) | exact grown_drew' (grown_trans (World.grownBy_alloc _ _ _) (World.grownBy_alloc _ _ _))) _ (by simp) Q1.out (by omega) ?_; intro g cap1 w1 hh) | (refine step9 rfl (.tmp 66) (.tmp 75) rfl hh (by rfl) _ (by rfl) (by first | exact grown_refl _ _ | exact World.grownBy_alloc _ _ _) _ (by first | (simp; done) | exact hh.new _ _ (by simp) (by simp)) Q2.out (by omega) ?_; intro g2 cap2 w2 hp))
          all_goals
            have c8 := own_cells hp.o8 i (by omega)
            have HP2 := Lib.hid hp
            have HE := Lib.hid (show psum (quo t s x) (i + 1) = psum (quo t s x) i + quo t s x i from rfl)
            have hqv : quo t s x i = t * v / s := Q1.out.symm
            have HQV := Lib.hid hqv
            rw [hqv] at c8
            clear hp hh PP hqv hw1 hw2 hw3
            go_wp2
            go_roundw
            case rel => exact ⟨i + 1, by go_num, by omega, congrArg (Value.int .i64) (by rw [HE.out, HQV.out]; omega), HP2⟩
            case measure => simp [intOf]; omega
        · obtain rfl : i = k := by omega
          obtain ⟨a8, cap8, rfl, ha8⟩ := own_shape P.out.o8
          obtain ⟨a9, cap9, rfl, ha9⟩ := own_shape P.out.o9
          obtain ⟨G8, rfl, b8, l8⟩ := ha8 (by omega)
          obtain ⟨G9, rfl, b9, l9⟩ := ha9 (by omega)
          obtain ⟨g, hg⟩ := sorted_exists (rem t s x) i
          have SO := Lib.hid hg
          have R8 := Lib.hid (show RowZ wr G8 i (share t s x g 0) from (own_rowZ P.out.o8).congr (fun p _ => by unfold share; simp [hit]))
          have R9 := Lib.hid (show RowZ wr G9 i (restF (rem t s x) g 0) from own_rowZ P.out.o9)
          have hne : G8 ≠ G9 := by
            rcases P.out.ne with e | e
            · cases e
            · intro e2; subst e2; exact e rfl
          have GR := Lib.hid P.out.gr
          have hl := left_range t s x i hs1 HP.out h0
          unfold left at hl
          obtain ⟨L, hL⟩ : ∃ L : Nat, t - psum (quo t s x) i = (L : Int) := ⟨(t - psum (quo t s x) i).toNat, by omega⟩
          have hLk : L < i := by omega
          have HL := Lib.hid (show (left t s x i).toNat = L by unfold left; omega)
          rw [hL]
          clear hg hl hL P ha8 ha9 hq hlt hik
          obtain ⟨wv, hwv⟩ : ∃ wv : World, wv = wr := ⟨_, rfl⟩
          go_wp2
          go_loopw [10, 12, 13] (fun s10 _ _ wq => ∃ j : Nat, s10 = .int .i64 ((L - j : Nat) : Int) ∧ j ≤ L ∧ Hid (RowZ wq G8 i (share t s x g j) ∧ RowZ wq G9 i (restF (rem t s x) g j) ∧ w.grownBy wq none ∧ G8 < wq.heap.size)) (fun l _ _ _ => (intOf l).toNat)
          case atStart => exact ⟨0, rfl, by omega, R8.out, R9.out, GR.out, l8⟩
          case round =>
            obtain ⟨wo, rfl⟩ : ∃ wo : World, wo = wr := ⟨_, rfl⟩
            obtain ⟨j, rfl, hj, J⟩ := hrel
            by_cases hjl : j < L
            · have hpos : 0 < L - j := by omega
              go_wp2
              go_loopw [12, 13, 90] (fun s12 _ s90 wq => ∃ b p q : Nat, s12 = .int .i64 b ∧ s90 = .int .i64 p ∧ p ≤ i ∧ b < i ∧ wq = wo.drewN q ∧
                Hid ((∀ c, c < p → restF (rem t s x) g j c ≤ restF (rem t s x) g j b) ∧ ∀ c, c < b → restF (rem t s x) g j c < restF (rem t s x) g j b)) (fun _ _ s90 _ => i - (intOf s90).toNat)
              case atStart => exact ⟨0, 0, 0, rfl, rfl, by omega, h0, rfl, fun c h => absurd h (by omega), fun c h => absurd h (by omega)⟩
              case round =>
                obtain ⟨wp, rfl⟩ : ∃ wp : World, wp = wr := ⟨_, rfl⟩
                obtain ⟨b, p, q, rfl, rfl, hp, hb, rfl, I⟩ := hrel
                by_cases hlp : p < i
                · have c1 := J.out.2.1.1 p hlp
                  have c2 := J.out.2.1.1 b hb
                  have e1 : (p : Int) < (i : Int) := by omega
                  have e2 : (b : Int) < (i : Int) := by omega
                  by_cases hgt : restF (rem t s x) g j b < restF (rem t s x) g j p
                  · have I2 := Lib.hid (show (∀ c, c < p + 1 → restF (rem t s x) g j c ≤ restF (rem t s x) g j p) ∧ ∀ c, c < p → restF (rem t s x) g j c < restF (rem t s x) g j p from
                      ⟨fun c hc => by
                        by_cases e : c = p
                        · subst e; exact Int.le_refl _
                        · have := I.out.1 c (by omega); omega, fun c hc => by have := I.out.1 c hc; omega⟩)
                    clear I
                    generalize restF (rem t s x) g j b = vb at c2 hgt
                    generalize restF (rem t s x) g j p = vp at c1 hgt
                    go_wp2
                    go_quiet (fail)
                    go_wp2
                    go_roundw
                    case rel => exact ⟨p, p + 1, _, rfl, by go_num, by omega, hlp, by first | rfl | (rw [World.drewN_drewN]), I2⟩
                    case measure => simp [intOf]; omega
                  · have I2 := Lib.hid (show (∀ c, c < p + 1 → restF (rem t s x) g j c ≤ restF (rem t s x) g j b) ∧ ∀ c, c < b → restF (rem t s x) g j c < restF (rem t s x) g j b from
                      ⟨fun c hc => by
                        by_cases e : c = p
                        · subst e; omega
                        · exact I.out.1 c (by omega), I.out.2⟩)
                    clear I
                    generalize restF (rem t s x) g j b = vb at c2 hgt
                    generalize restF (rem t s x) g j p = vp at c1 hgt
                    go_wp2
                    go_quiet (fail)
                    go_wp2
                    go_roundw
                    case rel =>
                      exact ⟨b, p + 1, q + nq, rfl, by go_num, by omega, hb, rfl, I2⟩
                    case measure => simp [intOf]; omega
                · obtain rfl : p = i := by omega
                  have hbj := best_is (rem t s x) g p j b SO.out (fun c _ => (rem_range t s x c hs1).1) (by omega) hb I.out.1 I.out.2
                  subst hbj
                  have c1 := J.out.1.1 (g j) hb
                  have f1 := J.out.1.2 (g j)
                  have c2 := J.out.2.1.1 (g j) hb
                  have f2 := J.out.2.1.2 (g j)
                  have sr := share_range t s x p g j (g j) ht ht2 hs1 HG.out hb
                  have J2 := Lib.hid (fun q => show RowZ (((wo.drewN q).setCell ⟨G8, g j, none⟩ (.int .i64 (share t s x g j (g j) + 1))).setCell ⟨G9, g j, none⟩ (.int .i64 (-1))) G8 p (share t s x g (j + 1)) ∧
                      RowZ (((wo.drewN q).setCell ⟨G8, g j, none⟩ (.int .i64 (share t s x g j (g j) + 1))).setCell ⟨G9, g j, none⟩ (.int .i64 (-1))) G9 p (restF (rem t s x) g (j + 1)) ∧
                      w.grownBy (((wo.drewN q).setCell ⟨G8, g j, none⟩ (.int .i64 (share t s x g j (g j) + 1))).setCell ⟨G9, g j, none⟩ (.int .i64 (-1))) none ∧ G8 < (((wo.drewN q).setCell ⟨G8, g j, none⟩ (.int .i64 (share t s x g j (g j) + 1))).setCell ⟨G9, g j, none⟩ (.int .i64 (-1))).heap.size from by
                    have k8 : RowZ (wo.drewN q) G8 p (share t s x g j) := ⟨fun c hc => by simpa using J.out.1.1 c hc, fun c => by simpa using J.out.1.2 c⟩
                    have k9 : RowZ (wo.drewN q) G9 p (restF (rem t s x) g j) := ⟨fun c hc => by simpa using J.out.2.1.1 c hc, fun c => by simpa using J.out.2.1.2 c⟩
                    refine ⟨((k8.set (g j) _).congr (fun c _ => share_step t s x g j c (fun i hi => SO.out.inj i j hi (by omega)))).far _ _ (fun e => hne e.symm), ((k9.far ⟨G8, g j, none⟩ _ hne).set (g j) _).congr (fun c _ => restF_step (rem t s x) g j c), ?_, ?_⟩
                    · exact grown_new (grown_new (grown_trans J.out.2.2.1 (grown_drewN _ _ _)) _ _ b8) _ _ b9
                    · simpa [World.setCell] using J.out.2.2.2)
                  have hz : ((L - j : Nat) : Int) - 1 = ((L - (j + 1) : Nat) : Int) := by omega
                  clear J I
                  generalize share t s x g j (g j) = vs at *
                  generalize restF (rem t s x) g j (g j) = vr at c2
                  generalize g j = m at *
                  go_wp2
                  go_roundw
                  case rel => exact ⟨j + 1, rfl, by omega, J2.out _⟩
                  case measure => simp [intOf]; omega
            · obtain rfl : j = L := by omega
              have hz : ¬ (0 : Int) < ((j - j : Nat) : Int) := by omega
              have F := Lib.hid (show RowZ wo G8 i (share t s x g (left t s x i).toNat) from by rw [HL.out]; exact J.out.1)
              go_wp2
              go_ret2
              exact ⟨G8, cap8, g, rfl, b8, J.out.2.2.2, SO.out, F.out, J.out.2.2.1⟩
end Go.Proofs.Ytkpmhgikcipedaa
