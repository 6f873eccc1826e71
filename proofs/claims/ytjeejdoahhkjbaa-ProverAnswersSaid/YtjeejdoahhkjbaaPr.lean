/- Plain facts for ProverScales: runs that are twice as many. -/
import Derived.Test.YtjeejdoahhkjbaaPq
import Derived.Deep.AppendLies
namespace Go.Proofs.Ytjeejdoahhkjbaa
open Go.ChangeShapes Go.WideShapes Go.ChangeAt Go.RowKit

def dbl (x : Nat → Int) : Nat → Int := fun i => 2 * x i

theorem half_twice {A B : Int} (h1 : 0 ≤ A) (h2 : 2 * A ≤ 2305843009213693952) (h3 : 1 ≤ B) (h4 : 2 * B ≤ 1099511627776) : Rd.half (2 * A) (2 * B) = Rd.half A B := by
  unfold Rd.half
  rw [Rd.ok_mk (a := 2 * A) (by omega) (by omega) (by omega) (by omega), Rd.ok_mk (a := A) (by omega) (by omega) (by omega) (by omega)]
  show (2 * (2 * A) + 2 * B) / (2 * (2 * B)) = (2 * A + B) / (2 * B)
  rw [show 2 * (2 * A) + 2 * B = 2 * (2 * A + B) by omega]
  exact Int.mul_ediv_mul_of_pos _ _ (by omega)

theorem sum5_twice (x : Nat → Int) (k : Nat) : Pm.sum5 (dbl x) k = 2 * Pm.sum5 x k := by unfold Pm.sum5 dbl; omega

theorem pr_twice {v t P b f F k e : Int} {n : Nat} {x : Nat → Int} (hv : Pm.pvalid v t = true) (hm : Mt.valid P b f = true) (hm2 : Mt.valid (2 * P) b f = true) (hn : n ≤ 20) (hx : Pm.Runs n x) (hy : Pm.Runs n (dbl x))
    (h : Pm.Pr v t P b f n x F k e) : Pm.Pr v t (2 * P) b f n (dbl x) F k e := by
  have hw : ∀ j, Pm.rep t 5 (Pm.at' (dbl x) j) = Pm.rep t 5 (Pm.at' x j) := fun j => Pm.rep_twice (by omega) fun i hi => rfl
  have vp := vpm_range hv hm
  have hf : ∀ j, j + 5 ≤ n → Pm.fac v (2 * P) (dbl x) j = Pm.fac v P x j := fun j hj => by
    have hs := Pm.sum5_range hx j hj
    have hs2 := Pm.sum5_range hy j hj
    rw [sum5_twice] at hs2
    unfold Pm.fac
    rw [sum5_twice, show 5 * v * (2 * P) * 100 = 2 * (5 * v * P * 100) by rw [show 5 * v * (2 * P) = 2 * (5 * v * P) by rw [Int.mul_left_comm]]; omega]
    have e1 : 5 * v * P * 100 = 500 * (v * P) := by rw [Int.mul_assoc 5]; omega
    rw [e1]
    exact half_twice (by omega) (by omega) (by omega) (by omega)
  have hfi : ∀ j, Pm.First t n x j → Pm.First t n (dbl x) j := fun j ⟨a, b, c⟩ => ⟨a, by rw [hw]; exact b, fun q hq => by rw [hw]; exact c q hq⟩
  cases h with
  | inv h1 => rcases h1 with h1 | h1 <;> simp [hv, hm] at h1
  | limit h1 h2 h3 => omega
  | range h1 h2 h3 i h4 => exact absurd h4 (hx.not_bad i)
  | none h1 h2 h3 h4 h5 => exact .none h1 hm2 h3 hy fun j hj => by rw [hw]; exact h5 j hj
  | far h1 h2 h3 h4 q h5 h6 => exact .far h1 hm2 h3 hy q (hfi q h5) (by rw [hf q h5.1]; exact h6)
  | ok h1 h2 h3 h4 q h5 h6 h7 =>
    have := hf q h5.1
    rw [← this] at h6 h7 ⊢
    exact .ok h1 hm2 h3 hy q (hfi q h5) h6 h7

/-- Where Prove finds a factor, its window repeats. -/
theorem pr_found {v t P b f F k e : Int} {n : Nat} {x : Nat → Int} (h : Pm.Pr v t P b f n x F k e) : (e == 0) = false ∨ (e = 0 ∧ ∃ q : Nat, k = q ∧ q + 5 ≤ n ∧ Pm.rep t 5 (Pm.at' x q) = true) := by
  cases h with
  | inv h1 => exact .inl rfl
  | limit h1 h2 h3 => exact .inl rfl
  | range h1 h2 h3 i h4 => exact .inl rfl
  | none h1 h2 h3 h4 h5 => exact .inl rfl
  | far h1 h2 h3 h4 q h5 h6 => exact .inl rfl
  | ok h1 h2 h3 h4 q h5 h6 h7 => exact .inr ⟨rfl, q, rfl, h5.1, h5.2.1⟩

/-- The two rows that are being made. -/
structure SP (B S : Nat) (w wr : World) (v6 v7 : Value) (n : Nat) (x : Nat → Int) : Prop where
  o6 : wr.ownsRow B 3 1 v6 n (vals x n)
  o7 : wr.ownsRow B 3 1 v7 n (vals (dbl x) n)
  ne : v6.ownBlock = none ∨ v6.ownBlock ≠ v7.ownBlock
  sr : SrcOK wr S
  gr : w.grownBy wr (some S)
/-- Behind the first of the two appends. -/
structure SH (B S : Nat) (w w1 : World) (g cap : Nat) (v7 : Value) (n : Nat) (x : Nat → Int) : Prop where
  o6 : w1.ownsRow B 3 1 (.slice (some ⟨g, 0, none⟩) (n + 1) cap) (n + 1) (vals x (n + 1))
  o7 : w1.ownsRow B 3 1 v7 n (vals (dbl x) n)
  ne : v7.ownBlock ≠ some g
  sr : SrcOK w1 S
  gr : w.grownBy w1 (some S)

theorem SP.first {B S : Nat} {w wr w3 w4 w5 : World} {v6 v7 : Value} {n g cap : Nat} {x : Nat → Int} {c : Int} (h : SP B S w wr v6 v7 n x) (hB : w.heap.size = B) (hS : S < B) (h3 : wr.grownBy w3 (some S)) (hs : SrcOK w3 S) (h4 : w3.grownBy w4 none)
    (hown : w5.ownsRow B 3 1 (.slice (some ⟨g, 0, none⟩) (n + 1) cap) (n + 1) (vals x n ++ [.int .i64 c])) (hg : w4.grownBy w5 v6.ownBlock) (hat : v6.ownBlock = some g ∨ g = w4.heap.size) :
    SH B S w w5 g cap v7 n (setF x n c) := by
  have l6 := h.o6.lt
  have l7 := h.o7.lt
  have sz3 := h3.size
  have sz4 := h4.size
  have g4 : w.grownBy w4 (some S) := grown_trans (grown_trans h.gr h3) (grown_weak _ h4)
  have hv : vals (dbl (setF x n c)) n = vals (dbl x) n := by
    unfold vals
    apply List.map_congr_left
    intro i hi
    have : i ≠ n := by have := List.mem_range.1 hi; omega
    unfold dbl setF; rw [if_neg this]
  have o7 : w4.ownsRow B 3 1 v7 n (vals (dbl x) n) := own_grown (own_kept h.o7 hS h3) h4
  have ne : v7.ownBlock ≠ some g := by
    intro e9
    rcases hat with e | e
    · rcases h.ne with q | q
      · rw [q] at e; cases e
      · exact q (e.trans e9.symm)
    · have := (l7 g e9).2; omega
  refine ⟨by rw [vals_snoc]; exact hown, ?_, ne, ?_, ?_⟩
  · rw [hv]
    refine o7.kept hg ?_
    rcases h.ne with q | q
    · cases h9 : v7.ownBlock with
      | none => exact .inl rfl
      | some b => right; rw [q]; simp
    · exact .inr (fun e' => q e'.symm)
  · exact (hs.grown h4).grownRow hg fun k hk => by have := (l6 k hk).1; omega
  · cases h8 : v6.ownBlock with
    | none => rw [h8] at hg; exact grown_trans g4 (grown_weak _ hg)
    | some b => rw [h8] at hg; exact grown_skip g4 hg (by have := (l6 b h8).1; omega)

theorem SH.second {B S : Nat} {w w5 w6 w7 : World} {v7 : Value} {n g cap g2 cap2 : Nat} {x : Nat → Int} {c : Int} (h : SH B S w w5 g cap v7 n x) (hB : w.heap.size = B) (hS : S < B) (h6 : w5.grownBy w6 none)
    (hown : w7.ownsRow B 3 1 (.slice (some ⟨g2, 0, none⟩) (n + 1) cap2) (n + 1) (vals (dbl x) n ++ [.int .i64 c])) (hc : c = 2 * x n) (hg : w6.grownBy w7 v7.ownBlock) (hat : v7.ownBlock = some g2 ∨ g2 = w6.heap.size) :
    SP B S w w7 (.slice (some ⟨g, 0, none⟩) (n + 1) cap) (.slice (some ⟨g2, 0, none⟩) (n + 1) cap2) (n + 1) x := by
  have l6 := (h.o6.lt g rfl).2
  have l7 := h.o7.lt
  have sz6 := h6.size
  have g6 : w.grownBy w6 (some S) := grown_trans h.gr (grown_weak _ h6)
  refine ⟨(own_grown h.o6 h6).kept hg (.inr (fun e => h.ne e.symm)), by rw [vals_next (dbl x) n c hc] at hown; exact hown, .inr ?_, ?_, ?_⟩
  · intro e
    have e : g = g2 := by simpa [Value.ownBlock] using e
    rcases hat with e2 | e2
    · exact h.ne (by rw [e2, e])
    · omega
  · exact (h.sr.grown h6).grownRow hg fun k hk => by have := (l7 k hk).1; omega
  · cases h9 : v7.ownBlock with
    | none => rw [h9] at hg; exact grown_trans g6 (grown_weak _ hg)
    | some b => rw [h9] at hg; exact grown_skip g6 hg (by have := (l7 b h9).1; omega)
end Go.Proofs.Ytjeejdoahhkjbaa
