/- Contracts of the stable sort and of greatestFirst. -/
import Derived.Test.YtkpmhgikcipedaaSort
import Derived.Deep.OwnRows
namespace Go.Proofs.Ytkpmhgikcipedaa
open Go.ChangeShapes Go.WideShapes Go.ChangeAt Go.RowKit

/-- What a whole sort leaves. -/
def Sorted (r : Nat → Int) (n : Nat) (g : Nat → Nat) : Prop := (∀ p, p < n → g p < n) ∧ SortedOn r g 0 n

set_option maxHeartbeats 400000 in
theorem stable_small (B N n : Nat) (r : Nat → Int) (f : Nat → Nat) (w : World) (hr : Row w B n f) (hk : Keys w N n r B) (hn : n < 20)
    (hf : ∀ p, p < n → f p < n) (hasc : ∀ p q, p < q → q < n → f p < f q) :
    Calls Try.prog 41 #[.slice (some ⟨B, 0, none⟩) n n, .int .i64 n, .func (.func 39) #[] #[.pointer (some ⟨N, 0, none⟩)]] w (SortEnd B n (Sorted r n) w) := by
  have hi := insertion_any B N n r f 0 n w hr hk (by omega) (Nat.le_refl _) (by omega) hf (fun p q _ h1 h2 => hasc p q h1 h2)
  have HI := Lib.hid hi
  have HF := Lib.hid hf
  clear hi hr hk hf hasc
  go_enter Try.func41, Try.ntmps41
  go_wp2
  go_loopw [7, 8] (fun s7 s8 wr => s7 = .int .i64 0 ∧ s8 = .int .i64 20 ∧ wr = w) (fun _ _ _ => 0)
  case atStart => exact ⟨rfl, rfl, rfl⟩
  case round =>
    obtain ⟨rfl, rfl, rfl⟩ := hrel
    go_wp2_with fail
    refine HI.out.mono ?_
    rintro e w' ⟨rfl, g, hg, hr, hw⟩
    have HG := Lib.hid hg
    have HR := Lib.hid hr
    have HW := Lib.hid hw
    clear hg hr hw
    go_wp2
    go_loopw [6, 7, 8, 9] (fun s6 _ _ _ wr => s6 = .int .i64 20 ∧ wr = w') (fun _ _ _ _ _ => 0)
    case atStart => exact ⟨rfl, rfl⟩
    case round =>
      obtain ⟨rfl, rfl⟩ := hrel
      go_wp2
      go_end0
      exact ⟨rfl, g, ⟨fun p hp => HG.out.1.lt HF.out (Nat.le_refl _) p hp, HG.out.2⟩, HR.out, HW.out⟩

theorem sortStable_any (B N n : Nat) (r : Nat → Int) (f : Nat → Nat) (w : World) (hr : Row w B n f) (hk : Keys w N n r B) (hn : n < 20)
    (hf : ∀ p, p < n → f p < n) (hasc : ∀ p q, p < q → q < n → f p < f q) :
    Calls Try.prog 38 #[.slice (some ⟨B, 0, none⟩) n n, .func (.func 39) #[] #[.pointer (some ⟨N, 0, none⟩)]] w (SortEnd B n (Sorted r n) w) := by
  have HI := Lib.hid (stable_small B N n r f w hr hk hn hf hasc)
  clear hr hk hf hasc
  go_enter Try.func38, Try.ntmps38
  go_wp2_with fail
  refine HI.out.mono ?_
  rintro e w' ⟨rfl, g, hg, hr, hw⟩
  have HG := Lib.hid hg
  have HR := Lib.hid hr
  have HW := Lib.hid hw
  clear hg hr hw
  go_wp2
  go_end0
  exact ⟨rfl, g, HG.out, HR.out, HW.out⟩

theorem info3 : (Try.prog.info? 3).map (fun i => (i.zero, i.size, i.bytes)) = some (some (.int .i64 0), 1, 8) := by kernel_rfl

theorem made_get (z : Value) (n p : Nat) (hp : p < n) : (madeCells #[z] n)[p]? = some z := by
  rw [← Array.getElem?_toList, toList_madeCells_one, List.getElem?_replicate, if_pos hp]
theorem made_cell (w : World) (z : Value) (n p : Nat) (t : TypeId) (hp : p < n) : (w.alloc (.cells (madeCells #[z] n) t)).cell? ⟨w.heap.size, p, none⟩ = some z := by
  rw [World.cell?_alloc_at _ _ _ _ rfl, made_get z n p hp]
theorem made_frozen (w : World) (c : Array Value) (p : Nat) (t : TypeId) : (w.alloc (.cells c t)).frozen? ⟨w.heap.size, p, none⟩ = false := by simp

theorem grown_new {w wr : World} (h : w.grownBy wr none) (p : Addr) (u : Value) (hp : w.heap.size ≤ p.block) : w.grownBy (wr.setCell p u) none :=
  ⟨h.os, h.tape, h.output, by simpa [World.setCell] using h.size, fun k hk hr => (Below.heap_setCell _ _ _ _ (by omega)).trans (h.block k hk hr)⟩
theorem grown_off {w wr w' : World} {B : Nat} (h : w.grownBy wr none) (k : wr.grownBy w' (some B)) (hB : w.heap.size ≤ B) : w.grownBy w' none :=
  ⟨k.os.trans h.os, k.tape.trans h.tape, k.output.trans h.output, Nat.le_trans h.size k.size, fun i hi hr => (k.block i (Nat.lt_of_lt_of_le hi h.size) (by intro e; injection e with e; omega)).trans (h.block i hi hr)⟩

def upTo (k : Nat) : Nat → Nat := fun p => if p < k then p else 0

theorem Row.grow {w : World} {B n k : Nat} (h : Row w B n (upTo k)) (hk : k < n) : Row (w.setCell ⟨B, k, none⟩ (.int .i64 k)) B n (upTo (k + 1)) := by
  refine ⟨fun p hp => ?_, fun p => by simpa using h.2 p⟩
  by_cases e : p = k
  · subst e
    rw [World.cell?_setCell_same _ _ _ (h.1 p hp)]
    unfold upTo; rw [if_pos (by omega)]
  · rw [World.cell?_setCell_other _ _ _ _ (by intro h; injection h with _ h2; exact e h2.symm), h.1 p hp]
    unfold upTo
    by_cases e2 : p < k
    · rw [if_pos e2, if_pos (by omega)]
    · rw [if_neg e2, if_neg (by omega)]

/-- What greatestFirst hands back: a new row of the places in their order. -/
def OrderEnd (n : Nat) (r : Nat → Int) (w : World) (e : Ending) (w' : World) : Prop :=
  ∃ B g, e = .returned (.slice (some ⟨B, 0, none⟩) n n) ∧ w.heap.size ≤ B ∧ B < w'.heap.size ∧ Sorted r n g ∧ Row w' B n g ∧ w.grownBy w' none

set_option maxHeartbeats 400000 in
theorem greatest_any (b off n cap : Nat) (r : Nat → Int) (w : World) (hc : ∀ i, i < n → w.cell? ⟨b, off + i, none⟩ = some (.int .i64 (r i))) (hb : b < w.heap.size) (h0 : 0 < n) (hn : n < 20) :
    Calls Try.prog 37 #[.slice (some ⟨b, off, none⟩) n cap] w (OrderEnd n r w) := by
  have hmk := run_make_row' (P := Try.prog) 22 3 (.int .i64 0) 8 Try.underlying22 info3 rfl .i64 .i64 n (by omega) (by omega)
  have HC := Lib.hid hc
  clear hc
  obtain ⟨W1, hW1⟩ : ∃ W1, W1 = w.alloc (.cells #[.slice (some ⟨b, off, none⟩) n cap] 22) := ⟨_, rfl⟩
  have sz1 : W1.heap.size = w.heap.size + 1 := by rw [hW1]; simp
  have gr1 : w.grownBy W1 none := by rw [hW1]; exact World.grownBy_alloc _ _ _
  have cn1 : W1.cell? ⟨w.heap.size, 0, none⟩ = some (.slice (some ⟨b, off, none⟩) n cap) := by rw [hW1]; simp
  have gr2 : W1.grownBy (W1.alloc (.cells (madeCells #[.int .i64 0] n) 3)) none := World.grownBy_alloc _ _ _
  have row2 : Row (W1.alloc (.cells (madeCells #[.int .i64 0] n) 3)) (w.heap.size + 1) n (upTo 0) := by
    rw [← sz1]
    exact ⟨fun p hp => by rw [made_cell _ _ _ _ _ hp]; unfold upTo; rw [if_neg (by omega)]; rfl, fun p => made_frozen _ _ _ _⟩
  have hlt2 : w.heap.size + 1 < (W1.alloc (.cells (madeCells #[.int .i64 0] n) 3)).heap.size := by simp; omega
  rw [hW1] at gr2 row2 hlt2
  have S := Lib.hid (And.intro gr2 (And.intro row2 hlt2))
  have HW1 := Lib.hid hW1
  have SZ1 := Lib.hid sz1
  have GR1 := Lib.hid gr1
  have CN1 := Lib.hid cn1
  clear hW1 sz1 gr1 cn1 gr2 row2 hlt2
  go_enter Try.func37, Try.ntmps37
  go_wp2
  go_loopw [4, 10] (fun _ s10 wr => ∃ k : Nat, s10 = .int .i64 k ∧ k ≤ n ∧ Hid (W1.grownBy wr none ∧ Row wr (w.heap.size + 1) n (upTo k) ∧ w.heap.size + 1 < wr.heap.size)) (fun _ s _ => n - (intOf s).toNat)
  case atStart => exact ⟨0, rfl, by omega, by rw [HW1.out]; exact S⟩
  case round =>
    obtain ⟨k, rfl, hk, I⟩ := hrel
    by_cases hlt : k < n
    · have c1 := I.out.2.1.1 k hlt
      have f1 := I.out.2.1.2 k
      have I2 := Lib.hid (show W1.grownBy (wr.setCell ⟨w.heap.size + 1, k, none⟩ (.int .i64 k)) none ∧ Row (wr.setCell ⟨w.heap.size + 1, k, none⟩ (.int .i64 k)) (w.heap.size + 1) n (upTo (k + 1)) ∧ w.heap.size + 1 < (wr.setCell ⟨w.heap.size + 1, k, none⟩ (.int .i64 k)).heap.size from
        ⟨grown_new I.out.1 _ _ (by rw [SZ1.out]; exact Nat.le_refl _), I.out.2.1.grow hlt, by simpa [World.setCell] using I.out.2.2⟩)
      go_wp2
      go_roundw
      case rel => exact ⟨k + 1, by go_num, by omega, I2⟩
      case measure => simp [intOf]; omega
    · obtain rfl : k = n := by omega
      have hup : ∀ p, p < k → upTo k p = p := fun p hp => by unfold upTo; rw [if_pos hp]
      have hks : Keys wr w.heap.size k r (w.heap.size + 1) := ⟨by omega, b, off, cap, by omega, I.out.1.cell CN1.out (by simp), fun i hi => I.out.1.cell (GR1.out.cell (HC.out i hi) (by simp)) (by simp)⟩
      have hs := sortStable_any (w.heap.size + 1) w.heap.size k r (upTo k) wr I.out.2.1 hks hn (fun p hp => by rw [hup p hp]; exact hp) (fun p q h1 h2 => by rw [hup p (by omega), hup q h2]; exact h1)
      have HS := Lib.hid hs
      clear hs hks hup
      go_wp2_with fail
      refine HS.out.mono ?_
      rintro e w' ⟨rfl, g, hg, hr, hw⟩
      have H := Lib.hid (show OrderEnd k r w (.returned (.slice (some ⟨w.heap.size + 1, 0, none⟩) k k)) w' from ⟨w.heap.size + 1, g, rfl, by omega, by have := hw.size; have := I.out.2.2; omega, hg, hr, grown_off (grown_trans GR1.out I.out.1) hw (by omega)⟩)
      clear hg hr hw
      go_wp2
      go_ret
      exact H.out
end Go.Proofs.Ytkpmhgikcipedaa
