/- The numbers of the walks, and contracts of package keep: Mod, Ints, and the reader of numbers. -/
import Derived.Test.YtckohnlpmooecaaRows
import Derived.Test.YtckohnlpmooecaaMath
import Derived.WalkKit
import Derived.ProofKit
import Derived.OpenShut
import Derived.Outline
import Derived.Lib.Hide
import Derived.Deep.QuietTactic
import Derived.BigQuiet
namespace Go.Proofs.Ytckohnlpmooecaa
open Go.ChangeShapes Go.WideShapes Go.ChangeAt Go.RowKit

theorem ret_int {k : IntKind} {a b : Int} (h : a = b) : Ending.returned (.int k a) = .returned (.int k b) := by rw [h]

/-- An int. -/
def I64 (a : Int) : Prop := -9223372036854775808 ≤ a ∧ a ≤ 9223372036854775807


/-- In the world w the slice v reads as the numbers xs. -/
def SlI (w : World) (v : Value) (xs : List Int) : Prop :=
  ∃ a b off cap, v = .slice a xs.length cap ∧ (0 < xs.length → a = some ⟨b, off, none⟩) ∧ ∀ i, i < xs.length → w.cell? ⟨b, off + i, none⟩ = some (.int .i64 (xs.getD i 0))

/-- The bool of two lists that are equal. -/
def eqB (xs ys : List Int) : Bool := decide (xs = ys)

theorem eqB_true {xs ys : List Int} (h1 : xs.length = ys.length) (h2 : ∀ j, j < xs.length → xs.getD j 0 = ys.getD j 0) : eqB xs ys = true := by
  unfold eqB
  rw [decide_eq_true_eq]
  apply List.ext_getElem h1
  intro i h3 h4
  have := h2 i h3
  simpa [List.getD_eq_getElem?_getD, List.getElem?_eq_getElem h3, List.getElem?_eq_getElem h4] using this
theorem eqB_false {xs ys : List Int} (j : Nat) (h2 : xs.getD j 0 ≠ ys.getD j 0) : eqB xs ys = false := by
  unfold eqB
  rw [decide_eq_false_iff_not]
  intro e; subst e; exact h2 rfl
theorem eqB_len {xs ys : List Int} (h : xs.length ≠ ys.length) : eqB xs ys = false := by
  unfold eqB
  rw [decide_eq_false_iff_not]
  intro e; subst e; exact h rfl

theorem ret_bool {a b : Bool} (h : a = b) : Ending.returned (.bool a) = .returned (.bool b) := by rw [h]

theorem mod_pos (x n : Int) (w : World) (hn : 1 ≤ n) (hn2 : n ≤ 4611686018427387904) (_hx : -9223372036854775808 ≤ x) (_hx2 : x ≤ 9223372036854775807) :
    Calls Try.prog 24 #[.int .i64 x, .int .i64 n] w fun e w' => e = .returned (.int .i64 (x % n)) ∧ w = w' := by
  have hr := Rd.tmod_range x n hn
  have he := Int.emod_nonneg x (b := n) (by omega)
  have he2 := Int.emod_lt_of_pos x (b := n) (by omega)
  have hh : x % n = if x.tmod n < 0 then x.tmod n + n else x.tmod n := by
    have a1 := Int.mul_tdiv_add_tmod x n
    have a2 := Int.mul_ediv_add_emod x n
    split
    · rename_i h
      have := Rd.tdiv_down x n hn h
      rw [← this, Int.mul_sub, Int.mul_one] at a2; omega
    · rename_i h
      have := Rd.tdiv_same x n hn (by omega)
      rw [← this] at a2; omega
  have H := Lib.hid hh
  clear hh he he2
  by_cases hm : x.tmod n < 0
  · go_enter Try.func24, Try.ntmps24
    go_wp2
    go_ret
    exact ⟨ret_int (by rw [H.out, if_pos hm]), rfl⟩
  · go_enter Try.func24, Try.ntmps24
    go_wp2
    go_ret
    exact ⟨ret_int (by rw [H.out, if_neg (by omega)]), rfl⟩

theorem grown_refl (w : World) (row : Option Nat) : w.grownBy w row := ⟨rfl, rfl, rfl, Nat.le_refl _, fun _ _ _ => rfl⟩
theorem grown_drewN (w : World) (q : Nat) (row : Option Nat) : w.grownBy (w.drewN q) row := ⟨rfl, rfl, rfl, Nat.le_refl _, fun _ _ _ => rfl⟩
theorem grown_trans {a b c : World} {row : Option Nat} (h : a.grownBy b row) (k : b.grownBy c row) : a.grownBy c row :=
  ⟨k.os.trans h.os, k.tape.trans h.tape, k.output.trans h.output, Nat.le_trans h.size k.size, fun i hi hr => (k.block i (Nat.lt_of_lt_of_le hi h.size) hr).trans (h.block i hi hr)⟩
theorem grown_weak {a b : World} (row : Option Nat) (h : a.grownBy b none) : a.grownBy b row := ⟨h.os, h.tape, h.output, h.size, fun i hi _ => h.block i hi (by simp)⟩
theorem grown_below {a b : World} (h : a.grownBy b none) : Below a.heap.size a b := ⟨h.os, h.tape, h.output, h.size, fun i hi => h.block i hi (by simp)⟩
theorem below_grown {a b : World} (h : Below a.heap.size a b) : a.grownBy b none := ⟨h.os, h.tape, h.output, h.size, fun i hi _ => h.block i hi⟩
theorem grown_set (w : World) (p : Addr) (u : Value) : w.grownBy (w.setCell p u) (some p.block) :=
  ⟨rfl, rfl, rfl, by simp [World.setCell], fun k _ hr => Below.heap_setCell _ _ _ _ (by intro e; subst e; exact hr rfl)⟩

def IsI64 (x : Int) : Prop := -9223372036854775808 ≤ x ∧ x ≤ 9223372036854775807

/-- In the world w a reader of numbers lies in block S. -/
def SrcOK (w : World) (S : Nat) : Prop := ∃ (a : Option Addr) (b off cap k : Nat) (l : List Int),
  w.cell? ⟨S, 0, none⟩ = some (.slice a l.length cap) ∧ w.cell? ⟨S, 1, none⟩ = some (.int .i64 k) ∧ w.frozen? ⟨S, 1, none⟩ = false ∧
  (0 < l.length → b < S) ∧ k ≤ l.length ∧ l.length ≤ 2000 ∧ (0 < l.length → a = some ⟨b, off, none⟩) ∧ (∀ i, i < l.length → w.cell? ⟨b, off + i, none⟩ = some (.int .i64 (l.getD i 0))) ∧ ∀ i, IsI64 (l.getD i 0)

theorem SrcOK.grownRow {w w' : World} {S : Nat} {row : Option Nat} (h : SrcOK w S) (hg : w.grownBy w' row) (hrow : ∀ k, row = some k → S < k) : SrcOK w' S := by
  obtain ⟨a, b, off, cap, k, l, h0, h1, hf, hb, hk, hl, ha, hc, hr⟩ := h
  have hS : some S ≠ row := fun e => Nat.lt_irrefl _ (hrow S e.symm)
  exact ⟨a, b, off, cap, k, l, hg.cell h0 hS, hg.cell h1 hS, by rw [World.frozen?_of_block (hg.block S (World.block_lt_of_cell? w _ h1) hS)]; exact hf, hb, hk, hl, ha,
    fun i hi => hg.cell (hc i hi) (fun e => by have := hrow b e.symm; have := hb (by omega); omega), hr⟩
theorem SrcOK.grown {w w' : World} {S : Nat} (h : SrcOK w S) (hg : w.grownBy w' none) : SrcOK w' S := h.grownRow hg (fun _ h => by cases h)

def RawEnd (S : Nat) (P : Int → Prop) (w : World) (e : Ending) (w' : World) : Prop := ∃ r : Int, P r ∧ e = .returned (.int .i64 r) ∧ w.grownBy w' (some S) ∧ SrcOK w' S

set_option maxHeartbeats 400000 in
theorem raw_any (S : Nat) (w : World) (hs : SrcOK w S) : Calls Try.prog 28 #[.pointer (some ⟨S, 0, none⟩)] w (RawEnd S IsI64 w) := by
  have HS := Lib.hid hs
  obtain ⟨a, b, off, cap, k, l, h0, h1, hf, hb, hk, hl, ha, hc, hr⟩ := hs
  generalize hn : l.length = n at *
  have HN := Lib.hid hn
  clear hn
  by_cases hlt : k < n
  · obtain rfl := ha (by omega)
    have HB := Lib.hid hb
    have hbS : b ≠ S := by have := hb (by omega); omega
    clear hb
    have c1 := hc k hlt
    have r1 := hr k
    generalize hx : l.getD k 0 = x at c1 r1
    clear hx
    have HC := Lib.hid hc
    have HR := Lib.hid hr
    clear hc hr ha
    go_enter Try.func28, Try.ntmps28
    go_wp2
    go_quiet (fail)
    go_wp2
    go_quiet (fail)
    go_wp2
    go_ret
    refine ⟨x, r1, rfl, ?_, ?_⟩
    · exact grown_trans (grown_drewN _ _ _) (grown_trans (grown_set _ ⟨S, 1, none⟩ _) (grown_drewN _ _ _))
    · refine ⟨some ⟨b, off, none⟩, b, off, cap, k + 1, l, ?_, ?_, ?_, by rw [HN.out]; exact HB.out, by rw [HN.out]; omega, by rw [HN.out]; omega, fun _ => rfl, fun i hi => ?_, HR.out⟩
      · rw [HN.out]
        exact (World.cell?_setCell_other _ _ _ _ (by simp)).trans h0
      · exact World.cell?_setCell_same _ _ _ (u := .int .i64 k) h1
      · simp [hf]
      · exact (World.cell?_setCell_other _ _ _ _ (by intro e; injection e with e1; exact hbS e1.symm)).trans (HC.out i (by rw [← HN.out]; exact hi))
  · clear ha hc hr hb
    go_enter Try.func28, Try.ntmps28
    go_wp2
    go_quiet (fail)
    go_wp2
    go_ret
    exact ⟨0, ⟨by omega, by omega⟩, rfl, grown_drewN _ _ _, HS.out.grown (grown_drewN _ _ _)⟩

theorem n_any (S : Nat) (n : Int) (w : World) (hs : SrcOK w S) (hn : 1 ≤ n) (hn2 : n ≤ 4611686018427387904) :
    Calls Try.prog 27 #[.pointer (some ⟨S, 0, none⟩), .int .i64 n] w (RawEnd S (fun r => 0 ≤ r ∧ r < n) w) := by
  have HS := Lib.hid hs
  clear hs
  go_enter Try.func27, Try.ntmps27
  go_wp2_with fail
  refine (raw_any S _ HS.out).mono ?_
  rintro e w' ⟨r, hr, rfl, hg, hs'⟩
  have HG := Lib.hid hg
  have HS' := Lib.hid hs'
  clear hg hs'
  obtain ⟨r1, r2⟩ := hr
  go_wp2_with fail
  refine (mod_pos r n _ hn hn2 r1 r2).mono ?_
  rintro e w'' ⟨rfl, rfl⟩
  have m1 := Lib.hid (Int.emod_nonneg r (b := n) (by omega))
  have m2 := Lib.hid (Int.emod_lt_of_pos r (b := n) (by omega))
  generalize r % n = m at *
  go_wp2
  go_ret
  exact ⟨m, ⟨m1.out, m2.out⟩, rfl, HG.out, HS'.out⟩

theorem pick_any (S b off n cap : Nat) (xs : List Int) (w : World) (hs : SrcOK w S) (hb : b ≠ S) (hn : xs.length = n) (h0 : 0 < n) (hl : n ≤ 1000000)
    (hc : ∀ i, i < n → w.cell? ⟨b, off + i, none⟩ = some (.int .i64 (xs.getD i 0))) :
    Calls Try.prog 26 #[.pointer (some ⟨S, 0, none⟩), .slice (some ⟨b, off, none⟩) n cap] w (RawEnd S (fun r => ∃ j, j < n ∧ r = xs.getD j 0) w) := by
  have HS := Lib.hid hs
  have HC := Lib.hid hc
  have HN := Lib.hid hn
  clear hs hc hn
  go_enter Try.func26, Try.ntmps26
  go_wp2_with fail
  refine (n_any S _ _ HS.out (by omega) (by omega)).mono ?_
  rintro e w' ⟨r, hr, rfl, hg, hs'⟩
  obtain ⟨j, rfl⟩ := Int.eq_ofNat_of_zero_le hr.1
  have hj : j < n := by omega
  have c1 := hg.cell (HC.out j hj) (by simpa using hb)
  generalize hx : xs.getD j 0 = x at c1
  have HX := Lib.hid hx
  have HG := Lib.hid hg
  have HS' := Lib.hid hs'
  clear hg hs' hx
  go_wp2
  go_ret
  exact ⟨x, ⟨j, hj, HX.out.symm⟩, rfl, HG.out, HS'.out⟩

def NewEnd (w : World) (e : Ending) (w' : World) : Prop := e = .returned (.pointer (some ⟨w.heap.size, 0, none⟩)) ∧ w.grownBy w' none ∧ SrcOK w' w.heap.size ∧ w.heap.size < w'.heap.size

theorem addr_add (a : Addr) (b off : Nat) (h : a = ⟨b, off, none⟩) (i : Nat) : a.add i = ⟨b, off + i, none⟩ := by subst h; unfold Addr.add; split <;> simp_all


/-- What came in: a slice of the numbers zs, in memory that was there. -/
def InRow (w : World) (a : Option Addr) (len cap : Nat) (zs : List Int) : Prop :=
  ∃ b off, (0 < len → b < w.heap.size) ∧ zs.length = len ∧ len ≤ cap ∧ cap ≤ 9223372036854775807 ∧ (0 < len → a = some ⟨b, off, none⟩) ∧ (∀ i, i < len → w.cell? ⟨b, off + i, none⟩ = some (.int .i64 (zs.getD i 0))) ∧ ∀ i, IsI64 (zs.getD i 0)

theorem getD_take (l : List Int) (n i : Nat) (h : i < n) : (l.take n).getD i 0 = l.getD i 0 := by
  simp [List.getD_eq_getElem?_getD, h]
theorem getD_take_ok (l : List Int) (n i : Nat) (h : ∀ i, IsI64 (l.getD i 0)) : IsI64 ((l.take n).getD i 0) := by
  by_cases e : i < n
  · rw [getD_take l n i e]; exact h i
  · simp [List.getD_eq_getElem?_getD, List.getElem?_take, e]; exact ⟨by omega, by omega⟩

theorem new_any (a : Option Addr) (len cap : Nat) (zs : List Int) (w : World) (h : InRow w a len cap zs) :
    Calls Try.prog 22 #[.slice a len cap] w (NewEnd w) := by
  obtain ⟨b, off, hb, hzl, hlc, hcap, ha, hc, hr⟩ := h
  have HA := Lib.hid ha
  have HC := Lib.hid hc
  have HR := Lib.hid hr
  have HZ := Lib.hid hzl
  have HB := Lib.hid hb
  clear ha hc hr hzl hb
  by_cases hl : len ≤ 2000
  · go_enter Try.func22, Try.ntmps22
    go_wp2
    go_ret
    refine ⟨rfl, World.grownBy_alloc _ _ _, ⟨a, b, off, cap, 0, zs, by rw [HZ.out]; simp, by simp, by simp, by rw [HZ.out]; exact HB.out, by omega, by rw [HZ.out]; exact hl, by rw [HZ.out]; exact HA.out, fun i hi => ?_, HR.out⟩, by simp⟩
    exact (World.grownBy_alloc w _ none).cell (HC.out i (by rw [← HZ.out]; exact hi)) (by simp)
  · go_enter Try.func22, Try.ntmps22
    go_wp2
    go_ret
    have hz : (zs.take 2000).length = 2000 := by rw [List.length_take, HZ.out]; omega
    refine ⟨rfl, World.grownBy_alloc _ _ _, ⟨a, b, off, cap, 0, zs.take 2000, by rw [hz]; simp, by simp, by simp, fun _ => HB.out (by omega), by omega, by omega, fun _ => HA.out (by omega), fun i hi => ?_, fun i => getD_take_ok zs 2000 i HR.out⟩, by simp⟩
    rw [getD_take zs 2000 i (by omega)]
    exact (World.grownBy_alloc w _ none).cell (HC.out i (by omega)) (by simp)
end Go.Proofs.Ytckohnlpmooecaa
