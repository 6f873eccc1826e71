/- Contracts of package meter and of the reader of meters. -/
import Derived.Test.YtjeejdoahhkjbaaKp
import Derived.Test.YtjeejdoahhkjbaaMm
import Derived.Deep.RegionHeld3
import Derived.Deep.DeepCutAuto
namespace Go.Proofs.Ytjeejdoahhkjbaa
open Go.ChangeShapes Go.WideShapes Go.ChangeAt Go.RowKit

def mv (p b f : Int) : Value := .agg #[.int .i64 p, .int .i64 b, .int .i64 f]
def cv (l q : Int) : Value := .agg #[.int .i64 l, .int .i64 q]
/-- The call returned v; it made memory at most. -/
def Ret (v : Value) (w : World) (e : Ending) (w' : World) : Prop := e = .returned v ∧ w.grownBy w' none
theorem meterValid_yes (p b f : Int) (w : World) (h : Mt.valid p b f = true) :
    Calls Try.prog 28 #[mv p b f] w (Ret (.bool true) w) := by
  obtain ⟨h1, h2, h3, h4, h5⟩ := Mt.valid_true h
  clear h
  unfold mv
  rcases h3 with rfl | rfl
  · go_enter Try.func28, Try.ntmps28
    go_wp2
    go_ret
    exact ⟨rfl, World.grownBy_alloc _ _ _⟩
  · go_enter Try.func28, Try.ntmps28
    go_wp2
    go_ret
    exact ⟨rfl, World.grownBy_alloc _ _ _⟩
theorem meterValid_no (p b f : Int) (w : World) (h : Mt.valid p b f = false) :
    Calls Try.prog 28 #[mv p b f] w (Ret (.bool false) w) := by
  have h := Mt.valid_false h
  unfold mv
  by_cases h1 : 1 ≤ p
  · by_cases h2 : p ≤ 1048576
    · by_cases h3 : b = 16
      · subst h3
        by_cases h4 : 50000 ≤ f
        · have h5 : ¬ f ≤ 200000 := by omega
          clear h
          go_enter Try.func28, Try.ntmps28
          go_wp2
          go_ret
          exact ⟨rfl, World.grownBy_alloc _ _ _⟩
        · clear h
          go_enter Try.func28, Try.ntmps28
          go_wp2
          go_ret
          exact ⟨rfl, World.grownBy_alloc _ _ _⟩
      · by_cases h6 : b = 32
        · subst h6
          by_cases h4 : 50000 ≤ f
          · have h5 : ¬ f ≤ 200000 := by omega
            clear h
            go_enter Try.func28, Try.ntmps28
            go_wp2
            go_ret
            exact ⟨rfl, World.grownBy_alloc _ _ _⟩
          · clear h
            go_enter Try.func28, Try.ntmps28
            go_wp2
            go_ret
            exact ⟨rfl, World.grownBy_alloc _ _ _⟩
        · clear h
          go_enter Try.func28, Try.ntmps28
          go_wp2
          go_ret
          exact ⟨rfl, World.grownBy_alloc _ _ _⟩
    · clear h
      go_enter Try.func28, Try.ntmps28
      go_wp2
      go_ret
      exact ⟨rfl, World.grownBy_alloc _ _ _⟩
  · clear h
    go_enter Try.func28, Try.ntmps28
    go_wp2
    go_ret
    exact ⟨rfl, World.grownBy_alloc _ _ _⟩
theorem refValid_yes (p b f : Int) (w : World) (h : Mt.valid p b f = true) :
    Calls Try.prog 29 #[mv p b f] w (Ret (.bool true) w) := by
  obtain ⟨h1, h2, h3, h4, h5⟩ := Mt.valid_true h
  clear h
  unfold mv
  rcases h3 with rfl | rfl
  · go_enter Try.func29, Try.ntmps29
    go_wp2
    go_ret
    exact ⟨rfl, World.grownBy_alloc _ _ _⟩
  · go_enter Try.func29, Try.ntmps29
    go_wp2
    go_ret
    exact ⟨rfl, World.grownBy_alloc _ _ _⟩
theorem refValid_no (p b f : Int) (w : World) (h : Mt.valid p b f = false) :
    Calls Try.prog 29 #[mv p b f] w (Ret (.bool false) w) := by
  have h := Mt.valid_false h
  unfold mv
  by_cases h1 : 1 ≤ p
  · by_cases h2 : p ≤ 1048576
    · by_cases h3 : b = 16
      · subst h3
        by_cases h4 : 50000 ≤ f
        · have h5 : ¬ f ≤ 200000 := by omega
          clear h
          go_enter Try.func29, Try.ntmps29
          go_wp2
          go_ret
          exact ⟨rfl, World.grownBy_alloc _ _ _⟩
        · clear h
          go_enter Try.func29, Try.ntmps29
          go_wp2
          go_ret
          exact ⟨rfl, World.grownBy_alloc _ _ _⟩
      · by_cases h6 : b = 32
        · subst h6
          by_cases h4 : 50000 ≤ f
          · have h5 : ¬ f ≤ 200000 := by omega
            clear h
            go_enter Try.func29, Try.ntmps29
            go_wp2
            go_ret
            exact ⟨rfl, World.grownBy_alloc _ _ _⟩
          · clear h
            go_enter Try.func29, Try.ntmps29
            go_wp2
            go_ret
            exact ⟨rfl, World.grownBy_alloc _ _ _⟩
        · clear h
          go_enter Try.func29, Try.ntmps29
          go_wp2
          go_ret
          exact ⟨rfl, World.grownBy_alloc _ _ _⟩
    · clear h
      go_enter Try.func29, Try.ntmps29
      go_wp2
      go_ret
      exact ⟨rfl, World.grownBy_alloc _ _ _⟩
  · clear h
    go_enter Try.func29, Try.ntmps29
    go_wp2
    go_ret
    exact ⟨rfl, World.grownBy_alloc _ _ _⟩
theorem grown_frozen {w w' : World} {row : Option Nat} (h : w.grownBy w' row) {a : Addr} {v : Value} (hc : w.cell? a = some v) (hf : w.frozen? a = false) (hr : some a.block ≠ row) : w'.frozen? a = false := by
  rw [World.frozen?_of_block (h.block a.block (World.block_lt_of_cell? _ _ hc) hr)]; exact hf
theorem grown_off {w wr w' : World} {B : Nat} (h : w.grownBy wr none) (k : wr.grownBy w' (some B)) (hB : w.heap.size ≤ B) : w.grownBy w' none :=
  ⟨k.os.trans h.os, k.tape.trans h.tape, k.output.trans h.output, Nat.le_trans h.size k.size, fun i hi _ => (k.block i (Nat.lt_of_lt_of_le hi h.size) (by intro e; injection e with e; omega)).trans (h.block i hi (by simp))⟩
theorem start_grown (w : World) (a b c : Obj) : w.grownBy (((w.alloc a).alloc b).alloc c) none := grown_trans (grown_trans (World.grownBy_alloc _ _ _) (World.grownBy_alloc _ _ _)) (World.grownBy_alloc _ _ _)
/-- Two cells of a block are written. -/
theorem stored2 (w1 : World) (B : Nat) {u0 u1 : Value} (v0 v1 : Value) (h0 : w1.cell? ⟨B, 0, none⟩ = some u0) (h1 : w1.cell? ⟨B, 1, none⟩ = some u1) :
    ((w1.setCell ⟨B, 0, none⟩ v0).setCell ⟨B, 1, none⟩ v1).cell? ⟨B, 0, none⟩ = some v0 ∧ ((w1.setCell ⟨B, 0, none⟩ v0).setCell ⟨B, 1, none⟩ v1).cell? ⟨B, 1, none⟩ = some v1 := by
  constructor
  · exact (World.cell?_setCell_other _ _ _ _ (by simp)).trans (World.cell?_setCell_same _ _ _ h0)
  · exact World.cell?_setCell_same _ _ _ (u := u1) ((World.cell?_setCell_other _ _ _ _ (by simp)).trans h1)
theorem stored2_grown {w w1 : World} {B : Nat} (v0 v1 : Value) (h : w.grownBy w1 none) (hB : w.heap.size ≤ B) : w.grownBy ((w1.setCell ⟨B, 0, none⟩ v0).setCell ⟨B, 1, none⟩ v1) none :=
  grown_off (grown_off h (grown_set _ ⟨B, 0, none⟩ _) hB) (grown_set _ ⟨B, 1, none⟩ _) hB
def MeterEnd (S : Nat) (w : World) (e : Ending) (w' : World) : Prop :=
  ∃ p b f : Int, Mt.valid p b f = true ∧ e = .returned (mv p b f) ∧ w.grownBy w' (some S) ∧ SrcOK w' S
theorem src_lt {w : World} {S : Nat} (h : SrcOK w S) : S < w.heap.size := by
  obtain ⟨a, b, off, cap, k, l, h0, _⟩ := h
  exact World.block_lt_of_cell? w ⟨S, 0, none⟩ h0
theorem pick_lit (S n X : Nat) (xs : List Int) (C : Array Value) (w : World) (hX : w.heap.size = X) (hs : SrcOK w S) (hn : xs.length = n) (h0 : 0 < n) (hl : n ≤ 1000000)
    (hC : ∀ i, i < n → C[i]? = some (.int .i64 (xs.getD i 0))) :
    Calls Try.prog 12 #[.pointer (some ⟨S, 0, none⟩), .slice (some ⟨X, 0, none⟩) n n] (w.alloc (.cells C 3))
      fun e w' => ∃ r : Int, r ∈ xs ∧ e = .returned (.int .i64 r) ∧ w.grownBy w' (some S) ∧ SrcOK w' S := by
  subst hX
  have hS := src_lt hs
  refine (pick_any S w.heap.size 0 n n xs _ (hs.grown (World.grownBy_alloc _ _ _)) (by omega) hn h0 hl ?_).mono ?_
  · intro i hi
    rw [Nat.zero_add, World.cell?_alloc_new]
    exact hC i hi
  · rintro e w1 ⟨r, ⟨j, hj, rfl⟩, rfl, hg, hs1⟩
    refine ⟨_, ?_, rfl, grown_trans (World.grownBy_alloc _ _ _) hg, hs1⟩
    have hj2 : j < xs.length := by omega
    rw [List.getD_eq_getElem?_getD, List.getElem?_eq_getElem hj2]
    exact List.getElem_mem hj2
/-- A result that lies in block X, and is still zero. -/
def ZW (w : World) (X : Nat) : Prop :=
  w.cell? ⟨X, 0, none⟩ = some (.int .i64 0) ∧ w.cell? ⟨X, 1, none⟩ = some (.int .i64 0) ∧ w.cell? ⟨X, 2, none⟩ = some (.int .i64 0) ∧
  w.frozen? ⟨X, 0, none⟩ = false ∧ w.frozen? ⟨X, 1, none⟩ = false ∧ w.frozen? ⟨X, 2, none⟩ = false
theorem ZW.row {w w' : World} {X S : Nat} (h : ZW w X) (hg : w.grownBy w' (some S)) (hX : S < X) : ZW w' X := by
  obtain ⟨h0, h1, h2, h3, h4, h5⟩ := h
  have n0 : some X ≠ some S := by intro e; injection e; omega
  exact ⟨hg.cell h0 n0, hg.cell h1 n0, hg.cell h2 n0, grown_frozen hg h0 h3 n0, grown_frozen hg h1 h4 n0, grown_frozen hg h2 h5 n0⟩
theorem ZW.start (w : World) : ZW (w.alloc (Obj.cells #[.int .i64 0, .int .i64 0, .int .i64 0] 25)) w.heap.size := by
  unfold ZW
  refine ⟨?_, ?_, ?_, ?_, ?_, ?_⟩
  all_goals go_simp
theorem stored3 (w1 : World) (B : Nat) {u0 u1 u2 : Value} (v0 v1 v2 : Value) (h0 : w1.cell? ⟨B, 0, none⟩ = some u0) (h1 : w1.cell? ⟨B, 1, none⟩ = some u1) (h2 : w1.cell? ⟨B, 2, none⟩ = some u2) :
    (((w1.setCell ⟨B, 0, none⟩ v0).setCell ⟨B, 1, none⟩ v1).setCell ⟨B, 2, none⟩ v2).cell? ⟨B, 0, none⟩ = some v0 ∧ (((w1.setCell ⟨B, 0, none⟩ v0).setCell ⟨B, 1, none⟩ v1).setCell ⟨B, 2, none⟩ v2).cell? ⟨B, 1, none⟩ = some v1 ∧ (((w1.setCell ⟨B, 0, none⟩ v0).setCell ⟨B, 1, none⟩ v1).setCell ⟨B, 2, none⟩ v2).cell? ⟨B, 2, none⟩ = some v2 := by
  obtain ⟨a, b⟩ := stored2 w1 B v0 v1 h0 h1
  refine ⟨(World.cell?_setCell_other _ _ _ _ (by simp)).trans a, (World.cell?_setCell_other _ _ _ _ (by simp)).trans b, ?_⟩
  exact World.cell?_setCell_same _ _ _ (u := u2) ((World.cell?_setCell_other _ _ _ _ (by simp)).trans ((World.cell?_setCell_other _ _ _ _ (by simp)).trans h2))
theorem grown_skip {w wr w' : World} {S B : Nat} (h : w.grownBy wr (some S)) (k : wr.grownBy w' (some B)) (hB : w.heap.size ≤ B) : w.grownBy w' (some S) :=
  ⟨k.os.trans h.os, k.tape.trans h.tape, k.output.trans h.output, Nat.le_trans h.size k.size, fun i hi hr => (k.block i (Nat.lt_of_lt_of_le hi h.size) (by intro e; injection e with e; omega)).trans (h.block i hi hr)⟩
set_option maxHeartbeats 600000 in
theorem meter_any (S : Nat) (w : World) (hs : SrcOK w S) : Calls Try.prog 11 #[.pointer (some ⟨S, 0, none⟩)] w (MeterEnd S w) := by
  have hS := src_lt hs
  have HS := Lib.hid hs
  clear hs
  go_enter Try.func11, Try.ntmps11
  go_wp2_with fail
  refine Calls.mono (pick_lit S 5 (w.heap.size + 1) [1, 3, 1000, 2000, 1048576] #[.int .i64 1, .int .i64 3, .int .i64 1000, .int .i64 2000, .int .i64 1048576] (w.alloc (Obj.cells #[.int .i64 0, .int .i64 0, .int .i64 0] 25)) (by simp) (HS.out.grown (World.grownBy_alloc _ _ _)) rfl (by omega) (by omega) ?_) ?_
  · intro i hi
    match i, hi with
    | 0, _ => rfl
    | 1, _ => rfl
    | 2, _ => rfl
    | 3, _ => rfl
    | 4, _ => rfl
  rintro e w1 ⟨p, hp, rfl, hg, hs⟩
  have P : Hid (1 ≤ p ∧ p ≤ 1048576) := by
    simp at hp
    show 1 ≤ p ∧ p ≤ 1048576
    omega
  have Z := Lib.hid ((ZW.start w).row hg hS)
  have G := Lib.hid (grown_trans (World.grownBy_alloc w (Obj.cells #[.int .i64 0, .int .i64 0, .int .i64 0] 25) (some S)) hg)
  have HS := Lib.hid hs
  clear hp hg hs
  go_wp2_with fail
  refine Calls.mono (pick_lit S 3 w1.heap.size [16, 16, 32] #[.int .i64 16, .int .i64 16, .int .i64 32] w1 rfl HS.out rfl (by omega) (by omega) ?_) ?_
  · intro i hi
    match i, hi with
    | 0, _ => rfl
    | 1, _ => rfl
    | 2, _ => rfl
  rintro e w2 ⟨b, hb, rfl, hg, hs⟩
  have B : Hid (b = 16 ∨ b = 32) := by
    simp at hb
    show b = 16 ∨ b = 32
    omega
  have Z := Lib.hid (Z.out.row hg hS)
  have G := Lib.hid (grown_trans G.out hg)
  have HS := Lib.hid hs
  clear hb hg hs
  go_wp2_with fail
  refine Calls.mono (pick_lit S 5 w2.heap.size [100000, 100100, 99871, 50000, 200000] #[.int .i64 100000, .int .i64 100100, .int .i64 99871, .int .i64 50000, .int .i64 200000] w2 rfl HS.out rfl (by omega) (by omega) ?_) ?_
  · intro i hi
    match i, hi with
    | 0, _ => rfl
    | 1, _ => rfl
    | 2, _ => rfl
    | 3, _ => rfl
    | 4, _ => rfl
  rintro e w3 ⟨f, hf, rfl, hg, hs⟩
  have F : Hid (50000 ≤ f ∧ f ≤ 200000) := by
    simp at hf
    show 50000 ≤ f ∧ f ≤ 200000
    omega
  have Z := Lib.hid (Z.out.row hg hS)
  have G := Lib.hid (grown_trans G.out hg)
  have HS := Lib.hid hs
  clear hf hg hs
  obtain ⟨z0, z1, z2, z3, z4, z5⟩ := Z.out
  obtain ⟨q0, q1, q2⟩ := stored3 w3 w.heap.size (.int .i64 p) (.int .i64 b) (.int .i64 f) z0 z1 z2
  have GE := Lib.hid (grown_skip (grown_skip (grown_skip G.out (grown_set _ ⟨w.heap.size, 0, none⟩ (.int .i64 p)) (Nat.le_refl _)) (grown_set _ ⟨w.heap.size, 1, none⟩ (.int .i64 b)) (Nat.le_refl _)) (grown_set _ ⟨w.heap.size, 2, none⟩ (.int .i64 f)) (Nat.le_refl _))
  have SE := Lib.hid (((HS.out.grownRow (grown_set _ ⟨w.heap.size, 0, none⟩ (.int .i64 p)) (fun k e => by cases e; exact hS)).grownRow (grown_set _ ⟨w.heap.size, 1, none⟩ (.int .i64 b)) (fun k e => by cases e; exact hS)).grownRow (grown_set _ ⟨w.heap.size, 2, none⟩ (.int .i64 f)) (fun k e => by cases e; exact hS))
  go_wp2
  refine bodyPost_ret (v := mv p b f) (by simp [results, Try.results11, go_sem, q0, q1, q2, mv]) rfl ⟨p, b, f, Mt.valid_mk P.out.1 P.out.2 B.out F.out.1 F.out.2, rfl, GE.out, SE.out⟩
/-- In the world w block B begins with the numbers xs. -/
def Cells (w : World) (B : Nat) (xs : List Int) : Prop := ∀ j, j < xs.length → w.cell? ⟨B, j, none⟩ = some (.int .i64 (xs.getD j 0))
theorem Cells.row {w w' : World} {B : Nat} {xs : List Int} {row : Option Nat} (h : Cells w B xs) (hg : w.grownBy w' row) (hr : some B ≠ row) : Cells w' B xs := fun j hj => hg.cell (h j hj) hr
theorem Cells.two {w : World} {B : Nat} {x y : Int} (h : Cells w B [x, y]) : w.cell? ⟨B, 0, none⟩ = some (.int .i64 x) ∧ w.cell? ⟨B, 1, none⟩ = some (.int .i64 y) := ⟨h 0 (by simp), h 1 (by simp)⟩
theorem Cells.three {w : World} {B : Nat} {x y z : Int} (h : Cells w B [x, y, z]) : w.cell? ⟨B, 0, none⟩ = some (.int .i64 x) ∧ w.cell? ⟨B, 1, none⟩ = some (.int .i64 y) ∧ w.cell? ⟨B, 2, none⟩ = some (.int .i64 z) := ⟨h 0 (by simp), h 1 (by simp), h 2 (by simp)⟩
theorem Cells.mk2 {w : World} {B : Nat} {x y : Int} (h0 : w.cell? ⟨B, 0, none⟩ = some (.int .i64 x)) (h1 : w.cell? ⟨B, 1, none⟩ = some (.int .i64 y)) : Cells w B [x, y] := fun j hj => by
  match j, hj with
  | 0, _ => exact h0
  | 1, _ => exact h1
theorem Cells.mk3 {w : World} {B : Nat} {x y z : Int} (h0 : w.cell? ⟨B, 0, none⟩ = some (.int .i64 x)) (h1 : w.cell? ⟨B, 1, none⟩ = some (.int .i64 y)) (h2 : w.cell? ⟨B, 2, none⟩ = some (.int .i64 z)) : Cells w B [x, y, z] := fun j hj => by
  match j, hj with
  | 0, _ => exact h0
  | 1, _ => exact h1
  | 2, _ => exact h2
theorem InRow.grown {w w' : World} {a : Option Addr} {len cap : Nat} {zs : List Int} (h : InRow w a len cap zs) (hg : w.grownBy w' none) : InRow w' a len cap zs := by
  obtain ⟨b, off, hb, h1, h2, h3, h4, h5, h6⟩ := h
  exact ⟨b, off, fun h0 => Nat.lt_of_lt_of_le (hb h0) hg.size, h1, h2, h3, h4, fun i hi => hg.cell (h5 i hi) (by simp), h6⟩
end Go.Proofs.Ytjeejdoahhkjbaa
