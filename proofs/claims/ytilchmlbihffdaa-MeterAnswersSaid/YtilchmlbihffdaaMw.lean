/- Contracts of the law's examples and of the reader of meters. -/
import Derived.Test.YtilchmlbihffdaaMq4
namespace Go.Proofs.Ytilchmlbihffdaa
open Go.ChangeShapes Go.WideShapes Go.ChangeAt Go.RowKit

set_option maxHeartbeats 600000 in
theorem awake_any (w : World) : Calls Try.prog 20 #[] w (Ret (.bool true) w) := by
  have h1 := fun w => read_any 2000 16 100100 65530 100 4 w
  have h2 := fun w => litres_any 2000 16 100100 4001 w
  rw [show rd 2000 16 100100 65530 100 4 = (4, 110, 0) by decide] at h1
  rw [show litV 2000 16 100100 4001 = 2002 by decide, show litE 2000 16 100100 4001 = 0 by decide] at h2
  unfold rdv mv cv at h1
  unfold mv at h2
  dsimp only at h1 h2
  have H1 := Lib.hid h1
  have H2 := Lib.hid h2
  clear h1 h2
  go_enter Try.func20, Try.ntmps20
  go_wp2_with fail
  refine (H1.out _).mono ?_
  rintro e w1 ⟨rfl, hg⟩
  have k0 := hg.cell (a := ⟨w.heap.size, 0, none⟩) (v := .int .i64 2000) (by simp) (by simp)
  have k1 := hg.cell (a := ⟨w.heap.size, 1, none⟩) (v := .int .i64 16) (by simp) (by simp)
  have k2 := hg.cell (a := ⟨w.heap.size, 2, none⟩) (v := .int .i64 100100) (by simp) (by simp)
  have s1 : w.heap.size < w1.heap.size := World.block_lt_of_cell? w1 ⟨w.heap.size, 0, none⟩ k0
  have G := Lib.hid (grown_trans (World.grownBy_alloc _ _ _) hg)
  clear hg
  go_wp2_with fail
  refine (H2.out _).mono ?_
  rintro e w2 ⟨rfl, hg⟩
  have j0 := hg.cell (a := ⟨w1.heap.size, 0, none⟩) (v := .int .i64 4) (by simp) (by simp)
  have j1 := hg.cell (a := ⟨w1.heap.size, 1, none⟩) (v := .int .i64 110) (by simp) (by simp)
  have G := Lib.hid (grown_trans G.out (grown_trans (World.grownBy_alloc _ _ _) hg))
  clear hg
  go_wp2
  go_ret
  exact ⟨rfl, G.out⟩

def MeterEnd (S : Nat) (w : World) (e : Ending) (w' : World) : Prop :=
  ∃ p b f : Int, Mt.valid p b f = true ∧ e = .returned (mv p b f) ∧ w.grownBy w' (some S) ∧ SrcOK w' S

theorem src_lt {w : World} {S : Nat} (h : SrcOK w S) : S < w.heap.size := by
  obtain ⟨a, b, off, cap, k, l, h0, _⟩ := h
  exact World.block_lt_of_cell? w ⟨S, 0, none⟩ h0

theorem pick_lit (S n X : Nat) (xs : List Int) (C : Array Value) (w : World) (hX : w.heap.size = X) (hs : SrcOK w S) (hn : xs.length = n) (h0 : 0 < n) (hl : n ≤ 1000000)
    (hC : ∀ i, i < n → C[i]? = some (.int .i64 (xs.getD i 0))) :
    Calls Try.prog 11 #[.pointer (some ⟨S, 0, none⟩), .slice (some ⟨X, 0, none⟩) n n] (w.alloc (.cells C 3))
      fun e w' => ∃ r : Int, r ∈ xs ∧ e = .returned (.int .i64 r) ∧ w.grownBy w' (some S) ∧ SrcOK w' S := by
  subst hX
  have hS := src_lt hs
  refine (pick_any S w.heap.size 0 n n xs _ (hs.grown (World.grownBy_alloc _ _ _)) (by omega) hn h0 hl ?_).mono ?_
  · intro i hi
    rw [Nat.zero_add, World.cell?_alloc_new]
    exact hC i hi
  · rintro e w1 ⟨r, ⟨j, hj, rfl⟩, rfl, hg, hs1⟩
    refine ⟨_, ?_, rfl, grown_trans (World.grownBy_alloc _ _ _) hg, hs1⟩
    have hj2 : j < xs.length := by omega
    rw [List.getD_eq_getElem?_getD, List.getElem?_eq_getElem hj2]
    exact List.getElem_mem hj2

/-- A result that lies in block X, and is still zero. -/
def ZW (w : World) (X : Nat) : Prop :=
  w.cell? ⟨X, 0, none⟩ = some (.int .i64 0) ∧ w.cell? ⟨X, 1, none⟩ = some (.int .i64 0) ∧ w.cell? ⟨X, 2, none⟩ = some (.int .i64 0) ∧
  w.frozen? ⟨X, 0, none⟩ = false ∧ w.frozen? ⟨X, 1, none⟩ = false ∧ w.frozen? ⟨X, 2, none⟩ = false
theorem ZW.row {w w' : World} {X S : Nat} (h : ZW w X) (hg : w.grownBy w' (some S)) (hX : S < X) : ZW w' X := by
  obtain ⟨h0, h1, h2, h3, h4, h5⟩ := h
  have n0 : some X ≠ some S := by intro e; injection e; omega
  exact ⟨hg.cell h0 n0, hg.cell h1 n0, hg.cell h2 n0, grown_frozen hg h0 h3 n0, grown_frozen hg h1 h4 n0, grown_frozen hg h2 h5 n0⟩
theorem ZW.start (w : World) : ZW (w.alloc (Obj.cells #[.int .i64 0, .int .i64 0, .int .i64 0] 23)) w.heap.size := by
  unfold ZW
  refine ⟨?_, ?_, ?_, ?_, ?_, ?_⟩
  all_goals go_simp
theorem stored3 (w1 : World) (B : Nat) {u0 u1 u2 : Value} (v0 v1 v2 : Value) (h0 : w1.cell? ⟨B, 0, none⟩ = some u0) (h1 : w1.cell? ⟨B, 1, none⟩ = some u1) (h2 : w1.cell? ⟨B, 2, none⟩ = some u2) :
    (((w1.setCell ⟨B, 0, none⟩ v0).setCell ⟨B, 1, none⟩ v1).setCell ⟨B, 2, none⟩ v2).cell? ⟨B, 0, none⟩ = some v0 ∧ (((w1.setCell ⟨B, 0, none⟩ v0).setCell ⟨B, 1, none⟩ v1).setCell ⟨B, 2, none⟩ v2).cell? ⟨B, 1, none⟩ = some v1 ∧ (((w1.setCell ⟨B, 0, none⟩ v0).setCell ⟨B, 1, none⟩ v1).setCell ⟨B, 2, none⟩ v2).cell? ⟨B, 2, none⟩ = some v2 := by
  obtain ⟨a, b⟩ := stored2 w1 B v0 v1 h0 h1
  refine ⟨(World.cell?_setCell_other _ _ _ _ (by simp)).trans a, (World.cell?_setCell_other _ _ _ _ (by simp)).trans b, ?_⟩
  exact World.cell?_setCell_same _ _ _ (u := u2) ((World.cell?_setCell_other _ _ _ _ (by simp)).trans ((World.cell?_setCell_other _ _ _ _ (by simp)).trans h2))

theorem grown_skip {w wr w' : World} {S B : Nat} (h : w.grownBy wr (some S)) (k : wr.grownBy w' (some B)) (hB : w.heap.size ≤ B) : w.grownBy w' (some S) :=
  ⟨k.os.trans h.os, k.tape.trans h.tape, k.output.trans h.output, Nat.le_trans h.size k.size, fun i hi hr => (k.block i (Nat.lt_of_lt_of_le hi h.size) (by intro e; injection e with e; omega)).trans (h.block i hi hr)⟩

set_option maxHeartbeats 600000 in
theorem meter_any (S : Nat) (w : World) (hs : SrcOK w S) : Calls Try.prog 9 #[.pointer (some ⟨S, 0, none⟩)] w (MeterEnd S w) := by
  have hS := src_lt hs
  have HS := Lib.hid hs
  clear hs
  go_enter Try.func9, Try.ntmps9
  go_wp2_with fail
  refine Calls.mono (pick_lit S 5 (w.heap.size + 1) [1, 3, 1000, 2000, 1048576] #[.int .i64 1, .int .i64 3, .int .i64 1000, .int .i64 2000, .int .i64 1048576] (w.alloc (Obj.cells #[.int .i64 0, .int .i64 0, .int .i64 0] 23)) (by simp) (HS.out.grown (World.grownBy_alloc _ _ _)) rfl (by omega) (by omega) ?_) ?_
  · intro i hi
    match i, hi with
    | 0, _ => rfl
    | 1, _ => rfl
    | 2, _ => rfl
    | 3, _ => rfl
    | 4, _ => rfl
  rintro e w1 ⟨p, hp, rfl, hg, hs⟩
  have P : Hid (1 ≤ p ∧ p ≤ 1048576) := by
    simp at hp
    show 1 ≤ p ∧ p ≤ 1048576
    omega
  have Z := Lib.hid ((ZW.start w).row hg hS)
  have G := Lib.hid (grown_trans (World.grownBy_alloc w (Obj.cells #[.int .i64 0, .int .i64 0, .int .i64 0] 23) (some S)) hg)
  have HS := Lib.hid hs
  clear hp hg hs
  go_wp2_with fail
  refine Calls.mono (pick_lit S 3 w1.heap.size [16, 16, 32] #[.int .i64 16, .int .i64 16, .int .i64 32] w1 rfl HS.out rfl (by omega) (by omega) ?_) ?_
  · intro i hi
    match i, hi with
    | 0, _ => rfl
    | 1, _ => rfl
    | 2, _ => rfl
  rintro e w2 ⟨b, hb, rfl, hg, hs⟩
  have B : Hid (b = 16 ∨ b = 32) := by
    simp at hb
    show b = 16 ∨ b = 32
    omega
  have Z := Lib.hid (Z.out.row hg hS)
  have G := Lib.hid (grown_trans G.out hg)
  have HS := Lib.hid hs
  clear hb hg hs
  go_wp2_with fail
  refine Calls.mono (pick_lit S 5 w2.heap.size [100000, 100100, 99871, 50000, 200000] #[.int .i64 100000, .int .i64 100100, .int .i64 99871, .int .i64 50000, .int .i64 200000] w2 rfl HS.out rfl (by omega) (by omega) ?_) ?_
  · intro i hi
    match i, hi with
    | 0, _ => rfl
    | 1, _ => rfl
    | 2, _ => rfl
    | 3, _ => rfl
    | 4, _ => rfl
  rintro e w3 ⟨f, hf, rfl, hg, hs⟩
  have F : Hid (50000 ≤ f ∧ f ≤ 200000) := by
    simp at hf
    show 50000 ≤ f ∧ f ≤ 200000
    omega
  have Z := Lib.hid (Z.out.row hg hS)
  have G := Lib.hid (grown_trans G.out hg)
  have HS := Lib.hid hs
  clear hf hg hs
  obtain ⟨z0, z1, z2, z3, z4, z5⟩ := Z.out
  obtain ⟨q0, q1, q2⟩ := stored3 w3 w.heap.size (.int .i64 p) (.int .i64 b) (.int .i64 f) z0 z1 z2
  have GE := Lib.hid (grown_skip (grown_skip (grown_skip G.out (grown_set _ ⟨w.heap.size, 0, none⟩ (.int .i64 p)) (Nat.le_refl _)) (grown_set _ ⟨w.heap.size, 1, none⟩ (.int .i64 b)) (Nat.le_refl _)) (grown_set _ ⟨w.heap.size, 2, none⟩ (.int .i64 f)) (Nat.le_refl _))
  have SE := Lib.hid (((HS.out.grownRow (grown_set _ ⟨w.heap.size, 0, none⟩ (.int .i64 p)) (fun k e => by cases e; exact hS)).grownRow (grown_set _ ⟨w.heap.size, 1, none⟩ (.int .i64 b)) (fun k e => by cases e; exact hS)).grownRow (grown_set _ ⟨w.heap.size, 2, none⟩ (.int .i64 f)) (fun k e => by cases e; exact hS))
  go_wp2
  refine bodyPost_ret (v := mv p b f) (by simp [results, Try.results9, go_sem, q0, q1, q2, mv]) rfl ⟨p, b, f, Mt.valid_mk P.out.1 P.out.2 B.out F.out.1 F.out.2, rfl, GE.out, SE.out⟩
end Go.Proofs.Ytilchmlbihffdaa
