/- What the laws over bytes shared: known lengths, parts of slices, bytes outside of a block, regions that draw their order (a stronger S), calls with known results. -/
import Derived.Test.YtcjbhkocpfkcbaaDoorWireRUnst
import Derived.Test.YtcjbhkocpfkcbaaDoorWireRInt
import Derived.Test.YtcjbhkocpfkcbaaDoorWirePut
import Derived.Test.YtcjbhkocpfkcbaaDoorWireKeep
import Derived.Deep.RegionHeld3
namespace Go.Proofs.YtcjbhkocpfkcbaaDoor.Wr
open Go.ChangeShapes Go.WideShapes Go.ChangeAt Go.RowKit

theorem RB.take {w : World} {A : Option Addr} {n : Nat} {l : List UInt8} (h : RB w A n l) (k : Nat) (hk : k ≤ n) : RB w A k (l.take k) := by
  refine ⟨by rw [List.length_take, h.1]; omega, fun i hi => ?_⟩
  obtain ⟨b, off, e, hc⟩ := h.2 i (by omega)
  exact ⟨b, off, e, by rw [hc]; simp [List.getD_eq_getElem?_getD, hi]⟩

def OwnN (l : List UInt8) (N : Nat) (w : World) (e : Ending) (w' : World) : Prop := ∃ A c, e = .returned (.slice A N c) ∧ Made w w' A N c l

theorem own_n {f : FuncId} {args : Array Value} {l : List UInt8} {w : World} (N : Nat) (h : Calls Tryd.prog f args w (OwnEnd l w)) (hN : l.length = N) : Calls Tryd.prog f args w (OwnN l N w) :=
  h.mono fun e w' ⟨A, n, c, he, hm⟩ => by
    have := hm.len
    obtain rfl : n = N := by omega
    exact ⟨A, c, he, hm⟩

theorem RB.drop {w : World} {b off n : Nat} {l : List UInt8} (h : RB w (some ⟨b, off, none⟩) n l) (k m : Nat) (hk : k + m = n) : RB w (some ⟨b, off + k, none⟩) m (l.drop k) := by
  refine ⟨by rw [List.length_drop, h.1]; omega, fun i hi => ?_⟩
  obtain ⟨b', off', e, hc⟩ := h.2 (k + i) (by omega)
  injection e with e
  injection e with e1 e2
  subst e1; subst e2
  exact ⟨b, off + k, rfl, by rw [Nat.add_assoc, hc]; simp [List.getD_eq_getElem?_getD]⟩

theorem un_at {A : Option Addr} {n c : Nat} {w : World} {l r : List UInt8} {v : Int} (h : Calls Tryd.prog 38 #[.slice A n c] w (UnEnd (Wm.unst l) w)) (hr : Wm.unst l = (r, v)) :
    Calls Tryd.prog 38 #[.slice A n c] w fun e w' => ∃ A' n' c', e = .returned (.tuple #[.slice A' n' c', .int .i64 v]) ∧ Made w w' A' n' c' r := by
  rw [hr] at h; exact h

/-- What came in: a slice of bytes. -/
def InB (w : World) (A : Option Addr) (n c : Nat) (l : List UInt8) : Prop := RB w A n l ∧ n ≤ c ∧ c ≤ 9223372036854775807

theorem bvs_set (l : List UInt8) (i : Nat) (y : UInt8) : bvs (l.set i y) = (bvs l).set i (bv y) := by simp [bvs, List.map_set]

theorem Made.store {w0 w : World} {g n c : Nat} {l : List UInt8} (h : Made w0 w (some ⟨g, 0, none⟩) n c l) (i : Nat) (y : UInt8) (hg : w0.heap.size ≤ g) :
    Made w0 (w.setCell ⟨g, i, none⟩ (.int .u8 (y.toNat : Int))) (some ⟨g, 0, none⟩) n c (l.set i y) := by
  obtain ⟨h1, h2⟩ := h.own.stored i (bv y)
  exact ⟨by rw [bvs_set]; exact h1, grown_off h.gr h2 hg⟩

theorem xor8_any (x y : UInt8) : bits .xor .u8 (x.toNat : Int) (y.toNat : Int) = ((x ^^^ y).toNat : Int) := by
  have h := u8_xor_nat x.toNat y.toNat x.toNat_lt y.toNat_lt
  rw [UInt8.toNat_xor]; exact h

theorem xor_ne (x y : UInt8) (h : y ≠ 0) : x ^^^ y ≠ x := by
  intro e
  apply h
  have := congrArg (x ^^^ ·) e
  simpa [← UInt8.xor_assoc] using this

def TrueEnd (w : World) (e : Ending) (w' : World) : Prop := e = .returned (.bool true) ∧ Below w.heap.size w w'

theorem int_at {A : Option Addr} {n c : Nat} {p x y z : Int} {l : List UInt8} {w : World} (h : Calls Tryd.prog 54 #[.slice A n c, .int .i64 p] w (IntEnd (Wm.intR l p) w)) (hr : Wm.intR l p = (x, y, z)) :
    Calls Tryd.prog 54 #[.slice A n c, .int .i64 p] w fun e w' => e = .returned (.tuple #[.int .i64 x, .int .i64 y, .int .i64 z]) ∧ w = w' := by
  rw [hr] at h; exact h

theorem rb_at (w : World) (cs : Array Value) (n H : Nat) (l : List UInt8) (hl : cs.toList = bvs l) (hn : l.length = n) (hs : n ≤ 1000) (hH : w.heap.size = H) : RB (w.alloc (.cells cs 5)) (some ⟨H, 0, none⟩) n l := by
  subst hH; exact rb_lit w cs n l hl hn hs

theorem rb_marked (w : World) (cs : Array Value) (n : Nat) (l : List UInt8) (lo hi : Nat) (hl : cs.toList = bvs l) (hn : l.length = n) : RB (w.alloc (.cells cs 5 (lo, hi))) (some ⟨w.heap.size, 0, none⟩) n l := by
  refine ⟨hn, fun i hi => ⟨w.heap.size, 0, rfl, ?_⟩⟩
  rw [Nat.zero_add, World.cell?_alloc_mark, ← Array.getElem?_toList, hl, bvs_get l i (by omega)]
  rfl

theorem unst_cases (b : List UInt8) : (Wm.unst b).2 = 0 ∨ (Wm.unst b).2 = 2 ∨ (Wm.unst b).2 = 3 := by
  unfold Wm.unst
  split
  · exact .inr (.inl rfl)
  · split
    · exact .inl rfl
    · exact .inr (.inr rfl)

theorem frame_get (l : List UInt8) (i M : Nat) (hM : (Wm.esc l).length = M) (hi : i < M + 2) :
    (i = 0 → (Wm.frame l).getD i 0 = 126) ∧ (i = M + 1 → (Wm.frame l).getD i 0 = 124) ∧ (i ≠ 0 → i ≠ M + 1 → (Wm.frame l).getD i 0 ≠ 126 ∧ (Wm.frame l).getD i 0 ≠ 124) := by
  refine ⟨fun h => by subst h; rfl, fun h => ?_, fun h0 h1 => ?_⟩
  · subst h
    show (126 :: (Wm.esc l ++ [124])).getD (M + 1) 0 = 124
    simp [← hM]
  · obtain ⟨j, rfl⟩ : ∃ j, i = j + 1 := ⟨i - 1, by omega⟩
    have e : (Wm.frame l).getD (j + 1) 0 = (Wm.esc l)[j]'(by omega) := by
      show (126 :: (Wm.esc l ++ [124])).getD (j + 1) 0 = _
      simp [List.getD, List.getElem?_append_left (show j < (Wm.esc l).length by omega), show j < (Wm.esc l).length by omega]
    rw [e]
    exact Wm.esc_inner l _ (List.getElem_mem _)

theorem held_strong {P : Program} {ops : Array Oper} {Q : Exit → Act → World → Prop} {md : Region.Mode} {S S' : World → Prop} (h : ∀ w, S' w → S w) :
    ∀ (fuel : Nat) (listed : Array Bool) (a : Act) (w : World), wpAnyH P md ops Q S' fuel listed a w → wpAnyH P md ops Q S fuel listed a w
  | 0, _, _, _, hh => hh
  | fuel + 1, _, _, _, hh => ⟨hh.1, fun i hi => wpOp_mono (fun a' w' ⟨s, r⟩ => ⟨h _ s, held_strong h fuel _ a' w' r⟩) (hh.2 i hi)⟩

/-- Two slices read as one list of bytes. -/
def CS2 (A2 : Option Addr) (n2 c2 : Nat) (A : Option Addr) (n c : Nat) (l : List UInt8) (w' : World) : Prop :=
  (convert 25 9 (.slice A2 n2 c2)).run Tryd.prog w' = .ok (.string ⟨l.toArray⟩) w' ∧ (convert 25 9 (.slice A n c)).run Tryd.prog w' = .ok (.string ⟨l.toArray⟩) w'

/-- One more. -/
def CSx (S : World → Prop) (A : Option Addr) (n c : Nat) (l : List UInt8) (w' : World) : Prop :=
  S w' ∧ (convert 25 9 (.slice A n c)).run Tryd.prog w' = .ok (.string ⟨l.toArray⟩) w'

theorem cs2_mk {A2 A : Option Addr} {n2 c2 n c : Nat} {l : List UInt8} {w : World} (h2 : RB w A2 n2 l) (h : RB w A n l) : CS2 A2 n2 c2 A n c l w := ⟨conv_str _ _ _ _ _ h2, conv_str _ _ _ _ _ h⟩

theorem csx_mk {S : World → Prop} {A : Option Addr} {n c : Nat} {l : List UInt8} {w : World} (hS : S w) (h : RB w A n l) : CSx S A n c l w := ⟨hS, conv_str _ _ _ _ _ h⟩

theorem rint_at {A : Option Addr} {n c : Nat} {p x y z : Int} {l : List UInt8} {w : World} (h : Calls Tryd.prog 42 #[.slice A n c, .int .i64 p] w (IntEnd (Wm.intR l p) w)) (hr : Wm.intR l p = (x, y, z)) :
    Calls Tryd.prog 42 #[.slice A n c, .int .i64 p] w fun e w' => e = .returned (.tuple #[.int .i64 x, .int .i64 y, .int .i64 z]) ∧ w = w' := by
  rw [hr] at h; exact h

def RBx (w : World) (S : Nat) (A : Option Addr) (n : Nat) (l : List UInt8) : Prop :=
  l.length = n ∧ ∀ i, i < n → ∃ b off, b ≠ S ∧ A = some ⟨b, off, none⟩ ∧ w.cell? ⟨b, off + i, none⟩ = some (.int .u8 ((l.getD i 0).toNat : Int))
theorem RBx.rb {w : World} {S : Nat} {A : Option Addr} {n : Nat} {l : List UInt8} (h : RBx w S A n l) : RB w A n l :=
  ⟨h.1, fun i hi => by obtain ⟨b, off, _, e, hc⟩ := h.2 i hi; exact ⟨b, off, e, hc⟩⟩
theorem RBx.src {w w' : World} {S : Nat} {A : Option Addr} {n : Nat} {l : List UInt8} (h : RBx w S A n l) (hg : w.grownBy w' (some S)) : RBx w' S A n l :=
  ⟨h.1, fun i hi => by obtain ⟨b, off, hb, e, hc⟩ := h.2 i hi; exact ⟨b, off, hb, e, hg.cell hc (by simpa using hb)⟩⟩
theorem RBx.grown {w w' : World} {S : Nat} {A : Option Addr} {n : Nat} {l : List UInt8} (h : RBx w S A n l) (hg : w.grownBy w' none) : RBx w' S A n l := h.src (grown_weak _ hg)
theorem Made.rbx {w0 w : World} {A : Option Addr} {n c S : Nat} {l : List UInt8} (h : Made w0 w A n c l) (hS : S < w0.heap.size) : RBx w S A n l :=
  ⟨h.len, fun i hi => by obtain ⟨g, e, hb, _, hc, _⟩ := h.at0 i hi; exact ⟨g, 0, by omega, e, by rw [Nat.zero_add]; exact hc⟩⟩
theorem RB.rbx {w : World} {A : Option Addr} {n : Nat} {l : List UInt8} (h : RB w A n l) : RBx w w.heap.size A n l :=
  ⟨h.1, fun i hi => by
    obtain ⟨b, off, e, hc⟩ := h.2 i hi
    exact ⟨b, off, by have := World.block_lt_of_cell? _ _ hc; simp at this; omega, e, hc⟩⟩

/-- A slice of bytes, outside of block S. -/
def Fb (w : World) (S : Nat) (v : Value) : Prop := ∃ A n c l, v = .slice A n c ∧ n ≤ 100000 ∧ n ≤ c ∧ c ≤ 9223372036854775807 ∧ RBx w S A n l
theorem Fb.src {w w' : World} {S : Nat} {v : Value} (h : Fb w S v) (hg : w.grownBy w' (some S)) : Fb w' S v := by
  obtain ⟨A, n, c, l, h1, h2, h3, h4, h5⟩ := h
  exact ⟨A, n, c, l, h1, h2, h3, h4, h5.src hg⟩
theorem Fb.grown {w w' : World} {S : Nat} {v : Value} (h : Fb w S v) (hg : w.grownBy w' none) : Fb w' S v := h.src (grown_weak _ hg)
theorem Made.fb {w0 w : World} {A : Option Addr} {n c S : Nat} {l : List UInt8} (h : Made w0 w A n c l) (hS : S < w0.heap.size) (hn : n ≤ 100000) : Fb w S (.slice A n c) :=
  ⟨A, n, c, l, rfl, hn, h.shape.1, h.shape.2.1, h.rbx hS⟩

theorem own_rbx {w : World} {base g n c S : Nat} {l : List UInt8} (h : w.ownsRow base 5 1 (.slice (some ⟨g, 0, none⟩) n c) n (bvs l)) (hg : S < g) : RBx w S (some ⟨g, 0, none⟩) n l := by
  have hl : l.length = n := by have := h.1; rw [bvs_len] at this; omega
  exact ⟨hl, fun i hi => ⟨g, 0, by omega, rfl, by rw [Nat.zero_add, h.cellAt i (by omega), bvs_get l i (by omega)]; rfl⟩⟩

end Go.Proofs.YtcjbhkocpfkcbaaDoor.Wr
