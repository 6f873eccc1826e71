/- What WireAnswers holds of its slices: bytes outside of the block of the reader of numbers. -/
import Derived.Test.YtibbmbedmalapaaDoorRUnst
namespace Go.Proofs.YtibbmbedmalapaaDoor
open Go.ChangeShapes Go.WideShapes Go.ChangeAt Go.RowKit

def RBx (w : World) (S : Nat) (A : Option Addr) (n : Nat) (l : List UInt8) : Prop :=
  l.length = n ∧ ∀ i, i < n → ∃ b off, b ≠ S ∧ A = some ⟨b, off, none⟩ ∧ w.cell? ⟨b, off + i, none⟩ = some (.int .u8 ((l.getD i 0).toNat : Int))
theorem RBx.rb {w : World} {S : Nat} {A : Option Addr} {n : Nat} {l : List UInt8} (h : RBx w S A n l) : RB w A n l :=
  ⟨h.1, fun i hi => by obtain ⟨b, off, _, e, hc⟩ := h.2 i hi; exact ⟨b, off, e, hc⟩⟩
theorem RBx.src {w w' : World} {S : Nat} {A : Option Addr} {n : Nat} {l : List UInt8} (h : RBx w S A n l) (hg : w.grownBy w' (some S)) : RBx w' S A n l :=
  ⟨h.1, fun i hi => by obtain ⟨b, off, hb, e, hc⟩ := h.2 i hi; exact ⟨b, off, hb, e, hg.cell hc (by simpa using hb)⟩⟩
theorem RBx.grown {w w' : World} {S : Nat} {A : Option Addr} {n : Nat} {l : List UInt8} (h : RBx w S A n l) (hg : w.grownBy w' none) : RBx w' S A n l := h.src (grown_weak _ hg)
theorem Made.rbx {w0 w : World} {A : Option Addr} {n c S : Nat} {l : List UInt8} (h : Made w0 w A n c l) (hS : S < w0.heap.size) : RBx w S A n l :=
  ⟨h.len, fun i hi => by obtain ⟨g, e, hb, _, hc, _⟩ := h.at0 i hi; exact ⟨g, 0, by omega, e, by rw [Nat.zero_add]; exact hc⟩⟩
theorem RB.rbx {w : World} {A : Option Addr} {n : Nat} {l : List UInt8} (h : RB w A n l) : RBx w w.heap.size A n l :=
  ⟨h.1, fun i hi => by
    obtain ⟨b, off, e, hc⟩ := h.2 i hi
    exact ⟨b, off, by have := World.block_lt_of_cell? _ _ hc; simp at this; omega, e, hc⟩⟩

/-- A slice of bytes, outside of block S. -/
def Fb (w : World) (S : Nat) (v : Value) : Prop := ∃ A n c l, v = .slice A n c ∧ n ≤ 100000 ∧ n ≤ c ∧ c ≤ 9223372036854775807 ∧ RBx w S A n l
theorem Fb.src {w w' : World} {S : Nat} {v : Value} (h : Fb w S v) (hg : w.grownBy w' (some S)) : Fb w' S v := by
  obtain ⟨A, n, c, l, h1, h2, h3, h4, h5⟩ := h
  exact ⟨A, n, c, l, h1, h2, h3, h4, h5.src hg⟩
theorem Fb.grown {w w' : World} {S : Nat} {v : Value} (h : Fb w S v) (hg : w.grownBy w' none) : Fb w' S v := h.src (grown_weak _ hg)
theorem Made.fb {w0 w : World} {A : Option Addr} {n c S : Nat} {l : List UInt8} (h : Made w0 w A n c l) (hS : S < w0.heap.size) (hn : n ≤ 100000) : Fb w S (.slice A n c) :=
  ⟨A, n, c, l, rfl, hn, h.shape.1, h.shape.2.1, h.rbx hS⟩

/-- The worlds of the loop: nothing that was there when it began has changed, but in block S. -/
structure St (w WM : World) (S : Nat) (wx : World) : Prop where
  gx : WM.grownBy wx (some S)
  sx : SrcOK wx S
  g : w.grownBy wx none
theorem St.step {w WM wx wy : World} {S : Nat} (h : St w WM S wx) (hg : wx.grownBy wy none) : St w WM S wy :=
  ⟨grown_trans h.gx (grown_weak _ hg), h.sx.grown hg, grown_trans h.g hg⟩
theorem St.src {w WM wx wy : World} {S : Nat} (h : St w WM S wx) (hg : wx.grownBy wy (some S)) (hs : SrcOK wy S) (hS : w.heap.size ≤ S) : St w WM S wy :=
  ⟨grown_trans h.gx hg, hs, grown_off h.g hg hS⟩
theorem St.size {w WM wx : World} {S : Nat} (h : St w WM S wx) : WM.heap.size ≤ wx.heap.size := h.gx.size
end Go.Proofs.YtibbmbedmalapaaDoor
