import Derived.Lib.Hide
namespace Go.Proofs.YticmoaebegahgaaGreatDoor
theorem Hi {p : Prop} (h : p) : Go.RowKit.Hid p := h
theorem lsA.{u} {α : Type u} (l : List α) (i : Nat) (a : α) : l.toArray.setIfInBounds i a = (l.set i a).toArray := List.setIfInBounds_toArray ..
theorem lsB.{u} {α : Type u} {x : α} {xs : List α} {a : α} : (x :: xs).set 0 a = a :: xs := List.set_cons_zero
theorem lsC.{u} {α : Type u} {x : α} {xs : List α} {i : Nat} {a : α} : (x :: xs).set (i + 1) a = x :: xs.set i a := List.set_cons_succ
end Go.Proofs.YticmoaebegahgaaGreatDoor
