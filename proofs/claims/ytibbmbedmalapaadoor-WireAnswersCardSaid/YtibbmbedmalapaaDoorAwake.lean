/- awake: the examples of the chapter hold. -/
import Derived.Test.YtibbmbedmalapaaDoorRInt
import Derived.Test.YtibbmbedmalapaaDoorStuff
import Derived.Lib.SlBytesConst
namespace Go.Proofs.YtibbmbedmalapaaDoor
open Go.ChangeShapes Go.WideShapes Go.ChangeAt Go.RowKit

def AwakeEnd (w : World) (e : Ending) (w' : World) : Prop := e = .returned (.bool true) ∧ w.grownBy w' none

theorem intR_awake : Wm.intR [128, 1] 0 = (64, 2, 0) := by decide
theorem frame_awake : Wm.frame [1, 126, 125] = [126, 1, 125, 94, 125, 93, 124] := by decide

theorem int_at {A : Option Addr} {n c : Nat} {p x y z : Int} {l : List UInt8} {w : World} (h : Calls Tryd.prog 14 #[.slice A n c, .int .i64 p] w (IntEnd (Wm.intR l p) w)) (hr : Wm.intR l p = (x, y, z)) :
    Calls Tryd.prog 14 #[.slice A n c, .int .i64 p] w fun e w' => e = .returned (.tuple #[.int .i64 x, .int .i64 y, .int .i64 z]) ∧ w = w' := by
  rw [hr] at h; exact h
theorem int_awake (A : Option Addr) (w : World) (h : RB w A 2 [128, 1]) :
    Calls Tryd.prog 14 #[.slice A 2 2, .int .i64 0] w fun e w' => e = .returned (.tuple #[.int .i64 64, .int .i64 2, .int .i64 0]) ∧ w = w' :=
  int_at (int_any A 2 2 [128, 1] 0 w h (by omega) (by omega) (by omega) (by omega) (by omega)) intR_awake

theorem rb_at (w : World) (cs : Array Value) (n H : Nat) (l : List UInt8) (hl : cs.toList = bvs l) (hn : l.length = n) (hs : n ≤ 1000) (hH : w.heap.size = H) : RB (w.alloc (.cells cs 5)) (some ⟨H, 0, none⟩) n l := by
  subst hH; exact rb_lit w cs n l hl hn hs
theorem rb_marked (w : World) (cs : Array Value) (n : Nat) (l : List UInt8) (lo hi : Nat) (hl : cs.toList = bvs l) (hn : l.length = n) : RB (w.alloc (.cells cs 5 (lo, hi))) (some ⟨w.heap.size, 0, none⟩) n l := by
  refine ⟨hn, fun i hi => ⟨w.heap.size, 0, rfl, ?_⟩⟩
  rw [Nat.zero_add, World.cell?_alloc_mark, ← Array.getElem?_toList, hl, bvs_get l i (by omega)]
  rfl

set_option maxHeartbeats 1000000 in
theorem awake_any (w : World) (ht : Tabled w) : Calls Tryd.prog 8 #[] w (AwakeEnd w) := by
  have HT := Lib.hid ht
  clear ht
  have kc := fun (w : World) (C : Array Value) (n c : Nat) => Lib.run_convert_bytes_const (P := Tryd.prog) w 22 5 C n c Tryd.underlying22 Tryd.underlying5
  go_enter Tryd.func8, Tryd.ntmps8
  go_wp2_with fail
  have R1 := Lib.hid (rb_lit w #[.int .u8 128, .int .u8 1] 2 [128, 1] rfl rfl (by omega))
  refine (int_awake _ _ R1.out).mono ?_
  rintro e w' ⟨rfl, rfl⟩
  go_wp2_with fail
  have R2 := Lib.hid (rb_at (w.alloc (.cells #[.int .u8 128, .int .u8 1] 5)) #[.int .u8 1, .int .u8 126, .int .u8 125] 3 (w.heap.size + 1) [1, 126, 125] rfl rfl (by omega) (by simp))
  refine (stuff_any _ 3 3 [1, 126, 125] _ R2.out (by omega)).mono ?_
  rintro e w2 ⟨A, n, c, rfl, hm⟩
  have hcv := conv_str w2 A n c _ hm.rb
  rw [frame_awake] at hcv
  have G2 := Lib.hid (grown_trans (grown_alloc w (.cells #[.int .u8 128, .int .u8 1] 5) none) (grown_trans (grown_alloc _ (.cells #[.int .u8 1, .int .u8 126, .int .u8 125] 5) none) hm.gr))
  clear hm
  go_wp2_with fail
  have R3 := Lib.hid (rb_marked w2 #[.int .u8 49, .int .u8 50, .int .u8 51, .int .u8 52, .int .u8 53, .int .u8 54, .int .u8 55, .int .u8 56, .int .u8 57] 9 [49, 50, 51, 52, 53, 54, 55, 56, 57] 9 10 rfl rfl)
  refine (sum_any _ 9 9 [49, 50, 51, 52, 53, 54, 55, 56, 57] _ R3.out (HT.out.grown (grown_trans G2.out (grown_alloc _ _ _))) (by omega)).mono ?_
  rintro e w' ⟨rfl, rfl⟩
  rw [Wm.crc_awake]
  go_wp2
  go_ret
  exact ⟨rfl, grown_trans G2.out (grown_alloc _ _ _)⟩
end Go.Proofs.YtibbmbedmalapaaDoor
