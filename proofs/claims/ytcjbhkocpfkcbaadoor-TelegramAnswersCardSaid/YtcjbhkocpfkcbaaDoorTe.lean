/- Contracts of head and sum, of the reference's Sealed, and of bytes.Equal. -/
import Derived.Test.YtcjbhkocpfkcbaaDoorTc
import Derived.Test.YtcjbhkocpfkcbaaDoorWirePut
import Derived.Test.YtcjbhkocpfkcbaaDoorWireStuff
import Derived.BigRegion
namespace Go.Proofs.YtcjbhkocpfkcbaaDoor.Wr
open Go.ChangeShapes Go.WideShapes Go.ChangeAt Go.RowKit

/-- The row of pointers that head makes. -/
def hcells (T C : Nat) : Obj := Obj.cells #[.pointer (some ⟨T, 0, none⟩), .pointer (some ⟨T, 1, none⟩), .pointer (some ⟨T, 2, none⟩), .pointer (some ⟨T, 3, none⟩), .pointer (some ⟨T, 4, none⟩), .pointer (some ⟨C, 0, none⟩)] 70

set_option maxHeartbeats 1000000 in
theorem head_any (T C : Nat) (w : World) :
    Calls Tryd.prog 44 #[.pointer (some ⟨T, 0, none⟩), .pointer (some ⟨C, 0, none⟩)] w fun e w' => e = .returned (.slice (some ⟨w.heap.size, 0, none⟩) 6 6) ∧ ∃ q, w' = (w.alloc (hcells T C)).drewN q := by
  unfold hcells
  go_enter Tryd.func44, Tryd.ntmps44
  go_wp2
  go_big_region
  go_wp2
  go_ret
  exact ⟨rfl, 1, rfl⟩

def fourC (k : Nat) : Array Value := #[.int .u8 ((k : Int) % 256), .int .u8 ((k : Int) / 256 % 256), .int .u8 ((k : Int) / 65536 % 256), .int .u8 ((k : Int) / 16777216)]
theorem four_cells (k : Nat) (hk : k < 4294967296) : (fourC k).toList = bvs (Tm.four k) := by
  have e (j : Nat) : (((UInt8.ofNat j).toNat : Nat) : Int) = (j : Int) % 256 := by
    rw [UInt8.toNat_ofNat', Int.natCast_emod]; rfl
  simp only [fourC, bvs, bv, Tm.four, List.map_cons, List.map_nil, e]
  rw [show ((k / 16777216 : Nat) : Int) % 256 = (k : Int) / 16777216 by omega]
  simp

set_option maxHeartbeats 1000000 in
theorem tsum_any (A : Option Addr) (n c : Nat) (l : List UInt8) (w : World) (h : RB w A n l) (ht : Tabled w) (hn : n ≤ 4611686018427387904) :
    Calls Tryd.prog 30 #[.slice A n c] w (OwnEnd (Tm.four (Wm.crc l)) w) := by
  have H := Lib.hid (sum_any A n c l w h ht (by omega))
  have hk := Tm.crc_lt l
  clear h ht
  generalize Wm.crc l = k at *
  go_enter Tryd.func30, Tryd.ntmps30
  go_wp2_with fail
  refine H.out.mono ?_
  rintro e w' ⟨rfl, rfl⟩
  go_wp2
  go_ret
  exact ⟨_, 4, 4, rfl, made_lit w w (fourC k) 4 (Tm.four k) (four_cells k hk) rfl (grown_refl _ _) (by omega)⟩

theorem equal_any (A B : Option Addr) (n c m d : Nat) (l k : List UInt8) (w : World) (h : RB w A n l) (hk : RB w B m k) :
    Calls Tryd.prog 49 #[.slice A n c, .slice B m d] w fun e w' => e = .returned (.bool (decide (l = k))) ∧ w = w' := by
  have K1 := conv_str w A n c l h
  have K2 := conv_str w B m d k hk
  by_cases e : l = k
  · have D := Lib.hid (decide_eq_true e)
    go_enter Tryd.func49, Tryd.ntmps49
    go_wp2
    go_ret
    exact ⟨ret_bool D.out.symm, rfl⟩
  · have D := Lib.hid (decide_eq_false e)
    have E : (l == k) = false := by simpa using e
    go_enter Tryd.func49, Tryd.ntmps49
    go_wp2
    go_ret
    exact ⟨ret_bool D.out.symm, rfl⟩

set_option maxHeartbeats 1000000 in
theorem rseal_any (A : Option Addr) (n c : Nat) (l : List UInt8) (w : World) (h : RB w A n l) (hn : n ≤ 1000000) :
    Calls Tryd.prog 23 #[.slice A n c] w (OwnEnd (Tm.shut l) w) := by
  have H := Lib.hid (rsum_any A n c l w h (by omega))
  have hk := Tm.crc_lt l
  have HB := Lib.hid h
  have HS := Lib.hid (show Tm.shut l = l ++ Tm.four (Wm.crc l) from rfl)
  clear h
  generalize Wm.crc l = k at *
  go_enter Tryd.func23, Tryd.ntmps23
  go_wp2_with fail
  refine H.out.mono ?_
  rintro e w' ⟨rfl, rfl⟩
  have M1 := Lib.hid (made_lit w w #[] 0 [] rfl rfl (grown_refl _ _) (by omega))
  go_wp2_with (first
   | (at_builtin; refine wpList_app rfl (.tmp 6) (.tmp 7) rfl rfl rfl M1.out (HB.out.grown M1.out.gr) (by omega) n (by omega) ?_; intro A2 c2 w2 hm2 _; have M2 := Lib.hid (show Made w w2 A2 n c2 l by simpa using hm2); clear hm2)
   | (have _ := M2.out; at_builtin; refine wpList_app rfl (.tmp 8) (.tmp 20) rfl rfl rfl (M2.out.alloc _) (rb_lit _ (fourC k) 4 (Tm.four k) (four_cells k hk) rfl (by omega)) (by omega) (n + 4) rfl ?_; intro A3 c3 w3 hm3 _; have M3 := Lib.hid hm3; clear hm3)
   | fail)
  go_ret
  exact ⟨A3, n + 4, c3, rfl, by rw [HS.out]; exact M3.out⟩
end Go.Proofs.YtcjbhkocpfkcbaaDoor.Wr
