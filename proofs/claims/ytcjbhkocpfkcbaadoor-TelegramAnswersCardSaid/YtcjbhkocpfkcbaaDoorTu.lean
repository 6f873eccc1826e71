/- awake: the example of the chapter holds. -/
import Derived.Test.YtcjbhkocpfkcbaaDoorTo
import Derived.Test.YtcjbhkocpfkcbaaDoorTn
import Derived.Lib.SlBytesConst
namespace Go.Proofs.YtcjbhkocpfkcbaaDoor.Wr
open Go.ChangeShapes Go.WideShapes Go.ChangeAt Go.RowKit

def awk : Tm.Tg := ⟨1, 0, 2, 3, 4, [-1]⟩
def awkB : List UInt8 := [126, 2, 0, 4, 6, 8, 2, 1, 231, 52, 58, 145, 124]
theorem awk_bytes : awk.bytes = awkB := by decide +kernel
theorem awk_ok : awk.ok = true := by decide +kernel
theorem awk_part : (awkB.drop 1).take 7 = [2, 0, 4, 6, 8, 2, 1] := rfl
def AwakeEnd (w : World) (e : Ending) (w' : World) : Prop := e = .returned (.bool true) ∧ w.grownBy w' none
def AwkE (w : World) (e : Ending) (w' : World) : Prop :=
  ∃ g c, e = .returned (.tuple #[.slice (some ⟨g, 0, none⟩) 13 c, .int .i64 0]) ∧ 13 ≤ c ∧ c ≤ 9223372036854775807 ∧ RB w' (some ⟨g, 0, none⟩) 13 awkB ∧ w.grownBy w' none
theorem awk_enc (V : Option Addr) (cv : Nat) (w : World) (h : IR w V 1 [-1]) (ht : Tabled w) : Calls Tryd.prog 11 #[tv awk (.slice V 1 cv)] w (AwkE w) := by
  refine (encode_any awk V 1 cv w h (by omega) ht).mono ?_
  rintro e w' ⟨A, n, c, rfl, hm⟩
  rw [encR_yes awk_ok] at hm ⊢
  have hm : Made w w' A n c awkB := by have := hm; rwa [awk_bytes] at this
  obtain rfl : n = 13 := by have := hm.len; simpa [awkB] using this.symm
  obtain ⟨h1, h2, h3⟩ := hm.shape
  obtain ⟨g, rfl, _, _⟩ := h3 (by omega)
  exact ⟨g, c, rfl, h1, h2, hm.rb, hm.gr⟩
def AwkD (w : World) (e : Ending) (w' : World) : Prop :=
  ∃ V cv, e = .returned (.tuple #[tv awk (.slice V 1 cv), .int .i64 0]) ∧ IR w' V 1 [-1] ∧ w.grownBy w' none
theorem awk_dec (A : Option Addr) (c : Nat) (w : World) (h : RB w A 13 awkB) (hc : 13 ≤ c) (hc2 : c ≤ 9223372036854775807) (ht : Tabled w) : Calls Tryd.prog 24 #[.slice A 13 c] w (AwkD w) := by
  refine (decode_any A 13 c awkB w h hc hc2 (by omega) ht).mono ?_
  rintro e w' ⟨hg, t, V, m, cv, er, rfl, hi, _, hd⟩
  have k := Tm.dc_bytes awk_ok
  rw [awk_bytes] at k
  obtain ⟨rfl, rfl⟩ := Tm.dc_unique hd k
  obtain rfl : m = 1 := hi.1.symm
  exact ⟨V, cv, rfl, hi, hg⟩
theorem awk_same (V U : Option Addr) (c d : Nat) (w : World) (h : IR w V 1 [-1]) (k : IR w U 1 [-1]) : Calls Tryd.prog 26 #[tv awk (.slice V 1 c), tv awk (.slice U 1 d)] w (Ret (.bool true) w) := by
  have := same_any awk awk V U 1 c 1 d w h k (by omega) (by omega)
  rwa [Tm.same_self] at this

set_option maxHeartbeats 1000000 in
theorem awake_any (w : World) (ht : Tabled w) : Calls Tryd.prog 8 #[] w (AwakeEnd w) := by
  have HT := Lib.hid (fun w' (g : w.grownBy w' none) => ht.grown g)
  clear ht
  have kc := fun (w : World) (C : Array Value) (n c : Nat) => Lib.run_convert_bytes_const (P := Tryd.prog) w 25 5 C n c Tryd.underlying25 Tryd.underlying5
  go_enter Tryd.func8, Tryd.ntmps8
  go_wp2_with fail
  obtain ⟨X, hX⟩ : ∃ X, w.heap.size = X := ⟨_, rfl⟩
  have I0 : Hid (IR (w.alloc (.cells #[.int .i64 (-1)] 3)) (some ⟨w.heap.size, 0, none⟩) 1 [-1]) := (madeI_lit w w #[.int .i64 (-1)] 1 [-1] rfl rfl (grown_refl _ _) (by omega)).ir
  have G0 : Hid (w.grownBy ((w.alloc (.cells #[.int .i64 (-1)] 3)).alloc (tcells awk (.slice (some ⟨w.heap.size, 0, none⟩) 1 1))) none) := grown_trans (World.grownBy_alloc _ _ _) (World.grownBy_alloc _ _ _)
  have I1 : Hid (IR ((w.alloc (.cells #[.int .i64 (-1)] 3)).alloc (tcells awk (.slice (some ⟨w.heap.size, 0, none⟩) 1 1))) (some ⟨w.heap.size, 0, none⟩) 1 [-1]) := I0.out.grown (World.grownBy_alloc _ _ _)
  have X1 : Hid (Six ((w.alloc (.cells #[.int .i64 (-1)] 3)).alloc (tcells awk (.slice (some ⟨w.heap.size, 0, none⟩) 1 1))) (w.heap.size + 1) awk (.slice (some ⟨w.heap.size, 0, none⟩) 1 1)) := by
    have := Six.made (w.alloc (.cells #[.int .i64 (-1)] 3)) awk (.slice (some ⟨w.heap.size, 0, none⟩) 1 1)
    rwa [show (w.alloc (.cells #[.int .i64 (-1)] 3)).heap.size = w.heap.size + 1 by simp] at this
  clear I0
  rw [hX] at G0 I1 X1 ⊢
  unfold tcells awk at G0 I1 X1
  dsimp only at G0 I1 X1
  generalize ((w.alloc (.cells #[.int .i64 (-1)] 3)).alloc (Obj.cells #[.int .i64 1, .int .i64 0, .int .i64 2, .int .i64 3, .int .i64 4, .slice (some ⟨X, 0, none⟩) 1 1] 24)) = W1 at *
  refine (awk_enc (some ⟨X, 0, none⟩) 1 W1 I1.out (HT.out _ G0.out)).mono ?_
  rintro e W2 ⟨g, c, rfl, hc1, hc2, hr, hg⟩
  have G2 := Lib.hid (grown_trans G0.out hg)
  have X2 := Lib.hid (X1.out.grown hg (by simp))
  have I2 := Lib.hid (I1.out.grown hg)
  have R2 := Lib.hid hr
  clear G0 X1 I1 hg hr hX
  go_wp2_with fail
  refine (awk_dec (some ⟨g, 0, none⟩) c W2 R2.out hc1 hc2 (HT.out _ G2.out)).mono ?_
  rintro e W3 ⟨V, cv, rfl, hi, hg⟩
  have HV : Hid (IR (W3.alloc (tcells awk (.slice V 1 cv))) V 1 [-1]) := hi.grown (World.grownBy_alloc _ _ _)
  have hg : W2.grownBy (W3.alloc (tcells awk (.slice V 1 cv))) none := grown_trans hg (World.grownBy_alloc _ _ _)
  have G3 := Lib.hid (grown_trans G2.out hg)
  have X3 := Lib.hid (X2.out.grown hg (by simp))
  have Y3 := Lib.hid (Six.made W3 awk (.slice V 1 cv))
  have I3 := Lib.hid (I2.out.grown hg)
  have R3 := Lib.hid (R2.out.grown hg)
  clear G2 X2 I2 R2 hg hi
  unfold tcells awk at G3 X3 Y3 I3 R3 HV
  dsimp only at G3 X3 Y3 I3 R3 HV
  unfold tv awk
  dsimp only
  obtain ⟨⟨a0, a1, a2, a3, a4, a5⟩, _⟩ := X3.out
  obtain ⟨⟨d0, d1, d2, d3, d4, d5⟩, _⟩ := Y3.out
  have c0 := (R3.out.take 1 (by omega)).2 0 (by omega)
  obtain ⟨b, off, e, c0⟩ := c0
  obtain ⟨rfl, rfl⟩ : b = g ∧ off = 0 := by injection e with e; injection e with e1 e2; exact ⟨e1.symm, e2.symm⟩
  clear e
  have hcv := conv_str _ (some ⟨b, 1, none⟩) 7 (c - 1) [2, 0, 4, 6, 8, 2, 1] (by have := (R3.out.drop 1 12 (by omega)).take 7 (by omega); rwa [awk_part] at this)
  have c0 : (W3.alloc (Obj.cells #[.int .i64 1, .int .i64 0, .int .i64 2, .int .i64 3, .int .i64 4, .slice V 1 cv] 24)).cell? ⟨b, 0, none⟩ = some (.int .u8 126) := c0
  go_wp2_with fail
  refine (awk_same (some ⟨X, 0, none⟩) V 1 cv _ I3.out HV.out).mono ?_
  rintro e W4 ⟨rfl, g4⟩
  have G4 := Lib.hid (grown_trans G3.out g4)
  clear g4
  go_wp2
  go_ret
  exact ⟨rfl, G4.out⟩
end Go.Proofs.YtcjbhkocpfkcbaaDoor.Wr
