/- Contract of Encode. -/
import Derived.Test.YtcjbhkocpfkcbaaDoorTg
import Derived.Test.YtcjbhkocpfkcbaaDoorWireUn
import Derived.Test.YtcjbhkocpfkcbaaDoorTd
namespace Go.Proofs.YtcjbhkocpfkcbaaDoor.Wr
open Go.ChangeShapes Go.WideShapes Go.ChangeAt Go.RowKit

/-- What Encode returns. -/
def encR (t : Tm.Tg) : List UInt8 × Int := if t.ok = true then (t.bytes, 0) else ([], 9)
theorem encR_yes {t : Tm.Tg} (h : t.ok = true) : encR t = (t.bytes, 0) := by unfold encR; rw [if_pos h]
theorem encR_no {t : Tm.Tg} (h : t.ok = false) : encR t = ([], 9) := by unfold encR; rw [if_neg (by rw [h]; simp)]
theorem valid_at {t : Tm.Tg} {A : Option Addr} {n c : Nat} {w : World} {r : Bool} (h : IR w A n t.vs) (hn : n ≤ 4611686018427387904) (hr : t.ok = r) :
    Calls Tryd.prog 13 #[tv t (.slice A n c)] w (Ret (.bool r) w) := by
  subst hr; exact valid_any t A n c w h hn

theorem boxed_at {t : Tm.Tg} {V : Value} {w w1 : World} (g : (w.alloc (tcells t V)).grownBy w1 none) :
    w1.cell? ⟨w.heap.size, 0, none⟩ = some (.int .i64 t.st) ∧ w1.cell? ⟨w.heap.size, 1, none⟩ = some (.int .i64 t.ep) ∧ w1.cell? ⟨w.heap.size, 2, none⟩ = some (.int .i64 t.sq) ∧ w1.cell? ⟨w.heap.size, 3, none⟩ = some (.int .i64 t.tm) ∧ w1.cell? ⟨w.heap.size, 4, none⟩ = some (.int .i64 t.kd) ∧ w1.cell? ⟨w.heap.size, 5, none⟩ = some V := by
  unfold tcells at g
  have h (i : Nat) (u : Value) (h : (w.alloc (Obj.cells #[.int .i64 t.st, .int .i64 t.ep, .int .i64 t.sq, .int .i64 t.tm, .int .i64 t.kd, V] 24)).cell? ⟨w.heap.size, i, none⟩ = some u) := g.cell h (by simp)
  exact ⟨h 0 _ (by go_simp), h 1 _ (by go_simp), h 2 _ (by go_simp), h 3 _ (by go_simp), h 4 _ (by go_simp), h 5 _ (by go_simp)⟩

set_option maxHeartbeats 1000000 in
theorem encode_any (t : Tm.Tg) (V : Option Addr) (n cv : Nat) (w : World) (h : IR w V n t.vs) (hn : n ≤ 4611686018427387904) (ht : Tabled w) :
    Calls Tryd.prog 11 #[tv t (.slice V n cv)] w (UnEnd (encR t) w) := by
  have hw0 : w.grownBy (w.alloc (tcells t (.slice V n cv))) none := World.grownBy_alloc _ _ _
  have HI := Lib.hid h
  have hl := h.1
  by_cases hk : t.ok = true
  · have E := Lib.hid (encR_yes hk)
    have HF := Lib.hid (Tm.Tg.fits_of_ok hk)
    have hn16 : n ≤ 16 := by have := ((Tm.Tg.ok_iff t).1 hk).2.2.2.2.2.1; omega
    have HL := Lib.hid (Tm.Tg.len hk)
    have K := Lib.hid hk
    have HT := Lib.hid (fun w' (g : w.grownBy w' none) => ht.grown g)
    clear h ht hl hk
    unfold tv tcells at *
    go_enter Tryd.func11, Tryd.ntmps11
    go_wp2_with fail
    refine (valid_at (t := t) (HI.out.grown hw0) hn K.out).mono ?_
    rintro e w1 ⟨rfl, g1⟩
    have G1 := Lib.hid (grown_trans hw0 g1)
    have HB := Lib.hid (HI.out.grown G1.out)
    obtain ⟨k0, k1, k2, k3, k4, k5⟩ := boxed_at (t := t) (V := .slice V n cv) g1
    clear g1 hw0
    go_wp2_with fail
    refine (write_any t V n cv w1 HB.out HF.out hn16).mono ?_
    rintro e w2 ⟨A2, N2, c2, rfl, hm2⟩
    have M2 := Lib.hid (hm2.base G1.out)
    clear hm2
    clear k0 k1 k2 k3 k4 k5
    go_wp2_with fail
    have hN2 : N2 ≤ 145 := by have := M2.out.len; have := HL.out; omega
    refine (tsum_any A2 N2 c2 _ w2 M2.out.rb (HT.out _ M2.out.gr) (by omega)).mono ?_
    rintro e w3 ⟨A3, N3, c3, rfl, hm3⟩
    obtain rfl : N3 = 4 := by have := hm3.len; rw [Tm.four_len] at this; omega
    have M2 := Lib.hid (M2.out.keep hm3.gr)
    have R3 := Lib.hid hm3.rb
    clear hm3
    go_wp2_with (first
      | (at_builtin; refine wpList_app rfl (.tmp 10) (.tmp 12) rfl rfl rfl M2.out R3.out (by omega) (N2 + 4) rfl ?_; intro A4 c4 w4 hm4 _; have M4 := Lib.hid hm4; clear hm4)
      | fail)
    refine (stuff_any A4 (N2 + 4) c4 _ w4 M4.out.rb (by omega)).mono ?_
    rintro e w5 ⟨A5, N5, c5, rfl, hm5⟩
    have M5 := Lib.hid (hm5.base M4.out.gr)
    clear hm5
    go_wp2
    go_ret2
    exact unEnd_good E.out M5.out
  · have hk := eq_false_of_ne_true hk
    have E := Lib.hid (encR_no hk)
    have K := Lib.hid hk
    clear h ht hl hk
    unfold tv tcells at *
    go_enter Tryd.func11, Tryd.ntmps11
    go_wp2_with fail
    refine (valid_at (t := t) (HI.out.grown hw0) hn K.out).mono ?_
    rintro e w1 ⟨rfl, g1⟩
    have G1 := Lib.hid (grown_trans hw0 g1)
    clear g1 hw0
    go_wp2
    go_ret2
    exact unEnd_bad E.out G1.out
end Go.Proofs.YtcjbhkocpfkcbaaDoor.Wr
