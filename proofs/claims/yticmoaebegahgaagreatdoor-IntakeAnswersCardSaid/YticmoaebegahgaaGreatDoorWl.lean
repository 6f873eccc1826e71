import Derived.Test.YticmoaebegahgaaGreatDoorW2
import Derived.Lib.LaidTab
import Derived.LaidMore
import Derived.Stop.Joined
import Derived.MakeChecks
import Derived.ShutString
import Derived.ChangeOld
set_option linter.all false
namespace Go.Proofs.YticmoaebegahgaaGreatDoor.Wr
open Go.ChangeShapes Go.WideShapes Go.ChangeAt Go.RowKit
def laidT : List (String × DataW Unit) := [("batchline/wire.nibbles", Rows.laid_batchline_wire_nibbles)]
theorem own : ownKnob Tryz.prog.godebug = none := by kernel_rfl
theorem laidOut : laidOutB Tryz.prog = true := by kernel_rfl
theorem gTab : Tryz.prog.globalNamed "batchline/wire.nibbles" = some 1 := by kernel_rfl
theorem gTabType : (Tryz.prog.globals[1]?).map (·.type) = some 130 := by kernel_rfl
def tabZ : List Int := (List.range 16).map fun i => ((Wm.tab i : Nat) : Int)
theorem laidT_tab : laidT = [("batchline/wire.nibbles", Lib.tabData .u32 tabZ)] := rfl
theorem tabled_of {W : World} (h : laidMetH Tryz.prog laidT W) : Tabled W := by
  rw [MakeChecks.laidMetH_plain _ _ _ (by kernel_rfl), laidT_tab] at h
  have hT := Lib.tabIs_of_head gTab gTabType Tryz.underlying130 Tryz.underlying101 (by kernel_rfl) (by kernel_rfl) h
  intro i hi
  rw [hT.cell gTab i (by simpa [tabZ] using hi)]
  simp [tabZ, List.getD, hi]
theorem door_met (os : Os) (args : Array Value) : laidMetH Tryz.prog laidT ((World.doorLaid Tryz.prog 14 os).forCall (fun _ _ => 0) ⟨#[], args, []⟩).memory :=
  laidMetH_of_parts3 (fuel := 8) (laidMet_of_run' 8 (by kernel_rfl) (by kernel_rfl)) (by kernel_rfl) (by kernel_rfl)
def IsRow (k : IntKind) (w : World) (a : Option Addr) (len cap : Nat) (zs : List Int) : Prop :=
  (a = none ∧ len = 0 ∧ cap = 0 ∧ zs = []) ∨
  ∃ x, a = some x ∧ len ≤ cap ∧ cap ≤ maxLen ∧ zs.length = cap ∧ (∀ i, i < zs.length → w.cell? (x.add i) = some (.int k (zs.getD i 0))) ∧ ∀ n ∈ zs, (Lit.int k n).wf = true
def bytesOf (zs : List Int) : List UInt8 := zs.map fun z => UInt8.ofNat z.toNat
theorem byte_cast {z : Int} (h : (Lit.int .u8 z).wf = true) : (((UInt8.ofNat z.toNat).toNat : Nat) : Int) = z := by
  have := bounds_u8 h
  rw [Wm.ofNat_toNat _ (by omega)]; omega
theorem inB {w : World} {a : Option Addr} {len cap : Nat} {zs : List Int} (h : IsRow .u8 w a len cap zs) : InB w a len cap (bytesOf (zs.take len)) := by
  rcases h with ⟨rfl, rfl, rfl, rfl⟩ | ⟨x, rfl, hl, hm, hz, hc, hw⟩
  · exact ⟨⟨rfl, fun i hi => absurd hi (by omega)⟩, by omega, by omega⟩
  · have hm' : cap ≤ 9223372036854775807 := by unfold maxLen at hm; omega
    refine ⟨⟨by simp [bytesOf, List.length_take]; omega, fun i hi => ?_⟩, hl, hm'⟩
    obtain ⟨b, off, rfl, hc2⟩ := ints_at hc (by omega)
    refine ⟨b, off, rfl, ?_⟩
    have hin : i < zs.length := by omega
    have hmem := hw (zs.getD i 0) (by rw [List.getD_eq_getElem?_getD, List.getElem?_eq_getElem hin]; exact List.getElem_mem hin)
    rw [hc2 i hin]
    have e : (bytesOf (zs.take len)).getD i 0 = UInt8.ofNat (zs.getD i 0).toNat := by
      simp [bytesOf, List.getD_eq_getElem?_getD, hi, List.getElem?_eq_getElem hin]
    rw [e, byte_cast hmem]
theorem inRow {w : World} {a : Option Addr} {len cap : Nat} {zs : List Int} (h : IsRow .i64 w a len cap zs) : InRow w a len cap (zs.take len) := by
  rcases h with ⟨rfl, rfl, rfl, rfl⟩ | ⟨x, rfl, hl, hm, hz, hc, hw⟩
  · exact ⟨0, 0, fun h => absurd h (by omega), rfl, by omega, by omega, fun h => absurd h (by omega), fun i hi => absurd hi (by omega), fun i => ⟨by simp, by simp⟩⟩
  · have hr : ∀ i, IsI64 (zs.getD i 0) := fun i => by
      by_cases e : i < zs.length
      · have := hw (zs.getD i 0) (by rw [List.getD_eq_getElem?_getD, List.getElem?_eq_getElem e]; exact List.getElem_mem e)
        exact bounds_i64 this
      · rw [List.getD_eq_getElem?_getD, List.getElem?_eq_none (by omega)]; exact ⟨by simp, by simp⟩
    have hm' : cap ≤ 9223372036854775807 := by unfold maxLen at hm; omega
    by_cases h0 : 0 < len
    · obtain ⟨b, off, rfl, hc2⟩ := ints_at hc (by omega)
      exact ⟨b, off, fun _ => World.block_lt_of_cell? _ _ (hc2 0 (by omega)), by rw [List.length_take]; omega, hl, hm', fun _ => rfl, fun i hi => by rw [getD_take zs len i hi]; exact hc2 i (by omega), fun i => getD_take_ok zs len i hr⟩
    · exact ⟨0, 0, fun h => absurd h h0, by rw [List.length_take]; omega, hl, hm', fun h => absurd h h0, fun i hi => absurd hi (by omega), fun i => getD_take_ok zs len i hr⟩
end Go.Proofs.YticmoaebegahgaaGreatDoor.Wr
