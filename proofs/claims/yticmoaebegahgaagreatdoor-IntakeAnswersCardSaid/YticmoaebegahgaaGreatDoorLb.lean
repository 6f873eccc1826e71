import Derived.Test.YticmoaebegahgaaGreatDoorLa
import Derived.Test.YticmoaebegahgaaGreatDoorKr
import Derived.RangeFuncNested
import Derived.RangeFuncBound
import Derived.RangeFuncCalls
import Derived.RangeFuncLeaves
import Derived.Shelf.Abstract
import Derived.Shelf.RegionOpen
import Derived.WalkKit
import Derived.OwnWalkIn
import Derived.TacticsInMore
import Derived.LoopNIn
import Derived.LoopIn
set_option linter.all false
namespace Go.Proofs.YticmoaebegahgaaGreatDoor.Iw
open Go.ChangeShapes Go.WideShapes Go.ChangeAt Go.RowKit
open Wr (IR RB iv ivs bv bvs grown_trans grown_refl grown_alloc ret_int ret_bool tv Ret ret_mk Made OwnEnd)
attribute [local go_sem] Oper.semAt_some
def KB (K : List Nat) (W W' : World) : Prop := ∀ (a : Addr) (v : Value), a.block ∈ K → W.cell? a = some v → W'.cell? a = some v
theorem KB.refl (K : List Nat) (W : World) : KB K W W := fun _ _ _ h => h
theorem KB.trans {K : List Nat} {A B C : World} (h : KB K A B) (k : KB K B C) : KB K A C := fun a v ha hv => k a v ha (h a v ha hv)
theorem kb_b {K : List Nat} (W : World) (l : Nat) (o o' : Obj) (h : W.heap[l]? = some o) (ho : o.isCells = false) : KB K W (W.putObj l o') :=
  fun _ _ _ hv => cell_kept hv (grownBy_putObj' W l o') (fun r e => by cases e; exact ⟨_, h, ho⟩)
def enx (b off cap : Nat) {n : Nat} (x : Fx n) : Array Value := #[.slice (some ⟨b, off + x.1.1, none⟩) (x.1.2 - x.1.1) (cap - x.1.1)]
set_option maxRecDepth 100000 in
set_option maxHeartbeats 3200000 in
theorem frames1_in (m : Nat) (hm : 1 ≤ m) (r Bs b off len cap : Nat) (A : Option Addr) (bs : List UInt8) (hl : bs.length = len) (hcap : len ≤ cap) (hlen : len ≤ 1000000) (J Jx : List (Fx len) → World → Prop)
    (hY : ∀ pre x W, J pre W → pre.length < len → YieldAt Fence.wide (m - 1) Tryz.prog r (enx b off cap x) W fun e W' =>
      (e = .returned (.bool true) ∧ J (pre ++ [x]) W' ∧ KB [Bs, b] W W') ∨ (e = .returned (.bool false) ∧ Jx (pre ++ [x]) W'))
    (W : World) (hBs : W.cell? ⟨Bs, 0, none⟩ = some (.slice A len cap)) (hA : 0 < len → A = some ⟨b, off, none⟩) (hc : ∀ j, j < len → W.cell? ⟨b, off + j, none⟩ = some (.int .u8 ((bs.getD j 0).toNat : Int))) (h0 : J [] W) :
    CallsIn Fence.wide m Tryz.prog 48 #[.func (.yield r) #[] #[], .pointer (some ⟨Bs, 0, none⟩)] W fun e W' => (∃ v, e = .returned v) ∧
      ((∃ ys, (Im.scan none bs).out = ys.map (fun x => ix bs x.1) ∧ J ys W') ∨ (∃ pre, True ∧ Jx pre W')) := by
  refine callsIn_of_wp Tryz.func48 rfl trivial ?_ rfl
  simp only [Tryz.ntmps48, List.size_toArray, List.length_cons, List.length_nil, Nat.reduceAdd, Nat.reduceSub, Array.replicate_succ, Array.replicate_zero, List.push_toArray, List.append_toArray, List.nil_append, List.cons_append]
  gi_wp2
  gi_loopw [3, 8] (fun s i wr => ∃ (k : Nat) (st : Int) (pre : List (Fx len)), k ≤ len ∧ i = .int .i64 k ∧ s = .int .i64 st ∧ -1 ≤ st ∧ st ≤ k ∧ Hid (Fr bs len k st pre) ∧ Hid (J pre wr) ∧ Hid (KB [Bs, b] W wr))
    (fun _ i _ => len - (intOf i).toNat)
  case atStart => exact ⟨0, -1, [], Nat.zero_le _, rfl, rfl, by omega, by omega, Hi (fr_zero _ _), Hi h0, Hi (KB.refl _ _)⟩
  case round =>
    obtain ⟨k, st, pre, hk, rfl, rfl, hst, hst2, F, HJ, HK⟩ := hrel
    by_cases hlt : k < len
    · obtain rfl := hA (by omega)
      have hcx : wr.cell? ⟨b, off + k, none⟩ = some (.int .u8 ((bs.getD k 0).toNat : Int)) := HK.out _ _ (by simp) (hc k hlt)
      have hbx : wr.cell? ⟨Bs, 0, none⟩ = some (.slice (some ⟨b, off, none⟩) len cap) := HK.out _ _ (by simp) hBs
      have hkl : k < bs.length := by omega
      generalize hx : bs.getD k 0 = x at *
      have HX := Hi hx
      clear hx
      have hx8 := x.toNat_lt
      by_cases h126 : x = 126
      · subst h126
        gi_wp2
        go_roundw
        case rel => exact ⟨k + 1, k, pre, by omega, by go_num, rfl, by omega, by omega, Hi (F.out.start hkl HX.out), HJ, HK⟩
        case measure => simp [intOf]; omega
      · have e126 : ((x.toNat : Int) == 126) = false := by
          simp only [beq_eq_false_iff_ne]; intro e; exact h126 ((ub x 126 (by omega)).1 e)
        by_cases h124 : x = 124
        · subst h124
          by_cases hs : st = -1
          · subst hs
            gi_wp2
            go_roundw
            case rel => exact ⟨k + 1, -1, pre, by omega, by go_num, rfl, by omega, by omega, Hi (F.out.noise hkl (by rw [HX.out]; decide)), HJ, HK⟩
            case measure => simp [intOf]; omega
          · obtain ⟨s, rfl⟩ : ∃ s : Nat, st = s := ⟨st.toNat, by omega⟩
            obtain ⟨hp, F2⟩ := F.out.stop hkl hl HX.out
            obtain ⟨fn, tmps, assign, body, hy, hR⟩ := hY pre ⟨(s, k + 1), hp⟩ wr HJ.out (by have := F.out.few; omega)
            have F2 := Hi F2
            have e1 : ((s : Int) != -1) = true := by simp
            dsimp only [enx] at hy
            gi_wp2
            refine hR.mono ?_
            rintro e W3 (⟨rfl, hJ3, hk3⟩ | ⟨rfl, hJx3⟩)
            · gi_wp2
              go_roundw
              case rel => exact ⟨k + 1, -1, _, by omega, by go_num, rfl, by omega, by omega, F2, Hi hJ3, Hi (HK.out.trans hk3)⟩
              case measure => simp [intOf]; omega
            · gi_wp2
              refine bodyPost_ret (results_none rfl _ _ _) rfl ?_
              exact ⟨⟨_, rfl⟩, .inr ⟨_, trivial, hJx3⟩⟩
        · have e124 : ((x.toNat : Int) == 124) = false := by
            simp only [beq_eq_false_iff_ne]; intro e; exact h124 ((ub x 124 (by omega)).1 e)
          gi_wp2
          go_roundw
          case rel => exact ⟨k + 1, st, pre, by omega, by go_num, rfl, by omega, by omega, Hi (F.out.goes hkl (by rw [HX.out]; exact h126) (by rw [HX.out]; exact h124)), HJ, HK⟩
          case measure => simp [intOf]; omega
    · obtain rfl : k = len := by omega
      have FD := Hi (show (Im.scan none bs).out = pre.map fun x => ix bs x.1 by have := F.out; subst hl; exact this.done)
      gi_wp2
      go_end0
      exact ⟨⟨_, rfl⟩, .inl ⟨pre, FD.out, HJ.out⟩⟩
theorem frames_stops (m : Nat) (hm : 1 ≤ m) (Bs b off len cap : Nat) (A : Option Addr) (bs : List UInt8) (hl : bs.length = len) (hcap : len ≤ cap) (hlen : len ≤ 1000000) (w : World) (hBs : w.cell? ⟨Bs, 0, none⟩ = some (.slice A len cap)) (hA : 0 < len → A = some ⟨b, off, none⟩) (hc : ∀ j, j < len → w.cell? ⟨b, off + j, none⟩ = some (.int .u8 ((bs.getD j 0).toNat : Int))) :
    SeqStopsK Fence.wide m Tryz.prog 48 #[.pointer (some ⟨Bs, 0, none⟩)] (fun x : Fx len => enx b off cap x) (KB [Bs, b]) (fun ys => (Im.scan none bs).out = ys.map (fun x => ix bs x.1)) (fun _ => True) len w := fun r J Jx W hW _ _ hY h0 =>
  frames1_in m hm r Bs b off len cap A bs hl hcap hlen J Jx hY W ((hW.cell (p := ⟨Bs, 0, none⟩) (World.block_lt_of_cell? _ _ hBs)).trans hBs) hA (fun j hj => (hW.cell (p := ⟨b, off + j, none⟩) (World.block_lt_of_cell? _ _ (hc j hj))).trans (hc j hj)) h0
theorem framesof_any (A : Option Addr) (n c : Nat) (w : World) :
    Calls Tryz.prog 26 #[.slice A n c] w fun e w' => e = .returned (.func (.func 48) #[] #[.pointer (some ⟨w.heap.size, 0, none⟩)]) ∧ w' = w.alloc (.cells #[.slice A n c] 22) := by
  go_enter Tryz.func26, Tryz.ntmps26
  go_wp2
  go_ret
  exact ⟨rfl, rfl⟩
end Go.Proofs.YticmoaebegahgaaGreatDoor.Iw
