/- Package boundary: slices.All and slices.Backward at pieces, as functions over which a loop ranges. -/
import Derived.Test.YtagemdgbnajobaaHc2
import Derived.RangeFuncNested
import Derived.RangeFuncBound
import Derived.RangeFuncCalls
import Derived.RangeFuncLeaves
import Derived.Shelf.Abstract
import Derived.Shelf.RegionOpen
import Derived.WalkKit
import Derived.OwnWalkIn
import Derived.TacticsInMore
import Derived.LoopNIn
import Derived.LoopIn
namespace Go.Proofs.Ytagemdgbnajobaa
open Go.ChangeShapes Go.WideShapes Go.ChangeAt Go.RowKit
attribute [local go_sem] Oper.semAt_some

/-- The cells of the blocks K lie as they lay. -/
def KB (K : List Nat) (W W' : World) : Prop := ∀ (a : Addr) (v : Value), a.block ∈ K → W.cell? a = some v → W'.cell? a = some v
theorem KB.refl (K : List Nat) (W : World) : KB K W W := fun _ _ _ h => h
theorem KB.trans {K : List Nat} {A B C : World} (h : KB K A B) (k : KB K B C) : KB K A C := fun a v ha hv => k a v ha (h a v ha hv)
theorem KB.of {K : List Nat} {A B : World} (h : A.grownBy B none) : KB K A B := fun _ _ _ hv => h.cell hv (by simp)
theorem kb_b {K : List Nat} (W : World) (l : Nat) (o o' : Obj) (h : W.heap[l]? = some o) (ho : o.isCells = false) : KB K W (W.putObj l o') :=
  fun _ _ _ hv => cell_kept hv (grownBy_putObj' W l o') (fun r e => by cases e; exact ⟨_, h, ho⟩)
/-- What yield is handed: an index, and a piece. -/
abbrev IP := Int × Fm.Pc
def enp (x : IP) : Array Value := #[.int .i64 x.1, .agg #[.int .i64 x.2.1, .int .i64 x.2.2]]
/-- The pieces f lie at (b, off). -/
def PCs (W : World) (b off : Nat) (f : List Fm.Pc) : Prop := ∀ j, j < f.length → W.cell? ⟨b, off + j * 2, none⟩ = some (.int .i64 (f.getD j Fm.zp).1) ∧ W.cell? ⟨b, off + j * 2 + 1, none⟩ = some (.int .i64 (f.getD j Fm.zp).2)
theorem take_snoc {f : List Fm.Pc} {k : Nat} (hk : k < f.length) : f.take (k + 1) = f.take k ++ [f.getD k Fm.zp] := Fm.take_next hk
theorem rev_getD {f : List Fm.Pc} {k q : Nat} (h : q + k + 1 = f.length) : f.reverse.getD k Fm.zp = f.getD q Fm.zp := by
  simp only [List.getD_eq_getElem?_getD]
  rw [List.getElem?_reverse (by omega)]
  congr 2
  omega

set_option maxRecDepth 100000 in
set_option maxHeartbeats 3200000 in
theorem all1_in (m : Nat) (hm : 1 ≤ m) (r Bs b off len cap : Nat) (A : Option Addr) (f : List Fm.Pc) (hl : f.length = len) (hcap : len ≤ cap) (hlen : len ≤ 1000000) (J Jx : List IP → World → Prop) {base : Nat} (HJA : AbidesFrom base J)
    (hY : ∀ pre x W, J pre W → pre.length < len → YieldAt Fence.wide (m - 1) Try.prog r (enp x) W fun e W' =>
      (e = .returned (.bool true) ∧ J (pre ++ [x]) W' ∧ KB [Bs, b] W W') ∨ (e = .returned (.bool false) ∧ Jx (pre ++ [x]) W'))
    (W : World) (hBs : W.cell? ⟨Bs, 0, none⟩ = some (.slice A len cap)) (hA : 0 < len → A = some ⟨b, off, none⟩) (hc : PCs W b off f) (h0 : J [] W) :
    CallsIn Fence.wide m Try.prog 45 #[.func (.yield r) #[] #[], .pointer (some ⟨Bs, 0, none⟩)] W fun e W' => (∃ v, e = .returned v) ∧
      ((∃ ys, ys.map Prod.snd = f ∧ J ys W') ∨ (∃ pre, (∃ k, k ≤ f.length ∧ pre.map Prod.snd = f.take k) ∧ Jx pre W')) := by
  refine callsIn_of_wp Try.func45 rfl trivial ?_ rfl
  simp only [Try.ntmps45, List.size_toArray, List.length_cons, List.length_nil, Nat.reduceAdd, Nat.reduceSub, Array.replicate_succ, Array.replicate_zero, List.push_toArray, List.append_toArray, List.nil_append, List.cons_append]
  have HC := Lib.hid hc
  clear hc
  gi_wp2
  gi_loopw [7] (fun i wr => ∃ (k : Nat) (pre : List IP), k ≤ len ∧ i = .int .i64 k ∧ Hid (pre.length = k ∧ pre.map Prod.snd = f.take k) ∧ Hid (J pre wr) ∧ Hid (KB [Bs, b] W wr))
    (fun i _ => len - (intOf i).toNat)
  case atStart => exact ⟨0, [], Nat.zero_le _, rfl, Lib.hid ⟨rfl, by simp⟩, Lib.hid h0, Lib.hid (KB.refl _ _)⟩
  case round =>
    obtain ⟨k, pre, hk, rfl, F, HJ, HK⟩ := hrel
    by_cases hlt : k < len
    · obtain rfl := hA (by omega)
      obtain ⟨c0, c1⟩ := HC.out k (by omega)
      replace c0 := HK.out _ _ (by simp) c0
      replace c1 := HK.out _ _ (by simp) c1
      have hp := take_snoc (f := f) (k := k) (by omega)
      generalize hx : f.getD k Fm.zp = x at *
      obtain ⟨x0, y0⟩ := x
      dsimp only at c0 c1
      have HP := Lib.hid hp
      clear hp hx
      have HJ2 : J pre (wr.alloc (.cells #[.int .i64 x0, .int .i64 y0] 49)) := HJA pre wr _ none HJ.out (World.grownBy_alloc _ _ _) (fun r e => by cases e)
      obtain ⟨fn, tmps, assign, body, hy, hR⟩ := hY pre (k, (x0, y0)) _ HJ2 (by have := F.out.1; omega)
      have K2 := Lib.hid (HK.out.trans (KB.of (World.grownBy_alloc wr (.cells #[.int .i64 x0, .int .i64 y0] 49) none)))
      have szb : b < wr.heap.size := World.block_lt_of_cell? _ _ c0
      dsimp only [enp] at hy
      gi_wp2
      refine hR.mono ?_
      rintro e W3 (⟨rfl, hJ3, hk3⟩ | ⟨rfl, hJx3⟩)
      · gi_wp2
        go_roundw
        case rel => exact ⟨k + 1, _, by omega, by go_num, Lib.hid ⟨by have := F.out.1; simp; omega, by have := F.out.2; rw [HP.out, List.map_append, this]; rfl⟩, Lib.hid hJ3, Lib.hid (K2.out.trans hk3)⟩
        case measure => simp [intOf]; omega
      · gi_wp2
        refine bodyPost_ret (results_none rfl _ _ _) rfl ?_
        exact ⟨⟨_, rfl⟩, .inr ⟨_, ⟨k + 1, by omega, by have := F.out.2; rw [HP.out, List.map_append, this]; rfl⟩, hJx3⟩⟩
    · obtain rfl : k = len := by omega
      have FD := Lib.hid (show pre.map Prod.snd = f by have := F.out.2; rwa [List.take_of_length_le (by omega)] at this)
      gi_wp2
      go_end0
      exact ⟨⟨_, rfl⟩, .inl ⟨pre, FD.out, HJ.out⟩⟩

set_option maxRecDepth 100000 in
set_option maxHeartbeats 3200000 in
theorem back1_in (m : Nat) (hm : 1 ≤ m) (r Bs b off len cap : Nat) (A : Option Addr) (f : List Fm.Pc) (hl : f.length = len) (hcap : len ≤ cap) (hlen : len ≤ 1000000) (J Jx : List IP → World → Prop)
    (hY : ∀ pre x W, J pre W → pre.length < len → YieldAt Fence.wide (m - 1) Try.prog r (enp x) W fun e W' =>
      (e = .returned (.bool true) ∧ J (pre ++ [x]) W' ∧ KB [Bs, b] W W') ∨ (e = .returned (.bool false) ∧ Jx (pre ++ [x]) W'))
    (W : World) (hBs : W.cell? ⟨Bs, 0, none⟩ = some (.slice A len cap)) (hA : 0 < len → A = some ⟨b, off, none⟩) (hc : PCs W b off f) (h0 : J [] W) :
    CallsIn Fence.wide m Try.prog 44 #[.func (.yield r) #[] #[], .pointer (some ⟨Bs, 0, none⟩)] W fun e W' => (∃ v, e = .returned v) ∧
      ((∃ ys, ys.map Prod.snd = f.reverse ∧ J ys W') ∨ (∃ pre, (∃ k, k ≤ f.length ∧ pre.map Prod.snd = f.reverse.take k) ∧ Jx pre W')) := by
  refine callsIn_of_wp Try.func44 rfl trivial ?_ rfl
  simp only [Try.ntmps44, List.size_toArray, List.length_cons, List.length_nil, Nat.reduceAdd, Nat.reduceSub, Array.replicate_succ, Array.replicate_zero, List.push_toArray, List.append_toArray, List.nil_append, List.cons_append]
  have HC := Lib.hid hc
  clear hc
  have hw0 : IntKind.i64.wrap ((len : Int) - 1) = (len : Int) - 1 := IntWalk.i64_in _ (by omega)
  gi_wp2
  gi_loopw [3] (fun i wr => ∃ (k : Nat) (x : Int) (pre : List IP), k ≤ len ∧ i = .int .i64 x ∧ x = (len : Int) - 1 - k ∧ Hid (pre.length = k ∧ pre.map Prod.snd = f.reverse.take k) ∧ Hid (J pre wr) ∧ Hid (KB [Bs, b] W wr))
    (fun i _ => (intOf i + 1).toNat)
  case atStart => exact ⟨0, _, [], Nat.zero_le _, rfl, by simp, Lib.hid ⟨rfl, by simp⟩, Lib.hid h0, Lib.hid (KB.refl _ _)⟩
  case round =>
    obtain ⟨k, x, pre, hk, rfl, hx, F, HJ, HK⟩ := hrel
    by_cases hlt : k < len
    · obtain rfl := hA (by omega)
      obtain ⟨q, hq⟩ : ∃ q : Nat, q + k + 1 = len := ⟨len - 1 - k, by omega⟩
      obtain rfl : x = (q : Int) := by omega
      obtain ⟨c0, c1⟩ := HC.out q (by omega)
      replace c0 := HK.out _ _ (by simp) c0
      replace c1 := HK.out _ _ (by simp) c1
      have hbx : wr.cell? ⟨Bs, 0, none⟩ = some (.slice (some ⟨b, off, none⟩) len cap) := HK.out _ _ (by simp) hBs
      have hp := take_snoc (f := f.reverse) (k := k) (by rw [List.length_reverse]; omega)
      rw [rev_getD (q := q) (by omega)] at hp
      generalize hgx : f.getD q Fm.zp = x at *
      obtain ⟨x0, y0⟩ := x
      dsimp only at c0 c1
      have HP := Lib.hid hp
      have HQ := Lib.hid hq
      have hqn : (q : Int) < (len : Int) := by omega
      have hw : IntKind.i64.wrap ((q : Int) - 1) = (q : Int) - 1 := IntWalk.i64_in _ (by omega)
      clear hp hx hgx hq
      obtain ⟨fn, tmps, assign, body, hy, hR⟩ := hY pre (q, (x0, y0)) _ HJ.out (by have := F.out.1; omega)
      dsimp only [enp] at hy
      gi_wp2
      refine hR.mono ?_
      rintro e W3 (⟨rfl, hJ3, hk3⟩ | ⟨rfl, hJx3⟩)
      · gi_wp2
        go_roundw
        case rel => exact ⟨k + 1, _, _, by omega, rfl, by have := HQ.out; omega, Lib.hid ⟨by have := F.out.1; simp; omega, by have := F.out.2; rw [HP.out, List.map_append, this]; rfl⟩, Lib.hid hJ3, Lib.hid (HK.out.trans hk3)⟩
        case measure => simp [intOf]
      · gi_wp2
        refine bodyPost_ret (results_none rfl _ _ _) rfl ?_
        exact ⟨⟨_, rfl⟩, .inr ⟨_, ⟨k + 1, by omega, by have := F.out.2; rw [HP.out, List.map_append, this]; rfl⟩, hJx3⟩⟩
    · obtain rfl : k = len := by omega
      have e0 : decide ((0 : Int) ≤ x) = false := decide_eq_false (by omega)
      have FD := Lib.hid (show pre.map Prod.snd = f.reverse by have := F.out.2; rwa [List.take_of_length_le (by rw [List.length_reverse]; omega)] at this)
      clear hx
      gi_wp2
      go_end0
      exact ⟨⟨_, rfl⟩, .inl ⟨pre, FD.out, HJ.out⟩⟩

theorem all_stops (m : Nat) (hm : 1 ≤ m) (Bs b off len cap : Nat) (A : Option Addr) (f : List Fm.Pc) (hl : f.length = len) (hcap : len ≤ cap) (hlen : len ≤ 1000000) (w : World) (hBs : w.cell? ⟨Bs, 0, none⟩ = some (.slice A len cap)) (hA : 0 < len → A = some ⟨b, off, none⟩) (hc : PCs w b off f) :
    SeqStopsK Fence.wide m Try.prog 45 #[.pointer (some ⟨Bs, 0, none⟩)] enp (KB [Bs, b]) (fun ys => ys.map Prod.snd = f) (fun pre => ∃ k, k ≤ f.length ∧ pre.map Prod.snd = f.take k) len w := fun r J Jx W hW hJ _ hY h0 =>
  all1_in m hm r Bs b off len cap A f hl hcap hlen J Jx hJ hY W ((hW.cell (p := ⟨Bs, 0, none⟩) (World.block_lt_of_cell? _ _ hBs)).trans hBs) hA (fun j hj => ⟨(hW.cell (p := ⟨b, off + j * 2, none⟩) (World.block_lt_of_cell? _ _ (hc j hj).1)).trans (hc j hj).1, (hW.cell (p := ⟨b, off + j * 2 + 1, none⟩) (World.block_lt_of_cell? _ _ (hc j hj).2)).trans (hc j hj).2⟩) h0
theorem back_stops (m : Nat) (hm : 1 ≤ m) (Bs b off len cap : Nat) (A : Option Addr) (f : List Fm.Pc) (hl : f.length = len) (hcap : len ≤ cap) (hlen : len ≤ 1000000) (w : World) (hBs : w.cell? ⟨Bs, 0, none⟩ = some (.slice A len cap)) (hA : 0 < len → A = some ⟨b, off, none⟩) (hc : PCs w b off f) :
    SeqStopsK Fence.wide m Try.prog 44 #[.pointer (some ⟨Bs, 0, none⟩)] enp (KB [Bs, b]) (fun ys => ys.map Prod.snd = f.reverse) (fun pre => ∃ k, k ≤ f.length ∧ pre.map Prod.snd = f.reverse.take k) len w := fun r J Jx W hW _ _ hY h0 =>
  back1_in m hm r Bs b off len cap A f hl hcap hlen J Jx hY W ((hW.cell (p := ⟨Bs, 0, none⟩) (World.block_lt_of_cell? _ _ hBs)).trans hBs) hA (fun j hj => ⟨(hW.cell (p := ⟨b, off + j * 2, none⟩) (World.block_lt_of_cell? _ _ (hc j hj).1)).trans (hc j hj).1, (hW.cell (p := ⟨b, off + j * 2 + 1, none⟩) (World.block_lt_of_cell? _ _ (hc j hj).2)).trans (hc j hj).2⟩) h0
theorem all_any (A : Option Addr) (n c : Nat) (w : World) :
    Calls Try.prog 34 #[.slice A n c] w fun e w' => e = .returned (.func (.func 45) #[] #[.pointer (some ⟨w.heap.size, 0, none⟩)]) ∧ w' = w.alloc (.cells #[.slice A n c] 22) := by
  go_enter Try.func34, Try.ntmps34
  go_wp2
  go_ret
  exact ⟨rfl, rfl⟩
theorem backward_any (A : Option Addr) (n c : Nat) (w : World) :
    Calls Try.prog 33 #[.slice A n c] w fun e w' => e = .returned (.func (.func 44) #[] #[.pointer (some ⟨w.heap.size, 0, none⟩)]) ∧ w' = w.alloc (.cells #[.slice A n c] 22) := by
  go_enter Try.func33, Try.ntmps33
  go_wp2
  go_ret
  exact ⟨rfl, rfl⟩
end Go.Proofs.Ytagemdgbnajobaa
