/- The valves that the statements make. -/
import Derived.Test.YtckohnlpmooecaaVf
import Derived.Deep.DeepCutAuto
namespace Go.Proofs.Ytckohnlpmooecaa
open Go.ChangeShapes Go.WideShapes Go.ChangeAt Go.RowKit

theorem src_lt {w : World} {S : Nat} (h : SrcOK w S) : S < w.heap.size := by
  obtain ⟨a, b, off, cap, k, l, h0, _⟩ := h
  exact World.block_lt_of_cell? _ _ h0
theorem pick_lit (S n X : Nat) (xs : List Int) (C : Array Value) (w : World) (hX : w.heap.size = X) (hs : SrcOK w S) (hn : xs.length = n) (h0 : 0 < n) (hl : n ≤ 1000000)
    (hC : ∀ i, i < n → C[i]? = some (.int .i64 (xs.getD i 0))) :
    Calls Try.prog 26 #[.pointer (some ⟨S, 0, none⟩), .slice (some ⟨X, 0, none⟩) n n] (w.alloc (.cells C 3))
      fun e w' => ∃ r : Int, r ∈ xs ∧ e = .returned (.int .i64 r) ∧ w.grownBy w' (some S) ∧ SrcOK w' S := by
  subst hX
  have hS := src_lt hs
  refine (pick_any S w.heap.size 0 n n xs _ (hs.grown (World.grownBy_alloc _ _ _)) (by omega) hn h0 hl ?_).mono ?_
  · intro i hi
    rw [Nat.zero_add, World.cell?_alloc_new]
    exact hC i hi
  · rintro e w1 ⟨r, ⟨j, hj, rfl⟩, rfl, hg, hs1⟩
    refine ⟨_, ?_, rfl, grown_trans (World.grownBy_alloc _ _ _) hg, hs1⟩
    have hj2 : j < xs.length := by omega
    rw [List.getD_eq_getElem?_getD, List.getElem?_eq_getElem hj2]
    exact List.getElem_mem hj2

theorem grown_offS {w wr w' : World} {S : Option Nat} {B : Nat} (h : w.grownBy wr S) (k : wr.grownBy w' (some B)) (hB : w.heap.size ≤ B) : w.grownBy w' S :=
  ⟨k.os.trans h.os, k.tape.trans h.tape, k.output.trans h.output, Nat.le_trans h.size k.size, fun i hi hn => (k.block i (Nat.lt_of_lt_of_le hi h.size) (by intro e; injection e with e; omega)).trans (h.block i hi hn)⟩
def ValveEnd (S : Nat) (w : World) (e : Ending) (w' : World) : Prop :=
  ∃ (t o : Int) (a s : Bool), Vm.Ok t o ∧ e = .returned (vv t o a s) ∧ w.grownBy w' (some S) ∧ SrcOK w' S
/-- What holds while Valve runs: its result and its valve, the reader, and what was before. -/
structure Vw (w : World) (S X : Nat) (t o : Int) (a s : Bool) (w' : World) : Prop where
  res : VC w' w.heap.size 0 0 false false
  val : VC w' X t o a s
  src : SrcOK w' S
  grown : w.grownBy w' (some S)
theorem Vw.call {w w1 w2 : World} {S X : Nat} {t o : Int} {a s : Bool} (h : Vw w S X t o a s w1) (hS : S < w.heap.size) (hX : w.heap.size < X) (hg : w1.grownBy w2 (some S)) (hs : SrcOK w2 S) : Vw w S X t o a s w2 :=
  ⟨h.res.grownRow hg (fun e => by cases e; omega), h.val.grownRow hg (fun e => by cases e; omega), hs, grown_trans h.grown hg⟩

theorem Vw.set1 {w w1 : World} {S X : Nat} {t o : Int} {a s : Bool} (h : Vw w S X t o a s w1) (hS : S < w.heap.size) (hX : w.heap.size < X) (o' : Int) : Vw w S X t o' a s (w1.setCell ⟨X, 1, none⟩ (.int .i64 o')) := by
  have n1 : some w.heap.size ≠ some X := by intro e; injection e; omega
  have hg : w1.grownBy (w1.setCell ⟨X, 1, none⟩ (.int .i64 o')) (some X) := grown_set w1 ⟨X, 1, none⟩ _
  exact ⟨h.res.grownRow hg n1, h.val.set1 o', h.src.grownRow hg (fun k e => by injection e; omega), grown_offS h.grown hg (by omega)⟩
/-- The same, wherever the valve is. -/
def Vx (w : World) (S X : Nat) (t : Int) (a s : Bool) (w' : World) : Prop := ∃ o, Vw w S X t o a s w'

set_option maxHeartbeats 2000000 in
theorem valve_any (S : Nat) (w : World) (hs : SrcOK w S) :
    Calls Try.prog 23 #[.pointer (some ⟨S, 0, none⟩)] w (ValveEnd S w) := by
  have hS := src_lt hs
  have HS := Lib.hid hs
  clear hs
  go_enter Try.func23, Try.ntmps23
  go_wp2_with fail
  refine Calls.mono (pick_lit S 5 (w.heap.size + 1) [1, 2, 3, 6, 60] #[.int .i64 1, .int .i64 2, .int .i64 3, .int .i64 6, .int .i64 60] _ (by go_simp) (HS.out.grown (World.grownBy_alloc _ _ _)) rfl (by omega) (by omega) ?_) ?_
  · intro i hi
    match i, hi with
    | 0, _ => rfl
    | 1, _ => rfl
    | 2, _ => rfl
    | 3, _ => rfl
    | 4, _ => rfl
  rintro e w1 ⟨t, ht, rfl, hg, hs⟩
  have ht2 : 1 ≤ t ∧ t ≤ 60 := by simp at ht; omega
  have R := Lib.hid ((VC.zero w).grownRow hg (fun e => by cases e; omega))
  have G := Lib.hid (grown_trans (World.grownBy_alloc _ _ _) hg)
  have HS1 := Lib.hid hs
  clear hg hs ht HS
  go_wp2_with fail
  refine (n_any S 2 w1 HS1.out (by omega) (by omega)).mono ?_
  rintro e w2 ⟨x, hx, rfl, hg, hs⟩
  replace R := Lib.hid (R.out.grownRow hg (fun e => by cases e; omega))
  replace G := Lib.hid (grown_trans G.out hg)
  have HS2 := Lib.hid hs
  clear hg hs HS1
  go_wp2_with fail
  refine (n_any S 8 w2 HS2.out (by omega) (by omega)).mono ?_
  rintro e w3 ⟨y, hy, rfl, hg, hs⟩
  replace R := Lib.hid (R.out.grownRow hg (fun e => by cases e; omega))
  replace G := Lib.hid (grown_trans G.out hg)
  have HS3 := Lib.hid hs
  clear hg hs HS2
  go_upto_region 2 with fail
  obtain ⟨a, ha⟩ : ∃ a, a = (x == 0) := ⟨_, rfl⟩
  obtain ⟨b, hb⟩ : ∃ b, b = (y == 7) := ⟨_, rfl⟩
  rw [← ha, ← hb]
  clear ha hb hx hy
  have hX0 := G.out.size
  have V := Lib.hid (show Vw w S w3.heap.size t 0 a b (w3.alloc (Obj.cells #[.int .i64 t, .int .i64 0, .bool a, .bool b] 23)) from
    ⟨R.out.grown (World.grownBy_alloc _ _ _), VC.one _ _ _ _ _, HS3.out.grown (World.grownBy_alloc _ _ _), grown_weak _ (World.grownBy_alloc _ _ _) |> grown_trans G.out⟩)
  have hX : w.heap.size < w3.heap.size := by
    have := World.block_lt_of_cell? _ _ R.out.1
    exact this
  clear R G HS3 hX0
  have hw1 : IntKind.i64.wrap (t + 1) = t + 1 := IntWalk.i64_in _ (by omega)
  generalize w3.alloc (Obj.cells #[.int .i64 t, .int .i64 0, .bool a, .bool b] 23) = W0 at *
  generalize w3.heap.size = X at *
  refine wp_region_held_drew (S := (Vx w S X t a b)) (by kernel_rfl) ?_ (fun hHeld => ?_)
  · exact ⟨0, V.out.call hS hX (grown_drewN _ 1 _) (V.out.src.grown (grown_drewN _ 1 _))⟩
  try simp only [Act.put, List.setIfInBounds_toArray, List.set_cons_zero, List.set_cons_succ]
  refine wpAnyH_take (i := 0) (oi := { dst := some 14, op := Op.move (Operand.tmp 0), type := 35, pos := "second.go:37", after := #[], guard := none }) (v := ?_) rfl (by kernel_rfl) (by kernel_rfl) (by kernel_rfl) (fun _ _ _ h => h) (Or.inl ⟨by rfl, ?_⟩) (by assumption) ?_
  rotate_left 1
  · intro w hSw; obtain ⟨o', hv⟩ := hSw; obtain ⟨s0, s1, s2, s3, _⟩ := hv.val; first | (go_simp; done) | (go_simp; with_reducible rfl)
  try simp only [Act.put, List.setIfInBounds_toArray, List.set_cons_zero, List.set_cons_succ]
  refine wpAnyH_take (i := 1) (oi := { dst := some 15, op := Op.fieldAddr 23 (Operand.tmp 3) 0, type := 0, pos := "second.go:37", after := #[], guard := none }) (v := ?_) rfl (by kernel_rfl) (by kernel_rfl) (by kernel_rfl) (fun _ _ _ h => h) (Or.inl ⟨by rfl, ?_⟩) (by assumption) ?_
  rotate_left 1
  · intro w hSw; obtain ⟨o', hv⟩ := hSw; obtain ⟨s0, s1, s2, s3, _⟩ := hv.val; first | (go_simp; done) | (go_simp; with_reducible rfl)
  try simp only [Act.put, List.setIfInBounds_toArray, List.set_cons_zero, List.set_cons_succ]
  refine wpAnyH_take (i := 2) (oi := { dst := some 16, op := Op.load 3 (Operand.tmp 15), type := 3, pos := "second.go:37", after := #[{ on := 1, ground := Ground.data }], guard := none }) (v := ?_) rfl (by kernel_rfl) (by kernel_rfl) (by kernel_rfl) (fun _ _ _ h => h) (Or.inl ⟨by rfl, ?_⟩) (by assumption) ?_
  rotate_left 1
  · intro w hSw; obtain ⟨o', hv⟩ := hSw; obtain ⟨s0, s1, s2, s3, _⟩ := hv.val; first | (go_simp; done) | (go_simp; with_reducible rfl)
  try simp only [Act.put, List.setIfInBounds_toArray, List.set_cons_zero, List.set_cons_succ]
  refine wpAnyH_take (i := 3) (oi := { dst := some 17, op := Op.move (Operand.tmp 0), type := 35, pos := "second.go:37", after := #[], guard := none }) (v := ?_) rfl (by kernel_rfl) (by kernel_rfl) (by kernel_rfl) (fun _ _ _ h => h) (Or.inl ⟨by rfl, ?_⟩) (by assumption) ?_
  rotate_left 1
  · intro w hSw; obtain ⟨o', hv⟩ := hSw; obtain ⟨s0, s1, s2, s3, _⟩ := hv.val; first | (go_simp; done) | (go_simp; with_reducible rfl)
  try simp only [Act.put, List.setIfInBounds_toArray, List.set_cons_zero, List.set_cons_succ]
  refine wpAnyH_take (i := 4) (oi := { dst := some 18, op := Op.fieldAddr 23 (Operand.tmp 3) 0, type := 0, pos := "second.go:37", after := #[], guard := none }) (v := ?_) rfl (by kernel_rfl) (by kernel_rfl) (by kernel_rfl) (fun _ _ _ h => h) (Or.inl ⟨by rfl, ?_⟩) (by assumption) ?_
  rotate_left 1
  · intro w hSw; obtain ⟨o', hv⟩ := hSw; obtain ⟨s0, s1, s2, s3, _⟩ := hv.val; first | (go_simp; done) | (go_simp; with_reducible rfl)
  try simp only [Act.put, List.setIfInBounds_toArray, List.set_cons_zero, List.set_cons_succ]
  refine wpAnyH_take (i := 5) (oi := { dst := some 19, op := Op.load 3 (Operand.tmp 18), type := 3, pos := "second.go:37", after := #[{ on := 4, ground := Ground.data }], guard := none }) (v := ?_) rfl (by kernel_rfl) (by kernel_rfl) (by kernel_rfl) (fun _ _ _ h => h) (Or.inl ⟨by rfl, ?_⟩) (by assumption) ?_
  rotate_left 1
  · intro w hSw; obtain ⟨o', hv⟩ := hSw; obtain ⟨s0, s1, s2, s3, _⟩ := hv.val; first | (go_simp; done) | (go_simp; with_reducible rfl)
  try simp only [Act.put, List.setIfInBounds_toArray, List.set_cons_zero, List.set_cons_succ]
  refine wpAnyH_take (i := 6) (oi := { dst := some 20, op := Op.binOp BinOp.add 3 (Operand.tmp 19) (Operand.const (Value.int IntKind.i64 1)) 3, type := 3, pos := "second.go:37", after := #[{ on := 5, ground := Ground.data }], guard := none }) (v := ?_) rfl (by kernel_rfl) (by kernel_rfl) (by kernel_rfl) (fun _ _ _ h => h) (Or.inl ⟨by rfl, ?_⟩) (by assumption) ?_
  rotate_left 1
  · intro w hSw; obtain ⟨o', hv⟩ := hSw; obtain ⟨s0, s1, s2, s3, _⟩ := hv.val; first | (go_simp; done) | (go_simp; with_reducible rfl)
  try simp only [Act.put, List.setIfInBounds_toArray, List.set_cons_zero, List.set_cons_succ]
  refine wpAnyH_ready (rs := [7]) (by kernel_rfl) (by simp) (AllReadyH.cons (o := { dst := some 21, op := Op.call { callee := Callee.value (Operand.func 27), args := #[Operand.tmp 17, Operand.tmp 20], argTypes := #[35, 3] }, type := 3, pos := "second.go:37", after := #[{ on := 3, ground := Ground.data }, { on := 6, ground := Ground.data }], guard := none }) rfl (fun K hK => ?_) AllReadyH.nil)
  go_simp
  refine (n_any S (t + 1) _ (V.out.src.grown (grown_drewN _ 1 _)) (by omega) (by omega)).mono ?_
  rintro e w4 ⟨z, hz, rfl, hg, hs⟩
  have V4 := Lib.hid ((V.out.call hS hX (grown_drewN _ 1 _) (V.out.src.grown (grown_drewN _ 1 _))).call hS hX hg hs)
  clear hg hs V
  try dsimp only
  refine hK.out _ _ ?_ (fun hHeld => ?_)
  · exact ⟨0, V4.out⟩
  clear hK K
  try simp only [Act.put, List.setIfInBounds_toArray, List.set_cons_zero, List.set_cons_succ]
  refine wpAnyH_ready (rs := [8]) (by kernel_rfl) (by simp) (AllReadyH.cons (o := { dst := some 22, op := Op.buildSlice 34 3 #[(0, Operand.const (Value.int IntKind.i64 0)), (1, Operand.tmp 16), (2, Operand.tmp 21)], type := 34, pos := "second.go:37", after := #[{ on := 2, ground := Ground.data }, { on := 7, ground := Ground.data }], guard := none }) rfl (fun K hK => ?_) AllReadyH.nil)
  go_simp
  refine hK.out _ _ ?_ (fun hHeld => ?_)
  · exact ⟨0, V4.out.call hS hX (World.grownBy_alloc _ _ _) (V4.out.src.grown (World.grownBy_alloc _ _ _))⟩
  clear hK K
  try simp only [Act.put, List.setIfInBounds_toArray, List.set_cons_zero, List.set_cons_succ]
  refine wpAnyH_ready (rs := [9]) (by kernel_rfl) (by simp) (AllReadyH.cons (o := { dst := some 23, op := Op.call { callee := Callee.value (Operand.func 26), args := #[Operand.tmp 14, Operand.tmp 22], argTypes := #[35, 34] }, type := 3, pos := "second.go:37", after := #[{ on := 0, ground := Ground.data }, { on := 8, ground := Ground.data }, { on := 7, ground := Ground.chain }], guard := none }) rfl (fun K hK => ?_) AllReadyH.nil)
  go_simp
  refine Calls.mono (pick_lit S 3 w4.heap.size [0, t, z] #[.int .i64 0, .int .i64 t, .int .i64 z] w4 rfl V4.out.src rfl (by omega) (by omega) ?_) ?_
  · intro i hi
    match i, hi with
    | 0, _ => rfl
    | 1, _ => rfl
    | 2, _ => rfl
  rintro e w5 ⟨o, ho, rfl, hg, hs⟩
  have ho2 : 0 ≤ o ∧ o ≤ t := by simp at ho; omega
  have V5 := Lib.hid (V4.out.call hS hX hg hs)
  clear hg hs V4 ho
  try dsimp only
  refine hK.out _ _ ?_ (fun hHeld => ?_)
  · exact ⟨0, V5.out⟩
  clear hK K
  try simp only [Act.put, List.setIfInBounds_toArray, List.set_cons_zero, List.set_cons_succ]
  refine wpAnyH_take (i := 10) (oi := { dst := some 24, op := Op.fieldAddr 23 (Operand.tmp 3) 1, type := 0, pos := "second.go:37", after := #[{ on := 0, ground := Ground.phase }, { on := 1, ground := Ground.phase }, { on := 2, ground := Ground.phase }, { on := 3, ground := Ground.phase }, { on := 4, ground := Ground.phase }, { on := 5, ground := Ground.phase }, { on := 6, ground := Ground.phase }, { on := 7, ground := Ground.phase }, { on := 8, ground := Ground.phase }, { on := 9, ground := Ground.phase }], guard := none }) (v := ?_) rfl (by kernel_rfl) (by kernel_rfl) (by kernel_rfl) (fun _ _ _ h => h) (Or.inl ⟨by rfl, ?_⟩) (by assumption) ?_
  rotate_left 1
  · intro w hSw; obtain ⟨o', hv⟩ := hSw; obtain ⟨s0, s1, s2, s3, _⟩ := hv.val; first | (go_simp; done) | (go_simp; with_reducible rfl)
  try simp only [Act.put, List.setIfInBounds_toArray, List.set_cons_zero, List.set_cons_succ]
  obtain ⟨k0, k1, k2, k3, l0, l1, l2, l3⟩ := V5.out.val
  refine wpAnyH_ready (rs := [11]) (by kernel_rfl) (by simp) (AllReadyH.cons (o := { dst := none, op := Op.store 3 (Operand.tmp 24) (Operand.tmp 23), type := 0, pos := "second.go:37", after := #[{ on := 10, ground := Ground.data }, { on := 9, ground := Ground.data }, { on := 9, ground := Ground.chain }, { on := 0, ground := Ground.phase }, { on := 1, ground := Ground.phase }, { on := 2, ground := Ground.phase }, { on := 3, ground := Ground.phase }, { on := 4, ground := Ground.phase }, { on := 5, ground := Ground.phase }, { on := 6, ground := Ground.phase }, { on := 7, ground := Ground.phase }, { on := 8, ground := Ground.phase }, { on := 9, ground := Ground.phase }], guard := none }) rfl (fun K hK => ?_) AllReadyH.nil)
  go_simp
  have V6 := Lib.hid (V5.out.set1 hS hX o)
  refine hK.out _ _ ?_ (fun hHeld => ?_)
  · exact ⟨o, V6.out⟩
  clear hK K
  try simp only [Act.put, List.setIfInBounds_toArray, List.set_cons_zero, List.set_cons_succ]
  refine wpAnyH_done (by kernel_rfl) ?_ _
  clear k0 k1 k2 k3 l0 l1 l2 l3
  obtain ⟨k0, k1, k2, k3, l0, l1, l2, l3⟩ := V6.out.val
  obtain ⟨z0, z1, z2, z3, f0, f1, f2, f3⟩ := V6.out.res
  go_wp2
  obtain ⟨q0, q1, q2, q3, _⟩ := V6.out.res.set4 t o a b
  unfold set4 at q0 q1 q2 q3
  have hg := set4_grown (w5.setCell ⟨X, 1, none⟩ (.int .i64 o)) w.heap.size (.int .i64 t) (.int .i64 o) (.bool a) (.bool b)
  refine bodyPost_ret (v := vv t o a b) (by simp [results, Try.results23, go_sem, q0, q1, q2, q3, vv]) rfl ⟨t, o, a, b, ⟨ht2.1, ht2.2, ho2.1, ho2.2⟩, rfl, grown_offS V6.out.grown hg (Nat.le_refl _), V6.out.src.grownRow hg (fun k e => by injection e; omega)⟩
end Go.Proofs.Ytckohnlpmooecaa
