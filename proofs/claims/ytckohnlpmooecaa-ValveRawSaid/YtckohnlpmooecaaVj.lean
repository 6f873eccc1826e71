/- The walk of ValveArrives. -/
import Derived.Test.YtckohnlpmooecaaVh
namespace Go.Proofs.Ytckohnlpmooecaa
open Go.ChangeShapes Go.WideShapes Go.ChangeAt Go.RowKit

/-- Where a valve that isn't stuck ends. -/
def ends (t : Int) (a : Bool) : Int := if a then t else 0
theorem arr_pos {t o : Int} {a : Bool} (h : Vm.Ok t o) : Vm.pos t o a false (Vm.need t o a) = ends t a ∧ Vm.pos t (ends t a) a false 5 = ends t a ∧ (0 < Vm.need t o a → Vm.pos t o a false (Vm.need t o a - 1) ≠ ends t a) ∧ Vm.Ok t (ends t a) := by
  unfold Vm.Ok Vm.pos Vm.need ends at *
  cases a <;> simp <;> (repeat' split) <;> omega
/-- Two valves that lie in blocks X and Y. -/
def Ax (X Y : Nat) (t o : Int) (a : Bool) (x : Int) (w : World) : Prop := VC w X t o a false ∧ VC w Y t x a false
theorem Ax.grown {X Y : Nat} {t o x : Int} {a : Bool} {w w' : World} (h : Ax X Y t o a x w) (hg : w.grownBy w' none) : Ax X Y t o a x w' := ⟨h.1.grown hg, h.2.grown hg⟩
theorem Ax.drew {X Y : Nat} {t o x : Int} {a : Bool} {w : World} (h : Ax X Y t o a x w) : Ax X Y t o a x (w.drewN 1) := h.grown (grown_drewN _ 1 _)

set_option maxRecDepth 100000 in
set_option maxHeartbeats 2000000 in
theorem arrives_walk (a : Option Addr) (len cap : Nat) (zs : List Int) (w : World) (hi : InRow w a len cap zs) :
    Calls Try.prog 4 #[.slice a len cap] w fun e w' => e = .returned (.bool true) ∧ Below w.heap.size w w' := by
  go_enter Try.func4, Try.ntmps4
  go_wp2_with fail
  refine (new_any a len cap zs w hi).mono ?_
  rintro e w1 ⟨rfl, hg, hs, _⟩
  have G := Lib.hid hg
  have HS := Lib.hid hs
  clear hi hg hs
  go_wp2_with fail
  refine (valve_any w.heap.size w1 HS.out).mono ?_
  rintro e w2 ⟨t, o, a, s, hok, rfl, hg, hs⟩
  have OK := Lib.hid hok
  replace G := Lib.hid (grown_off G.out hg (Nat.le_refl _))
  have ht : 1 ≤ t ∧ t ≤ 60 := ⟨hok.1, hok.2.1⟩
  have hnr := Vm.need_range (a := a) hok
  obtain ⟨E1, E2, E3, OKX⟩ := arr_pos (a := a) hok
  have HL := Lib.hid (fun w => cleft_yes t o a false w OK.out)
  rw [show Vm.left t o a false = Vm.need t o a by unfold Vm.left; rw [if_pos OK.out]; simp] at HL
  have HP := Lib.hid (fun w => cpass_yes t o (Vm.need t o a) a false w OK.out ⟨hnr.1, by omega⟩)
  rw [E1] at HP
  have HZ := Lib.hid (fun w => cpass_yes t (ends t a) 5 a false w OKX (by omega))
  rw [E2] at HZ
  have OX := Lib.hid OKX
  have HE3 := Lib.hid E3
  clear hg hs HS hok E1 E2 E3 OKX
  have hsz := G.out.size
  unfold vv
  go_wp2_with fail
  have A := Lib.hid (VC.one w2 t o a false)
  have G1 := Lib.hid (grown_trans G.out (World.grownBy_alloc w2 (Obj.cells #[.int .i64 t, .int .i64 o, .bool a, .bool false] 23) none))
  refine (HL.out _).mono ?_
  generalize hn : Vm.need t o a = n at *
  generalize hx : ends t a = xo at *
  have HX := Lib.hid hx
  clear hx hn HL
  rintro e w3 ⟨rfl, hg⟩
  replace A := Lib.hid (A.out.grown hg)
  replace G := Lib.hid (grown_trans G1.out hg)
  clear hg G1
  have hX2 := A.out.lt
  obtain ⟨a0, a1, a2, a3, _⟩ := A.out
  have hn0 : ¬ n < 0 := by omega
  have hnt : ¬ t < n := by omega
  go_wp2_with fail
  refine (HP.out _).mono ?_
  rintro e w4 ⟨rfl, hg⟩
  replace A := Lib.hid (A.out.grown hg)
  replace G := Lib.hid (grown_trans G.out hg)
  clear hg a0 a1 a2 a3 HP
  have hX3 := A.out.lt
  unfold ve vv
  go_upto_region 8 with fail
  have AX := Lib.hid (show Ax w2.heap.size w4.heap.size t o a xo (w4.alloc (Obj.cells #[.int .i64 t, .int .i64 xo, .bool a, .bool false] 23)) from ⟨A.out.grown (World.grownBy_alloc _ _ _), VC.one _ _ _ _ _⟩)
  replace G := Lib.hid (grown_trans G.out (World.grownBy_alloc w4 (Obj.cells #[.int .i64 t, .int .i64 xo, .bool a, .bool false] 23) none))
  generalize w4.alloc (Obj.cells #[.int .i64 t, .int .i64 xo, .bool a, .bool false] 23) = W at *
  have HO := Lib.hid (fun w => copen_any t xo a false w (by unfold IsI64; omega) (by have := OX.out.2.2; unfold IsI64; omega))
  have HC := Lib.hid (fun w => cclosed_any t xo a false w (by unfold IsI64; omega) (by have := OX.out.2.2; unfold IsI64; omega))
  clear A
  cases a with
  | true =>
    rw [show decide (Vm.Ok t xo ∧ xo = t) = true from decide_eq_true ⟨OX.out, HX.out.symm⟩] at HO
    refine wp_region_held_drew (S := (Ax w2.heap.size w4.heap.size t o true xo)) (by kernel_rfl) ?_ (fun hHeld => ?_)
    · exact AX.out.drew
    try simp only [Act.put, List.setIfInBounds_toArray, List.set_cons_zero, List.set_cons_succ]
    refine wpAnyH_take (i := 0) (oi := { dst := some 33, op := Op.move (Operand.tmp 7), type := 25, pos := "law.go:42", after := #[], guard := none }) (v := ?_) rfl (by kernel_rfl) (by kernel_rfl) (by kernel_rfl) (fun _ _ _ h => h) (Or.inl ⟨by rfl, ?_⟩) (by assumption) ?_
    rotate_left 1
    · intro w hSw; obtain ⟨⟨s0, s1, s2, s3, _⟩, ⟨u0, u1, u2, u3, _⟩⟩ := hSw; first | (go_simp; done) | (go_simp; with_reducible rfl)
    try simp only [Act.put, List.setIfInBounds_toArray, List.set_cons_zero, List.set_cons_succ]
    refine wpAnyH_take (i := 1) (oi := { dst := some 34, op := Op.binOp BinOp.neq 25 (Operand.tmp 33) (Operand.const (Value.int IntKind.i64 0)) 25, type := 4, pos := "law.go:42", after := #[{ on := 0, ground := Ground.data }], guard := none }) (v := ?_) rfl (by kernel_rfl) (by kernel_rfl) (by kernel_rfl) (fun _ _ _ h => h) (Or.inl ⟨by rfl, ?_⟩) (by assumption) ?_
    rotate_left 1
    · intro w hSw; obtain ⟨⟨s0, s1, s2, s3, _⟩, ⟨u0, u1, u2, u3, _⟩⟩ := hSw; first | (go_simp; done) | (go_simp; with_reducible rfl)
    try simp only [Act.put, List.setIfInBounds_toArray, List.set_cons_zero, List.set_cons_succ]
    refine wpAnyH_take (i := 2) (oi := { dst := some 35, op := Op.move (Operand.tmp 34), type := 4, pos := "law.go:42", after := #[{ on := 1, ground := Ground.data }], guard := none }) (v := ?_) rfl (by kernel_rfl) (by kernel_rfl) (by kernel_rfl) (fun _ _ _ h => h) (Or.inl ⟨by rfl, ?_⟩) (by assumption) ?_
    rotate_left 1
    · intro w hSw; obtain ⟨⟨s0, s1, s2, s3, _⟩, ⟨u0, u1, u2, u3, _⟩⟩ := hSw; first | (go_simp; done) | (go_simp; with_reducible rfl)
    try simp only [Act.put, List.setIfInBounds_toArray, List.set_cons_zero, List.set_cons_succ]
    refine wpAnyH_take (i := 3) (oi := { dst := some 36, op := Op.fieldAddr 23 (Operand.tmp 4) 2, type := 0, pos := "law.go:42", after := #[{ on := 2, ground := Ground.guard }], guard := some (2, false) }) (v := ?_) rfl (by kernel_rfl) (by kernel_rfl) (by kernel_rfl) (fun _ _ _ h => h) (Or.inl ⟨by rfl, ?_⟩) (by assumption) ?_
    rotate_left 1
    · intro w hSw; obtain ⟨⟨s0, s1, s2, s3, _⟩, ⟨u0, u1, u2, u3, _⟩⟩ := hSw; first | (go_simp; done) | (go_simp; with_reducible rfl)
    try simp only [Act.put, List.setIfInBounds_toArray, List.set_cons_zero, List.set_cons_succ]
    refine wpAnyH_take (i := 4) (oi := { dst := some 37, op := Op.load 4 (Operand.tmp 36), type := 4, pos := "law.go:42", after := #[{ on := 3, ground := Ground.data }, { on := 2, ground := Ground.guard }], guard := some (2, false) }) (v := ?_) rfl (by kernel_rfl) (by kernel_rfl) (by kernel_rfl) (fun _ _ _ h => h) (Or.inl ⟨by rfl, ?_⟩) (by assumption) ?_
    rotate_left 1
    · intro w hSw; obtain ⟨⟨s0, s1, s2, s3, _⟩, ⟨u0, u1, u2, u3, _⟩⟩ := hSw; first | (go_simp; done) | (go_simp; with_reducible rfl)
    try simp only [Act.put, List.setIfInBounds_toArray, List.set_cons_zero, List.set_cons_succ]
    refine wpAnyH_take (i := 5) (oi := { dst := some 38, op := Op.load 23 (Operand.tmp 6), type := 23, pos := "law.go:42", after := #[{ on := 2, ground := Ground.guard }], guard := some (2, false) }) (v := ?_) rfl (by kernel_rfl) (by kernel_rfl) (by kernel_rfl) (fun _ _ _ h => h) (Or.inl ⟨by rfl, ?_⟩) (by assumption) ?_
    rotate_left 1
    · intro w hSw; obtain ⟨⟨s0, s1, s2, s3, _⟩, ⟨u0, u1, u2, u3, _⟩⟩ := hSw; first | (go_simp; done) | (go_simp; with_reducible rfl)
    try simp only [Act.put, List.setIfInBounds_toArray, List.set_cons_zero, List.set_cons_succ]
    refine wpAnyH_ready (rs := [6]) (by kernel_rfl) (by simp) (AllReadyH.cons (o := { dst := some 39, op := Op.call { callee := Callee.value (Operand.func 15), args := #[Operand.tmp 38], argTypes := #[23] }, type := 4, pos := "law.go:42", after := #[{ on := 5, ground := Ground.data }, { on := 2, ground := Ground.chain }, { on := 2, ground := Ground.guard }], guard := some (2, false) }) rfl (fun K hK => ?_) AllReadyH.nil)
    go_simp
    refine (HO.out _).mono ?_
    rintro e w5 ⟨rfl, hg⟩
    have AX5 := Lib.hid (AX.out.drew.grown hg)
    replace G := Lib.hid (grown_trans (grown_trans G.out (grown_drewN _ 1 _)) hg)
    clear hg
    try dsimp only
    refine hK.out _ _ ?_ (fun hHeld => ?_)
    · exact AX5.out
    clear hK K
    try simp only [Act.put, List.setIfInBounds_toArray, List.set_cons_zero, List.set_cons_succ]
    refine wpAnyH_take (i := 7) (oi := { dst := some 40, op := Op.binOp BinOp.neq 4 (Operand.tmp 37) (Operand.tmp 39) 4, type := 4, pos := "law.go:42", after := #[{ on := 4, ground := Ground.data }, { on := 6, ground := Ground.data }, { on := 2, ground := Ground.guard }], guard := some (2, false) }) (v := ?_) rfl (by kernel_rfl) (by kernel_rfl) (by kernel_rfl) (fun _ _ _ h => h) (Or.inl ⟨by rfl, ?_⟩) (by assumption) ?_
    rotate_left 1
    · intro w hSw; obtain ⟨⟨s0, s1, s2, s3, _⟩, ⟨u0, u1, u2, u3, _⟩⟩ := hSw; first | (go_simp; done) | (go_simp; with_reducible rfl)
    try simp only [Act.put, List.setIfInBounds_toArray, List.set_cons_zero, List.set_cons_succ]
    refine wpAnyH_take (i := 8) (oi := { dst := some 41, op := Op.move (Operand.tmp 40), type := 4, pos := "law.go:42", after := #[{ on := 7, ground := Ground.data }, { on := 6, ground := Ground.chain }, { on := 2, ground := Ground.guard }], guard := some (2, false) }) (v := ?_) rfl (by kernel_rfl) (by kernel_rfl) (by kernel_rfl) (fun _ _ _ h => h) (Or.inl ⟨by rfl, ?_⟩) (by assumption) ?_
    rotate_left 1
    · intro w hSw; obtain ⟨⟨s0, s1, s2, s3, _⟩, ⟨u0, u1, u2, u3, _⟩⟩ := hSw; first | (go_simp; done) | (go_simp; with_reducible rfl)
    try simp only [Act.put, List.setIfInBounds_toArray, List.set_cons_zero, List.set_cons_succ]
    refine wpAnyH_take (i := 9) (oi := { dst := some 42, op := Op.fieldAddr 23 (Operand.tmp 4) 2, type := 0, pos := "law.go:42", after := #[{ on := 8, ground := Ground.guard }], guard := some (8, true) }) (v := undef) rfl (by kernel_rfl) (by kernel_rfl) (by kernel_rfl) (fun _ _ _ h => h) (Or.inr ⟨by rfl, rfl⟩) (by assumption) ?_
    try simp only [Act.put, List.setIfInBounds_toArray, List.set_cons_zero, List.set_cons_succ]
    refine wpAnyH_take (i := 10) (oi := { dst := some 43, op := Op.load 4 (Operand.tmp 42), type := 4, pos := "law.go:42", after := #[{ on := 9, ground := Ground.data }, { on := 8, ground := Ground.guard }], guard := some (8, true) }) (v := undef) rfl (by kernel_rfl) (by kernel_rfl) (by kernel_rfl) (fun _ _ _ h => h) (Or.inr ⟨by rfl, rfl⟩) (by assumption) ?_
    try simp only [Act.put, List.setIfInBounds_toArray, List.set_cons_zero, List.set_cons_succ]
    refine wpAnyH_take (i := 11) (oi := { dst := some 44, op := Op.pick (Operand.tmp 41) (Operand.tmp 43) (Operand.const (Value.bool false)), type := 4, pos := "law.go:42", after := #[{ on := 8, ground := Ground.data }, { on := 10, ground := Ground.data }, { on := 2, ground := Ground.guard }], guard := some (2, false) }) (v := ?_) rfl (by kernel_rfl) (by kernel_rfl) (by kernel_rfl) (fun _ _ _ h => h) (Or.inl ⟨by rfl, ?_⟩) (by assumption) ?_
    rotate_left 1
    · intro w hSw; obtain ⟨⟨s0, s1, s2, s3, _⟩, ⟨u0, u1, u2, u3, _⟩⟩ := hSw; first | (go_simp; done) | (go_simp; with_reducible rfl)
    try simp only [Act.put, List.setIfInBounds_toArray, List.set_cons_zero, List.set_cons_succ]
    refine wpAnyH_take (i := 12) (oi := { dst := some 45, op := Op.pick (Operand.tmp 35) (Operand.const (Value.bool true)) (Operand.tmp 44), type := 4, pos := "law.go:42", after := #[{ on := 2, ground := Ground.data }, { on := 11, ground := Ground.data }], guard := none }) (v := ?_) rfl (by kernel_rfl) (by kernel_rfl) (by kernel_rfl) (fun _ _ _ h => h) (Or.inl ⟨by rfl, ?_⟩) (by assumption) ?_
    rotate_left 1
    · intro w hSw; obtain ⟨⟨s0, s1, s2, s3, _⟩, ⟨u0, u1, u2, u3, _⟩⟩ := hSw; first | (go_simp; done) | (go_simp; with_reducible rfl)
    try simp only [Act.put, List.setIfInBounds_toArray, List.set_cons_zero, List.set_cons_succ]
    refine wpAnyH_take (i := 13) (oi := { dst := some 46, op := Op.move (Operand.tmp 45), type := 4, pos := "law.go:42", after := #[{ on := 12, ground := Ground.data }, { on := 8, ground := Ground.chain }], guard := none }) (v := ?_) rfl (by kernel_rfl) (by kernel_rfl) (by kernel_rfl) (fun _ _ _ h => h) (Or.inl ⟨by rfl, ?_⟩) (by assumption) ?_
    rotate_left 1
    · intro w hSw; obtain ⟨⟨s0, s1, s2, s3, _⟩, ⟨u0, u1, u2, u3, _⟩⟩ := hSw; first | (go_simp; done) | (go_simp; with_reducible rfl)
    try simp only [Act.put, List.setIfInBounds_toArray, List.set_cons_zero, List.set_cons_succ]
    refine wpAnyH_take (i := 14) (oi := { dst := some 47, op := Op.fieldAddr 23 (Operand.tmp 4) 2, type := 0, pos := "law.go:42", after := #[{ on := 13, ground := Ground.guard }], guard := some (13, false) }) (v := ?_) rfl (by kernel_rfl) (by kernel_rfl) (by kernel_rfl) (fun _ _ _ h => h) (Or.inl ⟨by rfl, ?_⟩) (by assumption) ?_
    rotate_left 1
    · intro w hSw; obtain ⟨⟨s0, s1, s2, s3, _⟩, ⟨u0, u1, u2, u3, _⟩⟩ := hSw; first | (go_simp; done) | (go_simp; with_reducible rfl)
    try simp only [Act.put, List.setIfInBounds_toArray, List.set_cons_zero, List.set_cons_succ]
    refine wpAnyH_take (i := 15) (oi := { dst := some 48, op := Op.load 4 (Operand.tmp 47), type := 4, pos := "law.go:42", after := #[{ on := 14, ground := Ground.data }, { on := 13, ground := Ground.guard }], guard := some (13, false) }) (v := ?_) rfl (by kernel_rfl) (by kernel_rfl) (by kernel_rfl) (fun _ _ _ h => h) (Or.inl ⟨by rfl, ?_⟩) (by assumption) ?_
    rotate_left 1
    · intro w hSw; obtain ⟨⟨s0, s1, s2, s3, _⟩, ⟨u0, u1, u2, u3, _⟩⟩ := hSw; first | (go_simp; done) | (go_simp; with_reducible rfl)
    try simp only [Act.put, List.setIfInBounds_toArray, List.set_cons_zero, List.set_cons_succ]
    refine wpAnyH_take (i := 16) (oi := { dst := some 49, op := Op.unOp UnOp.not 4 (Operand.tmp 48), type := 4, pos := "law.go:42", after := #[{ on := 15, ground := Ground.data }, { on := 13, ground := Ground.guard }], guard := some (13, false) }) (v := ?_) rfl (by kernel_rfl) (by kernel_rfl) (by kernel_rfl) (fun _ _ _ h => h) (Or.inl ⟨by rfl, ?_⟩) (by assumption) ?_
    rotate_left 1
    · intro w hSw; obtain ⟨⟨s0, s1, s2, s3, _⟩, ⟨u0, u1, u2, u3, _⟩⟩ := hSw; first | (go_simp; done) | (go_simp; with_reducible rfl)
    try simp only [Act.put, List.setIfInBounds_toArray, List.set_cons_zero, List.set_cons_succ]
    refine wpAnyH_take (i := 17) (oi := { dst := some 50, op := Op.move (Operand.tmp 49), type := 4, pos := "law.go:42", after := #[{ on := 16, ground := Ground.data }, { on := 13, ground := Ground.chain }, { on := 13, ground := Ground.guard }], guard := some (13, false) }) (v := ?_) rfl (by kernel_rfl) (by kernel_rfl) (by kernel_rfl) (fun _ _ _ h => h) (Or.inl ⟨by rfl, ?_⟩) (by assumption) ?_
    rotate_left 1
    · intro w hSw; obtain ⟨⟨s0, s1, s2, s3, _⟩, ⟨u0, u1, u2, u3, _⟩⟩ := hSw; first | (go_simp; done) | (go_simp; with_reducible rfl)
    try simp only [Act.put, List.setIfInBounds_toArray, List.set_cons_zero, List.set_cons_succ]
    refine wpAnyH_take (i := 18) (oi := { dst := some 51, op := Op.load 23 (Operand.tmp 6), type := 23, pos := "law.go:42", after := #[{ on := 17, ground := Ground.guard }], guard := some (17, true) }) (v := undef) rfl (by kernel_rfl) (by kernel_rfl) (by kernel_rfl) (fun _ _ _ h => h) (Or.inr ⟨by rfl, rfl⟩) (by assumption) ?_
    try simp only [Act.put, List.setIfInBounds_toArray, List.set_cons_zero, List.set_cons_succ]
    refine wpAnyH_take (i := 19) (oi := { dst := some 52, op := Op.call { callee := Callee.value (Operand.func 17), args := #[Operand.tmp 51], argTypes := #[23] }, type := 4, pos := "law.go:42", after := #[{ on := 18, ground := Ground.data }, { on := 17, ground := Ground.chain }, { on := 17, ground := Ground.guard }], guard := some (17, true) }) (v := undef) rfl (by kernel_rfl) (by kernel_rfl) (by kernel_rfl) (fun _ _ _ h => h) (Or.inr ⟨by rfl, rfl⟩) (by assumption) ?_
    try simp only [Act.put, List.setIfInBounds_toArray, List.set_cons_zero, List.set_cons_succ]
    refine wpAnyH_take (i := 20) (oi := { dst := some 53, op := Op.unOp UnOp.not 4 (Operand.tmp 52), type := 4, pos := "law.go:42", after := #[{ on := 19, ground := Ground.data }, { on := 17, ground := Ground.guard }], guard := some (17, true) }) (v := undef) rfl (by kernel_rfl) (by kernel_rfl) (by kernel_rfl) (fun _ _ _ h => h) (Or.inr ⟨by rfl, rfl⟩) (by assumption) ?_
    try simp only [Act.put, List.setIfInBounds_toArray, List.set_cons_zero, List.set_cons_succ]
    refine wpAnyH_take (i := 21) (oi := { dst := some 54, op := Op.pick (Operand.tmp 50) (Operand.tmp 53) (Operand.const (Value.bool false)), type := 4, pos := "law.go:42", after := #[{ on := 17, ground := Ground.data }, { on := 20, ground := Ground.data }, { on := 13, ground := Ground.guard }], guard := some (13, false) }) (v := ?_) rfl (by kernel_rfl) (by kernel_rfl) (by kernel_rfl) (fun _ _ _ h => h) (Or.inl ⟨by rfl, ?_⟩) (by assumption) ?_
    rotate_left 1
    · intro w hSw; obtain ⟨⟨s0, s1, s2, s3, _⟩, ⟨u0, u1, u2, u3, _⟩⟩ := hSw; first | (go_simp; done) | (go_simp; with_reducible rfl)
    try simp only [Act.put, List.setIfInBounds_toArray, List.set_cons_zero, List.set_cons_succ]
    refine wpAnyH_take (i := 22) (oi := { dst := some 55, op := Op.pick (Operand.tmp 46) (Operand.const (Value.bool true)) (Operand.tmp 54), type := 4, pos := "law.go:42", after := #[{ on := 13, ground := Ground.data }, { on := 21, ground := Ground.data }], guard := none }) (v := ?_) rfl (by kernel_rfl) (by kernel_rfl) (by kernel_rfl) (fun _ _ _ h => h) (Or.inl ⟨by rfl, ?_⟩) (by assumption) ?_
    rotate_left 1
    · intro w hSw; obtain ⟨⟨s0, s1, s2, s3, _⟩, ⟨u0, u1, u2, u3, _⟩⟩ := hSw; first | (go_simp; done) | (go_simp; with_reducible rfl)
    try simp only [Act.put, List.setIfInBounds_toArray, List.set_cons_zero, List.set_cons_succ]
    refine wpAnyH_done (by kernel_rfl) ?_ _
    clear AX
    have AX := Lib.hid AX5.out
    clear AX5
    have hAX1 := AX.out.1.lt
    have hAX2 := AX.out.2.lt
    obtain ⟨⟨a0, a1, a2, a3, _⟩, ⟨b0, b1, b2, b3, _⟩⟩ := AX.out
    rcases (show n = 0 ∨ n = 1 ∨ 1 < n by omega) with rfl | rfl | h1
    · have HM := Lib.hid (fun w => cpass_yes t o (0) true false w OK.out ⟨by omega, by omega⟩)
      obtain ⟨yo, hy⟩ : ∃ y, y = Vm.pos t o true false (0) := ⟨_, rfl⟩
      rw [← hy] at HM
      clear hy
      go_wp2_with fail
      refine (HM.out _).mono ?_
      rintro e w7 ⟨rfl, hg⟩
      replace AX := Lib.hid ((AX.out.grown hg).grown (World.grownBy_alloc w7 (Obj.cells #[.int .i64 t, .int .i64 yo, .bool true, .bool false] 23) none))
      have Y := Lib.hid (VC.one w7 t yo true false)
      replace G := Lib.hid (grown_trans (grown_trans G.out hg) (World.grownBy_alloc w7 (Obj.cells #[.int .i64 t, .int .i64 yo, .bool true, .bool false] 23) none))
      clear hg a0 a1 a2 a3 b0 b1 b2 b3 HM
      unfold ve vv
      go_upto_region 11 with fail
      generalize w7.alloc (Obj.cells #[.int .i64 t, .int .i64 yo, .bool true, .bool false] 23) = W7 at *
      obtain ⟨⟨a0, a1, a2, a3, _⟩, ⟨b0, b1, b2, b3, _⟩⟩ := AX.out
      go_wp2_with fail
      refine (HZ.out _).mono ?_
      rintro e w8 ⟨rfl, hg⟩
      replace AX := Lib.hid ((AX.out.grown hg).grown (World.grownBy_alloc w8 (Obj.cells #[.int .i64 t, .int .i64 xo, .bool true, .bool false] 23) none))
      replace Y := Lib.hid ((Y.out.grown hg).grown (World.grownBy_alloc w8 (Obj.cells #[.int .i64 t, .int .i64 xo, .bool true, .bool false] 23) none))
      have Z := Lib.hid (VC.one w8 t xo true false)
      replace G := Lib.hid (grown_trans (grown_trans G.out hg) (World.grownBy_alloc w8 (Obj.cells #[.int .i64 t, .int .i64 xo, .bool true, .bool false] 23) none))
      clear hg a0 a1 a2 a3 b0 b1 b2 b3
      unfold ve vv
      go_upto_region 12 with fail
      generalize w8.alloc (Obj.cells #[.int .i64 t, .int .i64 xo, .bool true, .bool false] 23) = W8 at *
      obtain ⟨⟨a0, a1, a2, a3, _⟩, ⟨b0, b1, b2, b3, _⟩⟩ := AX.out
      obtain ⟨y0, y1, y2, y3, _⟩ := Y.out
      obtain ⟨z0, z1, z2, z3, _⟩ := Z.out
      go_wp2_with fail
      refine (awake23_any _).mono ?_
      rintro e w9 ⟨rfl, hg⟩
      replace G := Lib.hid (grown_trans G.out hg)
      clear hg
      go_wp2
      go_ret
      exact ⟨rfl, grown_below G.out⟩
    · have HM := Lib.hid (fun w => cpass_yes t o (0) true false w OK.out ⟨by omega, by omega⟩)
      obtain ⟨yo, hy⟩ : ∃ y, y = Vm.pos t o true false (0) := ⟨_, rfl⟩
      rw [← hy] at HM
      have hne : yo ≠ xo := by rw [hy]; have := HE3.out (by omega); simpa using this
      have hne2 : (yo == xo) = false := beq_eq_false_iff_ne.mpr hne
      clear hy
      go_wp2_with fail
      refine (HM.out _).mono ?_
      rintro e w7 ⟨rfl, hg⟩
      replace AX := Lib.hid ((AX.out.grown hg).grown (World.grownBy_alloc w7 (Obj.cells #[.int .i64 t, .int .i64 yo, .bool true, .bool false] 23) none))
      have Y := Lib.hid (VC.one w7 t yo true false)
      replace G := Lib.hid (grown_trans (grown_trans G.out hg) (World.grownBy_alloc w7 (Obj.cells #[.int .i64 t, .int .i64 yo, .bool true, .bool false] 23) none))
      clear hg a0 a1 a2 a3 b0 b1 b2 b3 HM
      unfold ve vv
      go_upto_region 11 with fail
      generalize w7.alloc (Obj.cells #[.int .i64 t, .int .i64 yo, .bool true, .bool false] 23) = W7 at *
      obtain ⟨⟨a0, a1, a2, a3, _⟩, ⟨b0, b1, b2, b3, _⟩⟩ := AX.out
      go_wp2_with fail
      refine (HZ.out _).mono ?_
      rintro e w8 ⟨rfl, hg⟩
      replace AX := Lib.hid ((AX.out.grown hg).grown (World.grownBy_alloc w8 (Obj.cells #[.int .i64 t, .int .i64 xo, .bool true, .bool false] 23) none))
      replace Y := Lib.hid ((Y.out.grown hg).grown (World.grownBy_alloc w8 (Obj.cells #[.int .i64 t, .int .i64 xo, .bool true, .bool false] 23) none))
      have Z := Lib.hid (VC.one w8 t xo true false)
      replace G := Lib.hid (grown_trans (grown_trans G.out hg) (World.grownBy_alloc w8 (Obj.cells #[.int .i64 t, .int .i64 xo, .bool true, .bool false] 23) none))
      clear hg a0 a1 a2 a3 b0 b1 b2 b3
      unfold ve vv
      go_upto_region 12 with fail
      generalize w8.alloc (Obj.cells #[.int .i64 t, .int .i64 xo, .bool true, .bool false] 23) = W8 at *
      obtain ⟨⟨a0, a1, a2, a3, _⟩, ⟨b0, b1, b2, b3, _⟩⟩ := AX.out
      obtain ⟨y0, y1, y2, y3, _⟩ := Y.out
      obtain ⟨z0, z1, z2, z3, _⟩ := Z.out
      go_wp2_with fail
      refine (awake23_any _).mono ?_
      rintro e w9 ⟨rfl, hg⟩
      replace G := Lib.hid (grown_trans G.out hg)
      clear hg
      go_wp2
      go_ret
      exact ⟨ret_bool (bne_iff_ne.mpr hne), grown_below G.out⟩
    · have hw : IntKind.i64.wrap (n - 1) = n - 1 := IntWalk.i64_in _ (by omega)
      have c1 : 0 < n - 1 := by omega
      have c2 : ¬ n - 1 < 0 := by omega
      have c3 : 0 ≤ n - 1 := by omega
      have c4 : ¬ n - 1 ≤ 0 := by omega
      have c5 : (n == 0) = false := by rw [beq_eq_false_iff_ne]; omega
      have c6 : max 0 (n - 1) = n - 1 := by omega
      have HM := Lib.hid (fun w => cpass_yes t o (n - 1) true false w OK.out ⟨by omega, by omega⟩)
      obtain ⟨yo, hy⟩ : ∃ y, y = Vm.pos t o true false (n - 1) := ⟨_, rfl⟩
      rw [← hy] at HM
      have hne : yo ≠ xo := by rw [hy]; exact HE3.out (by omega)
      have hne2 : (yo == xo) = false := beq_eq_false_iff_ne.mpr hne
      clear hy
      go_wp2_with fail
      refine (HM.out _).mono ?_
      rintro e w7 ⟨rfl, hg⟩
      replace AX := Lib.hid ((AX.out.grown hg).grown (World.grownBy_alloc w7 (Obj.cells #[.int .i64 t, .int .i64 yo, .bool true, .bool false] 23) none))
      have Y := Lib.hid (VC.one w7 t yo true false)
      replace G := Lib.hid (grown_trans (grown_trans G.out hg) (World.grownBy_alloc w7 (Obj.cells #[.int .i64 t, .int .i64 yo, .bool true, .bool false] 23) none))
      clear hg a0 a1 a2 a3 b0 b1 b2 b3 HM
      unfold ve vv
      go_upto_region 11 with fail
      generalize w7.alloc (Obj.cells #[.int .i64 t, .int .i64 yo, .bool true, .bool false] 23) = W7 at *
      obtain ⟨⟨a0, a1, a2, a3, _⟩, ⟨b0, b1, b2, b3, _⟩⟩ := AX.out
      go_wp2_with fail
      refine (HZ.out _).mono ?_
      rintro e w8 ⟨rfl, hg⟩
      replace AX := Lib.hid ((AX.out.grown hg).grown (World.grownBy_alloc w8 (Obj.cells #[.int .i64 t, .int .i64 xo, .bool true, .bool false] 23) none))
      replace Y := Lib.hid ((Y.out.grown hg).grown (World.grownBy_alloc w8 (Obj.cells #[.int .i64 t, .int .i64 xo, .bool true, .bool false] 23) none))
      have Z := Lib.hid (VC.one w8 t xo true false)
      replace G := Lib.hid (grown_trans (grown_trans G.out hg) (World.grownBy_alloc w8 (Obj.cells #[.int .i64 t, .int .i64 xo, .bool true, .bool false] 23) none))
      clear hg a0 a1 a2 a3 b0 b1 b2 b3
      unfold ve vv
      go_upto_region 12 with fail
      generalize w8.alloc (Obj.cells #[.int .i64 t, .int .i64 xo, .bool true, .bool false] 23) = W8 at *
      obtain ⟨⟨a0, a1, a2, a3, _⟩, ⟨b0, b1, b2, b3, _⟩⟩ := AX.out
      obtain ⟨y0, y1, y2, y3, _⟩ := Y.out
      obtain ⟨z0, z1, z2, z3, _⟩ := Z.out
      go_wp2_with fail
      refine (awake23_any _).mono ?_
      rintro e w9 ⟨rfl, hg⟩
      replace G := Lib.hid (grown_trans G.out hg)
      clear hg
      go_wp2
      go_ret
      exact ⟨ret_bool (bne_iff_ne.mpr hne), grown_below G.out⟩
  | false =>
    have hx0 : xo = 0 := HX.out.symm
    rw [show decide (Vm.Ok t xo ∧ xo = t) = false from decide_eq_false (fun x => by have := x.2; omega)] at HO
    rw [show decide (Vm.Ok t xo ∧ xo = 0) = true from decide_eq_true ⟨OX.out, hx0⟩] at HC
    clear hx0
    refine wp_region_held_drew (S := (Ax w2.heap.size w4.heap.size t o false xo)) (by kernel_rfl) ?_ (fun hHeld => ?_)
    · exact AX.out.drew
    try simp only [Act.put, List.setIfInBounds_toArray, List.set_cons_zero, List.set_cons_succ]
    refine wpAnyH_take (i := 0) (oi := { dst := some 33, op := Op.move (Operand.tmp 7), type := 25, pos := "law.go:42", after := #[], guard := none }) (v := ?_) rfl (by kernel_rfl) (by kernel_rfl) (by kernel_rfl) (fun _ _ _ h => h) (Or.inl ⟨by rfl, ?_⟩) (by assumption) ?_
    rotate_left 1
    · intro w hSw; obtain ⟨⟨s0, s1, s2, s3, _⟩, ⟨u0, u1, u2, u3, _⟩⟩ := hSw; first | (go_simp; done) | (go_simp; with_reducible rfl)
    try simp only [Act.put, List.setIfInBounds_toArray, List.set_cons_zero, List.set_cons_succ]
    refine wpAnyH_take (i := 1) (oi := { dst := some 34, op := Op.binOp BinOp.neq 25 (Operand.tmp 33) (Operand.const (Value.int IntKind.i64 0)) 25, type := 4, pos := "law.go:42", after := #[{ on := 0, ground := Ground.data }], guard := none }) (v := ?_) rfl (by kernel_rfl) (by kernel_rfl) (by kernel_rfl) (fun _ _ _ h => h) (Or.inl ⟨by rfl, ?_⟩) (by assumption) ?_
    rotate_left 1
    · intro w hSw; obtain ⟨⟨s0, s1, s2, s3, _⟩, ⟨u0, u1, u2, u3, _⟩⟩ := hSw; first | (go_simp; done) | (go_simp; with_reducible rfl)
    try simp only [Act.put, List.setIfInBounds_toArray, List.set_cons_zero, List.set_cons_succ]
    refine wpAnyH_take (i := 2) (oi := { dst := some 35, op := Op.move (Operand.tmp 34), type := 4, pos := "law.go:42", after := #[{ on := 1, ground := Ground.data }], guard := none }) (v := ?_) rfl (by kernel_rfl) (by kernel_rfl) (by kernel_rfl) (fun _ _ _ h => h) (Or.inl ⟨by rfl, ?_⟩) (by assumption) ?_
    rotate_left 1
    · intro w hSw; obtain ⟨⟨s0, s1, s2, s3, _⟩, ⟨u0, u1, u2, u3, _⟩⟩ := hSw; first | (go_simp; done) | (go_simp; with_reducible rfl)
    try simp only [Act.put, List.setIfInBounds_toArray, List.set_cons_zero, List.set_cons_succ]
    refine wpAnyH_take (i := 3) (oi := { dst := some 36, op := Op.fieldAddr 23 (Operand.tmp 4) 2, type := 0, pos := "law.go:42", after := #[{ on := 2, ground := Ground.guard }], guard := some (2, false) }) (v := ?_) rfl (by kernel_rfl) (by kernel_rfl) (by kernel_rfl) (fun _ _ _ h => h) (Or.inl ⟨by rfl, ?_⟩) (by assumption) ?_
    rotate_left 1
    · intro w hSw; obtain ⟨⟨s0, s1, s2, s3, _⟩, ⟨u0, u1, u2, u3, _⟩⟩ := hSw; first | (go_simp; done) | (go_simp; with_reducible rfl)
    try simp only [Act.put, List.setIfInBounds_toArray, List.set_cons_zero, List.set_cons_succ]
    refine wpAnyH_take (i := 4) (oi := { dst := some 37, op := Op.load 4 (Operand.tmp 36), type := 4, pos := "law.go:42", after := #[{ on := 3, ground := Ground.data }, { on := 2, ground := Ground.guard }], guard := some (2, false) }) (v := ?_) rfl (by kernel_rfl) (by kernel_rfl) (by kernel_rfl) (fun _ _ _ h => h) (Or.inl ⟨by rfl, ?_⟩) (by assumption) ?_
    rotate_left 1
    · intro w hSw; obtain ⟨⟨s0, s1, s2, s3, _⟩, ⟨u0, u1, u2, u3, _⟩⟩ := hSw; first | (go_simp; done) | (go_simp; with_reducible rfl)
    try simp only [Act.put, List.setIfInBounds_toArray, List.set_cons_zero, List.set_cons_succ]
    refine wpAnyH_take (i := 5) (oi := { dst := some 38, op := Op.load 23 (Operand.tmp 6), type := 23, pos := "law.go:42", after := #[{ on := 2, ground := Ground.guard }], guard := some (2, false) }) (v := ?_) rfl (by kernel_rfl) (by kernel_rfl) (by kernel_rfl) (fun _ _ _ h => h) (Or.inl ⟨by rfl, ?_⟩) (by assumption) ?_
    rotate_left 1
    · intro w hSw; obtain ⟨⟨s0, s1, s2, s3, _⟩, ⟨u0, u1, u2, u3, _⟩⟩ := hSw; first | (go_simp; done) | (go_simp; with_reducible rfl)
    try simp only [Act.put, List.setIfInBounds_toArray, List.set_cons_zero, List.set_cons_succ]
    refine wpAnyH_ready (rs := [6]) (by kernel_rfl) (by simp) (AllReadyH.cons (o := { dst := some 39, op := Op.call { callee := Callee.value (Operand.func 15), args := #[Operand.tmp 38], argTypes := #[23] }, type := 4, pos := "law.go:42", after := #[{ on := 5, ground := Ground.data }, { on := 2, ground := Ground.chain }, { on := 2, ground := Ground.guard }], guard := some (2, false) }) rfl (fun K hK => ?_) AllReadyH.nil)
    go_simp
    refine (HO.out _).mono ?_
    rintro e w5 ⟨rfl, hg⟩
    have AX5 := Lib.hid (AX.out.drew.grown hg)
    replace G := Lib.hid (grown_trans (grown_trans G.out (grown_drewN _ 1 _)) hg)
    clear hg
    try dsimp only
    refine hK.out _ _ ?_ (fun hHeld => ?_)
    · exact AX5.out
    clear hK K
    try simp only [Act.put, List.setIfInBounds_toArray, List.set_cons_zero, List.set_cons_succ]
    refine wpAnyH_take (i := 7) (oi := { dst := some 40, op := Op.binOp BinOp.neq 4 (Operand.tmp 37) (Operand.tmp 39) 4, type := 4, pos := "law.go:42", after := #[{ on := 4, ground := Ground.data }, { on := 6, ground := Ground.data }, { on := 2, ground := Ground.guard }], guard := some (2, false) }) (v := ?_) rfl (by kernel_rfl) (by kernel_rfl) (by kernel_rfl) (fun _ _ _ h => h) (Or.inl ⟨by rfl, ?_⟩) (by assumption) ?_
    rotate_left 1
    · intro w hSw; obtain ⟨⟨s0, s1, s2, s3, _⟩, ⟨u0, u1, u2, u3, _⟩⟩ := hSw; first | (go_simp; done) | (go_simp; with_reducible rfl)
    try simp only [Act.put, List.setIfInBounds_toArray, List.set_cons_zero, List.set_cons_succ]
    refine wpAnyH_take (i := 8) (oi := { dst := some 41, op := Op.move (Operand.tmp 40), type := 4, pos := "law.go:42", after := #[{ on := 7, ground := Ground.data }, { on := 6, ground := Ground.chain }, { on := 2, ground := Ground.guard }], guard := some (2, false) }) (v := ?_) rfl (by kernel_rfl) (by kernel_rfl) (by kernel_rfl) (fun _ _ _ h => h) (Or.inl ⟨by rfl, ?_⟩) (by assumption) ?_
    rotate_left 1
    · intro w hSw; obtain ⟨⟨s0, s1, s2, s3, _⟩, ⟨u0, u1, u2, u3, _⟩⟩ := hSw; first | (go_simp; done) | (go_simp; with_reducible rfl)
    try simp only [Act.put, List.setIfInBounds_toArray, List.set_cons_zero, List.set_cons_succ]
    refine wpAnyH_take (i := 9) (oi := { dst := some 42, op := Op.fieldAddr 23 (Operand.tmp 4) 2, type := 0, pos := "law.go:42", after := #[{ on := 8, ground := Ground.guard }], guard := some (8, true) }) (v := undef) rfl (by kernel_rfl) (by kernel_rfl) (by kernel_rfl) (fun _ _ _ h => h) (Or.inr ⟨by rfl, rfl⟩) (by assumption) ?_
    try simp only [Act.put, List.setIfInBounds_toArray, List.set_cons_zero, List.set_cons_succ]
    refine wpAnyH_take (i := 10) (oi := { dst := some 43, op := Op.load 4 (Operand.tmp 42), type := 4, pos := "law.go:42", after := #[{ on := 9, ground := Ground.data }, { on := 8, ground := Ground.guard }], guard := some (8, true) }) (v := undef) rfl (by kernel_rfl) (by kernel_rfl) (by kernel_rfl) (fun _ _ _ h => h) (Or.inr ⟨by rfl, rfl⟩) (by assumption) ?_
    try simp only [Act.put, List.setIfInBounds_toArray, List.set_cons_zero, List.set_cons_succ]
    refine wpAnyH_take (i := 11) (oi := { dst := some 44, op := Op.pick (Operand.tmp 41) (Operand.tmp 43) (Operand.const (Value.bool false)), type := 4, pos := "law.go:42", after := #[{ on := 8, ground := Ground.data }, { on := 10, ground := Ground.data }, { on := 2, ground := Ground.guard }], guard := some (2, false) }) (v := ?_) rfl (by kernel_rfl) (by kernel_rfl) (by kernel_rfl) (fun _ _ _ h => h) (Or.inl ⟨by rfl, ?_⟩) (by assumption) ?_
    rotate_left 1
    · intro w hSw; obtain ⟨⟨s0, s1, s2, s3, _⟩, ⟨u0, u1, u2, u3, _⟩⟩ := hSw; first | (go_simp; done) | (go_simp; with_reducible rfl)
    try simp only [Act.put, List.setIfInBounds_toArray, List.set_cons_zero, List.set_cons_succ]
    refine wpAnyH_take (i := 12) (oi := { dst := some 45, op := Op.pick (Operand.tmp 35) (Operand.const (Value.bool true)) (Operand.tmp 44), type := 4, pos := "law.go:42", after := #[{ on := 2, ground := Ground.data }, { on := 11, ground := Ground.data }], guard := none }) (v := ?_) rfl (by kernel_rfl) (by kernel_rfl) (by kernel_rfl) (fun _ _ _ h => h) (Or.inl ⟨by rfl, ?_⟩) (by assumption) ?_
    rotate_left 1
    · intro w hSw; obtain ⟨⟨s0, s1, s2, s3, _⟩, ⟨u0, u1, u2, u3, _⟩⟩ := hSw; first | (go_simp; done) | (go_simp; with_reducible rfl)
    try simp only [Act.put, List.setIfInBounds_toArray, List.set_cons_zero, List.set_cons_succ]
    refine wpAnyH_take (i := 13) (oi := { dst := some 46, op := Op.move (Operand.tmp 45), type := 4, pos := "law.go:42", after := #[{ on := 12, ground := Ground.data }, { on := 8, ground := Ground.chain }], guard := none }) (v := ?_) rfl (by kernel_rfl) (by kernel_rfl) (by kernel_rfl) (fun _ _ _ h => h) (Or.inl ⟨by rfl, ?_⟩) (by assumption) ?_
    rotate_left 1
    · intro w hSw; obtain ⟨⟨s0, s1, s2, s3, _⟩, ⟨u0, u1, u2, u3, _⟩⟩ := hSw; first | (go_simp; done) | (go_simp; with_reducible rfl)
    try simp only [Act.put, List.setIfInBounds_toArray, List.set_cons_zero, List.set_cons_succ]
    refine wpAnyH_take (i := 14) (oi := { dst := some 47, op := Op.fieldAddr 23 (Operand.tmp 4) 2, type := 0, pos := "law.go:42", after := #[{ on := 13, ground := Ground.guard }], guard := some (13, false) }) (v := ?_) rfl (by kernel_rfl) (by kernel_rfl) (by kernel_rfl) (fun _ _ _ h => h) (Or.inl ⟨by rfl, ?_⟩) (by assumption) ?_
    rotate_left 1
    · intro w hSw; obtain ⟨⟨s0, s1, s2, s3, _⟩, ⟨u0, u1, u2, u3, _⟩⟩ := hSw; first | (go_simp; done) | (go_simp; with_reducible rfl)
    try simp only [Act.put, List.setIfInBounds_toArray, List.set_cons_zero, List.set_cons_succ]
    refine wpAnyH_take (i := 15) (oi := { dst := some 48, op := Op.load 4 (Operand.tmp 47), type := 4, pos := "law.go:42", after := #[{ on := 14, ground := Ground.data }, { on := 13, ground := Ground.guard }], guard := some (13, false) }) (v := ?_) rfl (by kernel_rfl) (by kernel_rfl) (by kernel_rfl) (fun _ _ _ h => h) (Or.inl ⟨by rfl, ?_⟩) (by assumption) ?_
    rotate_left 1
    · intro w hSw; obtain ⟨⟨s0, s1, s2, s3, _⟩, ⟨u0, u1, u2, u3, _⟩⟩ := hSw; first | (go_simp; done) | (go_simp; with_reducible rfl)
    try simp only [Act.put, List.setIfInBounds_toArray, List.set_cons_zero, List.set_cons_succ]
    refine wpAnyH_take (i := 16) (oi := { dst := some 49, op := Op.unOp UnOp.not 4 (Operand.tmp 48), type := 4, pos := "law.go:42", after := #[{ on := 15, ground := Ground.data }, { on := 13, ground := Ground.guard }], guard := some (13, false) }) (v := ?_) rfl (by kernel_rfl) (by kernel_rfl) (by kernel_rfl) (fun _ _ _ h => h) (Or.inl ⟨by rfl, ?_⟩) (by assumption) ?_
    rotate_left 1
    · intro w hSw; obtain ⟨⟨s0, s1, s2, s3, _⟩, ⟨u0, u1, u2, u3, _⟩⟩ := hSw; first | (go_simp; done) | (go_simp; with_reducible rfl)
    try simp only [Act.put, List.setIfInBounds_toArray, List.set_cons_zero, List.set_cons_succ]
    refine wpAnyH_take (i := 17) (oi := { dst := some 50, op := Op.move (Operand.tmp 49), type := 4, pos := "law.go:42", after := #[{ on := 16, ground := Ground.data }, { on := 13, ground := Ground.chain }, { on := 13, ground := Ground.guard }], guard := some (13, false) }) (v := ?_) rfl (by kernel_rfl) (by kernel_rfl) (by kernel_rfl) (fun _ _ _ h => h) (Or.inl ⟨by rfl, ?_⟩) (by assumption) ?_
    rotate_left 1
    · intro w hSw; obtain ⟨⟨s0, s1, s2, s3, _⟩, ⟨u0, u1, u2, u3, _⟩⟩ := hSw; first | (go_simp; done) | (go_simp; with_reducible rfl)
    try simp only [Act.put, List.setIfInBounds_toArray, List.set_cons_zero, List.set_cons_succ]
    refine wpAnyH_take (i := 18) (oi := { dst := some 51, op := Op.load 23 (Operand.tmp 6), type := 23, pos := "law.go:42", after := #[{ on := 17, ground := Ground.guard }], guard := some (17, true) }) (v := ?_) rfl (by kernel_rfl) (by kernel_rfl) (by kernel_rfl) (fun _ _ _ h => h) (Or.inl ⟨by rfl, ?_⟩) (by assumption) ?_
    rotate_left 1
    · intro w hSw; obtain ⟨⟨s0, s1, s2, s3, _⟩, ⟨u0, u1, u2, u3, _⟩⟩ := hSw; first | (go_simp; done) | (go_simp; with_reducible rfl)
    try simp only [Act.put, List.setIfInBounds_toArray, List.set_cons_zero, List.set_cons_succ]
    refine wpAnyH_ready (rs := [19]) (by kernel_rfl) (by simp) (AllReadyH.cons (o := { dst := some 52, op := Op.call { callee := Callee.value (Operand.func 17), args := #[Operand.tmp 51], argTypes := #[23] }, type := 4, pos := "law.go:42", after := #[{ on := 18, ground := Ground.data }, { on := 17, ground := Ground.chain }, { on := 17, ground := Ground.guard }], guard := some (17, true) }) rfl (fun K hK => ?_) AllReadyH.nil)
    go_simp
    refine (HC.out _).mono ?_
    rintro e w6 ⟨rfl, hg⟩
    have AX6 := Lib.hid (AX5.out.grown hg)
    replace G := Lib.hid (grown_trans G.out hg)
    clear hg
    try dsimp only
    refine hK.out _ _ ?_ (fun hHeld => ?_)
    · exact AX6.out
    clear hK K
    try simp only [Act.put, List.setIfInBounds_toArray, List.set_cons_zero, List.set_cons_succ]
    refine wpAnyH_take (i := 20) (oi := { dst := some 53, op := Op.unOp UnOp.not 4 (Operand.tmp 52), type := 4, pos := "law.go:42", after := #[{ on := 19, ground := Ground.data }, { on := 17, ground := Ground.guard }], guard := some (17, true) }) (v := ?_) rfl (by kernel_rfl) (by kernel_rfl) (by kernel_rfl) (fun _ _ _ h => h) (Or.inl ⟨by rfl, ?_⟩) (by assumption) ?_
    rotate_left 1
    · intro w hSw; obtain ⟨⟨s0, s1, s2, s3, _⟩, ⟨u0, u1, u2, u3, _⟩⟩ := hSw; first | (go_simp; done) | (go_simp; with_reducible rfl)
    try simp only [Act.put, List.setIfInBounds_toArray, List.set_cons_zero, List.set_cons_succ]
    refine wpAnyH_take (i := 21) (oi := { dst := some 54, op := Op.pick (Operand.tmp 50) (Operand.tmp 53) (Operand.const (Value.bool false)), type := 4, pos := "law.go:42", after := #[{ on := 17, ground := Ground.data }, { on := 20, ground := Ground.data }, { on := 13, ground := Ground.guard }], guard := some (13, false) }) (v := ?_) rfl (by kernel_rfl) (by kernel_rfl) (by kernel_rfl) (fun _ _ _ h => h) (Or.inl ⟨by rfl, ?_⟩) (by assumption) ?_
    rotate_left 1
    · intro w hSw; obtain ⟨⟨s0, s1, s2, s3, _⟩, ⟨u0, u1, u2, u3, _⟩⟩ := hSw; first | (go_simp; done) | (go_simp; with_reducible rfl)
    try simp only [Act.put, List.setIfInBounds_toArray, List.set_cons_zero, List.set_cons_succ]
    refine wpAnyH_take (i := 22) (oi := { dst := some 55, op := Op.pick (Operand.tmp 46) (Operand.const (Value.bool true)) (Operand.tmp 54), type := 4, pos := "law.go:42", after := #[{ on := 13, ground := Ground.data }, { on := 21, ground := Ground.data }], guard := none }) (v := ?_) rfl (by kernel_rfl) (by kernel_rfl) (by kernel_rfl) (fun _ _ _ h => h) (Or.inl ⟨by rfl, ?_⟩) (by assumption) ?_
    rotate_left 1
    · intro w hSw; obtain ⟨⟨s0, s1, s2, s3, _⟩, ⟨u0, u1, u2, u3, _⟩⟩ := hSw; first | (go_simp; done) | (go_simp; with_reducible rfl)
    try simp only [Act.put, List.setIfInBounds_toArray, List.set_cons_zero, List.set_cons_succ]
    refine wpAnyH_done (by kernel_rfl) ?_ _
    clear AX
    have AX := Lib.hid AX6.out
    clear AX6
    have hAX1 := AX.out.1.lt
    have hAX2 := AX.out.2.lt
    obtain ⟨⟨a0, a1, a2, a3, _⟩, ⟨b0, b1, b2, b3, _⟩⟩ := AX.out
    rcases (show n = 0 ∨ n = 1 ∨ 1 < n by omega) with rfl | rfl | h1
    · have HM := Lib.hid (fun w => cpass_yes t o (0) false false w OK.out ⟨by omega, by omega⟩)
      obtain ⟨yo, hy⟩ : ∃ y, y = Vm.pos t o false false (0) := ⟨_, rfl⟩
      rw [← hy] at HM
      clear hy
      go_wp2_with fail
      refine (HM.out _).mono ?_
      rintro e w7 ⟨rfl, hg⟩
      replace AX := Lib.hid ((AX.out.grown hg).grown (World.grownBy_alloc w7 (Obj.cells #[.int .i64 t, .int .i64 yo, .bool false, .bool false] 23) none))
      have Y := Lib.hid (VC.one w7 t yo false false)
      replace G := Lib.hid (grown_trans (grown_trans G.out hg) (World.grownBy_alloc w7 (Obj.cells #[.int .i64 t, .int .i64 yo, .bool false, .bool false] 23) none))
      clear hg a0 a1 a2 a3 b0 b1 b2 b3 HM
      unfold ve vv
      go_upto_region 11 with fail
      generalize w7.alloc (Obj.cells #[.int .i64 t, .int .i64 yo, .bool false, .bool false] 23) = W7 at *
      obtain ⟨⟨a0, a1, a2, a3, _⟩, ⟨b0, b1, b2, b3, _⟩⟩ := AX.out
      go_wp2_with fail
      refine (HZ.out _).mono ?_
      rintro e w8 ⟨rfl, hg⟩
      replace AX := Lib.hid ((AX.out.grown hg).grown (World.grownBy_alloc w8 (Obj.cells #[.int .i64 t, .int .i64 xo, .bool false, .bool false] 23) none))
      replace Y := Lib.hid ((Y.out.grown hg).grown (World.grownBy_alloc w8 (Obj.cells #[.int .i64 t, .int .i64 xo, .bool false, .bool false] 23) none))
      have Z := Lib.hid (VC.one w8 t xo false false)
      replace G := Lib.hid (grown_trans (grown_trans G.out hg) (World.grownBy_alloc w8 (Obj.cells #[.int .i64 t, .int .i64 xo, .bool false, .bool false] 23) none))
      clear hg a0 a1 a2 a3 b0 b1 b2 b3
      unfold ve vv
      go_upto_region 12 with fail
      generalize w8.alloc (Obj.cells #[.int .i64 t, .int .i64 xo, .bool false, .bool false] 23) = W8 at *
      obtain ⟨⟨a0, a1, a2, a3, _⟩, ⟨b0, b1, b2, b3, _⟩⟩ := AX.out
      obtain ⟨y0, y1, y2, y3, _⟩ := Y.out
      obtain ⟨z0, z1, z2, z3, _⟩ := Z.out
      go_wp2_with fail
      refine (awake23_any _).mono ?_
      rintro e w9 ⟨rfl, hg⟩
      replace G := Lib.hid (grown_trans G.out hg)
      clear hg
      go_wp2
      go_ret
      exact ⟨rfl, grown_below G.out⟩
    · have HM := Lib.hid (fun w => cpass_yes t o (0) false false w OK.out ⟨by omega, by omega⟩)
      obtain ⟨yo, hy⟩ : ∃ y, y = Vm.pos t o false false (0) := ⟨_, rfl⟩
      rw [← hy] at HM
      have hne : yo ≠ xo := by rw [hy]; have := HE3.out (by omega); simpa using this
      have hne2 : (yo == xo) = false := beq_eq_false_iff_ne.mpr hne
      clear hy
      go_wp2_with fail
      refine (HM.out _).mono ?_
      rintro e w7 ⟨rfl, hg⟩
      replace AX := Lib.hid ((AX.out.grown hg).grown (World.grownBy_alloc w7 (Obj.cells #[.int .i64 t, .int .i64 yo, .bool false, .bool false] 23) none))
      have Y := Lib.hid (VC.one w7 t yo false false)
      replace G := Lib.hid (grown_trans (grown_trans G.out hg) (World.grownBy_alloc w7 (Obj.cells #[.int .i64 t, .int .i64 yo, .bool false, .bool false] 23) none))
      clear hg a0 a1 a2 a3 b0 b1 b2 b3 HM
      unfold ve vv
      go_upto_region 11 with fail
      generalize w7.alloc (Obj.cells #[.int .i64 t, .int .i64 yo, .bool false, .bool false] 23) = W7 at *
      obtain ⟨⟨a0, a1, a2, a3, _⟩, ⟨b0, b1, b2, b3, _⟩⟩ := AX.out
      go_wp2_with fail
      refine (HZ.out _).mono ?_
      rintro e w8 ⟨rfl, hg⟩
      replace AX := Lib.hid ((AX.out.grown hg).grown (World.grownBy_alloc w8 (Obj.cells #[.int .i64 t, .int .i64 xo, .bool false, .bool false] 23) none))
      replace Y := Lib.hid ((Y.out.grown hg).grown (World.grownBy_alloc w8 (Obj.cells #[.int .i64 t, .int .i64 xo, .bool false, .bool false] 23) none))
      have Z := Lib.hid (VC.one w8 t xo false false)
      replace G := Lib.hid (grown_trans (grown_trans G.out hg) (World.grownBy_alloc w8 (Obj.cells #[.int .i64 t, .int .i64 xo, .bool false, .bool false] 23) none))
      clear hg a0 a1 a2 a3 b0 b1 b2 b3
      unfold ve vv
      go_upto_region 12 with fail
      generalize w8.alloc (Obj.cells #[.int .i64 t, .int .i64 xo, .bool false, .bool false] 23) = W8 at *
      obtain ⟨⟨a0, a1, a2, a3, _⟩, ⟨b0, b1, b2, b3, _⟩⟩ := AX.out
      obtain ⟨y0, y1, y2, y3, _⟩ := Y.out
      obtain ⟨z0, z1, z2, z3, _⟩ := Z.out
      go_wp2_with fail
      refine (awake23_any _).mono ?_
      rintro e w9 ⟨rfl, hg⟩
      replace G := Lib.hid (grown_trans G.out hg)
      clear hg
      go_wp2
      go_ret
      exact ⟨ret_bool (bne_iff_ne.mpr hne), grown_below G.out⟩
    · have hw : IntKind.i64.wrap (n - 1) = n - 1 := IntWalk.i64_in _ (by omega)
      have c1 : 0 < n - 1 := by omega
      have c2 : ¬ n - 1 < 0 := by omega
      have c3 : 0 ≤ n - 1 := by omega
      have c4 : ¬ n - 1 ≤ 0 := by omega
      have c5 : (n == 0) = false := by rw [beq_eq_false_iff_ne]; omega
      have c6 : max 0 (n - 1) = n - 1 := by omega
      have HM := Lib.hid (fun w => cpass_yes t o (n - 1) false false w OK.out ⟨by omega, by omega⟩)
      obtain ⟨yo, hy⟩ : ∃ y, y = Vm.pos t o false false (n - 1) := ⟨_, rfl⟩
      rw [← hy] at HM
      have hne : yo ≠ xo := by rw [hy]; exact HE3.out (by omega)
      have hne2 : (yo == xo) = false := beq_eq_false_iff_ne.mpr hne
      clear hy
      go_wp2_with fail
      refine (HM.out _).mono ?_
      rintro e w7 ⟨rfl, hg⟩
      replace AX := Lib.hid ((AX.out.grown hg).grown (World.grownBy_alloc w7 (Obj.cells #[.int .i64 t, .int .i64 yo, .bool false, .bool false] 23) none))
      have Y := Lib.hid (VC.one w7 t yo false false)
      replace G := Lib.hid (grown_trans (grown_trans G.out hg) (World.grownBy_alloc w7 (Obj.cells #[.int .i64 t, .int .i64 yo, .bool false, .bool false] 23) none))
      clear hg a0 a1 a2 a3 b0 b1 b2 b3 HM
      unfold ve vv
      go_upto_region 11 with fail
      generalize w7.alloc (Obj.cells #[.int .i64 t, .int .i64 yo, .bool false, .bool false] 23) = W7 at *
      obtain ⟨⟨a0, a1, a2, a3, _⟩, ⟨b0, b1, b2, b3, _⟩⟩ := AX.out
      go_wp2_with fail
      refine (HZ.out _).mono ?_
      rintro e w8 ⟨rfl, hg⟩
      replace AX := Lib.hid ((AX.out.grown hg).grown (World.grownBy_alloc w8 (Obj.cells #[.int .i64 t, .int .i64 xo, .bool false, .bool false] 23) none))
      replace Y := Lib.hid ((Y.out.grown hg).grown (World.grownBy_alloc w8 (Obj.cells #[.int .i64 t, .int .i64 xo, .bool false, .bool false] 23) none))
      have Z := Lib.hid (VC.one w8 t xo false false)
      replace G := Lib.hid (grown_trans (grown_trans G.out hg) (World.grownBy_alloc w8 (Obj.cells #[.int .i64 t, .int .i64 xo, .bool false, .bool false] 23) none))
      clear hg a0 a1 a2 a3 b0 b1 b2 b3
      unfold ve vv
      go_upto_region 12 with fail
      generalize w8.alloc (Obj.cells #[.int .i64 t, .int .i64 xo, .bool false, .bool false] 23) = W8 at *
      obtain ⟨⟨a0, a1, a2, a3, _⟩, ⟨b0, b1, b2, b3, _⟩⟩ := AX.out
      obtain ⟨y0, y1, y2, y3, _⟩ := Y.out
      obtain ⟨z0, z1, z2, z3, _⟩ := Z.out
      go_wp2_with fail
      refine (awake23_any _).mono ?_
      rintro e w9 ⟨rfl, hg⟩
      replace G := Lib.hid (grown_trans G.out hg)
      clear hg
      go_wp2
      go_ret
      exact ⟨ret_bool (bne_iff_ne.mpr hne), grown_below G.out⟩
end Go.Proofs.Ytckohnlpmooecaa
