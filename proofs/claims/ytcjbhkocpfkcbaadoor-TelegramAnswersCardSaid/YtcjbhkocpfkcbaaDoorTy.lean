/- The walk of TelegramUnlike. -/
import Derived.Test.YtcjbhkocpfkcbaaDoorTx
namespace Go.Proofs.YtcjbhkocpfkcbaaDoor.Wr
open Go.ChangeShapes Go.WideShapes Go.ChangeAt Go.RowKit

/-- Encode returned the bytes of t. -/
def EncOK (t : Tm.Tg) (w : World) (e : Ending) (w' : World) : Prop :=
  ∃ A n c, e = .returned (.tuple #[.slice A n c, .int .i64 0]) ∧ RB w' A n t.bytes ∧ w.grownBy w' none
theorem enc_ok {t : Tm.Tg} {V : Option Addr} {n cv : Nat} {w : World} (h : IR w V n t.vs) (hn : n ≤ 4611686018427387904) (hk : t.ok = true) (ht : Tabled w) :
    Calls Tryd.prog 11 #[tv t (.slice V n cv)] w (EncOK t w) := by
  refine (encode_any t V n cv w h hn ht).mono ?_
  rintro e w' ⟨A, m, c, rfl, hm⟩
  rw [encR_yes hk] at hm ⊢
  exact ⟨A, m, c, rfl, hm.rb, hm.gr⟩
theorem same_at {t u : Tm.Tg} {b : Bool} (hb : Tm.same t u = b) {A B : Option Addr} {n c m d : Nat} {w : World} (h : IR w A n t.vs) (k : IR w B m u.vs) (hn : n ≤ 4611686018427387904) (hm : m ≤ 4611686018427387904) :
    Calls Tryd.prog 26 #[tv t (.slice A n c), tv u (.slice B m d)] w (Ret (.bool b) w) := by
  subst hb; exact same_any t u A B n c m d w h k hn hm
theorem same_no {t u : Tm.Tg} (h : t ≠ u) : Tm.same t u = false := by
  cases e : Tm.same t u
  · rfl
  · exact absurd ((Tm.same_iff t u).1 e) h

set_option maxRecDepth 100000 in
set_option maxHeartbeats 4000000 in
theorem unlike_false (A B : Option Addr) (n c m d : Nat) (l r : List Int) (w : World) (ht : Tabled w) (hl : InRow w A n c l) (hr : InRow w B m d r) :
    Calls Tryd.prog 7 #[.slice A n c, .slice B m d, .bool false] w (TrueEnd w) := by
  have HT := Lib.hid (fun w' (g : w.grownBy w' none) => ht.grown g)
  have HR := Lib.hid hr
  have HL := Lib.hid hl
  clear ht hl hr
  go_enter Tryd.func7, Tryd.ntmps7
  go_wp2_with fail
  refine (new_any _ _ _ _ w HL.out).mono ?_
  rintro e w1 ⟨rfl, g1, s1, -⟩
  have G1 := Lib.hid g1
  have S1 := Lib.hid s1
  clear g1 s1
  go_wp2_with fail
  refine (tg_new G1.out (Nat.le_refl _) S1.out (by omega) (by omega)).mono ?_
  rintro e w2 ⟨t, A2, n2, c2, rfl, g2, o2, ⟨-, k2, l2⟩⟩
  have G2 := Lib.hid g2
  have K2 := Lib.hid k2
  have hn2 : n2 ≤ 3 := by have := o2.len; omega
  have I2 := Lib.hid o2
  clear G1 S1 g2 o2 k2 l2
  go_wp2_with fail
  refine (new_any _ _ _ _ w2 (HR.out.grown G2.out)).mono ?_
  rintro e w3 ⟨rfl, g3, s3, -⟩
  have G3 := Lib.hid g3
  have S3 := Lib.hid s3
  clear g3 s3
  go_wp2_with fail
  refine (tg_new G3.out (Nat.le_refl _) S3.out (by omega) (by omega)).mono ?_
  rintro e w4 ⟨u, B2, m2, d2, rfl, g4, o4, ⟨-, k4, l4⟩⟩
  have G4 := Lib.hid (grown_trans G2.out g4)
  have hm2 : m2 ≤ 3 := by have := o4.len; omega
  have I4 := Lib.hid (I2.out.keep g4 (by intro k e; cases e))
  have J4 := Lib.hid o4.ir
  have K4 := Lib.hid k4
  clear G2 G3 S3 I2 g4 o4 k4 l4
  obtain ⟨X, hX⟩ : ∃ X, w4.heap.size = X := ⟨_, rfl⟩
  unfold tv
  go_wp2_with fail
  obtain ⟨gw, ct, cu⟩ := two_made w4 t u (.slice A2 n2 c2) (.slice B2 m2 d2)
  have IT := Lib.hid (I4.out.ir.grown gw)
  have IU := Lib.hid (J4.out.grown gw)
  have GW := Lib.hid (grown_trans G4.out gw)
  have CT := Lib.hid ct
  have CU := Lib.hid cu
  clear gw ct cu
  rw [hX] at CT CU
  unfold tcells at GW CT CU IT IU
  generalize ((w4.alloc (Obj.cells #[.int .i64 t.st, .int .i64 t.ep, .int .i64 t.sq, .int .i64 t.tm, .int .i64 t.kd, .slice A2 n2 c2] 24)).alloc (Obj.cells #[.int .i64 u.st, .int .i64 u.ep, .int .i64 u.sq, .int .i64 u.tm, .int .i64 u.kd, .slice B2 m2 d2] 24)) = W at *
  clear G4 hX I4 J4
  refine (enc_ok (t := t) IT.out (by omega) K2.out (HT.out _ GW.out)).mono ?_
  rintro e w5 ⟨Ax, nx, cx, rfl, rx, g5⟩
  have GW := Lib.hid (grown_trans GW.out g5)
  have CT := Lib.hid (CT.out.grown g5 (by simp))
  have CU := Lib.hid (CU.out.grown g5 (by simp))
  have IT := Lib.hid (IT.out.grown g5)
  have IU := Lib.hid (IU.out.grown g5)
  have RX := Lib.hid rx
  clear rx g5
  obtain ⟨⟨y0, y1, y2, y3, y4, y5⟩, -⟩ := CU.out
  go_wp2_with fail
  clear y0 y1 y2 y3 y4 y5
  refine (enc_ok (t := u) IU.out (by omega) K4.out (HT.out _ GW.out)).mono ?_
  rintro e w6 ⟨Ay, ny, cy, rfl, ry, g6⟩
  have GW := Lib.hid (grown_trans GW.out g6)
  have CT := Lib.hid (CT.out.grown g6 (by simp))
  have CU := Lib.hid (CU.out.grown g6 (by simp))
  have IT := Lib.hid (IT.out.grown g6)
  have IU := Lib.hid (IU.out.grown g6)
  have RX := Lib.hid (RX.out.grown g6)
  have RY := Lib.hid ry
  clear ry g6
  go_wp2_with fail
  by_cases htu : t = u
  · subst htu
    have HS := Lib.hid (Tm.same_self t)
    clear K4
    generalize t.bytes = lx at *
    refine wp_region_held_drew (S := fun w' => w6.grownBy w' none) (by kernel_rfl) ?_ (fun hHeld => ?_)
    · exact grown_drew w6 none
    try simp only [Act.put, List.setIfInBounds_toArray, List.set_cons_zero, List.set_cons_succ]
    refine wpAnyH_take (i := 0) (oi := { dst := some 36, op := Op.move (Operand.tmp 10), type := 31, pos := "law.go:120", after := #[], guard := none }) (v := ?_) rfl (by kernel_rfl) (by kernel_rfl) (by kernel_rfl) (fun _ _ _ h => h) (Or.inl ⟨by rfl, ?_⟩) (by assumption) ?_
    rotate_left 1
    · intro w hSw; obtain ⟨⟨z0, z1, z2, z3, z4, z5⟩, -⟩ := CT.out.grown hSw (by simp); obtain ⟨⟨y0, y1, y2, y3, y4, y5⟩, -⟩ := CU.out.grown hSw (by simp); have cx0 := conv_str _ Ax nx cx _ (RX.out.grown hSw); have cy0 := conv_str _ Ay ny cy _ (RY.out.grown hSw); first | (go_simp; done) | (go_simp; with_reducible rfl)
    try simp only [Act.put, List.setIfInBounds_toArray, List.set_cons_zero, List.set_cons_succ]
    refine wpAnyH_take (i := 1) (oi := { dst := some 37, op := Op.binOp BinOp.eql 31 (Operand.tmp 36) (Operand.const (Value.int IntKind.i64 0)) 31, type := 4, pos := "law.go:120", after := #[{ on := 0, ground := Ground.data }], guard := none }) (v := ?_) rfl (by kernel_rfl) (by kernel_rfl) (by kernel_rfl) (fun _ _ _ h => h) (Or.inl ⟨by rfl, ?_⟩) (by assumption) ?_
    rotate_left 1
    · intro w hSw; obtain ⟨⟨z0, z1, z2, z3, z4, z5⟩, -⟩ := CT.out.grown hSw (by simp); obtain ⟨⟨y0, y1, y2, y3, y4, y5⟩, -⟩ := CU.out.grown hSw (by simp); have cx0 := conv_str _ Ax nx cx _ (RX.out.grown hSw); have cy0 := conv_str _ Ay ny cy _ (RY.out.grown hSw); first | (go_simp; done) | (go_simp; with_reducible rfl)
    try simp only [Act.put, List.setIfInBounds_toArray, List.set_cons_zero, List.set_cons_succ]
    refine wpAnyH_take (i := 2) (oi := { dst := some 38, op := Op.move (Operand.tmp 37), type := 4, pos := "law.go:120", after := #[{ on := 1, ground := Ground.data }], guard := none }) (v := ?_) rfl (by kernel_rfl) (by kernel_rfl) (by kernel_rfl) (fun _ _ _ h => h) (Or.inl ⟨by rfl, ?_⟩) (by assumption) ?_
    rotate_left 1
    · intro w hSw; obtain ⟨⟨z0, z1, z2, z3, z4, z5⟩, -⟩ := CT.out.grown hSw (by simp); obtain ⟨⟨y0, y1, y2, y3, y4, y5⟩, -⟩ := CU.out.grown hSw (by simp); have cx0 := conv_str _ Ax nx cx _ (RX.out.grown hSw); have cy0 := conv_str _ Ay ny cy _ (RY.out.grown hSw); first | (go_simp; done) | (go_simp; with_reducible rfl)
    try simp only [Act.put, List.setIfInBounds_toArray, List.set_cons_zero, List.set_cons_succ]
    refine wpAnyH_take (i := 3) (oi := { dst := some 39, op := Op.move (Operand.tmp 12), type := 31, pos := "law.go:120", after := #[{ on := 2, ground := Ground.guard }], guard := some (2, true) }) (v := ?_) rfl (by kernel_rfl) (by kernel_rfl) (by kernel_rfl) (fun _ _ _ h => h) (Or.inl ⟨by rfl, ?_⟩) (by assumption) ?_
    rotate_left 1
    · intro w hSw; obtain ⟨⟨z0, z1, z2, z3, z4, z5⟩, -⟩ := CT.out.grown hSw (by simp); obtain ⟨⟨y0, y1, y2, y3, y4, y5⟩, -⟩ := CU.out.grown hSw (by simp); have cx0 := conv_str _ Ax nx cx _ (RX.out.grown hSw); have cy0 := conv_str _ Ay ny cy _ (RY.out.grown hSw); first | (go_simp; done) | (go_simp; with_reducible rfl)
    try simp only [Act.put, List.setIfInBounds_toArray, List.set_cons_zero, List.set_cons_succ]
    refine wpAnyH_take (i := 4) (oi := { dst := some 40, op := Op.binOp BinOp.eql 31 (Operand.tmp 39) (Operand.const (Value.int IntKind.i64 0)) 31, type := 4, pos := "law.go:120", after := #[{ on := 3, ground := Ground.data }, { on := 2, ground := Ground.guard }], guard := some (2, true) }) (v := ?_) rfl (by kernel_rfl) (by kernel_rfl) (by kernel_rfl) (fun _ _ _ h => h) (Or.inl ⟨by rfl, ?_⟩) (by assumption) ?_
    rotate_left 1
    · intro w hSw; obtain ⟨⟨z0, z1, z2, z3, z4, z5⟩, -⟩ := CT.out.grown hSw (by simp); obtain ⟨⟨y0, y1, y2, y3, y4, y5⟩, -⟩ := CU.out.grown hSw (by simp); have cx0 := conv_str _ Ax nx cx _ (RX.out.grown hSw); have cy0 := conv_str _ Ay ny cy _ (RY.out.grown hSw); first | (go_simp; done) | (go_simp; with_reducible rfl)
    try simp only [Act.put, List.setIfInBounds_toArray, List.set_cons_zero, List.set_cons_succ]
    refine wpAnyH_take (i := 5) (oi := { dst := some 41, op := Op.pick (Operand.tmp 38) (Operand.tmp 40) (Operand.const (Value.bool false)), type := 4, pos := "law.go:120", after := #[{ on := 2, ground := Ground.data }, { on := 4, ground := Ground.data }], guard := none }) (v := ?_) rfl (by kernel_rfl) (by kernel_rfl) (by kernel_rfl) (fun _ _ _ h => h) (Or.inl ⟨by rfl, ?_⟩) (by assumption) ?_
    rotate_left 1
    · intro w hSw; obtain ⟨⟨z0, z1, z2, z3, z4, z5⟩, -⟩ := CT.out.grown hSw (by simp); obtain ⟨⟨y0, y1, y2, y3, y4, y5⟩, -⟩ := CU.out.grown hSw (by simp); have cx0 := conv_str _ Ax nx cx _ (RX.out.grown hSw); have cy0 := conv_str _ Ay ny cy _ (RY.out.grown hSw); first | (go_simp; done) | (go_simp; with_reducible rfl)
    try simp only [Act.put, List.setIfInBounds_toArray, List.set_cons_zero, List.set_cons_succ]
    refine wpAnyH_take (i := 6) (oi := { dst := some 42, op := Op.move (Operand.tmp 41), type := 4, pos := "law.go:120", after := #[{ on := 5, ground := Ground.data }, { on := 2, ground := Ground.chain }], guard := none }) (v := ?_) rfl (by kernel_rfl) (by kernel_rfl) (by kernel_rfl) (fun _ _ _ h => h) (Or.inl ⟨by rfl, ?_⟩) (by assumption) ?_
    rotate_left 1
    · intro w hSw; obtain ⟨⟨z0, z1, z2, z3, z4, z5⟩, -⟩ := CT.out.grown hSw (by simp); obtain ⟨⟨y0, y1, y2, y3, y4, y5⟩, -⟩ := CU.out.grown hSw (by simp); have cx0 := conv_str _ Ax nx cx _ (RX.out.grown hSw); have cy0 := conv_str _ Ay ny cy _ (RY.out.grown hSw); first | (go_simp; done) | (go_simp; with_reducible rfl)
    try simp only [Act.put, List.setIfInBounds_toArray, List.set_cons_zero, List.set_cons_succ]
    refine wpAnyH_take (i := 7) (oi := { dst := some 43, op := Op.move (Operand.tmp 9), type := 25, pos := "law.go:120", after := #[{ on := 6, ground := Ground.guard }], guard := some (6, true) }) (v := ?_) rfl (by kernel_rfl) (by kernel_rfl) (by kernel_rfl) (fun _ _ _ h => h) (Or.inl ⟨by rfl, ?_⟩) (by assumption) ?_
    rotate_left 1
    · intro w hSw; obtain ⟨⟨z0, z1, z2, z3, z4, z5⟩, -⟩ := CT.out.grown hSw (by simp); obtain ⟨⟨y0, y1, y2, y3, y4, y5⟩, -⟩ := CU.out.grown hSw (by simp); have cx0 := conv_str _ Ax nx cx _ (RX.out.grown hSw); have cy0 := conv_str _ Ay ny cy _ (RY.out.grown hSw); first | (go_simp; done) | (go_simp; with_reducible rfl)
    try simp only [Act.put, List.setIfInBounds_toArray, List.set_cons_zero, List.set_cons_succ]
    refine wpAnyH_take (i := 8) (oi := { dst := some 44, op := Op.convert 25 9 (Operand.tmp 43), type := 9, pos := "law.go:120", after := #[{ on := 7, ground := Ground.data }, { on := 6, ground := Ground.guard }], guard := some (6, true) }) (v := ?_) rfl (by kernel_rfl) (by kernel_rfl) (by kernel_rfl) (fun _ _ _ h => h) (Or.inl ⟨by rfl, ?_⟩) (by assumption) ?_
    rotate_left 1
    · intro w hSw; obtain ⟨⟨z0, z1, z2, z3, z4, z5⟩, -⟩ := CT.out.grown hSw (by simp); obtain ⟨⟨y0, y1, y2, y3, y4, y5⟩, -⟩ := CU.out.grown hSw (by simp); have cx0 := conv_str _ Ax nx cx _ (RX.out.grown hSw); have cy0 := conv_str _ Ay ny cy _ (RY.out.grown hSw); first | (go_simp; done) | (go_simp; with_reducible rfl)
    try simp only [Act.put, List.setIfInBounds_toArray, List.set_cons_zero, List.set_cons_succ]
    refine wpAnyH_take (i := 9) (oi := { dst := some 45, op := Op.move (Operand.tmp 11), type := 25, pos := "law.go:120", after := #[{ on := 6, ground := Ground.guard }], guard := some (6, true) }) (v := ?_) rfl (by kernel_rfl) (by kernel_rfl) (by kernel_rfl) (fun _ _ _ h => h) (Or.inl ⟨by rfl, ?_⟩) (by assumption) ?_
    rotate_left 1
    · intro w hSw; obtain ⟨⟨z0, z1, z2, z3, z4, z5⟩, -⟩ := CT.out.grown hSw (by simp); obtain ⟨⟨y0, y1, y2, y3, y4, y5⟩, -⟩ := CU.out.grown hSw (by simp); have cx0 := conv_str _ Ax nx cx _ (RX.out.grown hSw); have cy0 := conv_str _ Ay ny cy _ (RY.out.grown hSw); first | (go_simp; done) | (go_simp; with_reducible rfl)
    try simp only [Act.put, List.setIfInBounds_toArray, List.set_cons_zero, List.set_cons_succ]
    refine wpAnyH_take (i := 10) (oi := { dst := some 46, op := Op.convert 25 9 (Operand.tmp 45), type := 9, pos := "law.go:120", after := #[{ on := 9, ground := Ground.data }, { on := 6, ground := Ground.guard }], guard := some (6, true) }) (v := ?_) rfl (by kernel_rfl) (by kernel_rfl) (by kernel_rfl) (fun _ _ _ h => h) (Or.inl ⟨by rfl, ?_⟩) (by assumption) ?_
    rotate_left 1
    · intro w hSw; obtain ⟨⟨z0, z1, z2, z3, z4, z5⟩, -⟩ := CT.out.grown hSw (by simp); obtain ⟨⟨y0, y1, y2, y3, y4, y5⟩, -⟩ := CU.out.grown hSw (by simp); have cx0 := conv_str _ Ax nx cx _ (RX.out.grown hSw); have cy0 := conv_str _ Ay ny cy _ (RY.out.grown hSw); first | (go_simp; done) | (go_simp; with_reducible rfl)
    try simp only [Act.put, List.setIfInBounds_toArray, List.set_cons_zero, List.set_cons_succ]
    refine wpAnyH_take (i := 11) (oi := { dst := some 47, op := Op.binOp BinOp.eql 9 (Operand.tmp 44) (Operand.tmp 46) 9, type := 4, pos := "law.go:120", after := #[{ on := 8, ground := Ground.data }, { on := 10, ground := Ground.data }, { on := 6, ground := Ground.guard }], guard := some (6, true) }) (v := ?_) rfl (by kernel_rfl) (by kernel_rfl) (by kernel_rfl) (fun _ _ _ h => h) (Or.inl ⟨by rfl, ?_⟩) (by assumption) ?_
    rotate_left 1
    · intro w hSw; obtain ⟨⟨z0, z1, z2, z3, z4, z5⟩, -⟩ := CT.out.grown hSw (by simp); obtain ⟨⟨y0, y1, y2, y3, y4, y5⟩, -⟩ := CU.out.grown hSw (by simp); have cx0 := conv_str _ Ax nx cx _ (RX.out.grown hSw); have cy0 := conv_str _ Ay ny cy _ (RY.out.grown hSw); first | (go_simp; done) | (go_simp; with_reducible rfl)
    try simp only [Act.put, List.setIfInBounds_toArray, List.set_cons_zero, List.set_cons_succ]
    refine wpAnyH_take (i := 12) (oi := { dst := some 48, op := Op.load 24 (Operand.tmp 7), type := 24, pos := "law.go:120", after := #[{ on := 6, ground := Ground.guard }], guard := some (6, true) }) (v := ?_) rfl (by kernel_rfl) (by kernel_rfl) (by kernel_rfl) (fun _ _ _ h => h) (Or.inl ⟨by rfl, ?_⟩) (by assumption) ?_
    rotate_left 1
    · intro w hSw; obtain ⟨⟨z0, z1, z2, z3, z4, z5⟩, -⟩ := CT.out.grown hSw (by simp); obtain ⟨⟨y0, y1, y2, y3, y4, y5⟩, -⟩ := CU.out.grown hSw (by simp); have cx0 := conv_str _ Ax nx cx _ (RX.out.grown hSw); have cy0 := conv_str _ Ay ny cy _ (RY.out.grown hSw); first | (go_simp; done) | (go_simp; with_reducible rfl)
    try simp only [Act.put, List.setIfInBounds_toArray, List.set_cons_zero, List.set_cons_succ]
    refine wpAnyH_take (i := 13) (oi := { dst := some 49, op := Op.load 24 (Operand.tmp 8), type := 24, pos := "law.go:120", after := #[{ on := 6, ground := Ground.guard }], guard := some (6, true) }) (v := ?_) rfl (by kernel_rfl) (by kernel_rfl) (by kernel_rfl) (fun _ _ _ h => h) (Or.inl ⟨by rfl, ?_⟩) (by assumption) ?_
    rotate_left 1
    · intro w hSw; obtain ⟨⟨z0, z1, z2, z3, z4, z5⟩, -⟩ := CT.out.grown hSw (by simp); obtain ⟨⟨y0, y1, y2, y3, y4, y5⟩, -⟩ := CU.out.grown hSw (by simp); have cx0 := conv_str _ Ax nx cx _ (RX.out.grown hSw); have cy0 := conv_str _ Ay ny cy _ (RY.out.grown hSw); first | (go_simp; done) | (go_simp; with_reducible rfl)
    try simp only [Act.put, List.setIfInBounds_toArray, List.set_cons_zero, List.set_cons_succ]
    refine wpAnyH_ready (rs := [14]) (by kernel_rfl) (by simp) (AllReadyH.cons (o := { dst := some 50, op := Op.call { callee := Callee.value (Operand.func 26), args := #[Operand.tmp 48, Operand.tmp 49], argTypes := #[24, 24] }, type := 4, pos := "law.go:120", after := #[{ on := 12, ground := Ground.data }, { on := 13, ground := Ground.data }, { on := 6, ground := Ground.chain }, { on := 6, ground := Ground.guard }], guard := some (6, true) }) rfl (fun K hK => ?_) AllReadyH.nil)
    go_simp
    refine (same_at HS.out (IT.out.grown (grown_drew w6 none)) (IU.out.grown (grown_drew w6 none)) (by omega) (by omega)).mono ?_
    rintro e wa ⟨rfl, ga⟩
    have GA : Hid (w6.grownBy wa none) := grown_trans (grown_drew w6 none) ga
    clear ga
    try dsimp only
    refine hK.out _ _ ?_ (fun hHeld => ?_)
    · exact GA.out
    clear hK K
    try simp only [Act.put, List.setIfInBounds_toArray, List.set_cons_zero, List.set_cons_succ]
    refine wpAnyH_take (i := 15) (oi := { dst := some 51, op := Op.binOp BinOp.eql 4 (Operand.tmp 47) (Operand.tmp 50) 4, type := 4, pos := "law.go:120", after := #[{ on := 11, ground := Ground.data }, { on := 14, ground := Ground.data }, { on := 6, ground := Ground.guard }], guard := some (6, true) }) (v := ?_) rfl (by kernel_rfl) (by kernel_rfl) (by kernel_rfl) (fun _ _ _ h => h) (Or.inl ⟨by rfl, ?_⟩) (by assumption) ?_
    rotate_left 1
    · intro w hSw; obtain ⟨⟨z0, z1, z2, z3, z4, z5⟩, -⟩ := CT.out.grown hSw (by simp); obtain ⟨⟨y0, y1, y2, y3, y4, y5⟩, -⟩ := CU.out.grown hSw (by simp); have cx0 := conv_str _ Ax nx cx _ (RX.out.grown hSw); have cy0 := conv_str _ Ay ny cy _ (RY.out.grown hSw); first | (go_simp; done) | (go_simp; with_reducible rfl)
    try simp only [Act.put, List.setIfInBounds_toArray, List.set_cons_zero, List.set_cons_succ]
    refine wpAnyH_take (i := 16) (oi := { dst := some 52, op := Op.pick (Operand.tmp 42) (Operand.tmp 51) (Operand.const (Value.bool false)), type := 4, pos := "law.go:120", after := #[{ on := 6, ground := Ground.data }, { on := 15, ground := Ground.data }], guard := none }) (v := ?_) rfl (by kernel_rfl) (by kernel_rfl) (by kernel_rfl) (fun _ _ _ h => h) (Or.inl ⟨by rfl, ?_⟩) (by assumption) ?_
    rotate_left 1
    · intro w hSw; obtain ⟨⟨z0, z1, z2, z3, z4, z5⟩, -⟩ := CT.out.grown hSw (by simp); obtain ⟨⟨y0, y1, y2, y3, y4, y5⟩, -⟩ := CU.out.grown hSw (by simp); have cx0 := conv_str _ Ax nx cx _ (RX.out.grown hSw); have cy0 := conv_str _ Ay ny cy _ (RY.out.grown hSw); first | (go_simp; done) | (go_simp; with_reducible rfl)
    try simp only [Act.put, List.setIfInBounds_toArray, List.set_cons_zero, List.set_cons_succ]
    refine wpAnyH_take (i := 17) (oi := { dst := some 53, op := Op.move (Operand.tmp 52), type := 4, pos := "law.go:120", after := #[{ on := 16, ground := Ground.data }, { on := 14, ground := Ground.chain }], guard := none }) (v := ?_) rfl (by kernel_rfl) (by kernel_rfl) (by kernel_rfl) (fun _ _ _ h => h) (Or.inl ⟨by rfl, ?_⟩) (by assumption) ?_
    rotate_left 1
    · intro w hSw; obtain ⟨⟨z0, z1, z2, z3, z4, z5⟩, -⟩ := CT.out.grown hSw (by simp); obtain ⟨⟨y0, y1, y2, y3, y4, y5⟩, -⟩ := CU.out.grown hSw (by simp); have cx0 := conv_str _ Ax nx cx _ (RX.out.grown hSw); have cy0 := conv_str _ Ay ny cy _ (RY.out.grown hSw); first | (go_simp; done) | (go_simp; with_reducible rfl)
    try simp only [Act.put, List.setIfInBounds_toArray, List.set_cons_zero, List.set_cons_succ]
    refine wpAnyH_ready (rs := [18]) (by kernel_rfl) (by simp) (AllReadyH.cons (o := { dst := some 54, op := Op.call { callee := Callee.value (Operand.func 8), args := #[], argTypes := #[] }, type := 4, pos := "law.go:120", after := #[{ on := 17, ground := Ground.chain }, { on := 17, ground := Ground.guard }], guard := some (17, true) }) rfl (fun K hK => ?_) AllReadyH.nil)
    go_simp
    refine (awake_any _ (HT.out _ (grown_trans GW.out GA.out))).mono ?_
    rintro e wb ⟨rfl, gb⟩
    have GB : Hid (w6.grownBy wb none) := grown_trans GA.out gb
    clear gb GA
    try dsimp only
    refine hK.out _ _ ?_ (fun hHeld => ?_)
    · exact GB.out
    clear hK K
    try simp only [Act.put, List.setIfInBounds_toArray, List.set_cons_zero, List.set_cons_succ]
    refine wpAnyH_take (i := 19) (oi := { dst := some 55, op := Op.pick (Operand.tmp 53) (Operand.tmp 54) (Operand.const (Value.bool false)), type := 4, pos := "law.go:120", after := #[{ on := 17, ground := Ground.data }, { on := 18, ground := Ground.data }], guard := none }) (v := ?_) rfl (by kernel_rfl) (by kernel_rfl) (by kernel_rfl) (fun _ _ _ h => h) (Or.inl ⟨by rfl, ?_⟩) (by assumption) ?_
    rotate_left 1
    · intro w hSw; obtain ⟨⟨z0, z1, z2, z3, z4, z5⟩, -⟩ := CT.out.grown hSw (by simp); obtain ⟨⟨y0, y1, y2, y3, y4, y5⟩, -⟩ := CU.out.grown hSw (by simp); have cx0 := conv_str _ Ax nx cx _ (RX.out.grown hSw); have cy0 := conv_str _ Ay ny cy _ (RY.out.grown hSw); first | (go_simp; done) | (go_simp; with_reducible rfl)
    try simp only [Act.put, List.setIfInBounds_toArray, List.set_cons_zero, List.set_cons_succ]
    refine wpAnyH_take (i := 20) (oi := { dst := some 6, op := Op.assign (Operand.tmp 55), type := 4, pos := "law.go:120", after := #[{ on := 19, ground := Ground.data }, { on := 18, ground := Ground.chain }, { on := 0, ground := Ground.phase }, { on := 1, ground := Ground.phase }, { on := 2, ground := Ground.phase }, { on := 3, ground := Ground.phase }, { on := 4, ground := Ground.phase }, { on := 5, ground := Ground.phase }, { on := 6, ground := Ground.phase }, { on := 7, ground := Ground.phase }, { on := 8, ground := Ground.phase }, { on := 9, ground := Ground.phase }, { on := 10, ground := Ground.phase }, { on := 11, ground := Ground.phase }, { on := 12, ground := Ground.phase }, { on := 13, ground := Ground.phase }, { on := 14, ground := Ground.phase }, { on := 15, ground := Ground.phase }, { on := 16, ground := Ground.phase }, { on := 17, ground := Ground.phase }, { on := 18, ground := Ground.phase }, { on := 19, ground := Ground.phase }], guard := none }) (v := ?_) rfl (by kernel_rfl) (by kernel_rfl) (by kernel_rfl) (fun _ _ _ h => h) (Or.inl ⟨by rfl, ?_⟩) (by assumption) ?_
    rotate_left 1
    · intro w hSw; obtain ⟨⟨z0, z1, z2, z3, z4, z5⟩, -⟩ := CT.out.grown hSw (by simp); obtain ⟨⟨y0, y1, y2, y3, y4, y5⟩, -⟩ := CU.out.grown hSw (by simp); have cx0 := conv_str _ Ax nx cx _ (RX.out.grown hSw); have cy0 := conv_str _ Ay ny cy _ (RY.out.grown hSw); first | (go_simp; done) | (go_simp; with_reducible rfl)
    try simp only [Act.put, List.setIfInBounds_toArray, List.set_cons_zero, List.set_cons_succ]
    refine wpAnyH_done (by kernel_rfl) ?_ _
    have GF := Lib.hid (grown_below (grown_trans GW.out GB.out))
    go_wp2
    go_ret
    exact ⟨rfl, GF.out⟩
  · have HS := Lib.hid (same_no htu)
    have hne : (t.bytes == u.bytes) = false := by
      rw [beq_eq_false_iff_ne]; exact fun e => htu (Tm.Tg.bytes_inj K2.out K4.out e)
    clear htu
    generalize t.bytes = lx at *
    generalize u.bytes = ly at *
    refine wp_region_held_drew (S := fun w' => w6.grownBy w' none) (by kernel_rfl) ?_ (fun hHeld => ?_)
    · exact grown_drew w6 none
    try simp only [Act.put, List.setIfInBounds_toArray, List.set_cons_zero, List.set_cons_succ]
    refine wpAnyH_take (i := 0) (oi := { dst := some 36, op := Op.move (Operand.tmp 10), type := 31, pos := "law.go:120", after := #[], guard := none }) (v := ?_) rfl (by kernel_rfl) (by kernel_rfl) (by kernel_rfl) (fun _ _ _ h => h) (Or.inl ⟨by rfl, ?_⟩) (by assumption) ?_
    rotate_left 1
    · intro w hSw; obtain ⟨⟨z0, z1, z2, z3, z4, z5⟩, -⟩ := CT.out.grown hSw (by simp); obtain ⟨⟨y0, y1, y2, y3, y4, y5⟩, -⟩ := CU.out.grown hSw (by simp); have cx0 := conv_str _ Ax nx cx _ (RX.out.grown hSw); have cy0 := conv_str _ Ay ny cy _ (RY.out.grown hSw); first | (go_simp; done) | (go_simp; with_reducible rfl)
    try simp only [Act.put, List.setIfInBounds_toArray, List.set_cons_zero, List.set_cons_succ]
    refine wpAnyH_take (i := 1) (oi := { dst := some 37, op := Op.binOp BinOp.eql 31 (Operand.tmp 36) (Operand.const (Value.int IntKind.i64 0)) 31, type := 4, pos := "law.go:120", after := #[{ on := 0, ground := Ground.data }], guard := none }) (v := ?_) rfl (by kernel_rfl) (by kernel_rfl) (by kernel_rfl) (fun _ _ _ h => h) (Or.inl ⟨by rfl, ?_⟩) (by assumption) ?_
    rotate_left 1
    · intro w hSw; obtain ⟨⟨z0, z1, z2, z3, z4, z5⟩, -⟩ := CT.out.grown hSw (by simp); obtain ⟨⟨y0, y1, y2, y3, y4, y5⟩, -⟩ := CU.out.grown hSw (by simp); have cx0 := conv_str _ Ax nx cx _ (RX.out.grown hSw); have cy0 := conv_str _ Ay ny cy _ (RY.out.grown hSw); first | (go_simp; done) | (go_simp; with_reducible rfl)
    try simp only [Act.put, List.setIfInBounds_toArray, List.set_cons_zero, List.set_cons_succ]
    refine wpAnyH_take (i := 2) (oi := { dst := some 38, op := Op.move (Operand.tmp 37), type := 4, pos := "law.go:120", after := #[{ on := 1, ground := Ground.data }], guard := none }) (v := ?_) rfl (by kernel_rfl) (by kernel_rfl) (by kernel_rfl) (fun _ _ _ h => h) (Or.inl ⟨by rfl, ?_⟩) (by assumption) ?_
    rotate_left 1
    · intro w hSw; obtain ⟨⟨z0, z1, z2, z3, z4, z5⟩, -⟩ := CT.out.grown hSw (by simp); obtain ⟨⟨y0, y1, y2, y3, y4, y5⟩, -⟩ := CU.out.grown hSw (by simp); have cx0 := conv_str _ Ax nx cx _ (RX.out.grown hSw); have cy0 := conv_str _ Ay ny cy _ (RY.out.grown hSw); first | (go_simp; done) | (go_simp; with_reducible rfl)
    try simp only [Act.put, List.setIfInBounds_toArray, List.set_cons_zero, List.set_cons_succ]
    refine wpAnyH_take (i := 3) (oi := { dst := some 39, op := Op.move (Operand.tmp 12), type := 31, pos := "law.go:120", after := #[{ on := 2, ground := Ground.guard }], guard := some (2, true) }) (v := ?_) rfl (by kernel_rfl) (by kernel_rfl) (by kernel_rfl) (fun _ _ _ h => h) (Or.inl ⟨by rfl, ?_⟩) (by assumption) ?_
    rotate_left 1
    · intro w hSw; obtain ⟨⟨z0, z1, z2, z3, z4, z5⟩, -⟩ := CT.out.grown hSw (by simp); obtain ⟨⟨y0, y1, y2, y3, y4, y5⟩, -⟩ := CU.out.grown hSw (by simp); have cx0 := conv_str _ Ax nx cx _ (RX.out.grown hSw); have cy0 := conv_str _ Ay ny cy _ (RY.out.grown hSw); first | (go_simp; done) | (go_simp; with_reducible rfl)
    try simp only [Act.put, List.setIfInBounds_toArray, List.set_cons_zero, List.set_cons_succ]
    refine wpAnyH_take (i := 4) (oi := { dst := some 40, op := Op.binOp BinOp.eql 31 (Operand.tmp 39) (Operand.const (Value.int IntKind.i64 0)) 31, type := 4, pos := "law.go:120", after := #[{ on := 3, ground := Ground.data }, { on := 2, ground := Ground.guard }], guard := some (2, true) }) (v := ?_) rfl (by kernel_rfl) (by kernel_rfl) (by kernel_rfl) (fun _ _ _ h => h) (Or.inl ⟨by rfl, ?_⟩) (by assumption) ?_
    rotate_left 1
    · intro w hSw; obtain ⟨⟨z0, z1, z2, z3, z4, z5⟩, -⟩ := CT.out.grown hSw (by simp); obtain ⟨⟨y0, y1, y2, y3, y4, y5⟩, -⟩ := CU.out.grown hSw (by simp); have cx0 := conv_str _ Ax nx cx _ (RX.out.grown hSw); have cy0 := conv_str _ Ay ny cy _ (RY.out.grown hSw); first | (go_simp; done) | (go_simp; with_reducible rfl)
    try simp only [Act.put, List.setIfInBounds_toArray, List.set_cons_zero, List.set_cons_succ]
    refine wpAnyH_take (i := 5) (oi := { dst := some 41, op := Op.pick (Operand.tmp 38) (Operand.tmp 40) (Operand.const (Value.bool false)), type := 4, pos := "law.go:120", after := #[{ on := 2, ground := Ground.data }, { on := 4, ground := Ground.data }], guard := none }) (v := ?_) rfl (by kernel_rfl) (by kernel_rfl) (by kernel_rfl) (fun _ _ _ h => h) (Or.inl ⟨by rfl, ?_⟩) (by assumption) ?_
    rotate_left 1
    · intro w hSw; obtain ⟨⟨z0, z1, z2, z3, z4, z5⟩, -⟩ := CT.out.grown hSw (by simp); obtain ⟨⟨y0, y1, y2, y3, y4, y5⟩, -⟩ := CU.out.grown hSw (by simp); have cx0 := conv_str _ Ax nx cx _ (RX.out.grown hSw); have cy0 := conv_str _ Ay ny cy _ (RY.out.grown hSw); first | (go_simp; done) | (go_simp; with_reducible rfl)
    try simp only [Act.put, List.setIfInBounds_toArray, List.set_cons_zero, List.set_cons_succ]
    refine wpAnyH_take (i := 6) (oi := { dst := some 42, op := Op.move (Operand.tmp 41), type := 4, pos := "law.go:120", after := #[{ on := 5, ground := Ground.data }, { on := 2, ground := Ground.chain }], guard := none }) (v := ?_) rfl (by kernel_rfl) (by kernel_rfl) (by kernel_rfl) (fun _ _ _ h => h) (Or.inl ⟨by rfl, ?_⟩) (by assumption) ?_
    rotate_left 1
    · intro w hSw; obtain ⟨⟨z0, z1, z2, z3, z4, z5⟩, -⟩ := CT.out.grown hSw (by simp); obtain ⟨⟨y0, y1, y2, y3, y4, y5⟩, -⟩ := CU.out.grown hSw (by simp); have cx0 := conv_str _ Ax nx cx _ (RX.out.grown hSw); have cy0 := conv_str _ Ay ny cy _ (RY.out.grown hSw); first | (go_simp; done) | (go_simp; with_reducible rfl)
    try simp only [Act.put, List.setIfInBounds_toArray, List.set_cons_zero, List.set_cons_succ]
    refine wpAnyH_take (i := 7) (oi := { dst := some 43, op := Op.move (Operand.tmp 9), type := 25, pos := "law.go:120", after := #[{ on := 6, ground := Ground.guard }], guard := some (6, true) }) (v := ?_) rfl (by kernel_rfl) (by kernel_rfl) (by kernel_rfl) (fun _ _ _ h => h) (Or.inl ⟨by rfl, ?_⟩) (by assumption) ?_
    rotate_left 1
    · intro w hSw; obtain ⟨⟨z0, z1, z2, z3, z4, z5⟩, -⟩ := CT.out.grown hSw (by simp); obtain ⟨⟨y0, y1, y2, y3, y4, y5⟩, -⟩ := CU.out.grown hSw (by simp); have cx0 := conv_str _ Ax nx cx _ (RX.out.grown hSw); have cy0 := conv_str _ Ay ny cy _ (RY.out.grown hSw); first | (go_simp; done) | (go_simp; with_reducible rfl)
    try simp only [Act.put, List.setIfInBounds_toArray, List.set_cons_zero, List.set_cons_succ]
    refine wpAnyH_take (i := 8) (oi := { dst := some 44, op := Op.convert 25 9 (Operand.tmp 43), type := 9, pos := "law.go:120", after := #[{ on := 7, ground := Ground.data }, { on := 6, ground := Ground.guard }], guard := some (6, true) }) (v := ?_) rfl (by kernel_rfl) (by kernel_rfl) (by kernel_rfl) (fun _ _ _ h => h) (Or.inl ⟨by rfl, ?_⟩) (by assumption) ?_
    rotate_left 1
    · intro w hSw; obtain ⟨⟨z0, z1, z2, z3, z4, z5⟩, -⟩ := CT.out.grown hSw (by simp); obtain ⟨⟨y0, y1, y2, y3, y4, y5⟩, -⟩ := CU.out.grown hSw (by simp); have cx0 := conv_str _ Ax nx cx _ (RX.out.grown hSw); have cy0 := conv_str _ Ay ny cy _ (RY.out.grown hSw); first | (go_simp; done) | (go_simp; with_reducible rfl)
    try simp only [Act.put, List.setIfInBounds_toArray, List.set_cons_zero, List.set_cons_succ]
    refine wpAnyH_take (i := 9) (oi := { dst := some 45, op := Op.move (Operand.tmp 11), type := 25, pos := "law.go:120", after := #[{ on := 6, ground := Ground.guard }], guard := some (6, true) }) (v := ?_) rfl (by kernel_rfl) (by kernel_rfl) (by kernel_rfl) (fun _ _ _ h => h) (Or.inl ⟨by rfl, ?_⟩) (by assumption) ?_
    rotate_left 1
    · intro w hSw; obtain ⟨⟨z0, z1, z2, z3, z4, z5⟩, -⟩ := CT.out.grown hSw (by simp); obtain ⟨⟨y0, y1, y2, y3, y4, y5⟩, -⟩ := CU.out.grown hSw (by simp); have cx0 := conv_str _ Ax nx cx _ (RX.out.grown hSw); have cy0 := conv_str _ Ay ny cy _ (RY.out.grown hSw); first | (go_simp; done) | (go_simp; with_reducible rfl)
    try simp only [Act.put, List.setIfInBounds_toArray, List.set_cons_zero, List.set_cons_succ]
    refine wpAnyH_take (i := 10) (oi := { dst := some 46, op := Op.convert 25 9 (Operand.tmp 45), type := 9, pos := "law.go:120", after := #[{ on := 9, ground := Ground.data }, { on := 6, ground := Ground.guard }], guard := some (6, true) }) (v := ?_) rfl (by kernel_rfl) (by kernel_rfl) (by kernel_rfl) (fun _ _ _ h => h) (Or.inl ⟨by rfl, ?_⟩) (by assumption) ?_
    rotate_left 1
    · intro w hSw; obtain ⟨⟨z0, z1, z2, z3, z4, z5⟩, -⟩ := CT.out.grown hSw (by simp); obtain ⟨⟨y0, y1, y2, y3, y4, y5⟩, -⟩ := CU.out.grown hSw (by simp); have cx0 := conv_str _ Ax nx cx _ (RX.out.grown hSw); have cy0 := conv_str _ Ay ny cy _ (RY.out.grown hSw); first | (go_simp; done) | (go_simp; with_reducible rfl)
    try simp only [Act.put, List.setIfInBounds_toArray, List.set_cons_zero, List.set_cons_succ]
    refine wpAnyH_take (i := 11) (oi := { dst := some 47, op := Op.binOp BinOp.eql 9 (Operand.tmp 44) (Operand.tmp 46) 9, type := 4, pos := "law.go:120", after := #[{ on := 8, ground := Ground.data }, { on := 10, ground := Ground.data }, { on := 6, ground := Ground.guard }], guard := some (6, true) }) (v := ?_) rfl (by kernel_rfl) (by kernel_rfl) (by kernel_rfl) (fun _ _ _ h => h) (Or.inl ⟨by rfl, ?_⟩) (by assumption) ?_
    rotate_left 1
    · intro w hSw; obtain ⟨⟨z0, z1, z2, z3, z4, z5⟩, -⟩ := CT.out.grown hSw (by simp); obtain ⟨⟨y0, y1, y2, y3, y4, y5⟩, -⟩ := CU.out.grown hSw (by simp); have cx0 := conv_str _ Ax nx cx _ (RX.out.grown hSw); have cy0 := conv_str _ Ay ny cy _ (RY.out.grown hSw); first | (go_simp; done) | (go_simp; with_reducible rfl)
    try simp only [Act.put, List.setIfInBounds_toArray, List.set_cons_zero, List.set_cons_succ]
    refine wpAnyH_take (i := 12) (oi := { dst := some 48, op := Op.load 24 (Operand.tmp 7), type := 24, pos := "law.go:120", after := #[{ on := 6, ground := Ground.guard }], guard := some (6, true) }) (v := ?_) rfl (by kernel_rfl) (by kernel_rfl) (by kernel_rfl) (fun _ _ _ h => h) (Or.inl ⟨by rfl, ?_⟩) (by assumption) ?_
    rotate_left 1
    · intro w hSw; obtain ⟨⟨z0, z1, z2, z3, z4, z5⟩, -⟩ := CT.out.grown hSw (by simp); obtain ⟨⟨y0, y1, y2, y3, y4, y5⟩, -⟩ := CU.out.grown hSw (by simp); have cx0 := conv_str _ Ax nx cx _ (RX.out.grown hSw); have cy0 := conv_str _ Ay ny cy _ (RY.out.grown hSw); first | (go_simp; done) | (go_simp; with_reducible rfl)
    try simp only [Act.put, List.setIfInBounds_toArray, List.set_cons_zero, List.set_cons_succ]
    refine wpAnyH_take (i := 13) (oi := { dst := some 49, op := Op.load 24 (Operand.tmp 8), type := 24, pos := "law.go:120", after := #[{ on := 6, ground := Ground.guard }], guard := some (6, true) }) (v := ?_) rfl (by kernel_rfl) (by kernel_rfl) (by kernel_rfl) (fun _ _ _ h => h) (Or.inl ⟨by rfl, ?_⟩) (by assumption) ?_
    rotate_left 1
    · intro w hSw; obtain ⟨⟨z0, z1, z2, z3, z4, z5⟩, -⟩ := CT.out.grown hSw (by simp); obtain ⟨⟨y0, y1, y2, y3, y4, y5⟩, -⟩ := CU.out.grown hSw (by simp); have cx0 := conv_str _ Ax nx cx _ (RX.out.grown hSw); have cy0 := conv_str _ Ay ny cy _ (RY.out.grown hSw); first | (go_simp; done) | (go_simp; with_reducible rfl)
    try simp only [Act.put, List.setIfInBounds_toArray, List.set_cons_zero, List.set_cons_succ]
    refine wpAnyH_ready (rs := [14]) (by kernel_rfl) (by simp) (AllReadyH.cons (o := { dst := some 50, op := Op.call { callee := Callee.value (Operand.func 26), args := #[Operand.tmp 48, Operand.tmp 49], argTypes := #[24, 24] }, type := 4, pos := "law.go:120", after := #[{ on := 12, ground := Ground.data }, { on := 13, ground := Ground.data }, { on := 6, ground := Ground.chain }, { on := 6, ground := Ground.guard }], guard := some (6, true) }) rfl (fun K hK => ?_) AllReadyH.nil)
    go_simp
    refine (same_at HS.out (IT.out.grown (grown_drew w6 none)) (IU.out.grown (grown_drew w6 none)) (by omega) (by omega)).mono ?_
    rintro e wa ⟨rfl, ga⟩
    have GA : Hid (w6.grownBy wa none) := grown_trans (grown_drew w6 none) ga
    clear ga
    try dsimp only
    refine hK.out _ _ ?_ (fun hHeld => ?_)
    · exact GA.out
    clear hK K
    try simp only [Act.put, List.setIfInBounds_toArray, List.set_cons_zero, List.set_cons_succ]
    refine wpAnyH_take (i := 15) (oi := { dst := some 51, op := Op.binOp BinOp.eql 4 (Operand.tmp 47) (Operand.tmp 50) 4, type := 4, pos := "law.go:120", after := #[{ on := 11, ground := Ground.data }, { on := 14, ground := Ground.data }, { on := 6, ground := Ground.guard }], guard := some (6, true) }) (v := ?_) rfl (by kernel_rfl) (by kernel_rfl) (by kernel_rfl) (fun _ _ _ h => h) (Or.inl ⟨by rfl, ?_⟩) (by assumption) ?_
    rotate_left 1
    · intro w hSw; obtain ⟨⟨z0, z1, z2, z3, z4, z5⟩, -⟩ := CT.out.grown hSw (by simp); obtain ⟨⟨y0, y1, y2, y3, y4, y5⟩, -⟩ := CU.out.grown hSw (by simp); have cx0 := conv_str _ Ax nx cx _ (RX.out.grown hSw); have cy0 := conv_str _ Ay ny cy _ (RY.out.grown hSw); first | (go_simp; done) | (go_simp; with_reducible rfl)
    try simp only [Act.put, List.setIfInBounds_toArray, List.set_cons_zero, List.set_cons_succ]
    refine wpAnyH_take (i := 16) (oi := { dst := some 52, op := Op.pick (Operand.tmp 42) (Operand.tmp 51) (Operand.const (Value.bool false)), type := 4, pos := "law.go:120", after := #[{ on := 6, ground := Ground.data }, { on := 15, ground := Ground.data }], guard := none }) (v := ?_) rfl (by kernel_rfl) (by kernel_rfl) (by kernel_rfl) (fun _ _ _ h => h) (Or.inl ⟨by rfl, ?_⟩) (by assumption) ?_
    rotate_left 1
    · intro w hSw; obtain ⟨⟨z0, z1, z2, z3, z4, z5⟩, -⟩ := CT.out.grown hSw (by simp); obtain ⟨⟨y0, y1, y2, y3, y4, y5⟩, -⟩ := CU.out.grown hSw (by simp); have cx0 := conv_str _ Ax nx cx _ (RX.out.grown hSw); have cy0 := conv_str _ Ay ny cy _ (RY.out.grown hSw); first | (go_simp; done) | (go_simp; with_reducible rfl)
    try simp only [Act.put, List.setIfInBounds_toArray, List.set_cons_zero, List.set_cons_succ]
    refine wpAnyH_take (i := 17) (oi := { dst := some 53, op := Op.move (Operand.tmp 52), type := 4, pos := "law.go:120", after := #[{ on := 16, ground := Ground.data }, { on := 14, ground := Ground.chain }], guard := none }) (v := ?_) rfl (by kernel_rfl) (by kernel_rfl) (by kernel_rfl) (fun _ _ _ h => h) (Or.inl ⟨by rfl, ?_⟩) (by assumption) ?_
    rotate_left 1
    · intro w hSw; obtain ⟨⟨z0, z1, z2, z3, z4, z5⟩, -⟩ := CT.out.grown hSw (by simp); obtain ⟨⟨y0, y1, y2, y3, y4, y5⟩, -⟩ := CU.out.grown hSw (by simp); have cx0 := conv_str _ Ax nx cx _ (RX.out.grown hSw); have cy0 := conv_str _ Ay ny cy _ (RY.out.grown hSw); first | (go_simp; done) | (go_simp; with_reducible rfl)
    try simp only [Act.put, List.setIfInBounds_toArray, List.set_cons_zero, List.set_cons_succ]
    refine wpAnyH_ready (rs := [18]) (by kernel_rfl) (by simp) (AllReadyH.cons (o := { dst := some 54, op := Op.call { callee := Callee.value (Operand.func 8), args := #[], argTypes := #[] }, type := 4, pos := "law.go:120", after := #[{ on := 17, ground := Ground.chain }, { on := 17, ground := Ground.guard }], guard := some (17, true) }) rfl (fun K hK => ?_) AllReadyH.nil)
    go_simp
    refine (awake_any _ (HT.out _ (grown_trans GW.out GA.out))).mono ?_
    rintro e wb ⟨rfl, gb⟩
    have GB : Hid (w6.grownBy wb none) := grown_trans GA.out gb
    clear gb GA
    try dsimp only
    refine hK.out _ _ ?_ (fun hHeld => ?_)
    · exact GB.out
    clear hK K
    try simp only [Act.put, List.setIfInBounds_toArray, List.set_cons_zero, List.set_cons_succ]
    refine wpAnyH_take (i := 19) (oi := { dst := some 55, op := Op.pick (Operand.tmp 53) (Operand.tmp 54) (Operand.const (Value.bool false)), type := 4, pos := "law.go:120", after := #[{ on := 17, ground := Ground.data }, { on := 18, ground := Ground.data }], guard := none }) (v := ?_) rfl (by kernel_rfl) (by kernel_rfl) (by kernel_rfl) (fun _ _ _ h => h) (Or.inl ⟨by rfl, ?_⟩) (by assumption) ?_
    rotate_left 1
    · intro w hSw; obtain ⟨⟨z0, z1, z2, z3, z4, z5⟩, -⟩ := CT.out.grown hSw (by simp); obtain ⟨⟨y0, y1, y2, y3, y4, y5⟩, -⟩ := CU.out.grown hSw (by simp); have cx0 := conv_str _ Ax nx cx _ (RX.out.grown hSw); have cy0 := conv_str _ Ay ny cy _ (RY.out.grown hSw); first | (go_simp; done) | (go_simp; with_reducible rfl)
    try simp only [Act.put, List.setIfInBounds_toArray, List.set_cons_zero, List.set_cons_succ]
    refine wpAnyH_take (i := 20) (oi := { dst := some 6, op := Op.assign (Operand.tmp 55), type := 4, pos := "law.go:120", after := #[{ on := 19, ground := Ground.data }, { on := 18, ground := Ground.chain }, { on := 0, ground := Ground.phase }, { on := 1, ground := Ground.phase }, { on := 2, ground := Ground.phase }, { on := 3, ground := Ground.phase }, { on := 4, ground := Ground.phase }, { on := 5, ground := Ground.phase }, { on := 6, ground := Ground.phase }, { on := 7, ground := Ground.phase }, { on := 8, ground := Ground.phase }, { on := 9, ground := Ground.phase }, { on := 10, ground := Ground.phase }, { on := 11, ground := Ground.phase }, { on := 12, ground := Ground.phase }, { on := 13, ground := Ground.phase }, { on := 14, ground := Ground.phase }, { on := 15, ground := Ground.phase }, { on := 16, ground := Ground.phase }, { on := 17, ground := Ground.phase }, { on := 18, ground := Ground.phase }, { on := 19, ground := Ground.phase }], guard := none }) (v := ?_) rfl (by kernel_rfl) (by kernel_rfl) (by kernel_rfl) (fun _ _ _ h => h) (Or.inl ⟨by rfl, ?_⟩) (by assumption) ?_
    rotate_left 1
    · intro w hSw; obtain ⟨⟨z0, z1, z2, z3, z4, z5⟩, -⟩ := CT.out.grown hSw (by simp); obtain ⟨⟨y0, y1, y2, y3, y4, y5⟩, -⟩ := CU.out.grown hSw (by simp); have cx0 := conv_str _ Ax nx cx _ (RX.out.grown hSw); have cy0 := conv_str _ Ay ny cy _ (RY.out.grown hSw); first | (go_simp; done) | (go_simp; with_reducible rfl)
    try simp only [Act.put, List.setIfInBounds_toArray, List.set_cons_zero, List.set_cons_succ]
    refine wpAnyH_done (by kernel_rfl) ?_ _
    have GF := Lib.hid (grown_below (grown_trans GW.out GB.out))
    go_wp2
    go_ret
    exact ⟨rfl, GF.out⟩

set_option maxRecDepth 100000 in
set_option maxHeartbeats 4000000 in
theorem unlike_true (A B : Option Addr) (n c m d : Nat) (l r : List Int) (w : World) (ht : Tabled w) (hl : InRow w A n c l) (hr : InRow w B m d r) :
    Calls Tryd.prog 7 #[.slice A n c, .slice B m d, .bool true] w (TrueEnd w) := by
  have HT := Lib.hid (fun w' (g : w.grownBy w' none) => ht.grown g)
  have HR := Lib.hid hr
  have HL := Lib.hid hl
  clear ht hl hr
  go_enter Tryd.func7, Tryd.ntmps7
  go_wp2_with fail
  refine (new_any _ _ _ _ w HL.out).mono ?_
  rintro e w1 ⟨rfl, g1, s1, -⟩
  have G1 := Lib.hid g1
  have S1 := Lib.hid s1
  clear g1 s1
  go_wp2_with fail
  refine (tg_new G1.out (Nat.le_refl _) S1.out (by omega) (by omega)).mono ?_
  rintro e w2 ⟨t, A2, n2, c2, rfl, g2, o2, ⟨-, k2, l2⟩⟩
  have G2 := Lib.hid g2
  have K2 := Lib.hid k2
  have hn2 : n2 ≤ 3 := by have := o2.len; omega
  have I2 := Lib.hid o2
  clear G1 S1 g2 o2 k2 l2
  go_wp2_with fail
  refine (new_any _ _ _ _ w2 (HR.out.grown G2.out)).mono ?_
  rintro e w3 ⟨rfl, g3, s3, -⟩
  have G3 := Lib.hid g3
  have S3 := Lib.hid s3
  clear g3 s3
  go_wp2_with fail
  refine (tg_new G3.out (Nat.le_refl _) S3.out (by omega) (by omega)).mono ?_
  rintro e w4 ⟨u, B2, m2, d2, rfl, g4, o4, ⟨-, k4, l4⟩⟩
  have G4 := Lib.hid (grown_trans G2.out g4)
  have hm2 : m2 ≤ 3 := by have := o4.len; omega
  have I4 := Lib.hid (I2.out.keep g4 (by intro k e; cases e))
  have J4 := Lib.hid o4.ir
  have K4 := Lib.hid k4
  clear G2 G3 S3 I2 g4 o4 k4 l4
  obtain ⟨X, hX⟩ : ∃ X, w4.heap.size = X := ⟨_, rfl⟩
  unfold tv
  clear J4 K4 hm2
  obtain ⟨gw, ct, cu⟩ := two_made w4 t t (.slice A2 n2 c2) (.slice A2 n2 c2)
  have CT := Lib.hid ct
  have CU := Lib.hid cu
  have IT := Lib.hid (I4.out.keep gw (by intro k e; cases e))
  have HK : Hid (∀ k, (Value.slice A2 n2 c2).ownBlock = some k → k ≠ X + 1) := fun k e => by have := (I4.out.row k e).2; omega
  have GW := Lib.hid (grown_trans G4.out gw)
  have hwX : Hid (w.heap.size ≤ X) := by have := G4.out.size; exact (show w.heap.size ≤ X by omega)
  have ZW : Hid (((w4.alloc (tcells t (.slice A2 n2 c2))).alloc (tcells t (.slice A2 n2 c2))).heap.size = X + 2) := by rw [← hX]; exact (show _ = _ by simp)
  clear gw ct cu
  rw [hX] at CT CU
  go_upto_region 4 with fail
  unfold tcells at GW CT CU IT ZW
  generalize ((w4.alloc (Obj.cells #[.int .i64 t.st, .int .i64 t.ep, .int .i64 t.sq, .int .i64 t.tm, .int .i64 t.kd, .slice A2 n2 c2] 24)).alloc (Obj.cells #[.int .i64 t.st, .int .i64 t.ep, .int .i64 t.sq, .int .i64 t.tm, .int .i64 t.kd, .slice A2 n2 c2] 24)) = W at *
  clear G4 hX I4
  have M0 := Lib.hid (madeI_lit W W #[] 0 [] rfl rfl (grown_refl _ _) (by omega))
  have I0 := Lib.hid (IT.out.ir.grown (World.grownBy_alloc W (Obj.cells #[] 3) none))
  obtain ⟨⟨z0, z1, z2, z3, z4, z5⟩, -⟩ := CT.out
  have hXW : X < W.heap.size := World.block_lt_of_cell? _ _ z0
  go_wp2_with (first
    | (at_builtin; refine wpList_appI rfl (.tmp 21) (.tmp 23) rfl rfl rfl M0.out I0.out (by omega) n2 (by omega) ?_; intro A7 c7 w7 hm7 _; have M7 := Lib.hid hm7; clear hm7 z0 z1 z2 z3 z4 z5; obtain ⟨⟨y0, y1, y2, y3, y4, y5⟩, f0, f1, f2, f3, f4, f5⟩ := CU.out.grown M7.out.gr (by simp); obtain ⟨⟨z0, z1, z2, z3, z4, z5⟩, -⟩ := CT.out.grown M7.out.gr (by simp))
    | fail)
  clear y0 y1 y2 y3 y4 y5 f0 f1 f2 f3 f4 f5 z0 z1 z2 z3 z4 z5
  have gT : w7.grownBy (w7.setCell ⟨X + 1, 5, none⟩ (.slice A7 n2 c7)) (some (X + 1)) := grown_set w7 ⟨X + 1, 5, none⟩ _
  have GW := Lib.hid (grown_off (grown_trans GW.out M7.out.gr) gT (by have := hwX.out; omega))
  have IU : Hid (IR (w7.setCell ⟨X + 1, 5, none⟩ (.slice A7 n2 c7)) A7 n2 t.vs) := by
    have h7 : OI W.heap.size w7 A7 n2 c7 ([] ++ t.vs) := M7.out.own
    exact (OI.not h7 gT (fun k e => by have := (h7.row k e).1; have := ZW.out; omega)).ir
  have IT := Lib.hid ((IT.out.keep M7.out.gr (by intro k e; cases e)).not gT HK.out).ir
  have CU := Lib.hid (six_set (v := .slice A7 n2 c7) (j := 5) (CU.out.grown M7.out.gr (by simp)) t (.slice A7 n2 c7) (by omega) (fun i x hi hu => by match i, hi with | 0, _ => exact hu | 1, _ => exact hu | 2, _ => exact hu | 3, _ => exact hu | 4, _ => exact hu | 5, _ => rfl))
  have CT := Lib.hid ((CT.out.grown M7.out.gr (by simp)).grown gT (by intro e; injection e; omega))
  generalize w7.setCell ⟨X + 1, 5, none⟩ (.slice A7 n2 c7) = W8 at *
  clear gT HK M7 M0 I0 hXW ZW hwX
  refine (enc_ok (t := t) IT.out (by omega) K2.out (HT.out _ GW.out)).mono ?_
  rintro e w5 ⟨Ax, nx, cx, rfl, rx, g5⟩
  have GW := Lib.hid (grown_trans GW.out g5)
  have CT := Lib.hid (CT.out.grown g5 (by simp))
  have CU := Lib.hid (CU.out.grown g5 (by simp))
  have IT := Lib.hid (IT.out.grown g5)
  have IU := Lib.hid (IU.out.grown g5)
  have RX := Lib.hid rx
  clear rx g5
  obtain ⟨⟨y0, y1, y2, y3, y4, y5⟩, -⟩ := CU.out
  go_wp2_with fail
  clear y0 y1 y2 y3 y4 y5
  refine (enc_ok (t := t) IU.out (by omega) K2.out (HT.out _ GW.out)).mono ?_
  rintro e w6 ⟨Ay, ny, cy, rfl, ry, g6⟩
  have GW := Lib.hid (grown_trans GW.out g6)
  have CT := Lib.hid (CT.out.grown g6 (by simp))
  have CU := Lib.hid (CU.out.grown g6 (by simp))
  have IT := Lib.hid (IT.out.grown g6)
  have IU := Lib.hid (IU.out.grown g6)
  have RX := Lib.hid (RX.out.grown g6)
  have RY := Lib.hid ry
  clear ry g6
  go_wp2_with fail
  have HS := Lib.hid (Tm.same_self t)
  generalize t.bytes = lx at *
  refine wp_region_held_drew (S := fun w' => w6.grownBy w' none) (by kernel_rfl) ?_ (fun hHeld => ?_)
  · exact grown_drew w6 none
  try simp only [Act.put, List.setIfInBounds_toArray, List.set_cons_zero, List.set_cons_succ]
  refine wpAnyH_take (i := 0) (oi := { dst := some 36, op := Op.move (Operand.tmp 10), type := 31, pos := "law.go:120", after := #[], guard := none }) (v := ?_) rfl (by kernel_rfl) (by kernel_rfl) (by kernel_rfl) (fun _ _ _ h => h) (Or.inl ⟨by rfl, ?_⟩) (by assumption) ?_
  rotate_left 1
  · intro w hSw; obtain ⟨⟨z0, z1, z2, z3, z4, z5⟩, -⟩ := CT.out.grown hSw (by simp); obtain ⟨⟨y0, y1, y2, y3, y4, y5⟩, -⟩ := CU.out.grown hSw (by simp); have cx0 := conv_str _ Ax nx cx _ (RX.out.grown hSw); have cy0 := conv_str _ Ay ny cy _ (RY.out.grown hSw); first | (go_simp; done) | (go_simp; with_reducible rfl)
  try simp only [Act.put, List.setIfInBounds_toArray, List.set_cons_zero, List.set_cons_succ]
  refine wpAnyH_take (i := 1) (oi := { dst := some 37, op := Op.binOp BinOp.eql 31 (Operand.tmp 36) (Operand.const (Value.int IntKind.i64 0)) 31, type := 4, pos := "law.go:120", after := #[{ on := 0, ground := Ground.data }], guard := none }) (v := ?_) rfl (by kernel_rfl) (by kernel_rfl) (by kernel_rfl) (fun _ _ _ h => h) (Or.inl ⟨by rfl, ?_⟩) (by assumption) ?_
  rotate_left 1
  · intro w hSw; obtain ⟨⟨z0, z1, z2, z3, z4, z5⟩, -⟩ := CT.out.grown hSw (by simp); obtain ⟨⟨y0, y1, y2, y3, y4, y5⟩, -⟩ := CU.out.grown hSw (by simp); have cx0 := conv_str _ Ax nx cx _ (RX.out.grown hSw); have cy0 := conv_str _ Ay ny cy _ (RY.out.grown hSw); first | (go_simp; done) | (go_simp; with_reducible rfl)
  try simp only [Act.put, List.setIfInBounds_toArray, List.set_cons_zero, List.set_cons_succ]
  refine wpAnyH_take (i := 2) (oi := { dst := some 38, op := Op.move (Operand.tmp 37), type := 4, pos := "law.go:120", after := #[{ on := 1, ground := Ground.data }], guard := none }) (v := ?_) rfl (by kernel_rfl) (by kernel_rfl) (by kernel_rfl) (fun _ _ _ h => h) (Or.inl ⟨by rfl, ?_⟩) (by assumption) ?_
  rotate_left 1
  · intro w hSw; obtain ⟨⟨z0, z1, z2, z3, z4, z5⟩, -⟩ := CT.out.grown hSw (by simp); obtain ⟨⟨y0, y1, y2, y3, y4, y5⟩, -⟩ := CU.out.grown hSw (by simp); have cx0 := conv_str _ Ax nx cx _ (RX.out.grown hSw); have cy0 := conv_str _ Ay ny cy _ (RY.out.grown hSw); first | (go_simp; done) | (go_simp; with_reducible rfl)
  try simp only [Act.put, List.setIfInBounds_toArray, List.set_cons_zero, List.set_cons_succ]
  refine wpAnyH_take (i := 3) (oi := { dst := some 39, op := Op.move (Operand.tmp 12), type := 31, pos := "law.go:120", after := #[{ on := 2, ground := Ground.guard }], guard := some (2, true) }) (v := ?_) rfl (by kernel_rfl) (by kernel_rfl) (by kernel_rfl) (fun _ _ _ h => h) (Or.inl ⟨by rfl, ?_⟩) (by assumption) ?_
  rotate_left 1
  · intro w hSw; obtain ⟨⟨z0, z1, z2, z3, z4, z5⟩, -⟩ := CT.out.grown hSw (by simp); obtain ⟨⟨y0, y1, y2, y3, y4, y5⟩, -⟩ := CU.out.grown hSw (by simp); have cx0 := conv_str _ Ax nx cx _ (RX.out.grown hSw); have cy0 := conv_str _ Ay ny cy _ (RY.out.grown hSw); first | (go_simp; done) | (go_simp; with_reducible rfl)
  try simp only [Act.put, List.setIfInBounds_toArray, List.set_cons_zero, List.set_cons_succ]
  refine wpAnyH_take (i := 4) (oi := { dst := some 40, op := Op.binOp BinOp.eql 31 (Operand.tmp 39) (Operand.const (Value.int IntKind.i64 0)) 31, type := 4, pos := "law.go:120", after := #[{ on := 3, ground := Ground.data }, { on := 2, ground := Ground.guard }], guard := some (2, true) }) (v := ?_) rfl (by kernel_rfl) (by kernel_rfl) (by kernel_rfl) (fun _ _ _ h => h) (Or.inl ⟨by rfl, ?_⟩) (by assumption) ?_
  rotate_left 1
  · intro w hSw; obtain ⟨⟨z0, z1, z2, z3, z4, z5⟩, -⟩ := CT.out.grown hSw (by simp); obtain ⟨⟨y0, y1, y2, y3, y4, y5⟩, -⟩ := CU.out.grown hSw (by simp); have cx0 := conv_str _ Ax nx cx _ (RX.out.grown hSw); have cy0 := conv_str _ Ay ny cy _ (RY.out.grown hSw); first | (go_simp; done) | (go_simp; with_reducible rfl)
  try simp only [Act.put, List.setIfInBounds_toArray, List.set_cons_zero, List.set_cons_succ]
  refine wpAnyH_take (i := 5) (oi := { dst := some 41, op := Op.pick (Operand.tmp 38) (Operand.tmp 40) (Operand.const (Value.bool false)), type := 4, pos := "law.go:120", after := #[{ on := 2, ground := Ground.data }, { on := 4, ground := Ground.data }], guard := none }) (v := ?_) rfl (by kernel_rfl) (by kernel_rfl) (by kernel_rfl) (fun _ _ _ h => h) (Or.inl ⟨by rfl, ?_⟩) (by assumption) ?_
  rotate_left 1
  · intro w hSw; obtain ⟨⟨z0, z1, z2, z3, z4, z5⟩, -⟩ := CT.out.grown hSw (by simp); obtain ⟨⟨y0, y1, y2, y3, y4, y5⟩, -⟩ := CU.out.grown hSw (by simp); have cx0 := conv_str _ Ax nx cx _ (RX.out.grown hSw); have cy0 := conv_str _ Ay ny cy _ (RY.out.grown hSw); first | (go_simp; done) | (go_simp; with_reducible rfl)
  try simp only [Act.put, List.setIfInBounds_toArray, List.set_cons_zero, List.set_cons_succ]
  refine wpAnyH_take (i := 6) (oi := { dst := some 42, op := Op.move (Operand.tmp 41), type := 4, pos := "law.go:120", after := #[{ on := 5, ground := Ground.data }, { on := 2, ground := Ground.chain }], guard := none }) (v := ?_) rfl (by kernel_rfl) (by kernel_rfl) (by kernel_rfl) (fun _ _ _ h => h) (Or.inl ⟨by rfl, ?_⟩) (by assumption) ?_
  rotate_left 1
  · intro w hSw; obtain ⟨⟨z0, z1, z2, z3, z4, z5⟩, -⟩ := CT.out.grown hSw (by simp); obtain ⟨⟨y0, y1, y2, y3, y4, y5⟩, -⟩ := CU.out.grown hSw (by simp); have cx0 := conv_str _ Ax nx cx _ (RX.out.grown hSw); have cy0 := conv_str _ Ay ny cy _ (RY.out.grown hSw); first | (go_simp; done) | (go_simp; with_reducible rfl)
  try simp only [Act.put, List.setIfInBounds_toArray, List.set_cons_zero, List.set_cons_succ]
  refine wpAnyH_take (i := 7) (oi := { dst := some 43, op := Op.move (Operand.tmp 9), type := 25, pos := "law.go:120", after := #[{ on := 6, ground := Ground.guard }], guard := some (6, true) }) (v := ?_) rfl (by kernel_rfl) (by kernel_rfl) (by kernel_rfl) (fun _ _ _ h => h) (Or.inl ⟨by rfl, ?_⟩) (by assumption) ?_
  rotate_left 1
  · intro w hSw; obtain ⟨⟨z0, z1, z2, z3, z4, z5⟩, -⟩ := CT.out.grown hSw (by simp); obtain ⟨⟨y0, y1, y2, y3, y4, y5⟩, -⟩ := CU.out.grown hSw (by simp); have cx0 := conv_str _ Ax nx cx _ (RX.out.grown hSw); have cy0 := conv_str _ Ay ny cy _ (RY.out.grown hSw); first | (go_simp; done) | (go_simp; with_reducible rfl)
  try simp only [Act.put, List.setIfInBounds_toArray, List.set_cons_zero, List.set_cons_succ]
  refine wpAnyH_take (i := 8) (oi := { dst := some 44, op := Op.convert 25 9 (Operand.tmp 43), type := 9, pos := "law.go:120", after := #[{ on := 7, ground := Ground.data }, { on := 6, ground := Ground.guard }], guard := some (6, true) }) (v := ?_) rfl (by kernel_rfl) (by kernel_rfl) (by kernel_rfl) (fun _ _ _ h => h) (Or.inl ⟨by rfl, ?_⟩) (by assumption) ?_
  rotate_left 1
  · intro w hSw; obtain ⟨⟨z0, z1, z2, z3, z4, z5⟩, -⟩ := CT.out.grown hSw (by simp); obtain ⟨⟨y0, y1, y2, y3, y4, y5⟩, -⟩ := CU.out.grown hSw (by simp); have cx0 := conv_str _ Ax nx cx _ (RX.out.grown hSw); have cy0 := conv_str _ Ay ny cy _ (RY.out.grown hSw); first | (go_simp; done) | (go_simp; with_reducible rfl)
  try simp only [Act.put, List.setIfInBounds_toArray, List.set_cons_zero, List.set_cons_succ]
  refine wpAnyH_take (i := 9) (oi := { dst := some 45, op := Op.move (Operand.tmp 11), type := 25, pos := "law.go:120", after := #[{ on := 6, ground := Ground.guard }], guard := some (6, true) }) (v := ?_) rfl (by kernel_rfl) (by kernel_rfl) (by kernel_rfl) (fun _ _ _ h => h) (Or.inl ⟨by rfl, ?_⟩) (by assumption) ?_
  rotate_left 1
  · intro w hSw; obtain ⟨⟨z0, z1, z2, z3, z4, z5⟩, -⟩ := CT.out.grown hSw (by simp); obtain ⟨⟨y0, y1, y2, y3, y4, y5⟩, -⟩ := CU.out.grown hSw (by simp); have cx0 := conv_str _ Ax nx cx _ (RX.out.grown hSw); have cy0 := conv_str _ Ay ny cy _ (RY.out.grown hSw); first | (go_simp; done) | (go_simp; with_reducible rfl)
  try simp only [Act.put, List.setIfInBounds_toArray, List.set_cons_zero, List.set_cons_succ]
  refine wpAnyH_take (i := 10) (oi := { dst := some 46, op := Op.convert 25 9 (Operand.tmp 45), type := 9, pos := "law.go:120", after := #[{ on := 9, ground := Ground.data }, { on := 6, ground := Ground.guard }], guard := some (6, true) }) (v := ?_) rfl (by kernel_rfl) (by kernel_rfl) (by kernel_rfl) (fun _ _ _ h => h) (Or.inl ⟨by rfl, ?_⟩) (by assumption) ?_
  rotate_left 1
  · intro w hSw; obtain ⟨⟨z0, z1, z2, z3, z4, z5⟩, -⟩ := CT.out.grown hSw (by simp); obtain ⟨⟨y0, y1, y2, y3, y4, y5⟩, -⟩ := CU.out.grown hSw (by simp); have cx0 := conv_str _ Ax nx cx _ (RX.out.grown hSw); have cy0 := conv_str _ Ay ny cy _ (RY.out.grown hSw); first | (go_simp; done) | (go_simp; with_reducible rfl)
  try simp only [Act.put, List.setIfInBounds_toArray, List.set_cons_zero, List.set_cons_succ]
  refine wpAnyH_take (i := 11) (oi := { dst := some 47, op := Op.binOp BinOp.eql 9 (Operand.tmp 44) (Operand.tmp 46) 9, type := 4, pos := "law.go:120", after := #[{ on := 8, ground := Ground.data }, { on := 10, ground := Ground.data }, { on := 6, ground := Ground.guard }], guard := some (6, true) }) (v := ?_) rfl (by kernel_rfl) (by kernel_rfl) (by kernel_rfl) (fun _ _ _ h => h) (Or.inl ⟨by rfl, ?_⟩) (by assumption) ?_
  rotate_left 1
  · intro w hSw; obtain ⟨⟨z0, z1, z2, z3, z4, z5⟩, -⟩ := CT.out.grown hSw (by simp); obtain ⟨⟨y0, y1, y2, y3, y4, y5⟩, -⟩ := CU.out.grown hSw (by simp); have cx0 := conv_str _ Ax nx cx _ (RX.out.grown hSw); have cy0 := conv_str _ Ay ny cy _ (RY.out.grown hSw); first | (go_simp; done) | (go_simp; with_reducible rfl)
  try simp only [Act.put, List.setIfInBounds_toArray, List.set_cons_zero, List.set_cons_succ]
  refine wpAnyH_take (i := 12) (oi := { dst := some 48, op := Op.load 24 (Operand.tmp 7), type := 24, pos := "law.go:120", after := #[{ on := 6, ground := Ground.guard }], guard := some (6, true) }) (v := ?_) rfl (by kernel_rfl) (by kernel_rfl) (by kernel_rfl) (fun _ _ _ h => h) (Or.inl ⟨by rfl, ?_⟩) (by assumption) ?_
  rotate_left 1
  · intro w hSw; obtain ⟨⟨z0, z1, z2, z3, z4, z5⟩, -⟩ := CT.out.grown hSw (by simp); obtain ⟨⟨y0, y1, y2, y3, y4, y5⟩, -⟩ := CU.out.grown hSw (by simp); have cx0 := conv_str _ Ax nx cx _ (RX.out.grown hSw); have cy0 := conv_str _ Ay ny cy _ (RY.out.grown hSw); first | (go_simp; done) | (go_simp; with_reducible rfl)
  try simp only [Act.put, List.setIfInBounds_toArray, List.set_cons_zero, List.set_cons_succ]
  refine wpAnyH_take (i := 13) (oi := { dst := some 49, op := Op.load 24 (Operand.tmp 8), type := 24, pos := "law.go:120", after := #[{ on := 6, ground := Ground.guard }], guard := some (6, true) }) (v := ?_) rfl (by kernel_rfl) (by kernel_rfl) (by kernel_rfl) (fun _ _ _ h => h) (Or.inl ⟨by rfl, ?_⟩) (by assumption) ?_
  rotate_left 1
  · intro w hSw; obtain ⟨⟨z0, z1, z2, z3, z4, z5⟩, -⟩ := CT.out.grown hSw (by simp); obtain ⟨⟨y0, y1, y2, y3, y4, y5⟩, -⟩ := CU.out.grown hSw (by simp); have cx0 := conv_str _ Ax nx cx _ (RX.out.grown hSw); have cy0 := conv_str _ Ay ny cy _ (RY.out.grown hSw); first | (go_simp; done) | (go_simp; with_reducible rfl)
  try simp only [Act.put, List.setIfInBounds_toArray, List.set_cons_zero, List.set_cons_succ]
  refine wpAnyH_ready (rs := [14]) (by kernel_rfl) (by simp) (AllReadyH.cons (o := { dst := some 50, op := Op.call { callee := Callee.value (Operand.func 26), args := #[Operand.tmp 48, Operand.tmp 49], argTypes := #[24, 24] }, type := 4, pos := "law.go:120", after := #[{ on := 12, ground := Ground.data }, { on := 13, ground := Ground.data }, { on := 6, ground := Ground.chain }, { on := 6, ground := Ground.guard }], guard := some (6, true) }) rfl (fun K hK => ?_) AllReadyH.nil)
  go_simp
  refine (same_at HS.out (IT.out.grown (grown_drew w6 none)) (IU.out.grown (grown_drew w6 none)) (by omega) (by omega)).mono ?_
  rintro e wa ⟨rfl, ga⟩
  have GA : Hid (w6.grownBy wa none) := grown_trans (grown_drew w6 none) ga
  clear ga
  try dsimp only
  refine hK.out _ _ ?_ (fun hHeld => ?_)
  · exact GA.out
  clear hK K
  try simp only [Act.put, List.setIfInBounds_toArray, List.set_cons_zero, List.set_cons_succ]
  refine wpAnyH_take (i := 15) (oi := { dst := some 51, op := Op.binOp BinOp.eql 4 (Operand.tmp 47) (Operand.tmp 50) 4, type := 4, pos := "law.go:120", after := #[{ on := 11, ground := Ground.data }, { on := 14, ground := Ground.data }, { on := 6, ground := Ground.guard }], guard := some (6, true) }) (v := ?_) rfl (by kernel_rfl) (by kernel_rfl) (by kernel_rfl) (fun _ _ _ h => h) (Or.inl ⟨by rfl, ?_⟩) (by assumption) ?_
  rotate_left 1
  · intro w hSw; obtain ⟨⟨z0, z1, z2, z3, z4, z5⟩, -⟩ := CT.out.grown hSw (by simp); obtain ⟨⟨y0, y1, y2, y3, y4, y5⟩, -⟩ := CU.out.grown hSw (by simp); have cx0 := conv_str _ Ax nx cx _ (RX.out.grown hSw); have cy0 := conv_str _ Ay ny cy _ (RY.out.grown hSw); first | (go_simp; done) | (go_simp; with_reducible rfl)
  try simp only [Act.put, List.setIfInBounds_toArray, List.set_cons_zero, List.set_cons_succ]
  refine wpAnyH_take (i := 16) (oi := { dst := some 52, op := Op.pick (Operand.tmp 42) (Operand.tmp 51) (Operand.const (Value.bool false)), type := 4, pos := "law.go:120", after := #[{ on := 6, ground := Ground.data }, { on := 15, ground := Ground.data }], guard := none }) (v := ?_) rfl (by kernel_rfl) (by kernel_rfl) (by kernel_rfl) (fun _ _ _ h => h) (Or.inl ⟨by rfl, ?_⟩) (by assumption) ?_
  rotate_left 1
  · intro w hSw; obtain ⟨⟨z0, z1, z2, z3, z4, z5⟩, -⟩ := CT.out.grown hSw (by simp); obtain ⟨⟨y0, y1, y2, y3, y4, y5⟩, -⟩ := CU.out.grown hSw (by simp); have cx0 := conv_str _ Ax nx cx _ (RX.out.grown hSw); have cy0 := conv_str _ Ay ny cy _ (RY.out.grown hSw); first | (go_simp; done) | (go_simp; with_reducible rfl)
  try simp only [Act.put, List.setIfInBounds_toArray, List.set_cons_zero, List.set_cons_succ]
  refine wpAnyH_take (i := 17) (oi := { dst := some 53, op := Op.move (Operand.tmp 52), type := 4, pos := "law.go:120", after := #[{ on := 16, ground := Ground.data }, { on := 14, ground := Ground.chain }], guard := none }) (v := ?_) rfl (by kernel_rfl) (by kernel_rfl) (by kernel_rfl) (fun _ _ _ h => h) (Or.inl ⟨by rfl, ?_⟩) (by assumption) ?_
  rotate_left 1
  · intro w hSw; obtain ⟨⟨z0, z1, z2, z3, z4, z5⟩, -⟩ := CT.out.grown hSw (by simp); obtain ⟨⟨y0, y1, y2, y3, y4, y5⟩, -⟩ := CU.out.grown hSw (by simp); have cx0 := conv_str _ Ax nx cx _ (RX.out.grown hSw); have cy0 := conv_str _ Ay ny cy _ (RY.out.grown hSw); first | (go_simp; done) | (go_simp; with_reducible rfl)
  try simp only [Act.put, List.setIfInBounds_toArray, List.set_cons_zero, List.set_cons_succ]
  refine wpAnyH_ready (rs := [18]) (by kernel_rfl) (by simp) (AllReadyH.cons (o := { dst := some 54, op := Op.call { callee := Callee.value (Operand.func 8), args := #[], argTypes := #[] }, type := 4, pos := "law.go:120", after := #[{ on := 17, ground := Ground.chain }, { on := 17, ground := Ground.guard }], guard := some (17, true) }) rfl (fun K hK => ?_) AllReadyH.nil)
  go_simp
  refine (awake_any _ (HT.out _ (grown_trans GW.out GA.out))).mono ?_
  rintro e wb ⟨rfl, gb⟩
  have GB : Hid (w6.grownBy wb none) := grown_trans GA.out gb
  clear gb GA
  try dsimp only
  refine hK.out _ _ ?_ (fun hHeld => ?_)
  · exact GB.out
  clear hK K
  try simp only [Act.put, List.setIfInBounds_toArray, List.set_cons_zero, List.set_cons_succ]
  refine wpAnyH_take (i := 19) (oi := { dst := some 55, op := Op.pick (Operand.tmp 53) (Operand.tmp 54) (Operand.const (Value.bool false)), type := 4, pos := "law.go:120", after := #[{ on := 17, ground := Ground.data }, { on := 18, ground := Ground.data }], guard := none }) (v := ?_) rfl (by kernel_rfl) (by kernel_rfl) (by kernel_rfl) (fun _ _ _ h => h) (Or.inl ⟨by rfl, ?_⟩) (by assumption) ?_
  rotate_left 1
  · intro w hSw; obtain ⟨⟨z0, z1, z2, z3, z4, z5⟩, -⟩ := CT.out.grown hSw (by simp); obtain ⟨⟨y0, y1, y2, y3, y4, y5⟩, -⟩ := CU.out.grown hSw (by simp); have cx0 := conv_str _ Ax nx cx _ (RX.out.grown hSw); have cy0 := conv_str _ Ay ny cy _ (RY.out.grown hSw); first | (go_simp; done) | (go_simp; with_reducible rfl)
  try simp only [Act.put, List.setIfInBounds_toArray, List.set_cons_zero, List.set_cons_succ]
  refine wpAnyH_take (i := 20) (oi := { dst := some 6, op := Op.assign (Operand.tmp 55), type := 4, pos := "law.go:120", after := #[{ on := 19, ground := Ground.data }, { on := 18, ground := Ground.chain }, { on := 0, ground := Ground.phase }, { on := 1, ground := Ground.phase }, { on := 2, ground := Ground.phase }, { on := 3, ground := Ground.phase }, { on := 4, ground := Ground.phase }, { on := 5, ground := Ground.phase }, { on := 6, ground := Ground.phase }, { on := 7, ground := Ground.phase }, { on := 8, ground := Ground.phase }, { on := 9, ground := Ground.phase }, { on := 10, ground := Ground.phase }, { on := 11, ground := Ground.phase }, { on := 12, ground := Ground.phase }, { on := 13, ground := Ground.phase }, { on := 14, ground := Ground.phase }, { on := 15, ground := Ground.phase }, { on := 16, ground := Ground.phase }, { on := 17, ground := Ground.phase }, { on := 18, ground := Ground.phase }, { on := 19, ground := Ground.phase }], guard := none }) (v := ?_) rfl (by kernel_rfl) (by kernel_rfl) (by kernel_rfl) (fun _ _ _ h => h) (Or.inl ⟨by rfl, ?_⟩) (by assumption) ?_
  rotate_left 1
  · intro w hSw; obtain ⟨⟨z0, z1, z2, z3, z4, z5⟩, -⟩ := CT.out.grown hSw (by simp); obtain ⟨⟨y0, y1, y2, y3, y4, y5⟩, -⟩ := CU.out.grown hSw (by simp); have cx0 := conv_str _ Ax nx cx _ (RX.out.grown hSw); have cy0 := conv_str _ Ay ny cy _ (RY.out.grown hSw); first | (go_simp; done) | (go_simp; with_reducible rfl)
  try simp only [Act.put, List.setIfInBounds_toArray, List.set_cons_zero, List.set_cons_succ]
  refine wpAnyH_done (by kernel_rfl) ?_ _
  have GF := Lib.hid (grown_below (grown_trans GW.out GB.out))
  go_wp2
  go_ret
  exact ⟨rfl, GF.out⟩

theorem unlike_any (A B : Option Addr) (n c m d : Nat) (l r : List Int) (b : Bool) (w : World) (ht : Tabled w) (hl : InRow w A n c l) (hr : InRow w B m d r) :
    Calls Tryd.prog 7 #[.slice A n c, .slice B m d, .bool b] w (TrueEnd w) := by
  cases b
  · exact unlike_false A B n c m d l r w ht hl hr
  · exact unlike_true A B n c m d l r w ht hl hr
end Go.Proofs.YtcjbhkocpfkcbaaDoor.Wr
