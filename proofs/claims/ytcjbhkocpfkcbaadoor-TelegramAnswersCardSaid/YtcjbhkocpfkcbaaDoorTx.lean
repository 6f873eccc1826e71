/- The walk of TelegramOrder. -/
import Derived.Test.YtcjbhkocpfkcbaaDoorTw
import Derived.Test.YtcjbhkocpfkcbaaDoorTv
import Derived.Deep.RegionHeld3
import Derived.Deep.DeepCutAuto
namespace Go.Proofs.YtcjbhkocpfkcbaaDoor.Wr
open Go.ChangeShapes Go.WideShapes Go.ChangeAt Go.RowKit

theorem two_made (w : World) (t u : Tm.Tg) (V U : Value) : w.grownBy ((w.alloc (tcells t V)).alloc (tcells u U)) none ∧ Six ((w.alloc (tcells t V)).alloc (tcells u U)) w.heap.size t V ∧ Six ((w.alloc (tcells t V)).alloc (tcells u U)) (w.heap.size + 1) u U := by
  refine ⟨grown_trans (World.grownBy_alloc _ _ _) (World.grownBy_alloc _ _ _), (Six.made w t V).grown (World.grownBy_alloc _ _ none) (by simp), ?_⟩
  have := Six.made (w.alloc (tcells t V)) u U
  rwa [show (w.alloc (tcells t V)).heap.size = w.heap.size + 1 by simp] at this
theorem before_at {t u : Tm.Tg} {b : Bool} (h : Tm.before t u = b) (w : World) (A B : Option Addr) (n c m d : Nat) :
    Calls Tryd.prog 15 #[tv t (.slice A n c), tv u (.slice B m d)] w (Ret (.bool b) w) := by
  subst h; exact before_any t u A B n c m d w
theorem before_self (t : Tm.Tg) : Tm.before t t = false := by simp [Tm.before]
theorem before_same (t u : Tm.Tg) (h : t.st = u.st) : (Tm.before t u = false ∧ Tm.before u t = false ∧ (t.ep == u.ep) = true ∧ (t.sq == u.sq) = true) ∨ (Tm.before t u = true ∧ Tm.before u t = false ∧ (t.ep == u.ep) = true ∧ (t.sq == u.sq) = false) ∨
    (Tm.before t u = false ∧ Tm.before u t = true ∧ (t.ep == u.ep) = true ∧ (t.sq == u.sq) = false) ∨ (Tm.before t u = true ∧ Tm.before u t = false ∧ (t.ep == u.ep) = false ∧ True) ∨ (Tm.before t u = false ∧ Tm.before u t = true ∧ (t.ep == u.ep) = false ∧ True) := by
  simp only [Tm.before, decide_eq_true_eq, decide_eq_false_iff_not, beq_iff_eq, beq_eq_false_iff_ne, and_true, ne_eq]
  omega
theorem before_other (t u : Tm.Tg) (h : t.st ≠ u.st) : (Tm.before t u = false ∧ Tm.before u t = false ∧ (t.ep == u.ep) = true ∧ (t.sq == u.sq) = true) ∨ (Tm.before t u = false ∧ Tm.before u t = false ∧ (t.ep == u.ep) = true ∧ (t.sq == u.sq) = false) ∨ (Tm.before t u = false ∧ Tm.before u t = false ∧ (t.ep == u.ep) = false ∧ True) := by
  simp only [Tm.before, decide_eq_false_iff_not, beq_iff_eq, beq_eq_false_iff_ne, and_true, ne_eq]
  omega

set_option maxRecDepth 100000 in
set_option maxHeartbeats 4000000 in
theorem order_true (A B : Option Addr) (n c m d : Nat) (l r : List Int) (w : World) (ht : Tabled w) (hl : InRow w A n c l) (hr : InRow w B m d r) :
    Calls Tryd.prog 6 #[.slice A n c, .slice B m d, .bool true] w (TrueEnd w) := by
  have HT := Lib.hid (fun w' (g : w.grownBy w' none) => ht.grown g)
  have HR := Lib.hid hr
  have HL := Lib.hid hl
  clear ht hl hr
  go_enter Tryd.func6, Tryd.ntmps6
  go_wp2_with fail
  refine (new_any _ _ _ _ w HL.out).mono ?_
  rintro e w1 ⟨rfl, g1, s1, _⟩
  have G1 := Lib.hid g1
  have S1 := Lib.hid s1
  clear g1 s1
  go_wp2_with fail
  refine (tg_new G1.out (Nat.le_refl _) S1.out (by omega) (by omega)).mono ?_
  rintro e w2 ⟨t, A2, n2, c2, rfl, g2, o2, ⟨k2, _, _⟩⟩
  have G2 := Lib.hid g2
  have K2 := Lib.hid k2
  clear G1 S1 g2 o2 k2
  go_wp2_with fail
  refine (new_any _ _ _ _ w2 (HR.out.grown G2.out)).mono ?_
  rintro e w3 ⟨rfl, g3, s3, _⟩
  have G3 := Lib.hid g3
  have S3 := Lib.hid s3
  clear g3 s3
  go_wp2_with fail
  refine (tg_new G3.out (Nat.le_refl _) S3.out (by omega) (by omega)).mono ?_
  rintro e w4 ⟨u, B2, m2, d2, rfl, g4, o4, ⟨k4, _, _⟩⟩
  have G4 := Lib.hid (grown_trans G2.out g4)
  have K4 := Lib.hid k4
  clear G3 S3 g4 o4 k4
  unfold tv
  go_upto_region 4 with fail
  obtain ⟨X, hX⟩ : ∃ X, w4.heap.size = X := ⟨_, rfl⟩
  obtain ⟨GW, CT, CU⟩ := two_made w4 t u (.slice A2 n2 c2) (.slice B2 m2 d2)
  have GW := Lib.hid (grown_trans G4.out GW)
  have CT := Lib.hid CT
  have CU := Lib.hid CU
  rw [hX] at CT CU ⊢
  unfold tcells at GW CT CU
  generalize ((w4.alloc (Obj.cells #[.int .i64 t.st, .int .i64 t.ep, .int .i64 t.sq, .int .i64 t.tm, .int .i64 t.kd, .slice A2 n2 c2] 24)).alloc (Obj.cells #[.int .i64 u.st, .int .i64 u.ep, .int .i64 u.sq, .int .i64 u.tm, .int .i64 u.kd, .slice B2 m2 d2] 24)) = W at *
  have hX0 : w.heap.size ≤ X := by have := G4.out.size; omega
  have HA := Lib.hid (before_same t u (K2.out.trans K4.out.symm))
  clear G4 hX K2 K4
  rcases HA.out with ⟨hx, hy, h1, h2⟩ | ⟨hx, hy, h1, h2⟩ | ⟨hx, hy, h1, h2⟩ | ⟨hx, hy, h1, h2⟩ | ⟨hx, hy, h1, h2⟩
  all_goals
    have HX := Lib.hid (before_at hx)
    have HY := Lib.hid (before_at hy)
    clear hx hy
    refine wp_region_held_drew (S := fun w' => W.grownBy w' none) (by kernel_rfl) ?_ (fun hHeld => ?_)
    · exact grown_drew W none
    try simp only [Act.put, List.setIfInBounds_toArray, List.set_cons_zero, List.set_cons_succ]
    refine wpAnyH_take (i := 0) (oi := { dst := some 21, op := Op.load 24 (Operand.tmp 7), type := 24, pos := "law.go:106", after := #[], guard := none }) (v := ?_) rfl (by kernel_rfl) (by kernel_rfl) (by kernel_rfl) (fun _ _ _ h => h) (Or.inl ⟨by rfl, ?_⟩) (by assumption) ?_
    rotate_left 1
    · intro w hSw; obtain ⟨⟨z0, z1, z2, z3, z4, z5⟩, _⟩ := CT.out.grown hSw (by simp); obtain ⟨⟨y0, y1, y2, y3, y4, y5⟩, _⟩ := CU.out.grown hSw (by simp); first | (go_simp; done) | (go_simp; with_reducible rfl)
    try simp only [Act.put, List.setIfInBounds_toArray, List.set_cons_zero, List.set_cons_succ]
    refine wpAnyH_take (i := 1) (oi := { dst := some 22, op := Op.load 24 (Operand.tmp 8), type := 24, pos := "law.go:106", after := #[], guard := none }) (v := ?_) rfl (by kernel_rfl) (by kernel_rfl) (by kernel_rfl) (fun _ _ _ h => h) (Or.inl ⟨by rfl, ?_⟩) (by assumption) ?_
    rotate_left 1
    · intro w hSw; obtain ⟨⟨z0, z1, z2, z3, z4, z5⟩, _⟩ := CT.out.grown hSw (by simp); obtain ⟨⟨y0, y1, y2, y3, y4, y5⟩, _⟩ := CU.out.grown hSw (by simp); first | (go_simp; done) | (go_simp; with_reducible rfl)
    try simp only [Act.put, List.setIfInBounds_toArray, List.set_cons_zero, List.set_cons_succ]
    refine wpAnyH_take (i := 3) (oi := { dst := some 24, op := Op.load 24 (Operand.tmp 8), type := 24, pos := "law.go:106", after := #[], guard := none }) (v := ?_) rfl (by kernel_rfl) (by kernel_rfl) (by kernel_rfl) (fun _ _ _ h => h) (Or.inl ⟨by rfl, ?_⟩) (by assumption) ?_
    rotate_left 1
    · intro w hSw; obtain ⟨⟨z0, z1, z2, z3, z4, z5⟩, _⟩ := CT.out.grown hSw (by simp); obtain ⟨⟨y0, y1, y2, y3, y4, y5⟩, _⟩ := CU.out.grown hSw (by simp); first | (go_simp; done) | (go_simp; with_reducible rfl)
    try simp only [Act.put, List.setIfInBounds_toArray, List.set_cons_zero, List.set_cons_succ]
    refine wpAnyH_take (i := 4) (oi := { dst := some 25, op := Op.load 24 (Operand.tmp 7), type := 24, pos := "law.go:106", after := #[], guard := none }) (v := ?_) rfl (by kernel_rfl) (by kernel_rfl) (by kernel_rfl) (fun _ _ _ h => h) (Or.inl ⟨by rfl, ?_⟩) (by assumption) ?_
    rotate_left 1
    · intro w hSw; obtain ⟨⟨z0, z1, z2, z3, z4, z5⟩, _⟩ := CT.out.grown hSw (by simp); obtain ⟨⟨y0, y1, y2, y3, y4, y5⟩, _⟩ := CU.out.grown hSw (by simp); first | (go_simp; done) | (go_simp; with_reducible rfl)
    try simp only [Act.put, List.setIfInBounds_toArray, List.set_cons_zero, List.set_cons_succ]
    refine wpAnyH_ready (rs := [2]) (by kernel_rfl) (by simp) (AllReadyH.cons (o := { dst := some 23, op := Op.call { callee := Callee.value (Operand.func 15), args := #[Operand.tmp 21, Operand.tmp 22], argTypes := #[24, 24] }, type := 4, pos := "law.go:106", after := #[{ on := 0, ground := Ground.data }, { on := 1, ground := Ground.data }], guard := none }) rfl (fun K hK => ?_) AllReadyH.nil)
    go_simp
    refine (HX.out _ A2 B2 n2 c2 m2 d2).mono ?_
    rintro e wa ⟨rfl, ga⟩
    have GA : Hid (W.grownBy wa none) := grown_trans (grown_drew W none) ga
    clear ga
    try dsimp only
    refine hK.out _ _ ?_ (fun hHeld => ?_)
    · exact GA.out
    clear hK K
    try simp only [Act.put, List.setIfInBounds_toArray, List.set_cons_zero, List.set_cons_succ]
    refine wpAnyH_ready (rs := [5]) (by kernel_rfl) (by simp) (AllReadyH.cons (o := { dst := some 26, op := Op.call { callee := Callee.value (Operand.func 15), args := #[Operand.tmp 24, Operand.tmp 25], argTypes := #[24, 24] }, type := 4, pos := "law.go:106", after := #[{ on := 3, ground := Ground.data }, { on := 4, ground := Ground.data }, { on := 2, ground := Ground.chain }], guard := none }) rfl (fun K hK => ?_) AllReadyH.nil)
    go_simp
    refine (HY.out _ B2 A2 m2 d2 n2 c2).mono ?_
    rintro e wb ⟨rfl, gb⟩
    have GB : Hid (W.grownBy wb none) := grown_trans GA.out gb
    clear gb GA
    try dsimp only
    refine hK.out _ _ ?_ (fun hHeld => ?_)
    · exact GB.out
    clear hK K
    try simp only [Act.put, List.setIfInBounds_toArray, List.set_cons_zero, List.set_cons_succ]
    refine wpAnyH_take (i := 6) (oi := { dst := some 9, op := Op.assign (Operand.tmp 23), type := 4, pos := "law.go:106", after := #[{ on := 2, ground := Ground.data }, { on := 5, ground := Ground.chain }, { on := 0, ground := Ground.phase }, { on := 1, ground := Ground.phase }, { on := 2, ground := Ground.phase }, { on := 3, ground := Ground.textOnly Departure.lateStores }, { on := 4, ground := Ground.textOnly Departure.lateStores }, { on := 5, ground := Ground.textOnly Departure.lateStoresUnsure }], guard := none }) (v := ?_) rfl (by kernel_rfl) (by kernel_rfl) (by kernel_rfl) (fun _ _ _ h => h) (Or.inl ⟨by rfl, ?_⟩) (by assumption) ?_
    rotate_left 1
    · intro w hSw; obtain ⟨⟨z0, z1, z2, z3, z4, z5⟩, _⟩ := CT.out.grown hSw (by simp); obtain ⟨⟨y0, y1, y2, y3, y4, y5⟩, _⟩ := CU.out.grown hSw (by simp); first | (go_simp; done) | (go_simp; with_reducible rfl)
    try simp only [Act.put, List.setIfInBounds_toArray, List.set_cons_zero, List.set_cons_succ]
    refine wpAnyH_take (i := 7) (oi := { dst := some 10, op := Op.assign (Operand.tmp 26), type := 4, pos := "law.go:106", after := #[{ on := 5, ground := Ground.data }, { on := 6, ground := Ground.chain }, { on := 0, ground := Ground.phase }, { on := 1, ground := Ground.phase }, { on := 2, ground := Ground.phase }, { on := 3, ground := Ground.phase }, { on := 4, ground := Ground.phase }, { on := 5, ground := Ground.phase }, { on := 6, ground := Ground.phase }], guard := none }) (v := ?_) rfl (by kernel_rfl) (by kernel_rfl) (by kernel_rfl) (fun _ _ _ h => h) (Or.inl ⟨by rfl, ?_⟩) (by assumption) ?_
    rotate_left 1
    · intro w hSw; obtain ⟨⟨z0, z1, z2, z3, z4, z5⟩, _⟩ := CT.out.grown hSw (by simp); obtain ⟨⟨y0, y1, y2, y3, y4, y5⟩, _⟩ := CU.out.grown hSw (by simp); first | (go_simp; done) | (go_simp; with_reducible rfl)
    try simp only [Act.put, List.setIfInBounds_toArray, List.set_cons_zero, List.set_cons_succ]
    refine wpAnyH_done (by kernel_rfl) ?_ _
    have CT := Lib.hid (CT.out.grown GB.out (by simp))
    have CU := Lib.hid (CU.out.grown GB.out (by simp))
    have GW := Lib.hid (grown_trans GW.out GB.out)
    clear GB HX HY
    obtain ⟨⟨z0, z1, z2, z3, z4, z5⟩, _⟩ := CT.out
    obtain ⟨⟨y0, y1, y2, y3, y4, y5⟩, _⟩ := CU.out
    go_wp2_with fail
    refine (before_at (before_self t) _ A2 A2 n2 c2 n2 c2).mono ?_
    rintro e wc ⟨rfl, gc⟩
    have GW := Lib.hid (grown_trans GW.out gc)
    clear gc CT CU z0 z1 z2 z3 z4 z5 y0 y1 y2 y3 y4 y5
    go_wp2_with fail
    refine (awake_any _ (HT.out _ GW.out)).mono ?_
    rintro e wd ⟨rfl, gd⟩
    have GF := Lib.hid (grown_below (grown_trans GW.out gd))
    clear gd
    go_wp2
    go_ret
    exact ⟨rfl, GF.out⟩

set_option maxRecDepth 100000 in
set_option maxHeartbeats 4000000 in
theorem order_false (A B : Option Addr) (n c m d : Nat) (l r : List Int) (w : World) (ht : Tabled w) (hl : InRow w A n c l) (hr : InRow w B m d r) :
    Calls Tryd.prog 6 #[.slice A n c, .slice B m d, .bool false] w (TrueEnd w) := by
  have HT := Lib.hid (fun w' (g : w.grownBy w' none) => ht.grown g)
  have HR := Lib.hid hr
  have HL := Lib.hid hl
  clear ht hl hr
  go_enter Tryd.func6, Tryd.ntmps6
  go_wp2_with fail
  refine (new_any _ _ _ _ w HL.out).mono ?_
  rintro e w1 ⟨rfl, g1, s1, _⟩
  have G1 := Lib.hid g1
  have S1 := Lib.hid s1
  clear g1 s1
  go_wp2_with fail
  refine (tg_new G1.out (Nat.le_refl _) S1.out (by omega) (by omega)).mono ?_
  rintro e w2 ⟨t, A2, n2, c2, rfl, g2, o2, ⟨k2, _, _⟩⟩
  have G2 := Lib.hid g2
  have K2 := Lib.hid k2
  clear G1 S1 g2 o2 k2
  go_wp2_with fail
  refine (new_any _ _ _ _ w2 (HR.out.grown G2.out)).mono ?_
  rintro e w3 ⟨rfl, g3, s3, _⟩
  have G3 := Lib.hid g3
  have S3 := Lib.hid s3
  clear g3 s3
  go_wp2_with fail
  refine (tg_new G3.out (Nat.le_refl _) S3.out (by omega) (by omega)).mono ?_
  rintro e w4 ⟨u, B2, m2, d2, rfl, g4, o4, ⟨k4, _, _⟩⟩
  have G4 := Lib.hid (grown_trans G2.out g4)
  have K4 := Lib.hid k4
  clear G3 S3 g4 o4 k4
  unfold tv
  go_upto_region 4 with fail
  obtain ⟨X, hX⟩ : ∃ X, w4.heap.size = X := ⟨_, rfl⟩
  obtain ⟨v, hv⟩ : ∃ v : Tm.Tg, v = ⟨6, u.ep, u.sq, u.tm, u.kd, u.vs⟩ := ⟨_, rfl⟩
  obtain ⟨GW, CT, CU⟩ := two_made w4 t ⟨6, u.ep, u.sq, u.tm, u.kd, u.vs⟩ (.slice A2 n2 c2) (.slice B2 m2 d2)
  have GW := Lib.hid (grown_trans G4.out GW)
  have CT := Lib.hid CT
  have CU := Lib.hid CU
  rw [hX] at CT CU ⊢
  unfold tcells at GW CT CU
  dsimp only at GW CT CU
  generalize ((w4.alloc (Obj.cells #[.int .i64 t.st, .int .i64 t.ep, .int .i64 t.sq, .int .i64 t.tm, .int .i64 t.kd, .slice A2 n2 c2] 24)).alloc (Obj.cells #[.int .i64 6, .int .i64 u.ep, .int .i64 u.sq, .int .i64 u.tm, .int .i64 u.kd, .slice B2 m2 d2] 24)) = W at *
  have hX0 : w.heap.size ≤ X := by have := G4.out.size; omega
  rw [← hv] at CU
  have HA := Lib.hid (before_other t v (by rw [hv, K2.out]; show (5 : Int) ≠ 6; decide))
  clear G4 hX K2 K4 hv
  rcases HA.out with ⟨hx, hy, h1, h2⟩ | ⟨hx, hy, h1, h2⟩ | ⟨hx, hy, h1, h2⟩
  all_goals
    have HX := Lib.hid (before_at hx)
    have HY := Lib.hid (before_at hy)
    clear hx hy
    refine wp_region_held_drew (S := fun w' => W.grownBy w' none) (by kernel_rfl) ?_ (fun hHeld => ?_)
    · exact grown_drew W none
    try simp only [Act.put, List.setIfInBounds_toArray, List.set_cons_zero, List.set_cons_succ]
    refine wpAnyH_take (i := 0) (oi := { dst := some 21, op := Op.load 24 (Operand.tmp 7), type := 24, pos := "law.go:106", after := #[], guard := none }) (v := ?_) rfl (by kernel_rfl) (by kernel_rfl) (by kernel_rfl) (fun _ _ _ h => h) (Or.inl ⟨by rfl, ?_⟩) (by assumption) ?_
    rotate_left 1
    · intro w hSw; obtain ⟨⟨z0, z1, z2, z3, z4, z5⟩, _⟩ := CT.out.grown hSw (by simp); obtain ⟨⟨y0, y1, y2, y3, y4, y5⟩, _⟩ := CU.out.grown hSw (by simp); first | (go_simp; done) | (go_simp; with_reducible rfl)
    try simp only [Act.put, List.setIfInBounds_toArray, List.set_cons_zero, List.set_cons_succ]
    refine wpAnyH_take (i := 1) (oi := { dst := some 22, op := Op.load 24 (Operand.tmp 8), type := 24, pos := "law.go:106", after := #[], guard := none }) (v := ?_) rfl (by kernel_rfl) (by kernel_rfl) (by kernel_rfl) (fun _ _ _ h => h) (Or.inl ⟨by rfl, ?_⟩) (by assumption) ?_
    rotate_left 1
    · intro w hSw; obtain ⟨⟨z0, z1, z2, z3, z4, z5⟩, _⟩ := CT.out.grown hSw (by simp); obtain ⟨⟨y0, y1, y2, y3, y4, y5⟩, _⟩ := CU.out.grown hSw (by simp); first | (go_simp; done) | (go_simp; with_reducible rfl)
    try simp only [Act.put, List.setIfInBounds_toArray, List.set_cons_zero, List.set_cons_succ]
    refine wpAnyH_take (i := 3) (oi := { dst := some 24, op := Op.load 24 (Operand.tmp 8), type := 24, pos := "law.go:106", after := #[], guard := none }) (v := ?_) rfl (by kernel_rfl) (by kernel_rfl) (by kernel_rfl) (fun _ _ _ h => h) (Or.inl ⟨by rfl, ?_⟩) (by assumption) ?_
    rotate_left 1
    · intro w hSw; obtain ⟨⟨z0, z1, z2, z3, z4, z5⟩, _⟩ := CT.out.grown hSw (by simp); obtain ⟨⟨y0, y1, y2, y3, y4, y5⟩, _⟩ := CU.out.grown hSw (by simp); first | (go_simp; done) | (go_simp; with_reducible rfl)
    try simp only [Act.put, List.setIfInBounds_toArray, List.set_cons_zero, List.set_cons_succ]
    refine wpAnyH_take (i := 4) (oi := { dst := some 25, op := Op.load 24 (Operand.tmp 7), type := 24, pos := "law.go:106", after := #[], guard := none }) (v := ?_) rfl (by kernel_rfl) (by kernel_rfl) (by kernel_rfl) (fun _ _ _ h => h) (Or.inl ⟨by rfl, ?_⟩) (by assumption) ?_
    rotate_left 1
    · intro w hSw; obtain ⟨⟨z0, z1, z2, z3, z4, z5⟩, _⟩ := CT.out.grown hSw (by simp); obtain ⟨⟨y0, y1, y2, y3, y4, y5⟩, _⟩ := CU.out.grown hSw (by simp); first | (go_simp; done) | (go_simp; with_reducible rfl)
    try simp only [Act.put, List.setIfInBounds_toArray, List.set_cons_zero, List.set_cons_succ]
    refine wpAnyH_ready (rs := [2]) (by kernel_rfl) (by simp) (AllReadyH.cons (o := { dst := some 23, op := Op.call { callee := Callee.value (Operand.func 15), args := #[Operand.tmp 21, Operand.tmp 22], argTypes := #[24, 24] }, type := 4, pos := "law.go:106", after := #[{ on := 0, ground := Ground.data }, { on := 1, ground := Ground.data }], guard := none }) rfl (fun K hK => ?_) AllReadyH.nil)
    go_simp
    refine (HX.out _ A2 B2 n2 c2 m2 d2).mono ?_
    rintro e wa ⟨rfl, ga⟩
    have GA : Hid (W.grownBy wa none) := grown_trans (grown_drew W none) ga
    clear ga
    try dsimp only
    refine hK.out _ _ ?_ (fun hHeld => ?_)
    · exact GA.out
    clear hK K
    try simp only [Act.put, List.setIfInBounds_toArray, List.set_cons_zero, List.set_cons_succ]
    refine wpAnyH_ready (rs := [5]) (by kernel_rfl) (by simp) (AllReadyH.cons (o := { dst := some 26, op := Op.call { callee := Callee.value (Operand.func 15), args := #[Operand.tmp 24, Operand.tmp 25], argTypes := #[24, 24] }, type := 4, pos := "law.go:106", after := #[{ on := 3, ground := Ground.data }, { on := 4, ground := Ground.data }, { on := 2, ground := Ground.chain }], guard := none }) rfl (fun K hK => ?_) AllReadyH.nil)
    go_simp
    refine (HY.out _ B2 A2 m2 d2 n2 c2).mono ?_
    rintro e wb ⟨rfl, gb⟩
    have GB : Hid (W.grownBy wb none) := grown_trans GA.out gb
    clear gb GA
    try dsimp only
    refine hK.out _ _ ?_ (fun hHeld => ?_)
    · exact GB.out
    clear hK K
    try simp only [Act.put, List.setIfInBounds_toArray, List.set_cons_zero, List.set_cons_succ]
    refine wpAnyH_take (i := 6) (oi := { dst := some 9, op := Op.assign (Operand.tmp 23), type := 4, pos := "law.go:106", after := #[{ on := 2, ground := Ground.data }, { on := 5, ground := Ground.chain }, { on := 0, ground := Ground.phase }, { on := 1, ground := Ground.phase }, { on := 2, ground := Ground.phase }, { on := 3, ground := Ground.textOnly Departure.lateStores }, { on := 4, ground := Ground.textOnly Departure.lateStores }, { on := 5, ground := Ground.textOnly Departure.lateStoresUnsure }], guard := none }) (v := ?_) rfl (by kernel_rfl) (by kernel_rfl) (by kernel_rfl) (fun _ _ _ h => h) (Or.inl ⟨by rfl, ?_⟩) (by assumption) ?_
    rotate_left 1
    · intro w hSw; obtain ⟨⟨z0, z1, z2, z3, z4, z5⟩, _⟩ := CT.out.grown hSw (by simp); obtain ⟨⟨y0, y1, y2, y3, y4, y5⟩, _⟩ := CU.out.grown hSw (by simp); first | (go_simp; done) | (go_simp; with_reducible rfl)
    try simp only [Act.put, List.setIfInBounds_toArray, List.set_cons_zero, List.set_cons_succ]
    refine wpAnyH_take (i := 7) (oi := { dst := some 10, op := Op.assign (Operand.tmp 26), type := 4, pos := "law.go:106", after := #[{ on := 5, ground := Ground.data }, { on := 6, ground := Ground.chain }, { on := 0, ground := Ground.phase }, { on := 1, ground := Ground.phase }, { on := 2, ground := Ground.phase }, { on := 3, ground := Ground.phase }, { on := 4, ground := Ground.phase }, { on := 5, ground := Ground.phase }, { on := 6, ground := Ground.phase }], guard := none }) (v := ?_) rfl (by kernel_rfl) (by kernel_rfl) (by kernel_rfl) (fun _ _ _ h => h) (Or.inl ⟨by rfl, ?_⟩) (by assumption) ?_
    rotate_left 1
    · intro w hSw; obtain ⟨⟨z0, z1, z2, z3, z4, z5⟩, _⟩ := CT.out.grown hSw (by simp); obtain ⟨⟨y0, y1, y2, y3, y4, y5⟩, _⟩ := CU.out.grown hSw (by simp); first | (go_simp; done) | (go_simp; with_reducible rfl)
    try simp only [Act.put, List.setIfInBounds_toArray, List.set_cons_zero, List.set_cons_succ]
    refine wpAnyH_done (by kernel_rfl) ?_ _
    have CT := Lib.hid (CT.out.grown GB.out (by simp))
    have CU := Lib.hid (CU.out.grown GB.out (by simp))
    have GW := Lib.hid (grown_trans GW.out GB.out)
    clear GB HX HY
    obtain ⟨⟨z0, z1, z2, z3, z4, z5⟩, _⟩ := CT.out
    obtain ⟨⟨y0, y1, y2, y3, y4, y5⟩, _⟩ := CU.out
    go_wp2_with fail
    refine (before_at (before_self t) _ A2 A2 n2 c2 n2 c2).mono ?_
    rintro e wc ⟨rfl, gc⟩
    have GW := Lib.hid (grown_trans GW.out gc)
    clear gc CT CU z0 z1 z2 z3 z4 z5 y0 y1 y2 y3 y4 y5
    go_wp2_with fail
    refine (awake_any _ (HT.out _ GW.out)).mono ?_
    rintro e wd ⟨rfl, gd⟩
    have GF := Lib.hid (grown_below (grown_trans GW.out gd))
    clear gd
    go_wp2
    go_ret
    exact ⟨rfl, GF.out⟩

theorem order_any (A B : Option Addr) (n c m d : Nat) (l r : List Int) (b : Bool) (w : World) (ht : Tabled w) (hl : InRow w A n c l) (hr : InRow w B m d r) :
    Calls Tryd.prog 6 #[.slice A n c, .slice B m d, .bool b] w (TrueEnd w) := by
  cases b
  · exact order_false A B n c m d l r w ht hl hr
  · exact order_true A B n c m d l r w ht hl hr
end Go.Proofs.YtcjbhkocpfkcbaaDoor.Wr
