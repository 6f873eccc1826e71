/- The walk of TelegramAnswers. -/
import Derived.Test.YtcjbhkocpfkcbaaDoorBe
import Derived.Test.YtcjbhkocpfkcbaaDoorTv
import Derived.Deep.RegionHeld3
import Derived.Deep.DeepCutAuto
namespace Go.Proofs.YtcjbhkocpfkcbaaDoor.Wr
open Go.ChangeShapes Go.WideShapes Go.ChangeAt Go.RowKit

set_option maxRecDepth 100000 in
set_option maxHeartbeats 1000000 in
theorem answers_short (rw ot : Tm.Tg) (Ra Oa B A : Option Addr) (nr cr no co m d n c : Nat) (w : World) (ht : Tabled w) (hr : nr ≤ 9223372036854775807) (ho : no ≤ 9223372036854775807) (hm : m ≤ 9223372036854775807) (h : 60 < nr ∨ 60 < no ∨ 500 < m) :
    Calls Tryd.prog 3 #[tv rw (.slice Ra nr cr), tv ot (.slice Oa no co), .slice B m d, .slice A n c] w (TrueEnd w) := by
  have HT := Lib.hid (fun w' (g : w.grownBy w' none) => ht.grown g)
  obtain ⟨gw, ct, cu⟩ := two_made w rw ot (.slice Ra nr cr) (.slice Oa no co)
  have GW := Lib.hid gw
  obtain ⟨⟨z0, z1, z2, z3, z4, z5⟩, -⟩ := ct
  obtain ⟨⟨y0, y1, y2, y3, y4, y5⟩, -⟩ := cu
  clear ht gw z0 z1 z2 z3 z4 y0 y1 y2 y3 y4
  unfold tv tcells at *
  by_cases h1 : 60 < nr
  · clear h
    go_enter Tryd.func3, Tryd.ntmps3
    go_wp2_with fail
    refine (awake_any _ (HT.out _ GW.out)).mono ?_
    rintro e w1 ⟨rfl, g1⟩
    have GF := Lib.hid (grown_below (grown_trans GW.out g1))
    clear g1
    go_wp2
    go_ret
    exact ⟨rfl, GF.out⟩
  · by_cases h2 : 60 < no
    · clear h
      go_enter Tryd.func3, Tryd.ntmps3
      go_wp2_with fail
      refine (awake_any _ (HT.out _ GW.out)).mono ?_
      rintro e w1 ⟨rfl, g1⟩
      have GF := Lib.hid (grown_below (grown_trans GW.out g1))
      clear g1
      go_wp2
      go_ret
      exact ⟨rfl, GF.out⟩
    · have h3 : 500 < m := by omega
      clear h
      go_enter Tryd.func3, Tryd.ntmps3
      go_wp2_with fail
      refine (awake_any _ (HT.out _ GW.out)).mono ?_
      rintro e w1 ⟨rfl, g1⟩
      have GF := Lib.hid (grown_below (grown_trans GW.out g1))
      clear g1
      go_wp2
      go_ret
      exact ⟨rfl, GF.out⟩

set_option maxRecDepth 100000 in
set_option maxHeartbeats 8000000 in
theorem answers_long (rw ot : Tm.Tg) (Ra Oa B A : Option Addr) (nr cr no co m d n c : Nat) (l : List Int) (lb : List UInt8) (w : World) (ht : Tabled w) (hir : IR w Ra nr rw.vs) (hio : IR w Oa no ot.vs) (hb : InB w B m d lb) (hl : InRow w A n c l)
    (h1 : nr ≤ 60) (h2 : no ≤ 60) (h3 : m ≤ 500) : Calls Tryd.prog 3 #[tv rw (.slice Ra nr cr), tv ot (.slice Oa no co), .slice B m d, .slice A n c] w (TrueEnd w) := by
  have HT := Lib.hid (fun w' (g : w.grownBy w' none) => ht.grown g)
  obtain ⟨X, hX⟩ : ∃ X, w.heap.size = X := ⟨_, rfl⟩
  obtain ⟨gw, ct, cu⟩ := two_made w rw ot (.slice Ra nr cr) (.slice Oa no co)
  have G0 := Lib.hid gw
  have CR := Lib.hid ct
  have IRr := Lib.hid (hir.grown gw)
  have IRo := Lib.hid (hio.grown gw)
  have HL := Lib.hid (hl.grown gw)
  have HB := Lib.hid (hb.1.grown gw)
  obtain ⟨-, hb1, hb2⟩ := hb
  have CO := Lib.hid cu
  obtain ⟨⟨z0, z1, z2, z3, z4, z5⟩, -⟩ := ct
  obtain ⟨⟨y0, y1, y2, y3, y4, y5⟩, -⟩ := cu
  clear ht gw hir hio hl z0 z1 z2 z3 z4 y0 y1 y2 y3 y4
  rw [hX] at CR CO z5 y5
  unfold tcells at G0 CR CO IRr IRo HL HB z5 y5
  unfold tv
  have q1 : decide ((60 : Int) < (nr : Int)) = false := by simp; omega
  have q2 : decide ((60 : Int) < (no : Int)) = false := by simp; omega
  have q3 : decide ((500 : Int) < (m : Int)) = false := by simp; omega
  go_enter Tryd.func3, Tryd.ntmps3
  go_wp2_with fail
  clear z5 y5 q1 q2 q3
  generalize ((w.alloc (Obj.cells #[.int .i64 rw.st, .int .i64 rw.ep, .int .i64 rw.sq, .int .i64 rw.tm, .int .i64 rw.kd, .slice Ra nr cr] 24)).alloc (Obj.cells #[.int .i64 ot.st, .int .i64 ot.ep, .int .i64 ot.sq, .int .i64 ot.tm, .int .i64 ot.kd, .slice Oa no co] 24)) = W0 at *
  have HXR : Hid (w.heap.size = X) := hX
  clear hX
  refine (new_any _ _ _ _ W0 HL.out).mono ?_
  rintro e w1 ⟨rfl, g1, s1, hs1⟩
  obtain ⟨S, hS⟩ : ∃ S, W0.heap.size = S := ⟨_, rfl⟩
  rw [hS] at s1 hs1 ⊢
  have HSs := Lib.hid hS
  have S1 := Lib.hid s1
  have G1 := Lib.hid g1
  have BX : Hid (RBx w1 S B m lb) := by rw [← hS]; exact (HB.out.rbx).grown g1
  clear g1 s1 HL HB hS
  go_wp2_with fail
  refine (some_any S w1 S1.out).mono ?_
  rintro e w2 ⟨t, At, nt, ct, rfl, g2, s2, o2, l2⟩
  have hwS : w.heap.size ≤ S := by have := HSs.out; have := G0.out.size; omega
  have g02 : W0.grownBy w2 none := grown_off G1.out g2 (by have := HSs.out; omega)
  have hnt : nt ≤ 17 := by have := o2.len; omega
  have GA : w2.grownBy (w2.alloc (tcells t (.slice At nt ct))) none := World.grownBy_alloc _ _ _
  have CT := Lib.hid (Six.made w2 t (.slice At nt ct))
  have IRt := Lib.hid (o2.ir.grown GA)
  have IRr := Lib.hid (IRr.out.grown (grown_trans g02 GA))
  have IRo := Lib.hid (IRo.out.grown (grown_trans g02 GA))
  have CR := Lib.hid (CR.out.grown (grown_trans g02 GA) (by simp))
  have CO := Lib.hid (CO.out.grown (grown_trans g02 GA) (by simp))
  have SW := Lib.hid (s2.grown GA)
  have BX := Lib.hid ((BX.out.src g2).grown GA)
  have GW := Lib.hid (grown_trans G0.out (grown_trans g02 GA))
  clear G0 G1 S1 g2 s2 o2 l2 GA g02
  obtain ⟨Y, hY⟩ : ∃ Y, w2.heap.size = Y := ⟨_, rfl⟩
  rw [hY] at CT
  unfold tv
  obtain ⟨⟨z0, z1, z2, z3, z4, z5⟩, -⟩ := CR.out
  obtain ⟨⟨y0, y1, y2, y3, y4, y5⟩, -⟩ := CO.out
  unfold tcells at CT IRt IRr IRo CR CO SW BX GW z0 z1 z2 z3 z4 z5 y0 y1 y2 y3 y4 y5
  go_upto_region 5 with fail
  generalize (w2.alloc (Obj.cells #[.int .i64 t.st, .int .i64 t.ep, .int .i64 t.sq, .int .i64 t.tm, .int .i64 t.kd, .slice At nt ct] 24)) = W at *
  clear hY
  obtain ⟨⟨x0, x1, x2, x3, x4, x5⟩, -⟩ := CT.out
  go_wp2_with fail
  clear x0 x1 x2 x3 x4 x5 y0 y1 y2 y3 y4 y5 z0 z1 z2 z3 z4 z5
  obtain ⟨D, hD⟩ : ∃ D, W.heap.size = D := ⟨_, rfl⟩
  have GA : W.grownBy (W.alloc (c18 rw ot t (.slice Ra nr cr) (.slice Oa no co) (.slice At nt ct))) none := World.grownBy_alloc _ _ _
  have CD := Lib.hid (arr3_made W rw ot t (.slice Ra nr cr) (.slice Oa no co) (.slice At nt ct))
  have IRt := Lib.hid (IRt.out.grown GA)
  have IRr := Lib.hid (IRr.out.grown GA)
  have IRo := Lib.hid (IRo.out.grown GA)
  have CR := Lib.hid (CR.out.grown GA (by simp))
  have CT := Lib.hid (CT.out.grown GA (by simp))
  have SW := Lib.hid (SW.out.grown GA)
  have BX := Lib.hid (BX.out.grown GA)
  have GW := Lib.hid (grown_trans GW.out GA)
  clear GA
  rw [hD] at CD ⊢
  unfold c18 at CD IRt IRr IRo CR CT SW BX GW
  generalize (W.alloc (Obj.cells #[.int .i64 rw.st, .int .i64 rw.ep, .int .i64 rw.sq, .int .i64 rw.tm, .int .i64 rw.kd, .slice Ra nr cr, .int .i64 ot.st, .int .i64 ot.ep, .int .i64 ot.sq, .int .i64 ot.tm, .int .i64 ot.kd, .slice Oa no co, .int .i64 t.st, .int .i64 t.ep, .int .i64 t.sq, .int .i64 t.tm, .int .i64 t.kd, .slice At nt ct] 24)) = W3 at *
  clear hD
  go_loopw [54] (fun s54 wr => ∃ i : Int, s54 = .int .i64 i ∧ 0 ≤ i ∧ i ≤ 3 ∧ Hid (W3.grownBy wr none)) (fun s54 _ => (3 - intOf s54).toNat)
  case atStart => exact ⟨0, rfl, by omega, by omega, grown_refl _ _⟩
  case round =>
    obtain ⟨i, rfl, hi0, hi3, GR⟩ := hrel
    have hD3 : Hid (D < wr.heap.size) := Nat.lt_of_lt_of_le (World.block_lt_of_cell? _ _ CD.out.1.1) GR.out.size
    rcases (show i = 0 ∨ i = 1 ∨ i = 2 ∨ i = 3 by omega) with rfl | rfl | rfl | rfl
    · skip
      obtain ⟨d0, d1, d2, d3, d4, d5⟩ := CD.out.1
      have d0 := GR.out.cell d0 (by simp)
      have d1 := GR.out.cell d1 (by simp)
      have d2 := GR.out.cell d2 (by simp)
      have d3 := GR.out.cell d3 (by simp)
      have d4 := GR.out.cell d4 (by simp)
      have d5 := GR.out.cell d5 (by simp)
      go_wp2_with fail
      clear d0 d1 d2 d3 d4 d5
      have GA : wr.grownBy (wr.alloc (tcells rw (.slice Ra nr cr))) none := World.grownBy_alloc _ _ _
      have GX := grown_trans GR.out GA
      have CX := Lib.hid (Six.made wr rw (.slice Ra nr cr))
      have IX := Lib.hid (IRr.out.grown GX)
      have CR6 := Lib.hid (CR.out.grown GX (by simp))
      have CT6 := Lib.hid (CT.out.grown GX (by simp))
      have GW6 := Lib.hid (grown_trans GW.out GX)
      have GX := Lib.hid GX
      obtain ⟨H, hH⟩ : ∃ H, wr.heap.size = H := ⟨_, rfl⟩
      rw [hH] at CX ⊢
      unfold tcells at CX IX CR6 CT6 GW6 GX
      generalize (wr.alloc (Obj.cells #[.int .i64 rw.st, .int .i64 rw.ep, .int .i64 rw.sq, .int .i64 rw.tm, .int .i64 rw.kd, .slice Ra nr cr] 24)) = w4 at *
      clear GA hH
      obtain ⟨lx, hlx⟩ : ∃ lx, encR rw = lx := ⟨_, rfl⟩
      have HE := Lib.hid hlx
      clear hlx
      refine (enc_at HE.out IX.out (by omega) (HT.out _ GW6.out)).mono ?_
      rintro e w5 ⟨Ax, nx, cx, rfl, hm5⟩
      have g5 := hm5.gr
      have RX := Lib.hid hm5.rb
      have IX := Lib.hid (IX.out.grown g5)
      have CX := Lib.hid (CX.out.grown g5 (by simp))
      have CR6 := Lib.hid (CR6.out.grown g5 (by simp))
      have CT6 := Lib.hid (CT6.out.grown g5 (by simp))
      have GW6 := Lib.hid (grown_trans GW6.out g5)
      have GX := Lib.hid (grown_trans GX.out g5)
      clear hm5 g5
      obtain ⟨⟨z0, z1, z2, z3, z4, z5⟩, -⟩ := CX.out
      go_wp2_with fail
      clear z0 z1 z2 z3 z4 z5
      refine (renc_at HE.out IX.out (by omega)).mono ?_
      rintro e w6 ⟨Ay, ny, cy, rfl, hm6⟩
      have g6 := hm6.gr
      have RX := Lib.hid (RX.out.grown g6)
      have RY := Lib.hid hm6.rb
      have IX := Lib.hid (IX.out.grown g6)
      have CX := Lib.hid (CX.out.grown g6 (by simp))
      have CR6 := Lib.hid (CR6.out.grown g6 (by simp))
      have CT6 := Lib.hid (CT6.out.grown g6 (by simp))
      have GW6 := Lib.hid (grown_trans GW6.out g6)
      have GX := Lib.hid (grown_trans GX.out g6)
      clear hm6 g6
      obtain ⟨lx1, lx2⟩ := lx
      try dsimp only at RX RY
      try dsimp only
      obtain ⟨vb, hv⟩ : ∃ b, rw.ok = b := ⟨_, rfl⟩
      obtain ⟨b1, hb1'⟩ : ∃ b, Tm.before rw t = b := ⟨_, rfl⟩
      obtain ⟨b2, hb2'⟩ : ∃ b, Tm.before rw rw = b := ⟨_, rfl⟩
      have HV := Lib.hid hv
      have HB1 := Lib.hid hb1'
      have HB2 := Lib.hid hb2'
      clear hv hb1' hb2'
      go_wp2_with fail
      refine wp_region_held_drew (S := fun w' => w6.grownBy w' none) (by kernel_rfl) ?_ (fun hHeld => ?_)
      · exact grown_drew w6 none
      try simp only [Act.put, List.setIfInBounds_toArray, List.set_cons_zero, List.set_cons_succ]
      refine wpAnyH_take (i := 0) (oi := { dst := some 68, op := Op.load 24 (Operand.tmp 12), type := 24, pos := "law.go:52", after := #[], guard := none }) (v := ?_) rfl (by kernel_rfl) (by kernel_rfl) (by kernel_rfl) (fun _ _ _ h => h) (Or.inl ⟨by rfl, ?_⟩) (by assumption) ?_
      rotate_left 1
      · intro w hSw; obtain ⟨⟨z0, z1, z2, z3, z4, z5⟩, -⟩ := CX.out.grown hSw (by simp); obtain ⟨⟨y0, y1, y2, y3, y4, y5⟩, -⟩ := CT6.out.grown hSw (by simp); obtain ⟨⟨x0, x1, x2, x3, x4, x5⟩, -⟩ := CR6.out.grown hSw (by simp); have cx0 := conv_str _ Ax nx cx _ (RX.out.grown hSw); have cy0 := conv_str _ Ay ny cy _ (RY.out.grown hSw); first | (go_simp; done) | (go_simp; with_reducible rfl)
      try simp only [Act.put, List.setIfInBounds_toArray, List.set_cons_zero, List.set_cons_succ]
      refine wpAnyH_take (i := 2) (oi := { dst := some 70, op := Op.load 24 (Operand.tmp 12), type := 24, pos := "law.go:52", after := #[], guard := none }) (v := ?_) rfl (by kernel_rfl) (by kernel_rfl) (by kernel_rfl) (fun _ _ _ h => h) (Or.inl ⟨by rfl, ?_⟩) (by assumption) ?_
      rotate_left 1
      · intro w hSw; obtain ⟨⟨z0, z1, z2, z3, z4, z5⟩, -⟩ := CX.out.grown hSw (by simp); obtain ⟨⟨y0, y1, y2, y3, y4, y5⟩, -⟩ := CT6.out.grown hSw (by simp); obtain ⟨⟨x0, x1, x2, x3, x4, x5⟩, -⟩ := CR6.out.grown hSw (by simp); have cx0 := conv_str _ Ax nx cx _ (RX.out.grown hSw); have cy0 := conv_str _ Ay ny cy _ (RY.out.grown hSw); first | (go_simp; done) | (go_simp; with_reducible rfl)
      try simp only [Act.put, List.setIfInBounds_toArray, List.set_cons_zero, List.set_cons_succ]
      refine wpAnyH_ready (rs := [1]) (by kernel_rfl) (by simp) (AllReadyH.cons (o := { dst := some 69, op := Op.call { callee := Callee.value (Operand.func 13), args := #[Operand.tmp 68], argTypes := #[24] }, type := 4, pos := "law.go:52", after := #[{ on := 0, ground := Ground.data }], guard := none }) rfl (fun K hK => ?_) AllReadyH.nil)
      go_simp
      refine (valid_at (t := rw) (IX.out.grown (grown_drew w6 none)) (by omega) HV.out).mono ?_
      rintro e wa ⟨rfl, ga⟩
      have Ga : Hid (w6.grownBy wa none) := grown_trans (grown_drew w6 none) ga
      clear ga
      try dsimp only
      refine hK.out _ _ ?_ (fun hHeld => ?_)
      · exact Ga.out
      clear hK K
      try simp only [Act.put, List.setIfInBounds_toArray, List.set_cons_zero, List.set_cons_succ]
      refine wpAnyH_ready (rs := [3]) (by kernel_rfl) (by simp) (AllReadyH.cons (o := { dst := some 71, op := Op.call { callee := Callee.value (Operand.func 14), args := #[Operand.tmp 70], argTypes := #[24] }, type := 4, pos := "law.go:52", after := #[{ on := 2, ground := Ground.data }, { on := 1, ground := Ground.chain }], guard := none }) rfl (fun K hK => ?_) AllReadyH.nil)
      go_simp
      refine (rvalid_at (t := rw) (IX.out.grown Ga.out) (by omega) HV.out).mono ?_
      rintro e wb ⟨rfl, gb⟩
      have Gb : Hid (w6.grownBy wb none) := grown_trans (Ga.out) gb
      clear gb
      try dsimp only
      refine hK.out _ _ ?_ (fun hHeld => ?_)
      · exact Gb.out
      clear hK K
      try simp only [Act.put, List.setIfInBounds_toArray, List.set_cons_zero, List.set_cons_succ]
      refine wpAnyH_take (i := 4) (oi := { dst := some 72, op := Op.binOp BinOp.neq 4 (Operand.tmp 69) (Operand.tmp 71) 4, type := 4, pos := "law.go:52", after := #[{ on := 1, ground := Ground.data }, { on := 3, ground := Ground.data }], guard := none }) (v := ?_) rfl (by kernel_rfl) (by kernel_rfl) (by kernel_rfl) (fun _ _ _ h => h) (Or.inl ⟨by rfl, ?_⟩) (by assumption) ?_
      rotate_left 1
      · intro w hSw; obtain ⟨⟨z0, z1, z2, z3, z4, z5⟩, -⟩ := CX.out.grown hSw (by simp); obtain ⟨⟨y0, y1, y2, y3, y4, y5⟩, -⟩ := CT6.out.grown hSw (by simp); obtain ⟨⟨x0, x1, x2, x3, x4, x5⟩, -⟩ := CR6.out.grown hSw (by simp); have cx0 := conv_str _ Ax nx cx _ (RX.out.grown hSw); have cy0 := conv_str _ Ay ny cy _ (RY.out.grown hSw); first | (go_simp; done) | (go_simp; with_reducible rfl)
      try simp only [Act.put, List.setIfInBounds_toArray, List.set_cons_zero, List.set_cons_succ]
      refine wpAnyH_take (i := 5) (oi := { dst := some 73, op := Op.move (Operand.tmp 72), type := 4, pos := "law.go:52", after := #[{ on := 4, ground := Ground.data }, { on := 3, ground := Ground.chain }], guard := none }) (v := ?_) rfl (by kernel_rfl) (by kernel_rfl) (by kernel_rfl) (fun _ _ _ h => h) (Or.inl ⟨by rfl, ?_⟩) (by assumption) ?_
      rotate_left 1
      · intro w hSw; obtain ⟨⟨z0, z1, z2, z3, z4, z5⟩, -⟩ := CX.out.grown hSw (by simp); obtain ⟨⟨y0, y1, y2, y3, y4, y5⟩, -⟩ := CT6.out.grown hSw (by simp); obtain ⟨⟨x0, x1, x2, x3, x4, x5⟩, -⟩ := CR6.out.grown hSw (by simp); have cx0 := conv_str _ Ax nx cx _ (RX.out.grown hSw); have cy0 := conv_str _ Ay ny cy _ (RY.out.grown hSw); first | (go_simp; done) | (go_simp; with_reducible rfl)
      try simp only [Act.put, List.setIfInBounds_toArray, List.set_cons_zero, List.set_cons_succ]
      refine wpAnyH_take (i := 6) (oi := { dst := some 74, op := Op.move (Operand.tmp 13), type := 25, pos := "law.go:52", after := #[{ on := 5, ground := Ground.guard }], guard := some (5, false) }) (v := ?_) rfl (by kernel_rfl) (by kernel_rfl) (by kernel_rfl) (fun _ _ _ h => h) (Or.inl ⟨by rfl, ?_⟩) (by assumption) ?_
      rotate_left 1
      · intro w hSw; obtain ⟨⟨z0, z1, z2, z3, z4, z5⟩, -⟩ := CX.out.grown hSw (by simp); obtain ⟨⟨y0, y1, y2, y3, y4, y5⟩, -⟩ := CT6.out.grown hSw (by simp); obtain ⟨⟨x0, x1, x2, x3, x4, x5⟩, -⟩ := CR6.out.grown hSw (by simp); have cx0 := conv_str _ Ax nx cx _ (RX.out.grown hSw); have cy0 := conv_str _ Ay ny cy _ (RY.out.grown hSw); first | (go_simp; done) | (go_simp; with_reducible rfl)
      try simp only [Act.put, List.setIfInBounds_toArray, List.set_cons_zero, List.set_cons_succ]
      refine wpAnyH_take (i := 7) (oi := { dst := some 75, op := Op.convert 25 9 (Operand.tmp 74), type := 9, pos := "law.go:52", after := #[{ on := 6, ground := Ground.data }, { on := 5, ground := Ground.guard }], guard := some (5, false) }) (v := ?_) rfl (by kernel_rfl) (by kernel_rfl) (by kernel_rfl) (fun _ _ _ h => h) (Or.inl ⟨by rfl, ?_⟩) (by assumption) ?_
      rotate_left 1
      · intro w hSw; obtain ⟨⟨z0, z1, z2, z3, z4, z5⟩, -⟩ := CX.out.grown hSw (by simp); obtain ⟨⟨y0, y1, y2, y3, y4, y5⟩, -⟩ := CT6.out.grown hSw (by simp); obtain ⟨⟨x0, x1, x2, x3, x4, x5⟩, -⟩ := CR6.out.grown hSw (by simp); have cx0 := conv_str _ Ax nx cx _ (RX.out.grown hSw); have cy0 := conv_str _ Ay ny cy _ (RY.out.grown hSw); first | (go_simp; done) | (go_simp; with_reducible rfl)
      try simp only [Act.put, List.setIfInBounds_toArray, List.set_cons_zero, List.set_cons_succ]
      refine wpAnyH_take (i := 8) (oi := { dst := some 76, op := Op.move (Operand.tmp 15), type := 25, pos := "law.go:52", after := #[{ on := 5, ground := Ground.guard }], guard := some (5, false) }) (v := ?_) rfl (by kernel_rfl) (by kernel_rfl) (by kernel_rfl) (fun _ _ _ h => h) (Or.inl ⟨by rfl, ?_⟩) (by assumption) ?_
      rotate_left 1
      · intro w hSw; obtain ⟨⟨z0, z1, z2, z3, z4, z5⟩, -⟩ := CX.out.grown hSw (by simp); obtain ⟨⟨y0, y1, y2, y3, y4, y5⟩, -⟩ := CT6.out.grown hSw (by simp); obtain ⟨⟨x0, x1, x2, x3, x4, x5⟩, -⟩ := CR6.out.grown hSw (by simp); have cx0 := conv_str _ Ax nx cx _ (RX.out.grown hSw); have cy0 := conv_str _ Ay ny cy _ (RY.out.grown hSw); first | (go_simp; done) | (go_simp; with_reducible rfl)
      try simp only [Act.put, List.setIfInBounds_toArray, List.set_cons_zero, List.set_cons_succ]
      refine wpAnyH_take (i := 9) (oi := { dst := some 77, op := Op.convert 25 9 (Operand.tmp 76), type := 9, pos := "law.go:52", after := #[{ on := 8, ground := Ground.data }, { on := 5, ground := Ground.guard }], guard := some (5, false) }) (v := ?_) rfl (by kernel_rfl) (by kernel_rfl) (by kernel_rfl) (fun _ _ _ h => h) (Or.inl ⟨by rfl, ?_⟩) (by assumption) ?_
      rotate_left 1
      · intro w hSw; obtain ⟨⟨z0, z1, z2, z3, z4, z5⟩, -⟩ := CX.out.grown hSw (by simp); obtain ⟨⟨y0, y1, y2, y3, y4, y5⟩, -⟩ := CT6.out.grown hSw (by simp); obtain ⟨⟨x0, x1, x2, x3, x4, x5⟩, -⟩ := CR6.out.grown hSw (by simp); have cx0 := conv_str _ Ax nx cx _ (RX.out.grown hSw); have cy0 := conv_str _ Ay ny cy _ (RY.out.grown hSw); first | (go_simp; done) | (go_simp; with_reducible rfl)
      try simp only [Act.put, List.setIfInBounds_toArray, List.set_cons_zero, List.set_cons_succ]
      refine wpAnyH_take (i := 10) (oi := { dst := some 78, op := Op.binOp BinOp.neq 9 (Operand.tmp 75) (Operand.tmp 77) 9, type := 4, pos := "law.go:52", after := #[{ on := 7, ground := Ground.data }, { on := 9, ground := Ground.data }, { on := 5, ground := Ground.guard }], guard := some (5, false) }) (v := ?_) rfl (by kernel_rfl) (by kernel_rfl) (by kernel_rfl) (fun _ _ _ h => h) (Or.inl ⟨by rfl, ?_⟩) (by assumption) ?_
      rotate_left 1
      · intro w hSw; obtain ⟨⟨z0, z1, z2, z3, z4, z5⟩, -⟩ := CX.out.grown hSw (by simp); obtain ⟨⟨y0, y1, y2, y3, y4, y5⟩, -⟩ := CT6.out.grown hSw (by simp); obtain ⟨⟨x0, x1, x2, x3, x4, x5⟩, -⟩ := CR6.out.grown hSw (by simp); have cx0 := conv_str _ Ax nx cx _ (RX.out.grown hSw); have cy0 := conv_str _ Ay ny cy _ (RY.out.grown hSw); first | (go_simp; done) | (go_simp; with_reducible rfl)
      try simp only [Act.put, List.setIfInBounds_toArray, List.set_cons_zero, List.set_cons_succ]
      refine wpAnyH_take (i := 11) (oi := { dst := some 79, op := Op.pick (Operand.tmp 73) (Operand.const (Value.bool true)) (Operand.tmp 78), type := 4, pos := "law.go:52", after := #[{ on := 5, ground := Ground.data }, { on := 10, ground := Ground.data }], guard := none }) (v := ?_) rfl (by kernel_rfl) (by kernel_rfl) (by kernel_rfl) (fun _ _ _ h => h) (Or.inl ⟨by rfl, ?_⟩) (by assumption) ?_
      rotate_left 1
      · intro w hSw; obtain ⟨⟨z0, z1, z2, z3, z4, z5⟩, -⟩ := CX.out.grown hSw (by simp); obtain ⟨⟨y0, y1, y2, y3, y4, y5⟩, -⟩ := CT6.out.grown hSw (by simp); obtain ⟨⟨x0, x1, x2, x3, x4, x5⟩, -⟩ := CR6.out.grown hSw (by simp); have cx0 := conv_str _ Ax nx cx _ (RX.out.grown hSw); have cy0 := conv_str _ Ay ny cy _ (RY.out.grown hSw); first | (go_simp; done) | (go_simp; with_reducible rfl)
      try simp only [Act.put, List.setIfInBounds_toArray, List.set_cons_zero, List.set_cons_succ]
      refine wpAnyH_take (i := 12) (oi := { dst := some 80, op := Op.move (Operand.tmp 79), type := 4, pos := "law.go:52", after := #[{ on := 11, ground := Ground.data }, { on := 5, ground := Ground.chain }], guard := none }) (v := ?_) rfl (by kernel_rfl) (by kernel_rfl) (by kernel_rfl) (fun _ _ _ h => h) (Or.inl ⟨by rfl, ?_⟩) (by assumption) ?_
      rotate_left 1
      · intro w hSw; obtain ⟨⟨z0, z1, z2, z3, z4, z5⟩, -⟩ := CX.out.grown hSw (by simp); obtain ⟨⟨y0, y1, y2, y3, y4, y5⟩, -⟩ := CT6.out.grown hSw (by simp); obtain ⟨⟨x0, x1, x2, x3, x4, x5⟩, -⟩ := CR6.out.grown hSw (by simp); have cx0 := conv_str _ Ax nx cx _ (RX.out.grown hSw); have cy0 := conv_str _ Ay ny cy _ (RY.out.grown hSw); first | (go_simp; done) | (go_simp; with_reducible rfl)
      try simp only [Act.put, List.setIfInBounds_toArray, List.set_cons_zero, List.set_cons_succ]
      refine wpAnyH_take (i := 13) (oi := { dst := some 81, op := Op.move (Operand.tmp 14), type := 31, pos := "law.go:52", after := #[{ on := 12, ground := Ground.guard }], guard := some (12, false) }) (v := ?_) rfl (by kernel_rfl) (by kernel_rfl) (by kernel_rfl) (fun _ _ _ h => h) (Or.inl ⟨by rfl, ?_⟩) (by assumption) ?_
      rotate_left 1
      · intro w hSw; obtain ⟨⟨z0, z1, z2, z3, z4, z5⟩, -⟩ := CX.out.grown hSw (by simp); obtain ⟨⟨y0, y1, y2, y3, y4, y5⟩, -⟩ := CT6.out.grown hSw (by simp); obtain ⟨⟨x0, x1, x2, x3, x4, x5⟩, -⟩ := CR6.out.grown hSw (by simp); have cx0 := conv_str _ Ax nx cx _ (RX.out.grown hSw); have cy0 := conv_str _ Ay ny cy _ (RY.out.grown hSw); first | (go_simp; done) | (go_simp; with_reducible rfl)
      try simp only [Act.put, List.setIfInBounds_toArray, List.set_cons_zero, List.set_cons_succ]
      refine wpAnyH_take (i := 14) (oi := { dst := some 82, op := Op.move (Operand.tmp 16), type := 31, pos := "law.go:52", after := #[{ on := 12, ground := Ground.guard }], guard := some (12, false) }) (v := ?_) rfl (by kernel_rfl) (by kernel_rfl) (by kernel_rfl) (fun _ _ _ h => h) (Or.inl ⟨by rfl, ?_⟩) (by assumption) ?_
      rotate_left 1
      · intro w hSw; obtain ⟨⟨z0, z1, z2, z3, z4, z5⟩, -⟩ := CX.out.grown hSw (by simp); obtain ⟨⟨y0, y1, y2, y3, y4, y5⟩, -⟩ := CT6.out.grown hSw (by simp); obtain ⟨⟨x0, x1, x2, x3, x4, x5⟩, -⟩ := CR6.out.grown hSw (by simp); have cx0 := conv_str _ Ax nx cx _ (RX.out.grown hSw); have cy0 := conv_str _ Ay ny cy _ (RY.out.grown hSw); first | (go_simp; done) | (go_simp; with_reducible rfl)
      try simp only [Act.put, List.setIfInBounds_toArray, List.set_cons_zero, List.set_cons_succ]
      refine wpAnyH_take (i := 15) (oi := { dst := some 83, op := Op.binOp BinOp.neq 31 (Operand.tmp 81) (Operand.tmp 82) 31, type := 4, pos := "law.go:52", after := #[{ on := 13, ground := Ground.data }, { on := 14, ground := Ground.data }, { on := 12, ground := Ground.guard }], guard := some (12, false) }) (v := ?_) rfl (by kernel_rfl) (by kernel_rfl) (by kernel_rfl) (fun _ _ _ h => h) (Or.inl ⟨by rfl, ?_⟩) (by assumption) ?_
      rotate_left 1
      · intro w hSw; obtain ⟨⟨z0, z1, z2, z3, z4, z5⟩, -⟩ := CX.out.grown hSw (by simp); obtain ⟨⟨y0, y1, y2, y3, y4, y5⟩, -⟩ := CT6.out.grown hSw (by simp); obtain ⟨⟨x0, x1, x2, x3, x4, x5⟩, -⟩ := CR6.out.grown hSw (by simp); have cx0 := conv_str _ Ax nx cx _ (RX.out.grown hSw); have cy0 := conv_str _ Ay ny cy _ (RY.out.grown hSw); first | (go_simp; done) | (go_simp; with_reducible rfl)
      try simp only [Act.put, List.setIfInBounds_toArray, List.set_cons_zero, List.set_cons_succ]
      refine wpAnyH_take (i := 16) (oi := { dst := some 84, op := Op.pick (Operand.tmp 80) (Operand.const (Value.bool true)) (Operand.tmp 83), type := 4, pos := "law.go:52", after := #[{ on := 12, ground := Ground.data }, { on := 15, ground := Ground.data }], guard := none }) (v := ?_) rfl (by kernel_rfl) (by kernel_rfl) (by kernel_rfl) (fun _ _ _ h => h) (Or.inl ⟨by rfl, ?_⟩) (by assumption) ?_
      rotate_left 1
      · intro w hSw; obtain ⟨⟨z0, z1, z2, z3, z4, z5⟩, -⟩ := CX.out.grown hSw (by simp); obtain ⟨⟨y0, y1, y2, y3, y4, y5⟩, -⟩ := CT6.out.grown hSw (by simp); obtain ⟨⟨x0, x1, x2, x3, x4, x5⟩, -⟩ := CR6.out.grown hSw (by simp); have cx0 := conv_str _ Ax nx cx _ (RX.out.grown hSw); have cy0 := conv_str _ Ay ny cy _ (RY.out.grown hSw); first | (go_simp; done) | (go_simp; with_reducible rfl)
      try simp only [Act.put, List.setIfInBounds_toArray, List.set_cons_zero, List.set_cons_succ]
      refine wpAnyH_take (i := 17) (oi := { dst := some 85, op := Op.move (Operand.tmp 84), type := 4, pos := "law.go:52", after := #[{ on := 16, ground := Ground.data }, { on := 12, ground := Ground.chain }], guard := none }) (v := ?_) rfl (by kernel_rfl) (by kernel_rfl) (by kernel_rfl) (fun _ _ _ h => h) (Or.inl ⟨by rfl, ?_⟩) (by assumption) ?_
      rotate_left 1
      · intro w hSw; obtain ⟨⟨z0, z1, z2, z3, z4, z5⟩, -⟩ := CX.out.grown hSw (by simp); obtain ⟨⟨y0, y1, y2, y3, y4, y5⟩, -⟩ := CT6.out.grown hSw (by simp); obtain ⟨⟨x0, x1, x2, x3, x4, x5⟩, -⟩ := CR6.out.grown hSw (by simp); have cx0 := conv_str _ Ax nx cx _ (RX.out.grown hSw); have cy0 := conv_str _ Ay ny cy _ (RY.out.grown hSw); first | (go_simp; done) | (go_simp; with_reducible rfl)
      try simp only [Act.put, List.setIfInBounds_toArray, List.set_cons_zero, List.set_cons_succ]
      refine wpAnyH_take (i := 18) (oi := { dst := some 86, op := Op.load 24 (Operand.tmp 12), type := 24, pos := "law.go:52", after := #[{ on := 17, ground := Ground.guard }], guard := some (17, false) }) (v := ?_) rfl (by kernel_rfl) (by kernel_rfl) (by kernel_rfl) (fun _ _ _ h => h) (Or.inl ⟨by rfl, ?_⟩) (by assumption) ?_
      rotate_left 1
      · intro w hSw; obtain ⟨⟨z0, z1, z2, z3, z4, z5⟩, -⟩ := CX.out.grown hSw (by simp); obtain ⟨⟨y0, y1, y2, y3, y4, y5⟩, -⟩ := CT6.out.grown hSw (by simp); obtain ⟨⟨x0, x1, x2, x3, x4, x5⟩, -⟩ := CR6.out.grown hSw (by simp); have cx0 := conv_str _ Ax nx cx _ (RX.out.grown hSw); have cy0 := conv_str _ Ay ny cy _ (RY.out.grown hSw); first | (go_simp; done) | (go_simp; with_reducible rfl)
      try simp only [Act.put, List.setIfInBounds_toArray, List.set_cons_zero, List.set_cons_succ]
      refine wpAnyH_take (i := 19) (oi := { dst := some 87, op := Op.load 24 (Operand.tmp 10), type := 24, pos := "law.go:52", after := #[{ on := 17, ground := Ground.guard }], guard := some (17, false) }) (v := ?_) rfl (by kernel_rfl) (by kernel_rfl) (by kernel_rfl) (fun _ _ _ h => h) (Or.inl ⟨by rfl, ?_⟩) (by assumption) ?_
      rotate_left 1
      · intro w hSw; obtain ⟨⟨z0, z1, z2, z3, z4, z5⟩, -⟩ := CX.out.grown hSw (by simp); obtain ⟨⟨y0, y1, y2, y3, y4, y5⟩, -⟩ := CT6.out.grown hSw (by simp); obtain ⟨⟨x0, x1, x2, x3, x4, x5⟩, -⟩ := CR6.out.grown hSw (by simp); have cx0 := conv_str _ Ax nx cx _ (RX.out.grown hSw); have cy0 := conv_str _ Ay ny cy _ (RY.out.grown hSw); first | (go_simp; done) | (go_simp; with_reducible rfl)
      try simp only [Act.put, List.setIfInBounds_toArray, List.set_cons_zero, List.set_cons_succ]
      refine wpAnyH_take (i := 21) (oi := { dst := some 89, op := Op.load 24 (Operand.tmp 12), type := 24, pos := "law.go:52", after := #[{ on := 17, ground := Ground.guard }], guard := some (17, false) }) (v := ?_) rfl (by kernel_rfl) (by kernel_rfl) (by kernel_rfl) (fun _ _ _ h => h) (Or.inl ⟨by rfl, ?_⟩) (by assumption) ?_
      rotate_left 1
      · intro w hSw; obtain ⟨⟨z0, z1, z2, z3, z4, z5⟩, -⟩ := CX.out.grown hSw (by simp); obtain ⟨⟨y0, y1, y2, y3, y4, y5⟩, -⟩ := CT6.out.grown hSw (by simp); obtain ⟨⟨x0, x1, x2, x3, x4, x5⟩, -⟩ := CR6.out.grown hSw (by simp); have cx0 := conv_str _ Ax nx cx _ (RX.out.grown hSw); have cy0 := conv_str _ Ay ny cy _ (RY.out.grown hSw); first | (go_simp; done) | (go_simp; with_reducible rfl)
      try simp only [Act.put, List.setIfInBounds_toArray, List.set_cons_zero, List.set_cons_succ]
      refine wpAnyH_take (i := 22) (oi := { dst := some 90, op := Op.load 24 (Operand.tmp 10), type := 24, pos := "law.go:52", after := #[{ on := 17, ground := Ground.guard }], guard := some (17, false) }) (v := ?_) rfl (by kernel_rfl) (by kernel_rfl) (by kernel_rfl) (fun _ _ _ h => h) (Or.inl ⟨by rfl, ?_⟩) (by assumption) ?_
      rotate_left 1
      · intro w hSw; obtain ⟨⟨z0, z1, z2, z3, z4, z5⟩, -⟩ := CX.out.grown hSw (by simp); obtain ⟨⟨y0, y1, y2, y3, y4, y5⟩, -⟩ := CT6.out.grown hSw (by simp); obtain ⟨⟨x0, x1, x2, x3, x4, x5⟩, -⟩ := CR6.out.grown hSw (by simp); have cx0 := conv_str _ Ax nx cx _ (RX.out.grown hSw); have cy0 := conv_str _ Ay ny cy _ (RY.out.grown hSw); first | (go_simp; done) | (go_simp; with_reducible rfl)
      try simp only [Act.put, List.setIfInBounds_toArray, List.set_cons_zero, List.set_cons_succ]
      refine wpAnyH_ready (rs := [20]) (by kernel_rfl) (by simp) (AllReadyH.cons (o := { dst := some 88, op := Op.call { callee := Callee.value (Operand.func 15), args := #[Operand.tmp 86, Operand.tmp 87], argTypes := #[24, 24] }, type := 4, pos := "law.go:52", after := #[{ on := 18, ground := Ground.data }, { on := 19, ground := Ground.data }, { on := 17, ground := Ground.chain }, { on := 17, ground := Ground.guard }], guard := some (17, false) }) rfl (fun K hK => ?_) AllReadyH.nil)
      go_simp
      refine (before_at HB1.out _ Ra At nr cr nt ct).mono ?_
      rintro e wc ⟨rfl, gc⟩
      have Gc : Hid (w6.grownBy wc none) := grown_trans (Gb.out) gc
      clear gc
      try dsimp only
      refine hK.out _ _ ?_ (fun hHeld => ?_)
      · exact Gc.out
      clear hK K
      try simp only [Act.put, List.setIfInBounds_toArray, List.set_cons_zero, List.set_cons_succ]
      refine wpAnyH_ready (rs := [23]) (by kernel_rfl) (by simp) (AllReadyH.cons (o := { dst := some 91, op := Op.call { callee := Callee.value (Operand.func 16), args := #[Operand.tmp 89, Operand.tmp 90], argTypes := #[24, 24] }, type := 4, pos := "law.go:52", after := #[{ on := 21, ground := Ground.data }, { on := 22, ground := Ground.data }, { on := 20, ground := Ground.chain }, { on := 17, ground := Ground.guard }], guard := some (17, false) }) rfl (fun K hK => ?_) AllReadyH.nil)
      go_simp
      refine (rbefore_at HB1.out _ Ra At nr cr nt ct).mono ?_
      rintro e wd ⟨rfl, gd⟩
      have Gd : Hid (w6.grownBy wd none) := grown_trans (Gc.out) gd
      clear gd
      try dsimp only
      refine hK.out _ _ ?_ (fun hHeld => ?_)
      · exact Gd.out
      clear hK K
      try simp only [Act.put, List.setIfInBounds_toArray, List.set_cons_zero, List.set_cons_succ]
      refine wpAnyH_take (i := 24) (oi := { dst := some 92, op := Op.binOp BinOp.neq 4 (Operand.tmp 88) (Operand.tmp 91) 4, type := 4, pos := "law.go:52", after := #[{ on := 20, ground := Ground.data }, { on := 23, ground := Ground.data }, { on := 17, ground := Ground.guard }], guard := some (17, false) }) (v := ?_) rfl (by kernel_rfl) (by kernel_rfl) (by kernel_rfl) (fun _ _ _ h => h) (Or.inl ⟨by rfl, ?_⟩) (by assumption) ?_
      rotate_left 1
      · intro w hSw; obtain ⟨⟨z0, z1, z2, z3, z4, z5⟩, -⟩ := CX.out.grown hSw (by simp); obtain ⟨⟨y0, y1, y2, y3, y4, y5⟩, -⟩ := CT6.out.grown hSw (by simp); obtain ⟨⟨x0, x1, x2, x3, x4, x5⟩, -⟩ := CR6.out.grown hSw (by simp); have cx0 := conv_str _ Ax nx cx _ (RX.out.grown hSw); have cy0 := conv_str _ Ay ny cy _ (RY.out.grown hSw); first | (go_simp; done) | (go_simp; with_reducible rfl)
      try simp only [Act.put, List.setIfInBounds_toArray, List.set_cons_zero, List.set_cons_succ]
      refine wpAnyH_take (i := 25) (oi := { dst := some 93, op := Op.pick (Operand.tmp 85) (Operand.const (Value.bool true)) (Operand.tmp 92), type := 4, pos := "law.go:52", after := #[{ on := 17, ground := Ground.data }, { on := 24, ground := Ground.data }], guard := none }) (v := ?_) rfl (by kernel_rfl) (by kernel_rfl) (by kernel_rfl) (fun _ _ _ h => h) (Or.inl ⟨by rfl, ?_⟩) (by assumption) ?_
      rotate_left 1
      · intro w hSw; obtain ⟨⟨z0, z1, z2, z3, z4, z5⟩, -⟩ := CX.out.grown hSw (by simp); obtain ⟨⟨y0, y1, y2, y3, y4, y5⟩, -⟩ := CT6.out.grown hSw (by simp); obtain ⟨⟨x0, x1, x2, x3, x4, x5⟩, -⟩ := CR6.out.grown hSw (by simp); have cx0 := conv_str _ Ax nx cx _ (RX.out.grown hSw); have cy0 := conv_str _ Ay ny cy _ (RY.out.grown hSw); first | (go_simp; done) | (go_simp; with_reducible rfl)
      try simp only [Act.put, List.setIfInBounds_toArray, List.set_cons_zero, List.set_cons_succ]
      refine wpAnyH_take (i := 26) (oi := { dst := some 94, op := Op.move (Operand.tmp 93), type := 4, pos := "law.go:52", after := #[{ on := 25, ground := Ground.data }, { on := 23, ground := Ground.chain }], guard := none }) (v := ?_) rfl (by kernel_rfl) (by kernel_rfl) (by kernel_rfl) (fun _ _ _ h => h) (Or.inl ⟨by rfl, ?_⟩) (by assumption) ?_
      rotate_left 1
      · intro w hSw; obtain ⟨⟨z0, z1, z2, z3, z4, z5⟩, -⟩ := CX.out.grown hSw (by simp); obtain ⟨⟨y0, y1, y2, y3, y4, y5⟩, -⟩ := CT6.out.grown hSw (by simp); obtain ⟨⟨x0, x1, x2, x3, x4, x5⟩, -⟩ := CR6.out.grown hSw (by simp); have cx0 := conv_str _ Ax nx cx _ (RX.out.grown hSw); have cy0 := conv_str _ Ay ny cy _ (RY.out.grown hSw); first | (go_simp; done) | (go_simp; with_reducible rfl)
      try simp only [Act.put, List.setIfInBounds_toArray, List.set_cons_zero, List.set_cons_succ]
      refine wpAnyH_take (i := 27) (oi := { dst := some 95, op := Op.load 24 (Operand.tmp 4), type := 24, pos := "law.go:52", after := #[{ on := 26, ground := Ground.guard }], guard := some (26, false) }) (v := ?_) rfl (by kernel_rfl) (by kernel_rfl) (by kernel_rfl) (fun _ _ _ h => h) (Or.inl ⟨by rfl, ?_⟩) (by assumption) ?_
      rotate_left 1
      · intro w hSw; obtain ⟨⟨z0, z1, z2, z3, z4, z5⟩, -⟩ := CX.out.grown hSw (by simp); obtain ⟨⟨y0, y1, y2, y3, y4, y5⟩, -⟩ := CT6.out.grown hSw (by simp); obtain ⟨⟨x0, x1, x2, x3, x4, x5⟩, -⟩ := CR6.out.grown hSw (by simp); have cx0 := conv_str _ Ax nx cx _ (RX.out.grown hSw); have cy0 := conv_str _ Ay ny cy _ (RY.out.grown hSw); first | (go_simp; done) | (go_simp; with_reducible rfl)
      try simp only [Act.put, List.setIfInBounds_toArray, List.set_cons_zero, List.set_cons_succ]
      refine wpAnyH_take (i := 28) (oi := { dst := some 96, op := Op.load 24 (Operand.tmp 12), type := 24, pos := "law.go:52", after := #[{ on := 26, ground := Ground.guard }], guard := some (26, false) }) (v := ?_) rfl (by kernel_rfl) (by kernel_rfl) (by kernel_rfl) (fun _ _ _ h => h) (Or.inl ⟨by rfl, ?_⟩) (by assumption) ?_
      rotate_left 1
      · intro w hSw; obtain ⟨⟨z0, z1, z2, z3, z4, z5⟩, -⟩ := CX.out.grown hSw (by simp); obtain ⟨⟨y0, y1, y2, y3, y4, y5⟩, -⟩ := CT6.out.grown hSw (by simp); obtain ⟨⟨x0, x1, x2, x3, x4, x5⟩, -⟩ := CR6.out.grown hSw (by simp); have cx0 := conv_str _ Ax nx cx _ (RX.out.grown hSw); have cy0 := conv_str _ Ay ny cy _ (RY.out.grown hSw); first | (go_simp; done) | (go_simp; with_reducible rfl)
      try simp only [Act.put, List.setIfInBounds_toArray, List.set_cons_zero, List.set_cons_succ]
      refine wpAnyH_take (i := 30) (oi := { dst := some 98, op := Op.load 24 (Operand.tmp 4), type := 24, pos := "law.go:52", after := #[{ on := 26, ground := Ground.guard }], guard := some (26, false) }) (v := ?_) rfl (by kernel_rfl) (by kernel_rfl) (by kernel_rfl) (fun _ _ _ h => h) (Or.inl ⟨by rfl, ?_⟩) (by assumption) ?_
      rotate_left 1
      · intro w hSw; obtain ⟨⟨z0, z1, z2, z3, z4, z5⟩, -⟩ := CX.out.grown hSw (by simp); obtain ⟨⟨y0, y1, y2, y3, y4, y5⟩, -⟩ := CT6.out.grown hSw (by simp); obtain ⟨⟨x0, x1, x2, x3, x4, x5⟩, -⟩ := CR6.out.grown hSw (by simp); have cx0 := conv_str _ Ax nx cx _ (RX.out.grown hSw); have cy0 := conv_str _ Ay ny cy _ (RY.out.grown hSw); first | (go_simp; done) | (go_simp; with_reducible rfl)
      try simp only [Act.put, List.setIfInBounds_toArray, List.set_cons_zero, List.set_cons_succ]
      refine wpAnyH_take (i := 31) (oi := { dst := some 99, op := Op.load 24 (Operand.tmp 12), type := 24, pos := "law.go:52", after := #[{ on := 26, ground := Ground.guard }], guard := some (26, false) }) (v := ?_) rfl (by kernel_rfl) (by kernel_rfl) (by kernel_rfl) (fun _ _ _ h => h) (Or.inl ⟨by rfl, ?_⟩) (by assumption) ?_
      rotate_left 1
      · intro w hSw; obtain ⟨⟨z0, z1, z2, z3, z4, z5⟩, -⟩ := CX.out.grown hSw (by simp); obtain ⟨⟨y0, y1, y2, y3, y4, y5⟩, -⟩ := CT6.out.grown hSw (by simp); obtain ⟨⟨x0, x1, x2, x3, x4, x5⟩, -⟩ := CR6.out.grown hSw (by simp); have cx0 := conv_str _ Ax nx cx _ (RX.out.grown hSw); have cy0 := conv_str _ Ay ny cy _ (RY.out.grown hSw); first | (go_simp; done) | (go_simp; with_reducible rfl)
      try simp only [Act.put, List.setIfInBounds_toArray, List.set_cons_zero, List.set_cons_succ]
      refine wpAnyH_ready (rs := [29]) (by kernel_rfl) (by simp) (AllReadyH.cons (o := { dst := some 97, op := Op.call { callee := Callee.value (Operand.func 15), args := #[Operand.tmp 95, Operand.tmp 96], argTypes := #[24, 24] }, type := 4, pos := "law.go:52", after := #[{ on := 27, ground := Ground.data }, { on := 28, ground := Ground.data }, { on := 26, ground := Ground.chain }, { on := 26, ground := Ground.guard }], guard := some (26, false) }) rfl (fun K hK => ?_) AllReadyH.nil)
      go_simp
      refine (before_at HB2.out _ Ra Ra nr cr nr cr).mono ?_
      rintro e wf ⟨rfl, gf⟩
      have Gf : Hid (w6.grownBy wf none) := grown_trans (Gd.out) gf
      clear gf
      try dsimp only
      refine hK.out _ _ ?_ (fun hHeld => ?_)
      · exact Gf.out
      clear hK K
      try simp only [Act.put, List.setIfInBounds_toArray, List.set_cons_zero, List.set_cons_succ]
      refine wpAnyH_ready (rs := [32]) (by kernel_rfl) (by simp) (AllReadyH.cons (o := { dst := some 100, op := Op.call { callee := Callee.value (Operand.func 16), args := #[Operand.tmp 98, Operand.tmp 99], argTypes := #[24, 24] }, type := 4, pos := "law.go:52", after := #[{ on := 30, ground := Ground.data }, { on := 31, ground := Ground.data }, { on := 29, ground := Ground.chain }, { on := 26, ground := Ground.guard }], guard := some (26, false) }) rfl (fun K hK => ?_) AllReadyH.nil)
      go_simp
      refine (rbefore_at HB2.out _ Ra Ra nr cr nr cr).mono ?_
      rintro e wh ⟨rfl, gh⟩
      have Gh : Hid (w6.grownBy wh none) := grown_trans (Gf.out) gh
      clear gh
      try dsimp only
      refine hK.out _ _ ?_ (fun hHeld => ?_)
      · exact Gh.out
      clear hK K
      try simp only [Act.put, List.setIfInBounds_toArray, List.set_cons_zero, List.set_cons_succ]
      refine wpAnyH_take (i := 33) (oi := { dst := some 101, op := Op.binOp BinOp.neq 4 (Operand.tmp 97) (Operand.tmp 100) 4, type := 4, pos := "law.go:52", after := #[{ on := 29, ground := Ground.data }, { on := 32, ground := Ground.data }, { on := 26, ground := Ground.guard }], guard := some (26, false) }) (v := ?_) rfl (by kernel_rfl) (by kernel_rfl) (by kernel_rfl) (fun _ _ _ h => h) (Or.inl ⟨by rfl, ?_⟩) (by assumption) ?_
      rotate_left 1
      · intro w hSw; obtain ⟨⟨z0, z1, z2, z3, z4, z5⟩, -⟩ := CX.out.grown hSw (by simp); obtain ⟨⟨y0, y1, y2, y3, y4, y5⟩, -⟩ := CT6.out.grown hSw (by simp); obtain ⟨⟨x0, x1, x2, x3, x4, x5⟩, -⟩ := CR6.out.grown hSw (by simp); have cx0 := conv_str _ Ax nx cx _ (RX.out.grown hSw); have cy0 := conv_str _ Ay ny cy _ (RY.out.grown hSw); first | (go_simp; done) | (go_simp; with_reducible rfl)
      try simp only [Act.put, List.setIfInBounds_toArray, List.set_cons_zero, List.set_cons_succ]
      refine wpAnyH_take (i := 34) (oi := { dst := some 102, op := Op.pick (Operand.tmp 94) (Operand.const (Value.bool true)) (Operand.tmp 101), type := 4, pos := "law.go:52", after := #[{ on := 26, ground := Ground.data }, { on := 33, ground := Ground.data }], guard := none }) (v := ?_) rfl (by kernel_rfl) (by kernel_rfl) (by kernel_rfl) (fun _ _ _ h => h) (Or.inl ⟨by rfl, ?_⟩) (by assumption) ?_
      rotate_left 1
      · intro w hSw; obtain ⟨⟨z0, z1, z2, z3, z4, z5⟩, -⟩ := CX.out.grown hSw (by simp); obtain ⟨⟨y0, y1, y2, y3, y4, y5⟩, -⟩ := CT6.out.grown hSw (by simp); obtain ⟨⟨x0, x1, x2, x3, x4, x5⟩, -⟩ := CR6.out.grown hSw (by simp); have cx0 := conv_str _ Ax nx cx _ (RX.out.grown hSw); have cy0 := conv_str _ Ay ny cy _ (RY.out.grown hSw); first | (go_simp; done) | (go_simp; with_reducible rfl)
      try simp only [Act.put, List.setIfInBounds_toArray, List.set_cons_zero, List.set_cons_succ]
      refine wpAnyH_done (by kernel_rfl) ?_ _
      have GZ := Lib.hid (grown_trans GX.out Gh.out)
      clear Ga Gb Gc Gd Gf Gh
      go_wp2
      go_roundw
      case rel => exact ⟨1, rfl, by omega, by omega, GZ⟩
      case measure => simp [intOf]
    · skip
      obtain ⟨d0, d1, d2, d3, d4, d5⟩ := CD.out.2.1
      have d0 := GR.out.cell d0 (by simp)
      have d1 := GR.out.cell d1 (by simp)
      have d2 := GR.out.cell d2 (by simp)
      have d3 := GR.out.cell d3 (by simp)
      have d4 := GR.out.cell d4 (by simp)
      have d5 := GR.out.cell d5 (by simp)
      go_wp2_with fail
      clear d0 d1 d2 d3 d4 d5
      have GA : wr.grownBy (wr.alloc (tcells ot (.slice Oa no co))) none := World.grownBy_alloc _ _ _
      have GX := grown_trans GR.out GA
      have CX := Lib.hid (Six.made wr ot (.slice Oa no co))
      have IX := Lib.hid (IRo.out.grown GX)
      have CR6 := Lib.hid (CR.out.grown GX (by simp))
      have CT6 := Lib.hid (CT.out.grown GX (by simp))
      have GW6 := Lib.hid (grown_trans GW.out GX)
      have GX := Lib.hid GX
      obtain ⟨H, hH⟩ : ∃ H, wr.heap.size = H := ⟨_, rfl⟩
      rw [hH] at CX ⊢
      unfold tcells at CX IX CR6 CT6 GW6 GX
      generalize (wr.alloc (Obj.cells #[.int .i64 ot.st, .int .i64 ot.ep, .int .i64 ot.sq, .int .i64 ot.tm, .int .i64 ot.kd, .slice Oa no co] 24)) = w4 at *
      clear GA hH
      obtain ⟨lx, hlx⟩ : ∃ lx, encR ot = lx := ⟨_, rfl⟩
      have HE := Lib.hid hlx
      clear hlx
      refine (enc_at HE.out IX.out (by omega) (HT.out _ GW6.out)).mono ?_
      rintro e w5 ⟨Ax, nx, cx, rfl, hm5⟩
      have g5 := hm5.gr
      have RX := Lib.hid hm5.rb
      have IX := Lib.hid (IX.out.grown g5)
      have CX := Lib.hid (CX.out.grown g5 (by simp))
      have CR6 := Lib.hid (CR6.out.grown g5 (by simp))
      have CT6 := Lib.hid (CT6.out.grown g5 (by simp))
      have GW6 := Lib.hid (grown_trans GW6.out g5)
      have GX := Lib.hid (grown_trans GX.out g5)
      clear hm5 g5
      obtain ⟨⟨z0, z1, z2, z3, z4, z5⟩, -⟩ := CX.out
      go_wp2_with fail
      clear z0 z1 z2 z3 z4 z5
      refine (renc_at HE.out IX.out (by omega)).mono ?_
      rintro e w6 ⟨Ay, ny, cy, rfl, hm6⟩
      have g6 := hm6.gr
      have RX := Lib.hid (RX.out.grown g6)
      have RY := Lib.hid hm6.rb
      have IX := Lib.hid (IX.out.grown g6)
      have CX := Lib.hid (CX.out.grown g6 (by simp))
      have CR6 := Lib.hid (CR6.out.grown g6 (by simp))
      have CT6 := Lib.hid (CT6.out.grown g6 (by simp))
      have GW6 := Lib.hid (grown_trans GW6.out g6)
      have GX := Lib.hid (grown_trans GX.out g6)
      clear hm6 g6
      obtain ⟨lx1, lx2⟩ := lx
      try dsimp only at RX RY
      try dsimp only
      obtain ⟨vb, hv⟩ : ∃ b, ot.ok = b := ⟨_, rfl⟩
      obtain ⟨b1, hb1'⟩ : ∃ b, Tm.before ot t = b := ⟨_, rfl⟩
      obtain ⟨b2, hb2'⟩ : ∃ b, Tm.before rw ot = b := ⟨_, rfl⟩
      have HV := Lib.hid hv
      have HB1 := Lib.hid hb1'
      have HB2 := Lib.hid hb2'
      clear hv hb1' hb2'
      go_wp2_with fail
      refine wp_region_held_drew (S := fun w' => w6.grownBy w' none) (by kernel_rfl) ?_ (fun hHeld => ?_)
      · exact grown_drew w6 none
      try simp only [Act.put, List.setIfInBounds_toArray, List.set_cons_zero, List.set_cons_succ]
      refine wpAnyH_take (i := 0) (oi := { dst := some 68, op := Op.load 24 (Operand.tmp 12), type := 24, pos := "law.go:52", after := #[], guard := none }) (v := ?_) rfl (by kernel_rfl) (by kernel_rfl) (by kernel_rfl) (fun _ _ _ h => h) (Or.inl ⟨by rfl, ?_⟩) (by assumption) ?_
      rotate_left 1
      · intro w hSw; obtain ⟨⟨z0, z1, z2, z3, z4, z5⟩, -⟩ := CX.out.grown hSw (by simp); obtain ⟨⟨y0, y1, y2, y3, y4, y5⟩, -⟩ := CT6.out.grown hSw (by simp); obtain ⟨⟨x0, x1, x2, x3, x4, x5⟩, -⟩ := CR6.out.grown hSw (by simp); have cx0 := conv_str _ Ax nx cx _ (RX.out.grown hSw); have cy0 := conv_str _ Ay ny cy _ (RY.out.grown hSw); first | (go_simp; done) | (go_simp; with_reducible rfl)
      try simp only [Act.put, List.setIfInBounds_toArray, List.set_cons_zero, List.set_cons_succ]
      refine wpAnyH_take (i := 2) (oi := { dst := some 70, op := Op.load 24 (Operand.tmp 12), type := 24, pos := "law.go:52", after := #[], guard := none }) (v := ?_) rfl (by kernel_rfl) (by kernel_rfl) (by kernel_rfl) (fun _ _ _ h => h) (Or.inl ⟨by rfl, ?_⟩) (by assumption) ?_
      rotate_left 1
      · intro w hSw; obtain ⟨⟨z0, z1, z2, z3, z4, z5⟩, -⟩ := CX.out.grown hSw (by simp); obtain ⟨⟨y0, y1, y2, y3, y4, y5⟩, -⟩ := CT6.out.grown hSw (by simp); obtain ⟨⟨x0, x1, x2, x3, x4, x5⟩, -⟩ := CR6.out.grown hSw (by simp); have cx0 := conv_str _ Ax nx cx _ (RX.out.grown hSw); have cy0 := conv_str _ Ay ny cy _ (RY.out.grown hSw); first | (go_simp; done) | (go_simp; with_reducible rfl)
      try simp only [Act.put, List.setIfInBounds_toArray, List.set_cons_zero, List.set_cons_succ]
      refine wpAnyH_ready (rs := [1]) (by kernel_rfl) (by simp) (AllReadyH.cons (o := { dst := some 69, op := Op.call { callee := Callee.value (Operand.func 13), args := #[Operand.tmp 68], argTypes := #[24] }, type := 4, pos := "law.go:52", after := #[{ on := 0, ground := Ground.data }], guard := none }) rfl (fun K hK => ?_) AllReadyH.nil)
      go_simp
      refine (valid_at (t := ot) (IX.out.grown (grown_drew w6 none)) (by omega) HV.out).mono ?_
      rintro e wa ⟨rfl, ga⟩
      have Ga : Hid (w6.grownBy wa none) := grown_trans (grown_drew w6 none) ga
      clear ga
      try dsimp only
      refine hK.out _ _ ?_ (fun hHeld => ?_)
      · exact Ga.out
      clear hK K
      try simp only [Act.put, List.setIfInBounds_toArray, List.set_cons_zero, List.set_cons_succ]
      refine wpAnyH_ready (rs := [3]) (by kernel_rfl) (by simp) (AllReadyH.cons (o := { dst := some 71, op := Op.call { callee := Callee.value (Operand.func 14), args := #[Operand.tmp 70], argTypes := #[24] }, type := 4, pos := "law.go:52", after := #[{ on := 2, ground := Ground.data }, { on := 1, ground := Ground.chain }], guard := none }) rfl (fun K hK => ?_) AllReadyH.nil)
      go_simp
      refine (rvalid_at (t := ot) (IX.out.grown Ga.out) (by omega) HV.out).mono ?_
      rintro e wb ⟨rfl, gb⟩
      have Gb : Hid (w6.grownBy wb none) := grown_trans (Ga.out) gb
      clear gb
      try dsimp only
      refine hK.out _ _ ?_ (fun hHeld => ?_)
      · exact Gb.out
      clear hK K
      try simp only [Act.put, List.setIfInBounds_toArray, List.set_cons_zero, List.set_cons_succ]
      refine wpAnyH_take (i := 4) (oi := { dst := some 72, op := Op.binOp BinOp.neq 4 (Operand.tmp 69) (Operand.tmp 71) 4, type := 4, pos := "law.go:52", after := #[{ on := 1, ground := Ground.data }, { on := 3, ground := Ground.data }], guard := none }) (v := ?_) rfl (by kernel_rfl) (by kernel_rfl) (by kernel_rfl) (fun _ _ _ h => h) (Or.inl ⟨by rfl, ?_⟩) (by assumption) ?_
      rotate_left 1
      · intro w hSw; obtain ⟨⟨z0, z1, z2, z3, z4, z5⟩, -⟩ := CX.out.grown hSw (by simp); obtain ⟨⟨y0, y1, y2, y3, y4, y5⟩, -⟩ := CT6.out.grown hSw (by simp); obtain ⟨⟨x0, x1, x2, x3, x4, x5⟩, -⟩ := CR6.out.grown hSw (by simp); have cx0 := conv_str _ Ax nx cx _ (RX.out.grown hSw); have cy0 := conv_str _ Ay ny cy _ (RY.out.grown hSw); first | (go_simp; done) | (go_simp; with_reducible rfl)
      try simp only [Act.put, List.setIfInBounds_toArray, List.set_cons_zero, List.set_cons_succ]
      refine wpAnyH_take (i := 5) (oi := { dst := some 73, op := Op.move (Operand.tmp 72), type := 4, pos := "law.go:52", after := #[{ on := 4, ground := Ground.data }, { on := 3, ground := Ground.chain }], guard := none }) (v := ?_) rfl (by kernel_rfl) (by kernel_rfl) (by kernel_rfl) (fun _ _ _ h => h) (Or.inl ⟨by rfl, ?_⟩) (by assumption) ?_
      rotate_left 1
      · intro w hSw; obtain ⟨⟨z0, z1, z2, z3, z4, z5⟩, -⟩ := CX.out.grown hSw (by simp); obtain ⟨⟨y0, y1, y2, y3, y4, y5⟩, -⟩ := CT6.out.grown hSw (by simp); obtain ⟨⟨x0, x1, x2, x3, x4, x5⟩, -⟩ := CR6.out.grown hSw (by simp); have cx0 := conv_str _ Ax nx cx _ (RX.out.grown hSw); have cy0 := conv_str _ Ay ny cy _ (RY.out.grown hSw); first | (go_simp; done) | (go_simp; with_reducible rfl)
      try simp only [Act.put, List.setIfInBounds_toArray, List.set_cons_zero, List.set_cons_succ]
      refine wpAnyH_take (i := 6) (oi := { dst := some 74, op := Op.move (Operand.tmp 13), type := 25, pos := "law.go:52", after := #[{ on := 5, ground := Ground.guard }], guard := some (5, false) }) (v := ?_) rfl (by kernel_rfl) (by kernel_rfl) (by kernel_rfl) (fun _ _ _ h => h) (Or.inl ⟨by rfl, ?_⟩) (by assumption) ?_
      rotate_left 1
      · intro w hSw; obtain ⟨⟨z0, z1, z2, z3, z4, z5⟩, -⟩ := CX.out.grown hSw (by simp); obtain ⟨⟨y0, y1, y2, y3, y4, y5⟩, -⟩ := CT6.out.grown hSw (by simp); obtain ⟨⟨x0, x1, x2, x3, x4, x5⟩, -⟩ := CR6.out.grown hSw (by simp); have cx0 := conv_str _ Ax nx cx _ (RX.out.grown hSw); have cy0 := conv_str _ Ay ny cy _ (RY.out.grown hSw); first | (go_simp; done) | (go_simp; with_reducible rfl)
      try simp only [Act.put, List.setIfInBounds_toArray, List.set_cons_zero, List.set_cons_succ]
      refine wpAnyH_take (i := 7) (oi := { dst := some 75, op := Op.convert 25 9 (Operand.tmp 74), type := 9, pos := "law.go:52", after := #[{ on := 6, ground := Ground.data }, { on := 5, ground := Ground.guard }], guard := some (5, false) }) (v := ?_) rfl (by kernel_rfl) (by kernel_rfl) (by kernel_rfl) (fun _ _ _ h => h) (Or.inl ⟨by rfl, ?_⟩) (by assumption) ?_
      rotate_left 1
      · intro w hSw; obtain ⟨⟨z0, z1, z2, z3, z4, z5⟩, -⟩ := CX.out.grown hSw (by simp); obtain ⟨⟨y0, y1, y2, y3, y4, y5⟩, -⟩ := CT6.out.grown hSw (by simp); obtain ⟨⟨x0, x1, x2, x3, x4, x5⟩, -⟩ := CR6.out.grown hSw (by simp); have cx0 := conv_str _ Ax nx cx _ (RX.out.grown hSw); have cy0 := conv_str _ Ay ny cy _ (RY.out.grown hSw); first | (go_simp; done) | (go_simp; with_reducible rfl)
      try simp only [Act.put, List.setIfInBounds_toArray, List.set_cons_zero, List.set_cons_succ]
      refine wpAnyH_take (i := 8) (oi := { dst := some 76, op := Op.move (Operand.tmp 15), type := 25, pos := "law.go:52", after := #[{ on := 5, ground := Ground.guard }], guard := some (5, false) }) (v := ?_) rfl (by kernel_rfl) (by kernel_rfl) (by kernel_rfl) (fun _ _ _ h => h) (Or.inl ⟨by rfl, ?_⟩) (by assumption) ?_
      rotate_left 1
      · intro w hSw; obtain ⟨⟨z0, z1, z2, z3, z4, z5⟩, -⟩ := CX.out.grown hSw (by simp); obtain ⟨⟨y0, y1, y2, y3, y4, y5⟩, -⟩ := CT6.out.grown hSw (by simp); obtain ⟨⟨x0, x1, x2, x3, x4, x5⟩, -⟩ := CR6.out.grown hSw (by simp); have cx0 := conv_str _ Ax nx cx _ (RX.out.grown hSw); have cy0 := conv_str _ Ay ny cy _ (RY.out.grown hSw); first | (go_simp; done) | (go_simp; with_reducible rfl)
      try simp only [Act.put, List.setIfInBounds_toArray, List.set_cons_zero, List.set_cons_succ]
      refine wpAnyH_take (i := 9) (oi := { dst := some 77, op := Op.convert 25 9 (Operand.tmp 76), type := 9, pos := "law.go:52", after := #[{ on := 8, ground := Ground.data }, { on := 5, ground := Ground.guard }], guard := some (5, false) }) (v := ?_) rfl (by kernel_rfl) (by kernel_rfl) (by kernel_rfl) (fun _ _ _ h => h) (Or.inl ⟨by rfl, ?_⟩) (by assumption) ?_
      rotate_left 1
      · intro w hSw; obtain ⟨⟨z0, z1, z2, z3, z4, z5⟩, -⟩ := CX.out.grown hSw (by simp); obtain ⟨⟨y0, y1, y2, y3, y4, y5⟩, -⟩ := CT6.out.grown hSw (by simp); obtain ⟨⟨x0, x1, x2, x3, x4, x5⟩, -⟩ := CR6.out.grown hSw (by simp); have cx0 := conv_str _ Ax nx cx _ (RX.out.grown hSw); have cy0 := conv_str _ Ay ny cy _ (RY.out.grown hSw); first | (go_simp; done) | (go_simp; with_reducible rfl)
      try simp only [Act.put, List.setIfInBounds_toArray, List.set_cons_zero, List.set_cons_succ]
      refine wpAnyH_take (i := 10) (oi := { dst := some 78, op := Op.binOp BinOp.neq 9 (Operand.tmp 75) (Operand.tmp 77) 9, type := 4, pos := "law.go:52", after := #[{ on := 7, ground := Ground.data }, { on := 9, ground := Ground.data }, { on := 5, ground := Ground.guard }], guard := some (5, false) }) (v := ?_) rfl (by kernel_rfl) (by kernel_rfl) (by kernel_rfl) (fun _ _ _ h => h) (Or.inl ⟨by rfl, ?_⟩) (by assumption) ?_
      rotate_left 1
      · intro w hSw; obtain ⟨⟨z0, z1, z2, z3, z4, z5⟩, -⟩ := CX.out.grown hSw (by simp); obtain ⟨⟨y0, y1, y2, y3, y4, y5⟩, -⟩ := CT6.out.grown hSw (by simp); obtain ⟨⟨x0, x1, x2, x3, x4, x5⟩, -⟩ := CR6.out.grown hSw (by simp); have cx0 := conv_str _ Ax nx cx _ (RX.out.grown hSw); have cy0 := conv_str _ Ay ny cy _ (RY.out.grown hSw); first | (go_simp; done) | (go_simp; with_reducible rfl)
      try simp only [Act.put, List.setIfInBounds_toArray, List.set_cons_zero, List.set_cons_succ]
      refine wpAnyH_take (i := 11) (oi := { dst := some 79, op := Op.pick (Operand.tmp 73) (Operand.const (Value.bool true)) (Operand.tmp 78), type := 4, pos := "law.go:52", after := #[{ on := 5, ground := Ground.data }, { on := 10, ground := Ground.data }], guard := none }) (v := ?_) rfl (by kernel_rfl) (by kernel_rfl) (by kernel_rfl) (fun _ _ _ h => h) (Or.inl ⟨by rfl, ?_⟩) (by assumption) ?_
      rotate_left 1
      · intro w hSw; obtain ⟨⟨z0, z1, z2, z3, z4, z5⟩, -⟩ := CX.out.grown hSw (by simp); obtain ⟨⟨y0, y1, y2, y3, y4, y5⟩, -⟩ := CT6.out.grown hSw (by simp); obtain ⟨⟨x0, x1, x2, x3, x4, x5⟩, -⟩ := CR6.out.grown hSw (by simp); have cx0 := conv_str _ Ax nx cx _ (RX.out.grown hSw); have cy0 := conv_str _ Ay ny cy _ (RY.out.grown hSw); first | (go_simp; done) | (go_simp; with_reducible rfl)
      try simp only [Act.put, List.setIfInBounds_toArray, List.set_cons_zero, List.set_cons_succ]
      refine wpAnyH_take (i := 12) (oi := { dst := some 80, op := Op.move (Operand.tmp 79), type := 4, pos := "law.go:52", after := #[{ on := 11, ground := Ground.data }, { on := 5, ground := Ground.chain }], guard := none }) (v := ?_) rfl (by kernel_rfl) (by kernel_rfl) (by kernel_rfl) (fun _ _ _ h => h) (Or.inl ⟨by rfl, ?_⟩) (by assumption) ?_
      rotate_left 1
      · intro w hSw; obtain ⟨⟨z0, z1, z2, z3, z4, z5⟩, -⟩ := CX.out.grown hSw (by simp); obtain ⟨⟨y0, y1, y2, y3, y4, y5⟩, -⟩ := CT6.out.grown hSw (by simp); obtain ⟨⟨x0, x1, x2, x3, x4, x5⟩, -⟩ := CR6.out.grown hSw (by simp); have cx0 := conv_str _ Ax nx cx _ (RX.out.grown hSw); have cy0 := conv_str _ Ay ny cy _ (RY.out.grown hSw); first | (go_simp; done) | (go_simp; with_reducible rfl)
      try simp only [Act.put, List.setIfInBounds_toArray, List.set_cons_zero, List.set_cons_succ]
      refine wpAnyH_take (i := 13) (oi := { dst := some 81, op := Op.move (Operand.tmp 14), type := 31, pos := "law.go:52", after := #[{ on := 12, ground := Ground.guard }], guard := some (12, false) }) (v := ?_) rfl (by kernel_rfl) (by kernel_rfl) (by kernel_rfl) (fun _ _ _ h => h) (Or.inl ⟨by rfl, ?_⟩) (by assumption) ?_
      rotate_left 1
      · intro w hSw; obtain ⟨⟨z0, z1, z2, z3, z4, z5⟩, -⟩ := CX.out.grown hSw (by simp); obtain ⟨⟨y0, y1, y2, y3, y4, y5⟩, -⟩ := CT6.out.grown hSw (by simp); obtain ⟨⟨x0, x1, x2, x3, x4, x5⟩, -⟩ := CR6.out.grown hSw (by simp); have cx0 := conv_str _ Ax nx cx _ (RX.out.grown hSw); have cy0 := conv_str _ Ay ny cy _ (RY.out.grown hSw); first | (go_simp; done) | (go_simp; with_reducible rfl)
      try simp only [Act.put, List.setIfInBounds_toArray, List.set_cons_zero, List.set_cons_succ]
      refine wpAnyH_take (i := 14) (oi := { dst := some 82, op := Op.move (Operand.tmp 16), type := 31, pos := "law.go:52", after := #[{ on := 12, ground := Ground.guard }], guard := some (12, false) }) (v := ?_) rfl (by kernel_rfl) (by kernel_rfl) (by kernel_rfl) (fun _ _ _ h => h) (Or.inl ⟨by rfl, ?_⟩) (by assumption) ?_
      rotate_left 1
      · intro w hSw; obtain ⟨⟨z0, z1, z2, z3, z4, z5⟩, -⟩ := CX.out.grown hSw (by simp); obtain ⟨⟨y0, y1, y2, y3, y4, y5⟩, -⟩ := CT6.out.grown hSw (by simp); obtain ⟨⟨x0, x1, x2, x3, x4, x5⟩, -⟩ := CR6.out.grown hSw (by simp); have cx0 := conv_str _ Ax nx cx _ (RX.out.grown hSw); have cy0 := conv_str _ Ay ny cy _ (RY.out.grown hSw); first | (go_simp; done) | (go_simp; with_reducible rfl)
      try simp only [Act.put, List.setIfInBounds_toArray, List.set_cons_zero, List.set_cons_succ]
      refine wpAnyH_take (i := 15) (oi := { dst := some 83, op := Op.binOp BinOp.neq 31 (Operand.tmp 81) (Operand.tmp 82) 31, type := 4, pos := "law.go:52", after := #[{ on := 13, ground := Ground.data }, { on := 14, ground := Ground.data }, { on := 12, ground := Ground.guard }], guard := some (12, false) }) (v := ?_) rfl (by kernel_rfl) (by kernel_rfl) (by kernel_rfl) (fun _ _ _ h => h) (Or.inl ⟨by rfl, ?_⟩) (by assumption) ?_
      rotate_left 1
      · intro w hSw; obtain ⟨⟨z0, z1, z2, z3, z4, z5⟩, -⟩ := CX.out.grown hSw (by simp); obtain ⟨⟨y0, y1, y2, y3, y4, y5⟩, -⟩ := CT6.out.grown hSw (by simp); obtain ⟨⟨x0, x1, x2, x3, x4, x5⟩, -⟩ := CR6.out.grown hSw (by simp); have cx0 := conv_str _ Ax nx cx _ (RX.out.grown hSw); have cy0 := conv_str _ Ay ny cy _ (RY.out.grown hSw); first | (go_simp; done) | (go_simp; with_reducible rfl)
      try simp only [Act.put, List.setIfInBounds_toArray, List.set_cons_zero, List.set_cons_succ]
      refine wpAnyH_take (i := 16) (oi := { dst := some 84, op := Op.pick (Operand.tmp 80) (Operand.const (Value.bool true)) (Operand.tmp 83), type := 4, pos := "law.go:52", after := #[{ on := 12, ground := Ground.data }, { on := 15, ground := Ground.data }], guard := none }) (v := ?_) rfl (by kernel_rfl) (by kernel_rfl) (by kernel_rfl) (fun _ _ _ h => h) (Or.inl ⟨by rfl, ?_⟩) (by assumption) ?_
      rotate_left 1
      · intro w hSw; obtain ⟨⟨z0, z1, z2, z3, z4, z5⟩, -⟩ := CX.out.grown hSw (by simp); obtain ⟨⟨y0, y1, y2, y3, y4, y5⟩, -⟩ := CT6.out.grown hSw (by simp); obtain ⟨⟨x0, x1, x2, x3, x4, x5⟩, -⟩ := CR6.out.grown hSw (by simp); have cx0 := conv_str _ Ax nx cx _ (RX.out.grown hSw); have cy0 := conv_str _ Ay ny cy _ (RY.out.grown hSw); first | (go_simp; done) | (go_simp; with_reducible rfl)
      try simp only [Act.put, List.setIfInBounds_toArray, List.set_cons_zero, List.set_cons_succ]
      refine wpAnyH_take (i := 17) (oi := { dst := some 85, op := Op.move (Operand.tmp 84), type := 4, pos := "law.go:52", after := #[{ on := 16, ground := Ground.data }, { on := 12, ground := Ground.chain }], guard := none }) (v := ?_) rfl (by kernel_rfl) (by kernel_rfl) (by kernel_rfl) (fun _ _ _ h => h) (Or.inl ⟨by rfl, ?_⟩) (by assumption) ?_
      rotate_left 1
      · intro w hSw; obtain ⟨⟨z0, z1, z2, z3, z4, z5⟩, -⟩ := CX.out.grown hSw (by simp); obtain ⟨⟨y0, y1, y2, y3, y4, y5⟩, -⟩ := CT6.out.grown hSw (by simp); obtain ⟨⟨x0, x1, x2, x3, x4, x5⟩, -⟩ := CR6.out.grown hSw (by simp); have cx0 := conv_str _ Ax nx cx _ (RX.out.grown hSw); have cy0 := conv_str _ Ay ny cy _ (RY.out.grown hSw); first | (go_simp; done) | (go_simp; with_reducible rfl)
      try simp only [Act.put, List.setIfInBounds_toArray, List.set_cons_zero, List.set_cons_succ]
      refine wpAnyH_take (i := 18) (oi := { dst := some 86, op := Op.load 24 (Operand.tmp 12), type := 24, pos := "law.go:52", after := #[{ on := 17, ground := Ground.guard }], guard := some (17, false) }) (v := ?_) rfl (by kernel_rfl) (by kernel_rfl) (by kernel_rfl) (fun _ _ _ h => h) (Or.inl ⟨by rfl, ?_⟩) (by assumption) ?_
      rotate_left 1
      · intro w hSw; obtain ⟨⟨z0, z1, z2, z3, z4, z5⟩, -⟩ := CX.out.grown hSw (by simp); obtain ⟨⟨y0, y1, y2, y3, y4, y5⟩, -⟩ := CT6.out.grown hSw (by simp); obtain ⟨⟨x0, x1, x2, x3, x4, x5⟩, -⟩ := CR6.out.grown hSw (by simp); have cx0 := conv_str _ Ax nx cx _ (RX.out.grown hSw); have cy0 := conv_str _ Ay ny cy _ (RY.out.grown hSw); first | (go_simp; done) | (go_simp; with_reducible rfl)
      try simp only [Act.put, List.setIfInBounds_toArray, List.set_cons_zero, List.set_cons_succ]
      refine wpAnyH_take (i := 19) (oi := { dst := some 87, op := Op.load 24 (Operand.tmp 10), type := 24, pos := "law.go:52", after := #[{ on := 17, ground := Ground.guard }], guard := some (17, false) }) (v := ?_) rfl (by kernel_rfl) (by kernel_rfl) (by kernel_rfl) (fun _ _ _ h => h) (Or.inl ⟨by rfl, ?_⟩) (by assumption) ?_
      rotate_left 1
      · intro w hSw; obtain ⟨⟨z0, z1, z2, z3, z4, z5⟩, -⟩ := CX.out.grown hSw (by simp); obtain ⟨⟨y0, y1, y2, y3, y4, y5⟩, -⟩ := CT6.out.grown hSw (by simp); obtain ⟨⟨x0, x1, x2, x3, x4, x5⟩, -⟩ := CR6.out.grown hSw (by simp); have cx0 := conv_str _ Ax nx cx _ (RX.out.grown hSw); have cy0 := conv_str _ Ay ny cy _ (RY.out.grown hSw); first | (go_simp; done) | (go_simp; with_reducible rfl)
      try simp only [Act.put, List.setIfInBounds_toArray, List.set_cons_zero, List.set_cons_succ]
      refine wpAnyH_take (i := 21) (oi := { dst := some 89, op := Op.load 24 (Operand.tmp 12), type := 24, pos := "law.go:52", after := #[{ on := 17, ground := Ground.guard }], guard := some (17, false) }) (v := ?_) rfl (by kernel_rfl) (by kernel_rfl) (by kernel_rfl) (fun _ _ _ h => h) (Or.inl ⟨by rfl, ?_⟩) (by assumption) ?_
      rotate_left 1
      · intro w hSw; obtain ⟨⟨z0, z1, z2, z3, z4, z5⟩, -⟩ := CX.out.grown hSw (by simp); obtain ⟨⟨y0, y1, y2, y3, y4, y5⟩, -⟩ := CT6.out.grown hSw (by simp); obtain ⟨⟨x0, x1, x2, x3, x4, x5⟩, -⟩ := CR6.out.grown hSw (by simp); have cx0 := conv_str _ Ax nx cx _ (RX.out.grown hSw); have cy0 := conv_str _ Ay ny cy _ (RY.out.grown hSw); first | (go_simp; done) | (go_simp; with_reducible rfl)
      try simp only [Act.put, List.setIfInBounds_toArray, List.set_cons_zero, List.set_cons_succ]
      refine wpAnyH_take (i := 22) (oi := { dst := some 90, op := Op.load 24 (Operand.tmp 10), type := 24, pos := "law.go:52", after := #[{ on := 17, ground := Ground.guard }], guard := some (17, false) }) (v := ?_) rfl (by kernel_rfl) (by kernel_rfl) (by kernel_rfl) (fun _ _ _ h => h) (Or.inl ⟨by rfl, ?_⟩) (by assumption) ?_
      rotate_left 1
      · intro w hSw; obtain ⟨⟨z0, z1, z2, z3, z4, z5⟩, -⟩ := CX.out.grown hSw (by simp); obtain ⟨⟨y0, y1, y2, y3, y4, y5⟩, -⟩ := CT6.out.grown hSw (by simp); obtain ⟨⟨x0, x1, x2, x3, x4, x5⟩, -⟩ := CR6.out.grown hSw (by simp); have cx0 := conv_str _ Ax nx cx _ (RX.out.grown hSw); have cy0 := conv_str _ Ay ny cy _ (RY.out.grown hSw); first | (go_simp; done) | (go_simp; with_reducible rfl)
      try simp only [Act.put, List.setIfInBounds_toArray, List.set_cons_zero, List.set_cons_succ]
      refine wpAnyH_ready (rs := [20]) (by kernel_rfl) (by simp) (AllReadyH.cons (o := { dst := some 88, op := Op.call { callee := Callee.value (Operand.func 15), args := #[Operand.tmp 86, Operand.tmp 87], argTypes := #[24, 24] }, type := 4, pos := "law.go:52", after := #[{ on := 18, ground := Ground.data }, { on := 19, ground := Ground.data }, { on := 17, ground := Ground.chain }, { on := 17, ground := Ground.guard }], guard := some (17, false) }) rfl (fun K hK => ?_) AllReadyH.nil)
      go_simp
      refine (before_at HB1.out _ Oa At no co nt ct).mono ?_
      rintro e wc ⟨rfl, gc⟩
      have Gc : Hid (w6.grownBy wc none) := grown_trans (Gb.out) gc
      clear gc
      try dsimp only
      refine hK.out _ _ ?_ (fun hHeld => ?_)
      · exact Gc.out
      clear hK K
      try simp only [Act.put, List.setIfInBounds_toArray, List.set_cons_zero, List.set_cons_succ]
      refine wpAnyH_ready (rs := [23]) (by kernel_rfl) (by simp) (AllReadyH.cons (o := { dst := some 91, op := Op.call { callee := Callee.value (Operand.func 16), args := #[Operand.tmp 89, Operand.tmp 90], argTypes := #[24, 24] }, type := 4, pos := "law.go:52", after := #[{ on := 21, ground := Ground.data }, { on := 22, ground := Ground.data }, { on := 20, ground := Ground.chain }, { on := 17, ground := Ground.guard }], guard := some (17, false) }) rfl (fun K hK => ?_) AllReadyH.nil)
      go_simp
      refine (rbefore_at HB1.out _ Oa At no co nt ct).mono ?_
      rintro e wd ⟨rfl, gd⟩
      have Gd : Hid (w6.grownBy wd none) := grown_trans (Gc.out) gd
      clear gd
      try dsimp only
      refine hK.out _ _ ?_ (fun hHeld => ?_)
      · exact Gd.out
      clear hK K
      try simp only [Act.put, List.setIfInBounds_toArray, List.set_cons_zero, List.set_cons_succ]
      refine wpAnyH_take (i := 24) (oi := { dst := some 92, op := Op.binOp BinOp.neq 4 (Operand.tmp 88) (Operand.tmp 91) 4, type := 4, pos := "law.go:52", after := #[{ on := 20, ground := Ground.data }, { on := 23, ground := Ground.data }, { on := 17, ground := Ground.guard }], guard := some (17, false) }) (v := ?_) rfl (by kernel_rfl) (by kernel_rfl) (by kernel_rfl) (fun _ _ _ h => h) (Or.inl ⟨by rfl, ?_⟩) (by assumption) ?_
      rotate_left 1
      · intro w hSw; obtain ⟨⟨z0, z1, z2, z3, z4, z5⟩, -⟩ := CX.out.grown hSw (by simp); obtain ⟨⟨y0, y1, y2, y3, y4, y5⟩, -⟩ := CT6.out.grown hSw (by simp); obtain ⟨⟨x0, x1, x2, x3, x4, x5⟩, -⟩ := CR6.out.grown hSw (by simp); have cx0 := conv_str _ Ax nx cx _ (RX.out.grown hSw); have cy0 := conv_str _ Ay ny cy _ (RY.out.grown hSw); first | (go_simp; done) | (go_simp; with_reducible rfl)
      try simp only [Act.put, List.setIfInBounds_toArray, List.set_cons_zero, List.set_cons_succ]
      refine wpAnyH_take (i := 25) (oi := { dst := some 93, op := Op.pick (Operand.tmp 85) (Operand.const (Value.bool true)) (Operand.tmp 92), type := 4, pos := "law.go:52", after := #[{ on := 17, ground := Ground.data }, { on := 24, ground := Ground.data }], guard := none }) (v := ?_) rfl (by kernel_rfl) (by kernel_rfl) (by kernel_rfl) (fun _ _ _ h => h) (Or.inl ⟨by rfl, ?_⟩) (by assumption) ?_
      rotate_left 1
      · intro w hSw; obtain ⟨⟨z0, z1, z2, z3, z4, z5⟩, -⟩ := CX.out.grown hSw (by simp); obtain ⟨⟨y0, y1, y2, y3, y4, y5⟩, -⟩ := CT6.out.grown hSw (by simp); obtain ⟨⟨x0, x1, x2, x3, x4, x5⟩, -⟩ := CR6.out.grown hSw (by simp); have cx0 := conv_str _ Ax nx cx _ (RX.out.grown hSw); have cy0 := conv_str _ Ay ny cy _ (RY.out.grown hSw); first | (go_simp; done) | (go_simp; with_reducible rfl)
      try simp only [Act.put, List.setIfInBounds_toArray, List.set_cons_zero, List.set_cons_succ]
      refine wpAnyH_take (i := 26) (oi := { dst := some 94, op := Op.move (Operand.tmp 93), type := 4, pos := "law.go:52", after := #[{ on := 25, ground := Ground.data }, { on := 23, ground := Ground.chain }], guard := none }) (v := ?_) rfl (by kernel_rfl) (by kernel_rfl) (by kernel_rfl) (fun _ _ _ h => h) (Or.inl ⟨by rfl, ?_⟩) (by assumption) ?_
      rotate_left 1
      · intro w hSw; obtain ⟨⟨z0, z1, z2, z3, z4, z5⟩, -⟩ := CX.out.grown hSw (by simp); obtain ⟨⟨y0, y1, y2, y3, y4, y5⟩, -⟩ := CT6.out.grown hSw (by simp); obtain ⟨⟨x0, x1, x2, x3, x4, x5⟩, -⟩ := CR6.out.grown hSw (by simp); have cx0 := conv_str _ Ax nx cx _ (RX.out.grown hSw); have cy0 := conv_str _ Ay ny cy _ (RY.out.grown hSw); first | (go_simp; done) | (go_simp; with_reducible rfl)
      try simp only [Act.put, List.setIfInBounds_toArray, List.set_cons_zero, List.set_cons_succ]
      refine wpAnyH_take (i := 27) (oi := { dst := some 95, op := Op.load 24 (Operand.tmp 4), type := 24, pos := "law.go:52", after := #[{ on := 26, ground := Ground.guard }], guard := some (26, false) }) (v := ?_) rfl (by kernel_rfl) (by kernel_rfl) (by kernel_rfl) (fun _ _ _ h => h) (Or.inl ⟨by rfl, ?_⟩) (by assumption) ?_
      rotate_left 1
      · intro w hSw; obtain ⟨⟨z0, z1, z2, z3, z4, z5⟩, -⟩ := CX.out.grown hSw (by simp); obtain ⟨⟨y0, y1, y2, y3, y4, y5⟩, -⟩ := CT6.out.grown hSw (by simp); obtain ⟨⟨x0, x1, x2, x3, x4, x5⟩, -⟩ := CR6.out.grown hSw (by simp); have cx0 := conv_str _ Ax nx cx _ (RX.out.grown hSw); have cy0 := conv_str _ Ay ny cy _ (RY.out.grown hSw); first | (go_simp; done) | (go_simp; with_reducible rfl)
      try simp only [Act.put, List.setIfInBounds_toArray, List.set_cons_zero, List.set_cons_succ]
      refine wpAnyH_take (i := 28) (oi := { dst := some 96, op := Op.load 24 (Operand.tmp 12), type := 24, pos := "law.go:52", after := #[{ on := 26, ground := Ground.guard }], guard := some (26, false) }) (v := ?_) rfl (by kernel_rfl) (by kernel_rfl) (by kernel_rfl) (fun _ _ _ h => h) (Or.inl ⟨by rfl, ?_⟩) (by assumption) ?_
      rotate_left 1
      · intro w hSw; obtain ⟨⟨z0, z1, z2, z3, z4, z5⟩, -⟩ := CX.out.grown hSw (by simp); obtain ⟨⟨y0, y1, y2, y3, y4, y5⟩, -⟩ := CT6.out.grown hSw (by simp); obtain ⟨⟨x0, x1, x2, x3, x4, x5⟩, -⟩ := CR6.out.grown hSw (by simp); have cx0 := conv_str _ Ax nx cx _ (RX.out.grown hSw); have cy0 := conv_str _ Ay ny cy _ (RY.out.grown hSw); first | (go_simp; done) | (go_simp; with_reducible rfl)
      try simp only [Act.put, List.setIfInBounds_toArray, List.set_cons_zero, List.set_cons_succ]
      refine wpAnyH_take (i := 30) (oi := { dst := some 98, op := Op.load 24 (Operand.tmp 4), type := 24, pos := "law.go:52", after := #[{ on := 26, ground := Ground.guard }], guard := some (26, false) }) (v := ?_) rfl (by kernel_rfl) (by kernel_rfl) (by kernel_rfl) (fun _ _ _ h => h) (Or.inl ⟨by rfl, ?_⟩) (by assumption) ?_
      rotate_left 1
      · intro w hSw; obtain ⟨⟨z0, z1, z2, z3, z4, z5⟩, -⟩ := CX.out.grown hSw (by simp); obtain ⟨⟨y0, y1, y2, y3, y4, y5⟩, -⟩ := CT6.out.grown hSw (by simp); obtain ⟨⟨x0, x1, x2, x3, x4, x5⟩, -⟩ := CR6.out.grown hSw (by simp); have cx0 := conv_str _ Ax nx cx _ (RX.out.grown hSw); have cy0 := conv_str _ Ay ny cy _ (RY.out.grown hSw); first | (go_simp; done) | (go_simp; with_reducible rfl)
      try simp only [Act.put, List.setIfInBounds_toArray, List.set_cons_zero, List.set_cons_succ]
      refine wpAnyH_take (i := 31) (oi := { dst := some 99, op := Op.load 24 (Operand.tmp 12), type := 24, pos := "law.go:52", after := #[{ on := 26, ground := Ground.guard }], guard := some (26, false) }) (v := ?_) rfl (by kernel_rfl) (by kernel_rfl) (by kernel_rfl) (fun _ _ _ h => h) (Or.inl ⟨by rfl, ?_⟩) (by assumption) ?_
      rotate_left 1
      · intro w hSw; obtain ⟨⟨z0, z1, z2, z3, z4, z5⟩, -⟩ := CX.out.grown hSw (by simp); obtain ⟨⟨y0, y1, y2, y3, y4, y5⟩, -⟩ := CT6.out.grown hSw (by simp); obtain ⟨⟨x0, x1, x2, x3, x4, x5⟩, -⟩ := CR6.out.grown hSw (by simp); have cx0 := conv_str _ Ax nx cx _ (RX.out.grown hSw); have cy0 := conv_str _ Ay ny cy _ (RY.out.grown hSw); first | (go_simp; done) | (go_simp; with_reducible rfl)
      try simp only [Act.put, List.setIfInBounds_toArray, List.set_cons_zero, List.set_cons_succ]
      refine wpAnyH_ready (rs := [29]) (by kernel_rfl) (by simp) (AllReadyH.cons (o := { dst := some 97, op := Op.call { callee := Callee.value (Operand.func 15), args := #[Operand.tmp 95, Operand.tmp 96], argTypes := #[24, 24] }, type := 4, pos := "law.go:52", after := #[{ on := 27, ground := Ground.data }, { on := 28, ground := Ground.data }, { on := 26, ground := Ground.chain }, { on := 26, ground := Ground.guard }], guard := some (26, false) }) rfl (fun K hK => ?_) AllReadyH.nil)
      go_simp
      refine (before_at HB2.out _ Ra Oa nr cr no co).mono ?_
      rintro e wf ⟨rfl, gf⟩
      have Gf : Hid (w6.grownBy wf none) := grown_trans (Gd.out) gf
      clear gf
      try dsimp only
      refine hK.out _ _ ?_ (fun hHeld => ?_)
      · exact Gf.out
      clear hK K
      try simp only [Act.put, List.setIfInBounds_toArray, List.set_cons_zero, List.set_cons_succ]
      refine wpAnyH_ready (rs := [32]) (by kernel_rfl) (by simp) (AllReadyH.cons (o := { dst := some 100, op := Op.call { callee := Callee.value (Operand.func 16), args := #[Operand.tmp 98, Operand.tmp 99], argTypes := #[24, 24] }, type := 4, pos := "law.go:52", after := #[{ on := 30, ground := Ground.data }, { on := 31, ground := Ground.data }, { on := 29, ground := Ground.chain }, { on := 26, ground := Ground.guard }], guard := some (26, false) }) rfl (fun K hK => ?_) AllReadyH.nil)
      go_simp
      refine (rbefore_at HB2.out _ Ra Oa nr cr no co).mono ?_
      rintro e wh ⟨rfl, gh⟩
      have Gh : Hid (w6.grownBy wh none) := grown_trans (Gf.out) gh
      clear gh
      try dsimp only
      refine hK.out _ _ ?_ (fun hHeld => ?_)
      · exact Gh.out
      clear hK K
      try simp only [Act.put, List.setIfInBounds_toArray, List.set_cons_zero, List.set_cons_succ]
      refine wpAnyH_take (i := 33) (oi := { dst := some 101, op := Op.binOp BinOp.neq 4 (Operand.tmp 97) (Operand.tmp 100) 4, type := 4, pos := "law.go:52", after := #[{ on := 29, ground := Ground.data }, { on := 32, ground := Ground.data }, { on := 26, ground := Ground.guard }], guard := some (26, false) }) (v := ?_) rfl (by kernel_rfl) (by kernel_rfl) (by kernel_rfl) (fun _ _ _ h => h) (Or.inl ⟨by rfl, ?_⟩) (by assumption) ?_
      rotate_left 1
      · intro w hSw; obtain ⟨⟨z0, z1, z2, z3, z4, z5⟩, -⟩ := CX.out.grown hSw (by simp); obtain ⟨⟨y0, y1, y2, y3, y4, y5⟩, -⟩ := CT6.out.grown hSw (by simp); obtain ⟨⟨x0, x1, x2, x3, x4, x5⟩, -⟩ := CR6.out.grown hSw (by simp); have cx0 := conv_str _ Ax nx cx _ (RX.out.grown hSw); have cy0 := conv_str _ Ay ny cy _ (RY.out.grown hSw); first | (go_simp; done) | (go_simp; with_reducible rfl)
      try simp only [Act.put, List.setIfInBounds_toArray, List.set_cons_zero, List.set_cons_succ]
      refine wpAnyH_take (i := 34) (oi := { dst := some 102, op := Op.pick (Operand.tmp 94) (Operand.const (Value.bool true)) (Operand.tmp 101), type := 4, pos := "law.go:52", after := #[{ on := 26, ground := Ground.data }, { on := 33, ground := Ground.data }], guard := none }) (v := ?_) rfl (by kernel_rfl) (by kernel_rfl) (by kernel_rfl) (fun _ _ _ h => h) (Or.inl ⟨by rfl, ?_⟩) (by assumption) ?_
      rotate_left 1
      · intro w hSw; obtain ⟨⟨z0, z1, z2, z3, z4, z5⟩, -⟩ := CX.out.grown hSw (by simp); obtain ⟨⟨y0, y1, y2, y3, y4, y5⟩, -⟩ := CT6.out.grown hSw (by simp); obtain ⟨⟨x0, x1, x2, x3, x4, x5⟩, -⟩ := CR6.out.grown hSw (by simp); have cx0 := conv_str _ Ax nx cx _ (RX.out.grown hSw); have cy0 := conv_str _ Ay ny cy _ (RY.out.grown hSw); first | (go_simp; done) | (go_simp; with_reducible rfl)
      try simp only [Act.put, List.setIfInBounds_toArray, List.set_cons_zero, List.set_cons_succ]
      refine wpAnyH_done (by kernel_rfl) ?_ _
      have GZ := Lib.hid (grown_trans GX.out Gh.out)
      clear Ga Gb Gc Gd Gf Gh
      go_wp2
      go_roundw
      case rel => exact ⟨2, rfl, by omega, by omega, GZ⟩
      case measure => simp [intOf]
    · skip
      obtain ⟨d0, d1, d2, d3, d4, d5⟩ := CD.out.2.2
      have d0 := GR.out.cell d0 (by simp)
      have d1 := GR.out.cell d1 (by simp)
      have d2 := GR.out.cell d2 (by simp)
      have d3 := GR.out.cell d3 (by simp)
      have d4 := GR.out.cell d4 (by simp)
      have d5 := GR.out.cell d5 (by simp)
      go_wp2_with fail
      clear d0 d1 d2 d3 d4 d5
      have GA : wr.grownBy (wr.alloc (tcells t (.slice At nt ct))) none := World.grownBy_alloc _ _ _
      have GX := grown_trans GR.out GA
      have CX := Lib.hid (Six.made wr t (.slice At nt ct))
      have IX := Lib.hid (IRt.out.grown GX)
      have CR6 := Lib.hid (CR.out.grown GX (by simp))
      have CT6 := Lib.hid (CT.out.grown GX (by simp))
      have GW6 := Lib.hid (grown_trans GW.out GX)
      have GX := Lib.hid GX
      obtain ⟨H, hH⟩ : ∃ H, wr.heap.size = H := ⟨_, rfl⟩
      rw [hH] at CX ⊢
      unfold tcells at CX IX CR6 CT6 GW6 GX
      generalize (wr.alloc (Obj.cells #[.int .i64 t.st, .int .i64 t.ep, .int .i64 t.sq, .int .i64 t.tm, .int .i64 t.kd, .slice At nt ct] 24)) = w4 at *
      clear GA hH
      obtain ⟨lx, hlx⟩ : ∃ lx, encR t = lx := ⟨_, rfl⟩
      have HE := Lib.hid hlx
      clear hlx
      refine (enc_at HE.out IX.out (by omega) (HT.out _ GW6.out)).mono ?_
      rintro e w5 ⟨Ax, nx, cx, rfl, hm5⟩
      have g5 := hm5.gr
      have RX := Lib.hid hm5.rb
      have IX := Lib.hid (IX.out.grown g5)
      have CX := Lib.hid (CX.out.grown g5 (by simp))
      have CR6 := Lib.hid (CR6.out.grown g5 (by simp))
      have CT6 := Lib.hid (CT6.out.grown g5 (by simp))
      have GW6 := Lib.hid (grown_trans GW6.out g5)
      have GX := Lib.hid (grown_trans GX.out g5)
      clear hm5 g5
      obtain ⟨⟨z0, z1, z2, z3, z4, z5⟩, -⟩ := CX.out
      go_wp2_with fail
      clear z0 z1 z2 z3 z4 z5
      refine (renc_at HE.out IX.out (by omega)).mono ?_
      rintro e w6 ⟨Ay, ny, cy, rfl, hm6⟩
      have g6 := hm6.gr
      have RX := Lib.hid (RX.out.grown g6)
      have RY := Lib.hid hm6.rb
      have IX := Lib.hid (IX.out.grown g6)
      have CX := Lib.hid (CX.out.grown g6 (by simp))
      have CR6 := Lib.hid (CR6.out.grown g6 (by simp))
      have CT6 := Lib.hid (CT6.out.grown g6 (by simp))
      have GW6 := Lib.hid (grown_trans GW6.out g6)
      have GX := Lib.hid (grown_trans GX.out g6)
      clear hm6 g6
      obtain ⟨lx1, lx2⟩ := lx
      try dsimp only at RX RY
      try dsimp only
      obtain ⟨vb, hv⟩ : ∃ b, t.ok = b := ⟨_, rfl⟩
      obtain ⟨b1, hb1'⟩ : ∃ b, Tm.before t t = b := ⟨_, rfl⟩
      obtain ⟨b2, hb2'⟩ : ∃ b, Tm.before rw t = b := ⟨_, rfl⟩
      have HV := Lib.hid hv
      have HB1 := Lib.hid hb1'
      have HB2 := Lib.hid hb2'
      clear hv hb1' hb2'
      go_wp2_with fail
      refine wp_region_held_drew (S := fun w' => w6.grownBy w' none) (by kernel_rfl) ?_ (fun hHeld => ?_)
      · exact grown_drew w6 none
      try simp only [Act.put, List.setIfInBounds_toArray, List.set_cons_zero, List.set_cons_succ]
      refine wpAnyH_take (i := 0) (oi := { dst := some 68, op := Op.load 24 (Operand.tmp 12), type := 24, pos := "law.go:52", after := #[], guard := none }) (v := ?_) rfl (by kernel_rfl) (by kernel_rfl) (by kernel_rfl) (fun _ _ _ h => h) (Or.inl ⟨by rfl, ?_⟩) (by assumption) ?_
      rotate_left 1
      · intro w hSw; obtain ⟨⟨z0, z1, z2, z3, z4, z5⟩, -⟩ := CX.out.grown hSw (by simp); obtain ⟨⟨y0, y1, y2, y3, y4, y5⟩, -⟩ := CT6.out.grown hSw (by simp); obtain ⟨⟨x0, x1, x2, x3, x4, x5⟩, -⟩ := CR6.out.grown hSw (by simp); have cx0 := conv_str _ Ax nx cx _ (RX.out.grown hSw); have cy0 := conv_str _ Ay ny cy _ (RY.out.grown hSw); first | (go_simp; done) | (go_simp; with_reducible rfl)
      try simp only [Act.put, List.setIfInBounds_toArray, List.set_cons_zero, List.set_cons_succ]
      refine wpAnyH_take (i := 2) (oi := { dst := some 70, op := Op.load 24 (Operand.tmp 12), type := 24, pos := "law.go:52", after := #[], guard := none }) (v := ?_) rfl (by kernel_rfl) (by kernel_rfl) (by kernel_rfl) (fun _ _ _ h => h) (Or.inl ⟨by rfl, ?_⟩) (by assumption) ?_
      rotate_left 1
      · intro w hSw; obtain ⟨⟨z0, z1, z2, z3, z4, z5⟩, -⟩ := CX.out.grown hSw (by simp); obtain ⟨⟨y0, y1, y2, y3, y4, y5⟩, -⟩ := CT6.out.grown hSw (by simp); obtain ⟨⟨x0, x1, x2, x3, x4, x5⟩, -⟩ := CR6.out.grown hSw (by simp); have cx0 := conv_str _ Ax nx cx _ (RX.out.grown hSw); have cy0 := conv_str _ Ay ny cy _ (RY.out.grown hSw); first | (go_simp; done) | (go_simp; with_reducible rfl)
      try simp only [Act.put, List.setIfInBounds_toArray, List.set_cons_zero, List.set_cons_succ]
      refine wpAnyH_ready (rs := [1]) (by kernel_rfl) (by simp) (AllReadyH.cons (o := { dst := some 69, op := Op.call { callee := Callee.value (Operand.func 13), args := #[Operand.tmp 68], argTypes := #[24] }, type := 4, pos := "law.go:52", after := #[{ on := 0, ground := Ground.data }], guard := none }) rfl (fun K hK => ?_) AllReadyH.nil)
      go_simp
      refine (valid_at (t := t) (IX.out.grown (grown_drew w6 none)) (by omega) HV.out).mono ?_
      rintro e wa ⟨rfl, ga⟩
      have Ga : Hid (w6.grownBy wa none) := grown_trans (grown_drew w6 none) ga
      clear ga
      try dsimp only
      refine hK.out _ _ ?_ (fun hHeld => ?_)
      · exact Ga.out
      clear hK K
      try simp only [Act.put, List.setIfInBounds_toArray, List.set_cons_zero, List.set_cons_succ]
      refine wpAnyH_ready (rs := [3]) (by kernel_rfl) (by simp) (AllReadyH.cons (o := { dst := some 71, op := Op.call { callee := Callee.value (Operand.func 14), args := #[Operand.tmp 70], argTypes := #[24] }, type := 4, pos := "law.go:52", after := #[{ on := 2, ground := Ground.data }, { on := 1, ground := Ground.chain }], guard := none }) rfl (fun K hK => ?_) AllReadyH.nil)
      go_simp
      refine (rvalid_at (t := t) (IX.out.grown Ga.out) (by omega) HV.out).mono ?_
      rintro e wb ⟨rfl, gb⟩
      have Gb : Hid (w6.grownBy wb none) := grown_trans (Ga.out) gb
      clear gb
      try dsimp only
      refine hK.out _ _ ?_ (fun hHeld => ?_)
      · exact Gb.out
      clear hK K
      try simp only [Act.put, List.setIfInBounds_toArray, List.set_cons_zero, List.set_cons_succ]
      refine wpAnyH_take (i := 4) (oi := { dst := some 72, op := Op.binOp BinOp.neq 4 (Operand.tmp 69) (Operand.tmp 71) 4, type := 4, pos := "law.go:52", after := #[{ on := 1, ground := Ground.data }, { on := 3, ground := Ground.data }], guard := none }) (v := ?_) rfl (by kernel_rfl) (by kernel_rfl) (by kernel_rfl) (fun _ _ _ h => h) (Or.inl ⟨by rfl, ?_⟩) (by assumption) ?_
      rotate_left 1
      · intro w hSw; obtain ⟨⟨z0, z1, z2, z3, z4, z5⟩, -⟩ := CX.out.grown hSw (by simp); obtain ⟨⟨y0, y1, y2, y3, y4, y5⟩, -⟩ := CT6.out.grown hSw (by simp); obtain ⟨⟨x0, x1, x2, x3, x4, x5⟩, -⟩ := CR6.out.grown hSw (by simp); have cx0 := conv_str _ Ax nx cx _ (RX.out.grown hSw); have cy0 := conv_str _ Ay ny cy _ (RY.out.grown hSw); first | (go_simp; done) | (go_simp; with_reducible rfl)
      try simp only [Act.put, List.setIfInBounds_toArray, List.set_cons_zero, List.set_cons_succ]
      refine wpAnyH_take (i := 5) (oi := { dst := some 73, op := Op.move (Operand.tmp 72), type := 4, pos := "law.go:52", after := #[{ on := 4, ground := Ground.data }, { on := 3, ground := Ground.chain }], guard := none }) (v := ?_) rfl (by kernel_rfl) (by kernel_rfl) (by kernel_rfl) (fun _ _ _ h => h) (Or.inl ⟨by rfl, ?_⟩) (by assumption) ?_
      rotate_left 1
      · intro w hSw; obtain ⟨⟨z0, z1, z2, z3, z4, z5⟩, -⟩ := CX.out.grown hSw (by simp); obtain ⟨⟨y0, y1, y2, y3, y4, y5⟩, -⟩ := CT6.out.grown hSw (by simp); obtain ⟨⟨x0, x1, x2, x3, x4, x5⟩, -⟩ := CR6.out.grown hSw (by simp); have cx0 := conv_str _ Ax nx cx _ (RX.out.grown hSw); have cy0 := conv_str _ Ay ny cy _ (RY.out.grown hSw); first | (go_simp; done) | (go_simp; with_reducible rfl)
      try simp only [Act.put, List.setIfInBounds_toArray, List.set_cons_zero, List.set_cons_succ]
      refine wpAnyH_take (i := 6) (oi := { dst := some 74, op := Op.move (Operand.tmp 13), type := 25, pos := "law.go:52", after := #[{ on := 5, ground := Ground.guard }], guard := some (5, false) }) (v := ?_) rfl (by kernel_rfl) (by kernel_rfl) (by kernel_rfl) (fun _ _ _ h => h) (Or.inl ⟨by rfl, ?_⟩) (by assumption) ?_
      rotate_left 1
      · intro w hSw; obtain ⟨⟨z0, z1, z2, z3, z4, z5⟩, -⟩ := CX.out.grown hSw (by simp); obtain ⟨⟨y0, y1, y2, y3, y4, y5⟩, -⟩ := CT6.out.grown hSw (by simp); obtain ⟨⟨x0, x1, x2, x3, x4, x5⟩, -⟩ := CR6.out.grown hSw (by simp); have cx0 := conv_str _ Ax nx cx _ (RX.out.grown hSw); have cy0 := conv_str _ Ay ny cy _ (RY.out.grown hSw); first | (go_simp; done) | (go_simp; with_reducible rfl)
      try simp only [Act.put, List.setIfInBounds_toArray, List.set_cons_zero, List.set_cons_succ]
      refine wpAnyH_take (i := 7) (oi := { dst := some 75, op := Op.convert 25 9 (Operand.tmp 74), type := 9, pos := "law.go:52", after := #[{ on := 6, ground := Ground.data }, { on := 5, ground := Ground.guard }], guard := some (5, false) }) (v := ?_) rfl (by kernel_rfl) (by kernel_rfl) (by kernel_rfl) (fun _ _ _ h => h) (Or.inl ⟨by rfl, ?_⟩) (by assumption) ?_
      rotate_left 1
      · intro w hSw; obtain ⟨⟨z0, z1, z2, z3, z4, z5⟩, -⟩ := CX.out.grown hSw (by simp); obtain ⟨⟨y0, y1, y2, y3, y4, y5⟩, -⟩ := CT6.out.grown hSw (by simp); obtain ⟨⟨x0, x1, x2, x3, x4, x5⟩, -⟩ := CR6.out.grown hSw (by simp); have cx0 := conv_str _ Ax nx cx _ (RX.out.grown hSw); have cy0 := conv_str _ Ay ny cy _ (RY.out.grown hSw); first | (go_simp; done) | (go_simp; with_reducible rfl)
      try simp only [Act.put, List.setIfInBounds_toArray, List.set_cons_zero, List.set_cons_succ]
      refine wpAnyH_take (i := 8) (oi := { dst := some 76, op := Op.move (Operand.tmp 15), type := 25, pos := "law.go:52", after := #[{ on := 5, ground := Ground.guard }], guard := some (5, false) }) (v := ?_) rfl (by kernel_rfl) (by kernel_rfl) (by kernel_rfl) (fun _ _ _ h => h) (Or.inl ⟨by rfl, ?_⟩) (by assumption) ?_
      rotate_left 1
      · intro w hSw; obtain ⟨⟨z0, z1, z2, z3, z4, z5⟩, -⟩ := CX.out.grown hSw (by simp); obtain ⟨⟨y0, y1, y2, y3, y4, y5⟩, -⟩ := CT6.out.grown hSw (by simp); obtain ⟨⟨x0, x1, x2, x3, x4, x5⟩, -⟩ := CR6.out.grown hSw (by simp); have cx0 := conv_str _ Ax nx cx _ (RX.out.grown hSw); have cy0 := conv_str _ Ay ny cy _ (RY.out.grown hSw); first | (go_simp; done) | (go_simp; with_reducible rfl)
      try simp only [Act.put, List.setIfInBounds_toArray, List.set_cons_zero, List.set_cons_succ]
      refine wpAnyH_take (i := 9) (oi := { dst := some 77, op := Op.convert 25 9 (Operand.tmp 76), type := 9, pos := "law.go:52", after := #[{ on := 8, ground := Ground.data }, { on := 5, ground := Ground.guard }], guard := some (5, false) }) (v := ?_) rfl (by kernel_rfl) (by kernel_rfl) (by kernel_rfl) (fun _ _ _ h => h) (Or.inl ⟨by rfl, ?_⟩) (by assumption) ?_
      rotate_left 1
      · intro w hSw; obtain ⟨⟨z0, z1, z2, z3, z4, z5⟩, -⟩ := CX.out.grown hSw (by simp); obtain ⟨⟨y0, y1, y2, y3, y4, y5⟩, -⟩ := CT6.out.grown hSw (by simp); obtain ⟨⟨x0, x1, x2, x3, x4, x5⟩, -⟩ := CR6.out.grown hSw (by simp); have cx0 := conv_str _ Ax nx cx _ (RX.out.grown hSw); have cy0 := conv_str _ Ay ny cy _ (RY.out.grown hSw); first | (go_simp; done) | (go_simp; with_reducible rfl)
      try simp only [Act.put, List.setIfInBounds_toArray, List.set_cons_zero, List.set_cons_succ]
      refine wpAnyH_take (i := 10) (oi := { dst := some 78, op := Op.binOp BinOp.neq 9 (Operand.tmp 75) (Operand.tmp 77) 9, type := 4, pos := "law.go:52", after := #[{ on := 7, ground := Ground.data }, { on := 9, ground := Ground.data }, { on := 5, ground := Ground.guard }], guard := some (5, false) }) (v := ?_) rfl (by kernel_rfl) (by kernel_rfl) (by kernel_rfl) (fun _ _ _ h => h) (Or.inl ⟨by rfl, ?_⟩) (by assumption) ?_
      rotate_left 1
      · intro w hSw; obtain ⟨⟨z0, z1, z2, z3, z4, z5⟩, -⟩ := CX.out.grown hSw (by simp); obtain ⟨⟨y0, y1, y2, y3, y4, y5⟩, -⟩ := CT6.out.grown hSw (by simp); obtain ⟨⟨x0, x1, x2, x3, x4, x5⟩, -⟩ := CR6.out.grown hSw (by simp); have cx0 := conv_str _ Ax nx cx _ (RX.out.grown hSw); have cy0 := conv_str _ Ay ny cy _ (RY.out.grown hSw); first | (go_simp; done) | (go_simp; with_reducible rfl)
      try simp only [Act.put, List.setIfInBounds_toArray, List.set_cons_zero, List.set_cons_succ]
      refine wpAnyH_take (i := 11) (oi := { dst := some 79, op := Op.pick (Operand.tmp 73) (Operand.const (Value.bool true)) (Operand.tmp 78), type := 4, pos := "law.go:52", after := #[{ on := 5, ground := Ground.data }, { on := 10, ground := Ground.data }], guard := none }) (v := ?_) rfl (by kernel_rfl) (by kernel_rfl) (by kernel_rfl) (fun _ _ _ h => h) (Or.inl ⟨by rfl, ?_⟩) (by assumption) ?_
      rotate_left 1
      · intro w hSw; obtain ⟨⟨z0, z1, z2, z3, z4, z5⟩, -⟩ := CX.out.grown hSw (by simp); obtain ⟨⟨y0, y1, y2, y3, y4, y5⟩, -⟩ := CT6.out.grown hSw (by simp); obtain ⟨⟨x0, x1, x2, x3, x4, x5⟩, -⟩ := CR6.out.grown hSw (by simp); have cx0 := conv_str _ Ax nx cx _ (RX.out.grown hSw); have cy0 := conv_str _ Ay ny cy _ (RY.out.grown hSw); first | (go_simp; done) | (go_simp; with_reducible rfl)
      try simp only [Act.put, List.setIfInBounds_toArray, List.set_cons_zero, List.set_cons_succ]
      refine wpAnyH_take (i := 12) (oi := { dst := some 80, op := Op.move (Operand.tmp 79), type := 4, pos := "law.go:52", after := #[{ on := 11, ground := Ground.data }, { on := 5, ground := Ground.chain }], guard := none }) (v := ?_) rfl (by kernel_rfl) (by kernel_rfl) (by kernel_rfl) (fun _ _ _ h => h) (Or.inl ⟨by rfl, ?_⟩) (by assumption) ?_
      rotate_left 1
      · intro w hSw; obtain ⟨⟨z0, z1, z2, z3, z4, z5⟩, -⟩ := CX.out.grown hSw (by simp); obtain ⟨⟨y0, y1, y2, y3, y4, y5⟩, -⟩ := CT6.out.grown hSw (by simp); obtain ⟨⟨x0, x1, x2, x3, x4, x5⟩, -⟩ := CR6.out.grown hSw (by simp); have cx0 := conv_str _ Ax nx cx _ (RX.out.grown hSw); have cy0 := conv_str _ Ay ny cy _ (RY.out.grown hSw); first | (go_simp; done) | (go_simp; with_reducible rfl)
      try simp only [Act.put, List.setIfInBounds_toArray, List.set_cons_zero, List.set_cons_succ]
      refine wpAnyH_take (i := 13) (oi := { dst := some 81, op := Op.move (Operand.tmp 14), type := 31, pos := "law.go:52", after := #[{ on := 12, ground := Ground.guard }], guard := some (12, false) }) (v := ?_) rfl (by kernel_rfl) (by kernel_rfl) (by kernel_rfl) (fun _ _ _ h => h) (Or.inl ⟨by rfl, ?_⟩) (by assumption) ?_
      rotate_left 1
      · intro w hSw; obtain ⟨⟨z0, z1, z2, z3, z4, z5⟩, -⟩ := CX.out.grown hSw (by simp); obtain ⟨⟨y0, y1, y2, y3, y4, y5⟩, -⟩ := CT6.out.grown hSw (by simp); obtain ⟨⟨x0, x1, x2, x3, x4, x5⟩, -⟩ := CR6.out.grown hSw (by simp); have cx0 := conv_str _ Ax nx cx _ (RX.out.grown hSw); have cy0 := conv_str _ Ay ny cy _ (RY.out.grown hSw); first | (go_simp; done) | (go_simp; with_reducible rfl)
      try simp only [Act.put, List.setIfInBounds_toArray, List.set_cons_zero, List.set_cons_succ]
      refine wpAnyH_take (i := 14) (oi := { dst := some 82, op := Op.move (Operand.tmp 16), type := 31, pos := "law.go:52", after := #[{ on := 12, ground := Ground.guard }], guard := some (12, false) }) (v := ?_) rfl (by kernel_rfl) (by kernel_rfl) (by kernel_rfl) (fun _ _ _ h => h) (Or.inl ⟨by rfl, ?_⟩) (by assumption) ?_
      rotate_left 1
      · intro w hSw; obtain ⟨⟨z0, z1, z2, z3, z4, z5⟩, -⟩ := CX.out.grown hSw (by simp); obtain ⟨⟨y0, y1, y2, y3, y4, y5⟩, -⟩ := CT6.out.grown hSw (by simp); obtain ⟨⟨x0, x1, x2, x3, x4, x5⟩, -⟩ := CR6.out.grown hSw (by simp); have cx0 := conv_str _ Ax nx cx _ (RX.out.grown hSw); have cy0 := conv_str _ Ay ny cy _ (RY.out.grown hSw); first | (go_simp; done) | (go_simp; with_reducible rfl)
      try simp only [Act.put, List.setIfInBounds_toArray, List.set_cons_zero, List.set_cons_succ]
      refine wpAnyH_take (i := 15) (oi := { dst := some 83, op := Op.binOp BinOp.neq 31 (Operand.tmp 81) (Operand.tmp 82) 31, type := 4, pos := "law.go:52", after := #[{ on := 13, ground := Ground.data }, { on := 14, ground := Ground.data }, { on := 12, ground := Ground.guard }], guard := some (12, false) }) (v := ?_) rfl (by kernel_rfl) (by kernel_rfl) (by kernel_rfl) (fun _ _ _ h => h) (Or.inl ⟨by rfl, ?_⟩) (by assumption) ?_
      rotate_left 1
      · intro w hSw; obtain ⟨⟨z0, z1, z2, z3, z4, z5⟩, -⟩ := CX.out.grown hSw (by simp); obtain ⟨⟨y0, y1, y2, y3, y4, y5⟩, -⟩ := CT6.out.grown hSw (by simp); obtain ⟨⟨x0, x1, x2, x3, x4, x5⟩, -⟩ := CR6.out.grown hSw (by simp); have cx0 := conv_str _ Ax nx cx _ (RX.out.grown hSw); have cy0 := conv_str _ Ay ny cy _ (RY.out.grown hSw); first | (go_simp; done) | (go_simp; with_reducible rfl)
      try simp only [Act.put, List.setIfInBounds_toArray, List.set_cons_zero, List.set_cons_succ]
      refine wpAnyH_take (i := 16) (oi := { dst := some 84, op := Op.pick (Operand.tmp 80) (Operand.const (Value.bool true)) (Operand.tmp 83), type := 4, pos := "law.go:52", after := #[{ on := 12, ground := Ground.data }, { on := 15, ground := Ground.data }], guard := none }) (v := ?_) rfl (by kernel_rfl) (by kernel_rfl) (by kernel_rfl) (fun _ _ _ h => h) (Or.inl ⟨by rfl, ?_⟩) (by assumption) ?_
      rotate_left 1
      · intro w hSw; obtain ⟨⟨z0, z1, z2, z3, z4, z5⟩, -⟩ := CX.out.grown hSw (by simp); obtain ⟨⟨y0, y1, y2, y3, y4, y5⟩, -⟩ := CT6.out.grown hSw (by simp); obtain ⟨⟨x0, x1, x2, x3, x4, x5⟩, -⟩ := CR6.out.grown hSw (by simp); have cx0 := conv_str _ Ax nx cx _ (RX.out.grown hSw); have cy0 := conv_str _ Ay ny cy _ (RY.out.grown hSw); first | (go_simp; done) | (go_simp; with_reducible rfl)
      try simp only [Act.put, List.setIfInBounds_toArray, List.set_cons_zero, List.set_cons_succ]
      refine wpAnyH_take (i := 17) (oi := { dst := some 85, op := Op.move (Operand.tmp 84), type := 4, pos := "law.go:52", after := #[{ on := 16, ground := Ground.data }, { on := 12, ground := Ground.chain }], guard := none }) (v := ?_) rfl (by kernel_rfl) (by kernel_rfl) (by kernel_rfl) (fun _ _ _ h => h) (Or.inl ⟨by rfl, ?_⟩) (by assumption) ?_
      rotate_left 1
      · intro w hSw; obtain ⟨⟨z0, z1, z2, z3, z4, z5⟩, -⟩ := CX.out.grown hSw (by simp); obtain ⟨⟨y0, y1, y2, y3, y4, y5⟩, -⟩ := CT6.out.grown hSw (by simp); obtain ⟨⟨x0, x1, x2, x3, x4, x5⟩, -⟩ := CR6.out.grown hSw (by simp); have cx0 := conv_str _ Ax nx cx _ (RX.out.grown hSw); have cy0 := conv_str _ Ay ny cy _ (RY.out.grown hSw); first | (go_simp; done) | (go_simp; with_reducible rfl)
      try simp only [Act.put, List.setIfInBounds_toArray, List.set_cons_zero, List.set_cons_succ]
      refine wpAnyH_take (i := 18) (oi := { dst := some 86, op := Op.load 24 (Operand.tmp 12), type := 24, pos := "law.go:52", after := #[{ on := 17, ground := Ground.guard }], guard := some (17, false) }) (v := ?_) rfl (by kernel_rfl) (by kernel_rfl) (by kernel_rfl) (fun _ _ _ h => h) (Or.inl ⟨by rfl, ?_⟩) (by assumption) ?_
      rotate_left 1
      · intro w hSw; obtain ⟨⟨z0, z1, z2, z3, z4, z5⟩, -⟩ := CX.out.grown hSw (by simp); obtain ⟨⟨y0, y1, y2, y3, y4, y5⟩, -⟩ := CT6.out.grown hSw (by simp); obtain ⟨⟨x0, x1, x2, x3, x4, x5⟩, -⟩ := CR6.out.grown hSw (by simp); have cx0 := conv_str _ Ax nx cx _ (RX.out.grown hSw); have cy0 := conv_str _ Ay ny cy _ (RY.out.grown hSw); first | (go_simp; done) | (go_simp; with_reducible rfl)
      try simp only [Act.put, List.setIfInBounds_toArray, List.set_cons_zero, List.set_cons_succ]
      refine wpAnyH_take (i := 19) (oi := { dst := some 87, op := Op.load 24 (Operand.tmp 10), type := 24, pos := "law.go:52", after := #[{ on := 17, ground := Ground.guard }], guard := some (17, false) }) (v := ?_) rfl (by kernel_rfl) (by kernel_rfl) (by kernel_rfl) (fun _ _ _ h => h) (Or.inl ⟨by rfl, ?_⟩) (by assumption) ?_
      rotate_left 1
      · intro w hSw; obtain ⟨⟨z0, z1, z2, z3, z4, z5⟩, -⟩ := CX.out.grown hSw (by simp); obtain ⟨⟨y0, y1, y2, y3, y4, y5⟩, -⟩ := CT6.out.grown hSw (by simp); obtain ⟨⟨x0, x1, x2, x3, x4, x5⟩, -⟩ := CR6.out.grown hSw (by simp); have cx0 := conv_str _ Ax nx cx _ (RX.out.grown hSw); have cy0 := conv_str _ Ay ny cy _ (RY.out.grown hSw); first | (go_simp; done) | (go_simp; with_reducible rfl)
      try simp only [Act.put, List.setIfInBounds_toArray, List.set_cons_zero, List.set_cons_succ]
      refine wpAnyH_take (i := 21) (oi := { dst := some 89, op := Op.load 24 (Operand.tmp 12), type := 24, pos := "law.go:52", after := #[{ on := 17, ground := Ground.guard }], guard := some (17, false) }) (v := ?_) rfl (by kernel_rfl) (by kernel_rfl) (by kernel_rfl) (fun _ _ _ h => h) (Or.inl ⟨by rfl, ?_⟩) (by assumption) ?_
      rotate_left 1
      · intro w hSw; obtain ⟨⟨z0, z1, z2, z3, z4, z5⟩, -⟩ := CX.out.grown hSw (by simp); obtain ⟨⟨y0, y1, y2, y3, y4, y5⟩, -⟩ := CT6.out.grown hSw (by simp); obtain ⟨⟨x0, x1, x2, x3, x4, x5⟩, -⟩ := CR6.out.grown hSw (by simp); have cx0 := conv_str _ Ax nx cx _ (RX.out.grown hSw); have cy0 := conv_str _ Ay ny cy _ (RY.out.grown hSw); first | (go_simp; done) | (go_simp; with_reducible rfl)
      try simp only [Act.put, List.setIfInBounds_toArray, List.set_cons_zero, List.set_cons_succ]
      refine wpAnyH_take (i := 22) (oi := { dst := some 90, op := Op.load 24 (Operand.tmp 10), type := 24, pos := "law.go:52", after := #[{ on := 17, ground := Ground.guard }], guard := some (17, false) }) (v := ?_) rfl (by kernel_rfl) (by kernel_rfl) (by kernel_rfl) (fun _ _ _ h => h) (Or.inl ⟨by rfl, ?_⟩) (by assumption) ?_
      rotate_left 1
      · intro w hSw; obtain ⟨⟨z0, z1, z2, z3, z4, z5⟩, -⟩ := CX.out.grown hSw (by simp); obtain ⟨⟨y0, y1, y2, y3, y4, y5⟩, -⟩ := CT6.out.grown hSw (by simp); obtain ⟨⟨x0, x1, x2, x3, x4, x5⟩, -⟩ := CR6.out.grown hSw (by simp); have cx0 := conv_str _ Ax nx cx _ (RX.out.grown hSw); have cy0 := conv_str _ Ay ny cy _ (RY.out.grown hSw); first | (go_simp; done) | (go_simp; with_reducible rfl)
      try simp only [Act.put, List.setIfInBounds_toArray, List.set_cons_zero, List.set_cons_succ]
      refine wpAnyH_ready (rs := [20]) (by kernel_rfl) (by simp) (AllReadyH.cons (o := { dst := some 88, op := Op.call { callee := Callee.value (Operand.func 15), args := #[Operand.tmp 86, Operand.tmp 87], argTypes := #[24, 24] }, type := 4, pos := "law.go:52", after := #[{ on := 18, ground := Ground.data }, { on := 19, ground := Ground.data }, { on := 17, ground := Ground.chain }, { on := 17, ground := Ground.guard }], guard := some (17, false) }) rfl (fun K hK => ?_) AllReadyH.nil)
      go_simp
      refine (before_at HB1.out _ At At nt ct nt ct).mono ?_
      rintro e wc ⟨rfl, gc⟩
      have Gc : Hid (w6.grownBy wc none) := grown_trans (Gb.out) gc
      clear gc
      try dsimp only
      refine hK.out _ _ ?_ (fun hHeld => ?_)
      · exact Gc.out
      clear hK K
      try simp only [Act.put, List.setIfInBounds_toArray, List.set_cons_zero, List.set_cons_succ]
      refine wpAnyH_ready (rs := [23]) (by kernel_rfl) (by simp) (AllReadyH.cons (o := { dst := some 91, op := Op.call { callee := Callee.value (Operand.func 16), args := #[Operand.tmp 89, Operand.tmp 90], argTypes := #[24, 24] }, type := 4, pos := "law.go:52", after := #[{ on := 21, ground := Ground.data }, { on := 22, ground := Ground.data }, { on := 20, ground := Ground.chain }, { on := 17, ground := Ground.guard }], guard := some (17, false) }) rfl (fun K hK => ?_) AllReadyH.nil)
      go_simp
      refine (rbefore_at HB1.out _ At At nt ct nt ct).mono ?_
      rintro e wd ⟨rfl, gd⟩
      have Gd : Hid (w6.grownBy wd none) := grown_trans (Gc.out) gd
      clear gd
      try dsimp only
      refine hK.out _ _ ?_ (fun hHeld => ?_)
      · exact Gd.out
      clear hK K
      try simp only [Act.put, List.setIfInBounds_toArray, List.set_cons_zero, List.set_cons_succ]
      refine wpAnyH_take (i := 24) (oi := { dst := some 92, op := Op.binOp BinOp.neq 4 (Operand.tmp 88) (Operand.tmp 91) 4, type := 4, pos := "law.go:52", after := #[{ on := 20, ground := Ground.data }, { on := 23, ground := Ground.data }, { on := 17, ground := Ground.guard }], guard := some (17, false) }) (v := ?_) rfl (by kernel_rfl) (by kernel_rfl) (by kernel_rfl) (fun _ _ _ h => h) (Or.inl ⟨by rfl, ?_⟩) (by assumption) ?_
      rotate_left 1
      · intro w hSw; obtain ⟨⟨z0, z1, z2, z3, z4, z5⟩, -⟩ := CX.out.grown hSw (by simp); obtain ⟨⟨y0, y1, y2, y3, y4, y5⟩, -⟩ := CT6.out.grown hSw (by simp); obtain ⟨⟨x0, x1, x2, x3, x4, x5⟩, -⟩ := CR6.out.grown hSw (by simp); have cx0 := conv_str _ Ax nx cx _ (RX.out.grown hSw); have cy0 := conv_str _ Ay ny cy _ (RY.out.grown hSw); first | (go_simp; done) | (go_simp; with_reducible rfl)
      try simp only [Act.put, List.setIfInBounds_toArray, List.set_cons_zero, List.set_cons_succ]
      refine wpAnyH_take (i := 25) (oi := { dst := some 93, op := Op.pick (Operand.tmp 85) (Operand.const (Value.bool true)) (Operand.tmp 92), type := 4, pos := "law.go:52", after := #[{ on := 17, ground := Ground.data }, { on := 24, ground := Ground.data }], guard := none }) (v := ?_) rfl (by kernel_rfl) (by kernel_rfl) (by kernel_rfl) (fun _ _ _ h => h) (Or.inl ⟨by rfl, ?_⟩) (by assumption) ?_
      rotate_left 1
      · intro w hSw; obtain ⟨⟨z0, z1, z2, z3, z4, z5⟩, -⟩ := CX.out.grown hSw (by simp); obtain ⟨⟨y0, y1, y2, y3, y4, y5⟩, -⟩ := CT6.out.grown hSw (by simp); obtain ⟨⟨x0, x1, x2, x3, x4, x5⟩, -⟩ := CR6.out.grown hSw (by simp); have cx0 := conv_str _ Ax nx cx _ (RX.out.grown hSw); have cy0 := conv_str _ Ay ny cy _ (RY.out.grown hSw); first | (go_simp; done) | (go_simp; with_reducible rfl)
      try simp only [Act.put, List.setIfInBounds_toArray, List.set_cons_zero, List.set_cons_succ]
      refine wpAnyH_take (i := 26) (oi := { dst := some 94, op := Op.move (Operand.tmp 93), type := 4, pos := "law.go:52", after := #[{ on := 25, ground := Ground.data }, { on := 23, ground := Ground.chain }], guard := none }) (v := ?_) rfl (by kernel_rfl) (by kernel_rfl) (by kernel_rfl) (fun _ _ _ h => h) (Or.inl ⟨by rfl, ?_⟩) (by assumption) ?_
      rotate_left 1
      · intro w hSw; obtain ⟨⟨z0, z1, z2, z3, z4, z5⟩, -⟩ := CX.out.grown hSw (by simp); obtain ⟨⟨y0, y1, y2, y3, y4, y5⟩, -⟩ := CT6.out.grown hSw (by simp); obtain ⟨⟨x0, x1, x2, x3, x4, x5⟩, -⟩ := CR6.out.grown hSw (by simp); have cx0 := conv_str _ Ax nx cx _ (RX.out.grown hSw); have cy0 := conv_str _ Ay ny cy _ (RY.out.grown hSw); first | (go_simp; done) | (go_simp; with_reducible rfl)
      try simp only [Act.put, List.setIfInBounds_toArray, List.set_cons_zero, List.set_cons_succ]
      refine wpAnyH_take (i := 27) (oi := { dst := some 95, op := Op.load 24 (Operand.tmp 4), type := 24, pos := "law.go:52", after := #[{ on := 26, ground := Ground.guard }], guard := some (26, false) }) (v := ?_) rfl (by kernel_rfl) (by kernel_rfl) (by kernel_rfl) (fun _ _ _ h => h) (Or.inl ⟨by rfl, ?_⟩) (by assumption) ?_
      rotate_left 1
      · intro w hSw; obtain ⟨⟨z0, z1, z2, z3, z4, z5⟩, -⟩ := CX.out.grown hSw (by simp); obtain ⟨⟨y0, y1, y2, y3, y4, y5⟩, -⟩ := CT6.out.grown hSw (by simp); obtain ⟨⟨x0, x1, x2, x3, x4, x5⟩, -⟩ := CR6.out.grown hSw (by simp); have cx0 := conv_str _ Ax nx cx _ (RX.out.grown hSw); have cy0 := conv_str _ Ay ny cy _ (RY.out.grown hSw); first | (go_simp; done) | (go_simp; with_reducible rfl)
      try simp only [Act.put, List.setIfInBounds_toArray, List.set_cons_zero, List.set_cons_succ]
      refine wpAnyH_take (i := 28) (oi := { dst := some 96, op := Op.load 24 (Operand.tmp 12), type := 24, pos := "law.go:52", after := #[{ on := 26, ground := Ground.guard }], guard := some (26, false) }) (v := ?_) rfl (by kernel_rfl) (by kernel_rfl) (by kernel_rfl) (fun _ _ _ h => h) (Or.inl ⟨by rfl, ?_⟩) (by assumption) ?_
      rotate_left 1
      · intro w hSw; obtain ⟨⟨z0, z1, z2, z3, z4, z5⟩, -⟩ := CX.out.grown hSw (by simp); obtain ⟨⟨y0, y1, y2, y3, y4, y5⟩, -⟩ := CT6.out.grown hSw (by simp); obtain ⟨⟨x0, x1, x2, x3, x4, x5⟩, -⟩ := CR6.out.grown hSw (by simp); have cx0 := conv_str _ Ax nx cx _ (RX.out.grown hSw); have cy0 := conv_str _ Ay ny cy _ (RY.out.grown hSw); first | (go_simp; done) | (go_simp; with_reducible rfl)
      try simp only [Act.put, List.setIfInBounds_toArray, List.set_cons_zero, List.set_cons_succ]
      refine wpAnyH_take (i := 30) (oi := { dst := some 98, op := Op.load 24 (Operand.tmp 4), type := 24, pos := "law.go:52", after := #[{ on := 26, ground := Ground.guard }], guard := some (26, false) }) (v := ?_) rfl (by kernel_rfl) (by kernel_rfl) (by kernel_rfl) (fun _ _ _ h => h) (Or.inl ⟨by rfl, ?_⟩) (by assumption) ?_
      rotate_left 1
      · intro w hSw; obtain ⟨⟨z0, z1, z2, z3, z4, z5⟩, -⟩ := CX.out.grown hSw (by simp); obtain ⟨⟨y0, y1, y2, y3, y4, y5⟩, -⟩ := CT6.out.grown hSw (by simp); obtain ⟨⟨x0, x1, x2, x3, x4, x5⟩, -⟩ := CR6.out.grown hSw (by simp); have cx0 := conv_str _ Ax nx cx _ (RX.out.grown hSw); have cy0 := conv_str _ Ay ny cy _ (RY.out.grown hSw); first | (go_simp; done) | (go_simp; with_reducible rfl)
      try simp only [Act.put, List.setIfInBounds_toArray, List.set_cons_zero, List.set_cons_succ]
      refine wpAnyH_take (i := 31) (oi := { dst := some 99, op := Op.load 24 (Operand.tmp 12), type := 24, pos := "law.go:52", after := #[{ on := 26, ground := Ground.guard }], guard := some (26, false) }) (v := ?_) rfl (by kernel_rfl) (by kernel_rfl) (by kernel_rfl) (fun _ _ _ h => h) (Or.inl ⟨by rfl, ?_⟩) (by assumption) ?_
      rotate_left 1
      · intro w hSw; obtain ⟨⟨z0, z1, z2, z3, z4, z5⟩, -⟩ := CX.out.grown hSw (by simp); obtain ⟨⟨y0, y1, y2, y3, y4, y5⟩, -⟩ := CT6.out.grown hSw (by simp); obtain ⟨⟨x0, x1, x2, x3, x4, x5⟩, -⟩ := CR6.out.grown hSw (by simp); have cx0 := conv_str _ Ax nx cx _ (RX.out.grown hSw); have cy0 := conv_str _ Ay ny cy _ (RY.out.grown hSw); first | (go_simp; done) | (go_simp; with_reducible rfl)
      try simp only [Act.put, List.setIfInBounds_toArray, List.set_cons_zero, List.set_cons_succ]
      refine wpAnyH_ready (rs := [29]) (by kernel_rfl) (by simp) (AllReadyH.cons (o := { dst := some 97, op := Op.call { callee := Callee.value (Operand.func 15), args := #[Operand.tmp 95, Operand.tmp 96], argTypes := #[24, 24] }, type := 4, pos := "law.go:52", after := #[{ on := 27, ground := Ground.data }, { on := 28, ground := Ground.data }, { on := 26, ground := Ground.chain }, { on := 26, ground := Ground.guard }], guard := some (26, false) }) rfl (fun K hK => ?_) AllReadyH.nil)
      go_simp
      refine (before_at HB2.out _ Ra At nr cr nt ct).mono ?_
      rintro e wf ⟨rfl, gf⟩
      have Gf : Hid (w6.grownBy wf none) := grown_trans (Gd.out) gf
      clear gf
      try dsimp only
      refine hK.out _ _ ?_ (fun hHeld => ?_)
      · exact Gf.out
      clear hK K
      try simp only [Act.put, List.setIfInBounds_toArray, List.set_cons_zero, List.set_cons_succ]
      refine wpAnyH_ready (rs := [32]) (by kernel_rfl) (by simp) (AllReadyH.cons (o := { dst := some 100, op := Op.call { callee := Callee.value (Operand.func 16), args := #[Operand.tmp 98, Operand.tmp 99], argTypes := #[24, 24] }, type := 4, pos := "law.go:52", after := #[{ on := 30, ground := Ground.data }, { on := 31, ground := Ground.data }, { on := 29, ground := Ground.chain }, { on := 26, ground := Ground.guard }], guard := some (26, false) }) rfl (fun K hK => ?_) AllReadyH.nil)
      go_simp
      refine (rbefore_at HB2.out _ Ra At nr cr nt ct).mono ?_
      rintro e wh ⟨rfl, gh⟩
      have Gh : Hid (w6.grownBy wh none) := grown_trans (Gf.out) gh
      clear gh
      try dsimp only
      refine hK.out _ _ ?_ (fun hHeld => ?_)
      · exact Gh.out
      clear hK K
      try simp only [Act.put, List.setIfInBounds_toArray, List.set_cons_zero, List.set_cons_succ]
      refine wpAnyH_take (i := 33) (oi := { dst := some 101, op := Op.binOp BinOp.neq 4 (Operand.tmp 97) (Operand.tmp 100) 4, type := 4, pos := "law.go:52", after := #[{ on := 29, ground := Ground.data }, { on := 32, ground := Ground.data }, { on := 26, ground := Ground.guard }], guard := some (26, false) }) (v := ?_) rfl (by kernel_rfl) (by kernel_rfl) (by kernel_rfl) (fun _ _ _ h => h) (Or.inl ⟨by rfl, ?_⟩) (by assumption) ?_
      rotate_left 1
      · intro w hSw; obtain ⟨⟨z0, z1, z2, z3, z4, z5⟩, -⟩ := CX.out.grown hSw (by simp); obtain ⟨⟨y0, y1, y2, y3, y4, y5⟩, -⟩ := CT6.out.grown hSw (by simp); obtain ⟨⟨x0, x1, x2, x3, x4, x5⟩, -⟩ := CR6.out.grown hSw (by simp); have cx0 := conv_str _ Ax nx cx _ (RX.out.grown hSw); have cy0 := conv_str _ Ay ny cy _ (RY.out.grown hSw); first | (go_simp; done) | (go_simp; with_reducible rfl)
      try simp only [Act.put, List.setIfInBounds_toArray, List.set_cons_zero, List.set_cons_succ]
      refine wpAnyH_take (i := 34) (oi := { dst := some 102, op := Op.pick (Operand.tmp 94) (Operand.const (Value.bool true)) (Operand.tmp 101), type := 4, pos := "law.go:52", after := #[{ on := 26, ground := Ground.data }, { on := 33, ground := Ground.data }], guard := none }) (v := ?_) rfl (by kernel_rfl) (by kernel_rfl) (by kernel_rfl) (fun _ _ _ h => h) (Or.inl ⟨by rfl, ?_⟩) (by assumption) ?_
      rotate_left 1
      · intro w hSw; obtain ⟨⟨z0, z1, z2, z3, z4, z5⟩, -⟩ := CX.out.grown hSw (by simp); obtain ⟨⟨y0, y1, y2, y3, y4, y5⟩, -⟩ := CT6.out.grown hSw (by simp); obtain ⟨⟨x0, x1, x2, x3, x4, x5⟩, -⟩ := CR6.out.grown hSw (by simp); have cx0 := conv_str _ Ax nx cx _ (RX.out.grown hSw); have cy0 := conv_str _ Ay ny cy _ (RY.out.grown hSw); first | (go_simp; done) | (go_simp; with_reducible rfl)
      try simp only [Act.put, List.setIfInBounds_toArray, List.set_cons_zero, List.set_cons_succ]
      refine wpAnyH_done (by kernel_rfl) ?_ _
      have GZ := Lib.hid (grown_trans GX.out Gh.out)
      clear Ga Gb Gc Gd Gf Gh
      go_wp2
      go_roundw
      case rel => exact ⟨3, rfl, by omega, by omega, GZ⟩
      case measure => simp [intOf]
    · -- behind the first loop
      have R0 : Hid (R3 w S [.slice B m d] wr) := by
        refine ⟨grown_trans GW.out GR.out, SW.out.grown GR.out, fun v hv => ?_⟩
        rcases List.mem_cons.1 hv with rfl | hv
        · exact ⟨B, m, d, lb, rfl, by omega, hb1, hb2, BX.out.grown GR.out⟩
        · cases hv
      clear GW SW BX CD IRt IRr IRo CR CT CO GR hi0 hi3 hD3 HXR
      go_wp2_with fail
      refine (telegram_any S 3 wr R0.out.src (by omega) (by omega)).mono ?_
      rintro e w4 ⟨gd, Ag, ng, cg, rfl, g4, s4, o4, ⟨-, k4, l4⟩⟩
      have hng : ng ≤ 3 := by have := o4.len; omega
      have GA : w4.grownBy (w4.alloc (tcells gd (.slice Ag ng cg))) none := World.grownBy_alloc _ _ _
      have R4 := Lib.hid ((R0.out.read hwS g4 s4).step GA)
      have IG := Lib.hid (o4.ir.grown GA)
      have KG := Lib.hid k4
      have LG := Lib.hid (Tm.Tg.len k4)
      clear R0 g4 s4 o4 k4 l4 GA
      unfold tv
      go_wp2_with fail
      refine (rinside_any gd Ag ng cg _ IG.out (Tm.Tg.fits_of_ok KG.out) (by omega)).mono ?_
      rintro e w5 ⟨I, ni, ci, rfl, hm5⟩
      have hni : 10 ≤ ni ∧ ni ≤ 149 := by
        have k1 := hm5.len
        have k2 := inside_least gd
        have k3 := LG.out
        have k5 := Tm.shut_len (Tm.body gd.nums)
        unfold Tm.Tg.inside at k1 k2
        omega
      obtain ⟨hni0, hni1⟩ := hni
      have R5 := Lib.hid (R4.out.made hm5 (by omega))
      clear hm5 IG KG LG R4
      go_wp2_with fail
      refine (n_any S 12 _ R5.out.src (by omega) (by omega)).mono ?_
      rintro e w6 ⟨i0, ⟨hi1, hi2⟩, rfl, g6, s6⟩
      have R6 := Lib.hid ((R5.out.read hwS g6 s6).one (fb_nil _ _))
      clear R5 g6 s6
      go_wp2
      go_loopw [19, 20] (fun s19 s20 wr => ∃ (i : Int) (Nn : Option Addr) (nn cn : Nat), s20 = .int .i64 i ∧ 0 ≤ i ∧ s19 = .slice Nn nn cn ∧ (nn : Int) + 10 * i ≤ 110 ∧ Hid (R3 w S [.slice Nn nn cn, .slice I ni ci, .slice B m d] wr)) (fun _ s20 _ => (intOf s20).toNat)
      case atStart => exact ⟨i0, none, 0, 0, rfl, hi1, rfl, by omega, R6⟩
      case round =>
        obtain ⟨i, Nn, nn, cn, rfl, hi3, rfl, hi4, RR⟩ := hrel
        by_cases hlt : 0 < i
        · go_wp2_with fail
          refine Calls.mono (pick_lit S 8 wr.heap.size [0, 1, 2, 5, -1, 300, 2199023255552, -9223372036854775808] #[.int .i64 0, .int .i64 1, .int .i64 2, .int .i64 5, .int .i64 (-1), .int .i64 300, .int .i64 2199023255552, .int .i64 (-9223372036854775808)] wr rfl RR.out.src rfl (by omega) (by omega) ?_) ?_
          · intro i hi
            match i, hi with
            | 0, _ => rfl
            | 1, _ => rfl
            | 2, _ => rfl
            | 3, _ => rfl
            | 4, _ => rfl
            | 5, _ => rfl
            | 6, _ => rfl
            | 7, _ => rfl
          rintro e w8 ⟨x, hx, rfl, g8, s8⟩
          have hx2 : -9223372036854775808 ≤ x ∧ x ≤ 9223372036854775807 := by simp at hx; omega
          have R8 := Lib.hid (RR.out.read hwS g8 s8)
          clear hx g8 s8 RR
          go_wp2_with fail
          refine (put3 x R8.out (by simp) (by omega) hx2.1 hx2.2).mono ?_
          rintro e w9 ⟨N', n', c', rfl, -, hn', R9⟩
          have R9 := Lib.hid (R9.less [.slice N' n' c', .slice I ni ci, .slice B m d] (by intro v hv; simp at hv ⊢; rcases hv with h | h | h <;> simp [h]))
          clear R8 hx2
          go_wp2
          go_roundw
          case rel => exact ⟨i - 1, N', n', c', rfl, by omega, rfl, by omega, R9⟩
          case measure => simp [intOf]; omega
        · obtain rfl : i = 0 := by omega
          clear hlt hi3 hi1 hi2 R6
          have hnn : nn ≤ 110 := by omega
          clear hi4
          go_wp2_with fail
          refine (stuff3 RR.out (A := I) (n := ni) (c := ci) (by simp) (by omega)).mono ?_
          rintro e W6 ⟨F, nf, cf, rfl, hf1, hf2, R6⟩
          have R6 := Lib.hid R6
          clear RR
          have M0 := Lib.hid (made_lit W6 W6 #[] 0 [] rfl rfl (grown_refl _ _) (by omega))
          obtain ⟨-, hfc1, hfc2, lf, hF⟩ := R6.out.row (A := F) (n := nf) (c := cf) (by simp)
          have RF := Lib.hid (hF.rb.grown (grown_alloc W6 (Obj.cells #[] 5) none))
          clear hF
          go_upto_region 22 with (first | (at_builtin; refine wpList_app rfl (.tmp 121) (.tmp 122) rfl rfl rfl M0.out RF.out (by omega) nf (by omega) ?_; intro C cc w7 hm7 _; have M7 := Lib.hid hm7; clear hm7) | fail)
          have R7 := Lib.hid (R6.out.step M7.out.gr)
          obtain ⟨g, rfl, hg, -, -, -⟩ := M7.out.at0 0 (by omega)
          have hgS : S < g := by have := R6.out.lt; omega
          go_cut [] (fun wx => Hid (R3 w S [.slice (some ⟨g, 0, none⟩) nf cc, .slice F nf cf, .slice Nn nn cn, .slice I ni ci, .slice B m d] wx))
          case first =>
            refine wp_region_held_drew (S := fun _ => True) (by kernel_rfl) trivial (fun hHeld => ?_)
            try simp only [Act.put, List.setIfInBounds_toArray, List.set_cons_zero, List.set_cons_succ]
            refine wpAnyH_take (i := 0) (oi := { dst := some 124, op := Op.move (Operand.tmp 22), type := 25, pos := "law.go:64", after := #[], guard := none }) (v := ?_) rfl (by kernel_rfl) (by kernel_rfl) (by kernel_rfl) (fun _ _ _ h => h) (Or.inl ⟨by rfl, ?_⟩) (by assumption) ?_
            rotate_left 1
            · intro w hSw; first | (go_simp; done) | (go_simp; with_reducible rfl)
            try simp only [Act.put, List.setIfInBounds_toArray, List.set_cons_zero, List.set_cons_succ]
            refine wpAnyH_take (i := 1) (oi := { dst := some 125, op := Op.move (Operand.tmp 9), type := 27, pos := "law.go:64", after := #[], guard := none }) (v := ?_) rfl (by kernel_rfl) (by kernel_rfl) (by kernel_rfl) (fun _ _ _ h => h) (Or.inl ⟨by rfl, ?_⟩) (by assumption) ?_
            rotate_left 1
            · intro w hSw; first | (go_simp; done) | (go_simp; with_reducible rfl)
            try simp only [Act.put, List.setIfInBounds_toArray, List.set_cons_zero, List.set_cons_succ]
            refine wpAnyH_take (i := 2) (oi := { dst := some 126, op := Op.move (Operand.tmp 22), type := 25, pos := "law.go:64", after := #[], guard := none }) (v := ?_) rfl (by kernel_rfl) (by kernel_rfl) (by kernel_rfl) (fun _ _ _ h => h) (Or.inl ⟨by rfl, ?_⟩) (by assumption) ?_
            rotate_left 1
            · intro w hSw; first | (go_simp; done) | (go_simp; with_reducible rfl)
            try simp only [Act.put, List.setIfInBounds_toArray, List.set_cons_zero, List.set_cons_succ]
            refine wpAnyH_take (i := 3) (oi := { dst := some 127, op := Op.call { callee := Callee.builtin Builtin.len, args := #[Operand.tmp 126], argTypes := #[25] }, type := 3, pos := "law.go:64", after := #[{ on := 2, ground := Ground.data }], guard := none }) (v := ?_) rfl (by kernel_rfl) (by kernel_rfl) (by kernel_rfl) (fun _ _ _ h => h) (Or.inl ⟨by rfl, ?_⟩) (by assumption) ?_
            rotate_left 1
            · intro w hSw; first | (go_simp; done) | (go_simp; with_reducible rfl)
            try simp only [Act.put, List.setIfInBounds_toArray, List.set_cons_zero, List.set_cons_succ]
            refine wpAnyH_take (i := 7) (oi := { dst := some 131, op := Op.move (Operand.tmp 9), type := 27, pos := "law.go:64", after := #[], guard := none }) (v := ?_) rfl (by kernel_rfl) (by kernel_rfl) (by kernel_rfl) (fun _ _ _ h => h) (Or.inl ⟨by rfl, ?_⟩) (by assumption) ?_
            rotate_left 1
            · intro w hSw; first | (go_simp; done) | (go_simp; with_reducible rfl)
            try simp only [Act.put, List.setIfInBounds_toArray, List.set_cons_zero, List.set_cons_succ]
            refine wpAnyH_ready (rs := [4]) (by kernel_rfl) (by simp) (AllReadyH.cons (o := { dst := some 128, op := Op.call { callee := Callee.value (Operand.func 19), args := #[Operand.tmp 125, Operand.tmp 127], argTypes := #[27, 3] }, type := 3, pos := "law.go:64", after := #[{ on := 1, ground := Ground.data }, { on := 3, ground := Ground.data }], guard := none }) rfl (fun K hK => ?_) AllReadyH.nil)
            go_simp
            refine (n_any S nf _ (R7.out.src.grown (grown_drew w7 none)) (by omega) (by omega)).mono ?_
            rintro e wa ⟨r, hr, rfl, ga, sa⟩
            obtain ⟨i, rfl⟩ := Int.eq_ofNat_of_zero_le hr.1
            have hin : i < nf := by omega
            have GA : Hid (w7.grownBy wa (some S)) := grown_trans (grown_drew w7 (some S)) ga
            have SA := Lib.hid sa
            clear ga sa hr
            have HC : Hid (∀ w', w7.grownBy w' (some S) → w'.cell? ⟨g, i, none⟩ = some (.int .u8 ((([] ++ lf).getD i 0).toNat : Int)) ∧ w'.frozen? ⟨g, i, none⟩ = false) := fun w' g' => made_cell8 M7.out g' (by omega) hin
            generalize ([] ++ lf).getD i 0 = xb at HC
            have hxl := xb.toNat_lt
            try dsimp only
            refine hK.out _ _ trivial (fun hHeld => ?_)
            clear hK K
            try simp only [Act.put, List.setIfInBounds_toArray, List.set_cons_zero, List.set_cons_succ]
            refine wpAnyH_take (i := 5) (oi := { dst := some 129, op := Op.indexAddr 25 (Operand.tmp 124) (Operand.tmp 128), type := 0, pos := "law.go:64", after := #[{ on := 0, ground := Ground.data }, { on := 4, ground := Ground.data }], guard := none }) (v := ?_) rfl (by kernel_rfl) (by kernel_rfl) (by kernel_rfl) (fun _ _ _ h => h) (Or.inl ⟨by rfl, ?_⟩) (by assumption) ?_
            rotate_left 1
            · intro w hSw; first | (go_simp; done) | (go_simp; with_reducible rfl)
            try simp only [Act.put, List.setIfInBounds_toArray, List.set_cons_zero, List.set_cons_succ]
            refine wpAnyH_ready (rs := [6, 8]) (by kernel_rfl) (by simp) (AllReadyH.cons (o := { dst := some 130, op := Op.load 5 (Operand.tmp 129), type := 5, pos := "law.go:64", after := #[{ on := 5, ground := Ground.data }], guard := none }) rfl (fun K hK => ?_) (AllReadyH.cons (o := { dst := some 132, op := Op.call { callee := Callee.value (Operand.func 19), args := #[Operand.tmp 131, Operand.const (Value.int IntKind.i64 8)], argTypes := #[27, 3] }, type := 3, pos := "law.go:64", after := #[{ on := 7, ground := Ground.data }, { on := 4, ground := Ground.chain }], guard := none }) rfl (fun K hK => ?_) AllReadyH.nil))
            · skip
              have q1 := (HC.out _ GA.out).1
              go_simp
              clear q1
              refine hK.out _ _ trivial (fun hHeld => ?_)
              clear hK K
              try simp only [Act.put, List.setIfInBounds_toArray, List.set_cons_zero, List.set_cons_succ]
              refine wpAnyH_ready (rs := [8]) (by kernel_rfl) (by simp) (AllReadyH.cons (o := { dst := some 132, op := Op.call { callee := Callee.value (Operand.func 19), args := #[Operand.tmp 131, Operand.const (Value.int IntKind.i64 8)], argTypes := #[27, 3] }, type := 3, pos := "law.go:64", after := #[{ on := 7, ground := Ground.data }, { on := 4, ground := Ground.chain }], guard := none }) rfl (fun K hK => ?_) AllReadyH.nil)
              go_simp
              refine (n_any S 8 wa SA.out (by omega) (by omega)).mono ?_
              rintro e wb ⟨r, hr, rfl, gb, sb⟩
              obtain ⟨k, rfl⟩ := Int.eq_ofNat_of_zero_le hr.1
              have hk8 : k < 8 := by omega
              have GB : Hid (w7.grownBy wb (some S)) := grown_trans GA.out gb
              have SB := Lib.hid sb
              clear gb sb hr
              obtain ⟨pb, hpb⟩ := shl8 k hk8
              try dsimp only
              refine hK.out _ _ trivial (fun hHeld => ?_)
              clear hK K
              try simp only [Act.put, List.setIfInBounds_toArray, List.set_cons_zero, List.set_cons_succ]
              refine wpAnyH_take (i := 9) (oi := { dst := some 133, op := Op.binOp BinOp.shl 5 (Operand.const (Value.int IntKind.u8 1)) (Operand.tmp 132) 3, type := 5, pos := "law.go:64", after := #[{ on := 8, ground := Ground.data }], guard := none }) (v := ?_) rfl (by kernel_rfl) (by kernel_rfl) (by kernel_rfl) (fun _ _ _ h => h) (Or.inl ⟨by rfl, ?_⟩) (by assumption) ?_
              rotate_left 1
              · intro w hSw; first | (go_simp; done) | (go_simp; with_reducible rfl)
              try simp only [Act.put, List.setIfInBounds_toArray, List.set_cons_zero, List.set_cons_succ]
              have E1 := xor8_any xb pb
              have hzl := (xb ^^^ pb).toNat_lt
              have R8 := Lib.hid (R6.out.store hwS M7.out hg (by omega) GB.out SB.out i (xb ^^^ pb))
              generalize xb ^^^ pb = zb at *
              refine wpAnyH_take (i := 10) (oi := { dst := some 134, op := Op.binOp BinOp.xor 5 (Operand.tmp 130) (Operand.tmp 133) 5, type := 5, pos := "law.go:64", after := #[{ on := 6, ground := Ground.data }, { on := 9, ground := Ground.data }], guard := none }) (v := ?_) rfl (by kernel_rfl) (by kernel_rfl) (by kernel_rfl) (fun _ _ _ h => h) (Or.inl ⟨by rfl, ?_⟩) (by assumption) ?_
              rotate_left 1
              · intro w hSw; first | (go_simp; done) | (go_simp; with_reducible rfl)
              try simp only [Act.put, List.setIfInBounds_toArray, List.set_cons_zero, List.set_cons_succ]
              refine wpAnyH_take (i := 11) (oi := { dst := some 135, op := Op.indexAddr 25 (Operand.tmp 124) (Operand.tmp 128), type := 0, pos := "law.go:64", after := #[{ on := 0, ground := Ground.data }, { on := 4, ground := Ground.data }, { on := 0, ground := Ground.phase }, { on := 1, ground := Ground.phase }, { on := 2, ground := Ground.phase }, { on := 3, ground := Ground.phase }, { on := 4, ground := Ground.phase }, { on := 5, ground := Ground.phase }, { on := 6, ground := Ground.phase }, { on := 7, ground := Ground.phase }, { on := 8, ground := Ground.phase }, { on := 9, ground := Ground.phase }, { on := 10, ground := Ground.phase }], guard := none }) (v := ?_) rfl (by kernel_rfl) (by kernel_rfl) (by kernel_rfl) (fun _ _ _ h => h) (Or.inl ⟨by rfl, ?_⟩) (by assumption) ?_
              rotate_left 1
              · intro w hSw; first | (go_simp; done) | (go_simp; with_reducible rfl)
              try simp only [Act.put, List.setIfInBounds_toArray, List.set_cons_zero, List.set_cons_succ]
              obtain ⟨q1, q2⟩ := HC.out _ GB.out
              refine wpAnyH_ready (rs := [12]) (by kernel_rfl) (by simp) (AllReadyH.cons (o := { dst := none, op := Op.store 5 (Operand.tmp 135) (Operand.tmp 134), type := 0, pos := "law.go:64", after := #[{ on := 11, ground := Ground.data }, { on := 10, ground := Ground.data }, { on := 8, ground := Ground.chain }, { on := 0, ground := Ground.phase }, { on := 1, ground := Ground.phase }, { on := 2, ground := Ground.phase }, { on := 3, ground := Ground.phase }, { on := 4, ground := Ground.phase }, { on := 5, ground := Ground.phase }, { on := 6, ground := Ground.phase }, { on := 7, ground := Ground.phase }, { on := 8, ground := Ground.phase }, { on := 9, ground := Ground.phase }, { on := 10, ground := Ground.phase }], guard := none }) rfl (fun K hK => ?_) AllReadyH.nil)
              go_simp
              refine hK.out _ _ trivial (fun hHeld => ?_)
              clear hK K
              try simp only [Act.put, List.setIfInBounds_toArray, List.set_cons_zero, List.set_cons_succ]
              refine wpAnyH_done (by kernel_rfl) ?_ _
              go_wp2_with fail
              go_meet
              case rel => exact R8
            · skip
              go_simp
              refine (n_any S 8 wa SA.out (by omega) (by omega)).mono ?_
              rintro e wb ⟨r, hr, rfl, gb, sb⟩
              obtain ⟨k, rfl⟩ := Int.eq_ofNat_of_zero_le hr.1
              have hk8 : k < 8 := by omega
              have GB : Hid (w7.grownBy wb (some S)) := grown_trans GA.out gb
              have SB := Lib.hid sb
              clear gb sb hr
              obtain ⟨pb, hpb⟩ := shl8 k hk8
              try dsimp only
              refine hK.out _ _ trivial (fun hHeld => ?_)
              clear hK K
              try simp only [Act.put, List.setIfInBounds_toArray, List.set_cons_zero, List.set_cons_succ]
              refine wpAnyH_take (i := 9) (oi := { dst := some 133, op := Op.binOp BinOp.shl 5 (Operand.const (Value.int IntKind.u8 1)) (Operand.tmp 132) 3, type := 5, pos := "law.go:64", after := #[{ on := 8, ground := Ground.data }], guard := none }) (v := ?_) rfl (by kernel_rfl) (by kernel_rfl) (by kernel_rfl) (fun _ _ _ h => h) (Or.inl ⟨by rfl, ?_⟩) (by assumption) ?_
              rotate_left 1
              · intro w hSw; first | (go_simp; done) | (go_simp; with_reducible rfl)
              try simp only [Act.put, List.setIfInBounds_toArray, List.set_cons_zero, List.set_cons_succ]
              refine wpAnyH_ready (rs := [6]) (by kernel_rfl) (by simp) (AllReadyH.cons (o := { dst := some 130, op := Op.load 5 (Operand.tmp 129), type := 5, pos := "law.go:64", after := #[{ on := 5, ground := Ground.data }], guard := none }) rfl (fun K hK => ?_) AllReadyH.nil)
              have q1 := (HC.out _ GB.out).1
              go_simp
              clear q1
              refine hK.out _ _ trivial (fun hHeld => ?_)
              clear hK K
              try simp only [Act.put, List.setIfInBounds_toArray, List.set_cons_zero, List.set_cons_succ]
              have E1 := xor8_any xb pb
              have hzl := (xb ^^^ pb).toNat_lt
              have R8 := Lib.hid (R6.out.store hwS M7.out hg (by omega) GB.out SB.out i (xb ^^^ pb))
              generalize xb ^^^ pb = zb at *
              refine wpAnyH_take (i := 10) (oi := { dst := some 134, op := Op.binOp BinOp.xor 5 (Operand.tmp 130) (Operand.tmp 133) 5, type := 5, pos := "law.go:64", after := #[{ on := 6, ground := Ground.data }, { on := 9, ground := Ground.data }], guard := none }) (v := ?_) rfl (by kernel_rfl) (by kernel_rfl) (by kernel_rfl) (fun _ _ _ h => h) (Or.inl ⟨by rfl, ?_⟩) (by assumption) ?_
              rotate_left 1
              · intro w hSw; first | (go_simp; done) | (go_simp; with_reducible rfl)
              try simp only [Act.put, List.setIfInBounds_toArray, List.set_cons_zero, List.set_cons_succ]
              refine wpAnyH_take (i := 11) (oi := { dst := some 135, op := Op.indexAddr 25 (Operand.tmp 124) (Operand.tmp 128), type := 0, pos := "law.go:64", after := #[{ on := 0, ground := Ground.data }, { on := 4, ground := Ground.data }, { on := 0, ground := Ground.phase }, { on := 1, ground := Ground.phase }, { on := 2, ground := Ground.phase }, { on := 3, ground := Ground.phase }, { on := 4, ground := Ground.phase }, { on := 5, ground := Ground.phase }, { on := 6, ground := Ground.phase }, { on := 7, ground := Ground.phase }, { on := 8, ground := Ground.phase }, { on := 9, ground := Ground.phase }, { on := 10, ground := Ground.phase }], guard := none }) (v := ?_) rfl (by kernel_rfl) (by kernel_rfl) (by kernel_rfl) (fun _ _ _ h => h) (Or.inl ⟨by rfl, ?_⟩) (by assumption) ?_
              rotate_left 1
              · intro w hSw; first | (go_simp; done) | (go_simp; with_reducible rfl)
              try simp only [Act.put, List.setIfInBounds_toArray, List.set_cons_zero, List.set_cons_succ]
              obtain ⟨q1, q2⟩ := HC.out _ GB.out
              refine wpAnyH_ready (rs := [12]) (by kernel_rfl) (by simp) (AllReadyH.cons (o := { dst := none, op := Op.store 5 (Operand.tmp 135) (Operand.tmp 134), type := 0, pos := "law.go:64", after := #[{ on := 11, ground := Ground.data }, { on := 10, ground := Ground.data }, { on := 8, ground := Ground.chain }, { on := 0, ground := Ground.phase }, { on := 1, ground := Ground.phase }, { on := 2, ground := Ground.phase }, { on := 3, ground := Ground.phase }, { on := 4, ground := Ground.phase }, { on := 5, ground := Ground.phase }, { on := 6, ground := Ground.phase }, { on := 7, ground := Ground.phase }, { on := 8, ground := Ground.phase }, { on := 9, ground := Ground.phase }, { on := 10, ground := Ground.phase }], guard := none }) rfl (fun K hK => ?_) AllReadyH.nil)
              go_simp
              refine hK.out _ _ trivial (fun hHeld => ?_)
              clear hK K
              try simp only [Act.put, List.setIfInBounds_toArray, List.set_cons_zero, List.set_cons_succ]
              refine wpAnyH_done (by kernel_rfl) ?_ _
              go_wp2_with fail
              go_meet
              case rel => exact R8
          case rest =>
            have RC := hcut
            clear M7 R7 R6 M0 RF
            obtain ⟨-, hcf1, hcf2, -⟩ := RC.out.row (A := F) (n := nf) (c := cf) (by simp)
            obtain ⟨-, hci1, hci2, -⟩ := RC.out.row (A := I) (n := ni) (c := ci) (by simp)
            obtain ⟨q, hq⟩ : ∃ q : Nat, ni = q + 4 := ⟨ni - 4, by omega⟩
            have HQ := Lib.hid hq
            have hq6 : 6 ≤ q ∧ q ≤ 145 := by omega
            obtain ⟨hq1, hq2⟩ := hq6
            clear hq
            go_upto_region 23 with fail
            go_cut [165, 166, 167] (fun s165 s166 s167 wx => ∃ D : Nat, s165 = .slice (some ⟨D, 0, none⟩) 9 9 ∧ s166 = .int .i64 9 ∧ s167 = .int .i64 0 ∧ Hid (w.grownBy wx none) ∧ Hid (Nine wx D S))
            case first =>
              refine region23 hq1 hq2 HQ hci1 hnn h3 hf1 (by omega) hcf1 hwS RC.out ?_ ?_
              · intro c a dst v w' h; cases dst <;> exact h
              · intro x136 x137 x138 x139 x140 x141 x142 x143 x144 x145 x146 x147 x148 x149 x150 x151 x152 x153 x154 x155 x156 x157 x158 x159 x160 x161 x162 x163 x164 D9 w' gn nn'
                have GN := Lib.hid gn
                have NN := Lib.hid nn'
                clear gn nn'
                go_wp2_with fail
                go_meet
                case rel => exact ⟨D9, rfl, rfl, rfl, GN, NN⟩
            case rest =>
              obtain ⟨D9, rfl, rfl, rfl, GN, NN⟩ := hcut
              clear RC HQ
              go_wp2_with fail
              go_loopw [167] (fun s167 wr => ∃ j : Nat, s167 = .int .i64 j ∧ j ≤ 9 ∧ Hid (w.grownBy wr none) ∧ Hid (Nine wr D9 S)) (fun s167 _ => 9 - (intOf s167).toNat)
              case atStart => exact ⟨0, rfl, by omega, GN, NN⟩
              case round =>
                obtain ⟨j, rfl, hj9, GR, NR⟩ := hrel
                by_cases hlt : j < 9
                · obtain ⟨v, hv, hf⟩ := NR.out j hlt
                  obtain ⟨Av, nv, cv, lv, rfl, hn1, hn2, hn3, hR⟩ := hf
                  have RV := Lib.hid hR.rb
                  clear hR
                  go_wp2_with fail
                  clear hv
                  refine (decode_any Av nv cv lv wr RV.out hn2 hn3 (by omega) (HT.out _ GR.out)).mono ?_
                  rintro e w10 ⟨g10, u, V10, m10, c10, er, rfl, i10, hm10, hd⟩
                  have HD := Lib.hid hd
                  have GA : w10.grownBy (w10.alloc (tcells u (.slice V10 m10 c10))) none := World.grownBy_alloc _ _ _
                  have GX := Lib.hid (grown_trans g10 GA)
                  have RV := Lib.hid (RV.out.grown GX.out)
                  have CU := Lib.hid (Six.made w10 u (.slice V10 m10 c10))
                  have IU := Lib.hid (i10.grown GA)
                  clear hd g10 GA i10
                  unfold tv
                  go_wp2_with fail
                  obtain ⟨P, hP⟩ : ∃ P, w10.heap.size = P := ⟨_, rfl⟩
                  rw [hP] at CU ⊢
                  unfold tcells at GX RV CU IU
                  generalize (w10.alloc (Obj.cells #[.int .i64 u.st, .int .i64 u.ep, .int .i64 u.sq, .int .i64 u.tm, .int .i64 u.kd, .slice V10 m10 c10] 24)) = W10 at *
                  clear hP
                  refine (rdec_at HD.out RV.out (by omega)).mono ?_
                  rintro e w11 ⟨g11, V11, m11, c11, rfl, i11, hm11⟩
                  have GA : w11.grownBy (w11.alloc (tcells u (.slice V11 m11 c11))) none := World.grownBy_alloc _ _ _
                  have gx := grown_trans g11 GA
                  have GX := Lib.hid (grown_trans GX.out gx)
                  have CU := Lib.hid (CU.out.grown gx (by simp))
                  have IU := Lib.hid (IU.out.grown gx)
                  have CW := Lib.hid (Six.made w11 u (.slice V11 m11 c11))
                  have IW := Lib.hid (i11.grown GA)
                  clear g11 GA i11 gx RV HD
                  unfold tv
                  obtain ⟨⟨z0, z1, z2, z3, z4, z5⟩, -⟩ := CU.out
                  obtain ⟨⟨y0, y1, y2, y3, y4, y5⟩, -⟩ := CW.out
                  unfold tcells at GX CU CW IU IW z0 z1 z2 z3 z4 z5 y0 y1 y2 y3 y4 y5
                  go_wp2_with fail
                  refine (same_at (Tm.same_self u) IU.out IW.out (by omega) (by omega)).mono ?_
                  rintro e w12 ⟨rfl, g12⟩
                  have GX := Lib.hid (grown_trans GX.out g12)
                  have GZ := Lib.hid (grown_trans GR.out GX.out)
                  have NZ := Lib.hid (NR.out.grown GX.out)
                  clear z0 z1 z2 z3 z4 z5 y0 y1 y2 y3 y4 y5 g12
                  go_wp2
                  go_roundw
                  case rel => exact ⟨j + 1, by go_num, by omega, GZ, NZ⟩
                  case measure => simp [intOf]; omega
                · obtain rfl : j = 9 := by omega
                  clear hlt hj9
                  go_wp2_with fail
                  refine (awake_any _ (HT.out _ GR.out)).mono ?_
                  rintro e w9 ⟨rfl, g9⟩
                  have GF := Lib.hid (grown_below (grown_trans GR.out g9))
                  clear g9
                  go_wp2
                  go_ret
                  exact ⟨rfl, GF.out⟩
end Go.Proofs.YtcjbhkocpfkcbaaDoor.Wr
