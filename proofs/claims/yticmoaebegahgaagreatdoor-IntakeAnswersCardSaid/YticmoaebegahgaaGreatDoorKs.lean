import Derived.Test.YticmoaebegahgaaGreatDoorKr
import Derived.BigRegion
set_option linter.all false
namespace Go.Proofs.YticmoaebegahgaaGreatDoor.Wr
open Go.ChangeShapes Go.WideShapes Go.ChangeAt Go.RowKit
def RDec (l : List UInt8) (w : World) (e : Ending) (w' : World) : Prop :=
  w.grownBy w' none ∧ ∃ t V m cv er, e = .returned (.tuple #[tv t (.slice V m cv), .int .i64 er]) ∧ IR w' V m t.vs ∧ m ≤ 16 ∧ Tm.Dc l t er ∧ (m ≤ cv ∧ cv ≤ 9223372036854775807) ∧ ∀ b, V.map (·.block) = some b → w.heap.size ≤ b
theorem rdec_bad {l : List UInt8} {w w' : World} {er : Int} (g : w.grownBy w' none) (h : Tm.Dc l Tm.zero er) : RDec l w (.returned (.tuple #[tv Tm.zero nilV, .int .i64 er])) w' :=
  ⟨g, Tm.zero, none, 0, 0, er, rfl, IR.nil _ _, by omega, h, ⟨by omega, by omega⟩, fun b hb => by cases hb⟩
set_option maxRecDepth 100000 in
set_option maxHeartbeats 2000000 in
theorem rdecY_any (A : Option Addr) (n c : Nat) (l : List UInt8) (w : World) (h : RB w A n l) (hn : n ≤ 900000) :
    Calls Tryz.prog 42 #[.slice A n c] w (RDec l w) := by
  have HL := Hi h.1
  have HB := Hi h
  by_cases hlim : 400 < n
  · have HD := Hi (Tm.Dc.limit (l := l) (by rw [HL.out]; exact hlim))
    have hlim' : (400 : Int) < (n : Int) := by omega
    go_enter Tryz.func42, Tryz.ntmps42
    go_wp2
    refine bodyPost_ret (v := .tuple #[tv Tm.zero nilV, .int .i64 4]) (by simp [results, Tryz.results42, go_sem, tv, Tm.zero, nilV]) rfl (rdec_bad (World.grownBy_alloc _ _ _) HD.out)
  · have hlen : l.length ≤ 400 := by rw [HL.out]; omega
    have hlim' : ¬ (400 : Int) < (n : Int) := by omega
    go_enter Tryz.func42, Tryz.ntmps42
    go_wp2_with fail
    obtain ⟨X, hX⟩ : ∃ X, w.heap.size = X := ⟨_, rfl⟩
    have X1 : Hid (Six (w.alloc (tcells Tm.zero nilV)) X Tm.zero nilV) := by rw [← hX]; exact Six.made w _ _
    have G1 : Hid (w.grownBy (w.alloc (tcells Tm.zero nilV)) none) := World.grownBy_alloc _ _ _
    rw [hX]
    unfold tcells nilV at X1 G1
    dsimp only [Tm.zero] at X1 G1
    generalize (w.alloc (Obj.cells #[.int .i64 0, .int .i64 0, .int .i64 0, .int .i64 0, .int .i64 0, .slice none 0 0] 28)) = W1 at *
    refine (runstuff_any A n c l W1 (HB.out.grown G1.out) hn).mono ?_
    rintro e W2 ⟨A2, n2, c2, rfl, hm2⟩
    have G2 := Hi (grown_trans G1.out hm2.gr)
    have X2 : Hid (Six W2 X Tm.zero nilV) := X1.out.grown hm2.gr (by simp)
    have R2 := Hi hm2.rb
    obtain ⟨hc2a, hc2b, _⟩ := hm2.shape
    clear X1 G1 hm2
    obtain ⟨⟨x, er⟩, hU⟩ : ∃ r, Wm.unst l = r := ⟨_, rfl⟩
    rw [hU] at R2 ⊢
    dsimp only at R2 ⊢
    by_cases her : er = 0
    · subst her
      have hx : x.length ≤ l.length := by have := unst_len (l := l) (by rw [hU]); rw [hU] at this; exact this
      have hn2 : n2 ≤ 400 := by have := R2.out.1; omega
      have hxn := R2.out.1
      by_cases h4 : n2 < 4
      · have HD := Hi (Tm.Dc.short x hlen hU (by omega))
        have h4' : (n2 : Int) < 4 := by omega
        clear hU
        obtain ⟨⟨a0, a1, a2, a3, a4, a5⟩, b0, b1, b2, b3, b4, b5⟩ := X2.out
        go_wp2
        obtain ⟨⟨q0, q1, q2, q3, q4, q5⟩, _⟩ := X2.out.store Tm.zero nilV
        unfold six nilV at q0 q1 q2 q3 q4 q5
        dsimp only [Tm.zero] at q0 q1 q2 q3 q4 q5
        refine bodyPost_ret (v := .tuple #[tv Tm.zero nilV, .int .i64 2]) (by simp [results, Tryz.results42, go_sem, q0, q1, q2, q3, q4, q5, tv, Tm.zero, nilV]) rfl (rdec_bad (grown_off G2.out (six_grown _ X Tm.zero nilV) (by omega)) HD.out)
      · obtain ⟨m, rfl⟩ : ∃ m, n2 = m + 4 := ⟨n2 - 4, by omega⟩
        obtain ⟨y, z, rfl, hz⟩ : ∃ y z, x = y ++ z ∧ z.length = 4 := ⟨x.take m, x.drop m, (List.take_append_drop m x).symm, by rw [List.length_drop]; omega⟩
        have hy : y.length = m := by rw [List.length_append] at hxn; omega
        obtain ⟨B, O, rfl, _⟩ := R2.out.2 0 (by omega)
        have HY : Hid (RB W2 (some ⟨B, O, none⟩) m y) := by
          have := R2.out.take m (by omega)
          rw [← hy, List.take_left] at this
          rw [← hy]; exact this
        have h4' : ¬ ((m : Int) + 4) < 4 := by omega
        have i2 : m ≤ c2 := by omega
        have i3 : (m : Int) ≤ (c2 : Int) := by omega
        have i4 : IntKind.i64.wrap (m : Int) = (m : Int) := IntWalk.i64_in _ (by omega)
        by_cases hs : z = Tm.four (Wm.crc y)
        · subst hs
          have hxy : y ++ Tm.four (Wm.crc y) = Tm.shut y := rfl
          rw [hxy] at hU R2
          have hE : (Tm.shut y == Tm.shut y) = true := by simp
          have HU := Hi hU
          clear hU
          go_wp2_with fail
          refine wp_region_held_drew (S := (CSx (fun _ => True) (some ⟨B, O, none⟩) (m + 4) c2 (Tm.shut y))) (by kernel_rfl) ?_ (fun hHeld => ?_)
          · exact csx_mk trivial R2.out
          try simp only [Act.put, lsA, lsB, lsC]
          refine wpAnyH_take (i := 0) (oi := { dst := some 29, op := Op.move (Operand.tmp 4), type := 22, pos := "ref.go:75", after := #[], guard := none }) (v := ?_) rfl (by kernel_rfl) (by kernel_rfl) (by kernel_rfl) (fun _ _ _ h => h) (Or.inl ⟨by rfl, ?_⟩) (by assumption) ?_
          rotate_left 1
          · intro w hSw; obtain ⟨_, s2⟩ := hSw; first | (go_simp; done) | (go_simp; with_reducible rfl)
          try simp only [Act.put, lsA, lsB, lsC]
          refine wpAnyH_take (i := 1) (oi := { dst := some 30, op := Op.move (Operand.tmp 4), type := 22, pos := "ref.go:75", after := #[], guard := none }) (v := ?_) rfl (by kernel_rfl) (by kernel_rfl) (by kernel_rfl) (fun _ _ _ h => h) (Or.inl ⟨by rfl, ?_⟩) (by assumption) ?_
          rotate_left 1
          · intro w hSw; obtain ⟨_, s2⟩ := hSw; first | (go_simp; done) | (go_simp; with_reducible rfl)
          try simp only [Act.put, lsA, lsB, lsC]
          refine wpAnyH_take (i := 2) (oi := { dst := some 31, op := Op.call { callee := Callee.builtin Builtin.len, args := #[Operand.tmp 30], argTypes := #[22] }, type := 3, pos := "ref.go:75", after := #[{ on := 1, ground := Ground.data }], guard := none }) (v := ?_) rfl (by kernel_rfl) (by kernel_rfl) (by kernel_rfl) (fun _ _ _ h => h) (Or.inl ⟨by rfl, ?_⟩) (by assumption) ?_
          rotate_left 1
          · intro w hSw; obtain ⟨_, s2⟩ := hSw; first | (go_simp; done) | (go_simp; with_reducible rfl)
          try simp only [Act.put, lsA, lsB, lsC]
          refine wpAnyH_take (i := 3) (oi := { dst := some 32, op := Op.binOp BinOp.sub 3 (Operand.tmp 31) (Operand.const (Value.int IntKind.i64 4)) 3, type := 3, pos := "ref.go:75", after := #[{ on := 2, ground := Ground.data }], guard := none }) (v := ?_) rfl (by kernel_rfl) (by kernel_rfl) (by kernel_rfl) (fun _ _ _ h => h) (Or.inl ⟨by rfl, ?_⟩) (by assumption) ?_
          rotate_left 1
          · intro w hSw; obtain ⟨_, s2⟩ := hSw; first | (go_simp; done) | (go_simp; with_reducible rfl)
          try simp only [Act.put, lsA, lsB, lsC]
          refine wpAnyH_take (i := 4) (oi := { dst := some 33, op := Op.slice 22 (Operand.tmp 29) none (some (Operand.tmp 32)) none, type := 22, pos := "ref.go:75", after := #[{ on := 0, ground := Ground.data }, { on := 3, ground := Ground.data }], guard := none }) (v := ?_) rfl (by kernel_rfl) (by kernel_rfl) (by kernel_rfl) (fun _ _ _ h => h) (Or.inl ⟨by rfl, ?_⟩) (by assumption) ?_
          rotate_left 1
          · intro w hSw; obtain ⟨_, s2⟩ := hSw; first | (go_simp; done) | (go_simp; with_reducible rfl)
          try simp only [Act.put, lsA, lsB, lsC]
          refine wpAnyH_take (i := 7) (oi := { dst := some 36, op := Op.move (Operand.tmp 4), type := 22, pos := "ref.go:75", after := #[], guard := none }) (v := ?_) rfl (by kernel_rfl) (by kernel_rfl) (by kernel_rfl) (fun _ _ _ h => h) (Or.inl ⟨by rfl, ?_⟩) (by assumption) ?_
          rotate_left 1
          · intro w hSw; obtain ⟨_, s2⟩ := hSw; first | (go_simp; done) | (go_simp; with_reducible rfl)
          try simp only [Act.put, lsA, lsB, lsC]
          refine wpAnyH_take (i := 8) (oi := { dst := some 37, op := Op.convert 22 9 (Operand.tmp 36), type := 9, pos := "ref.go:75", after := #[{ on := 7, ground := Ground.data }], guard := none }) (v := ?_) rfl (by kernel_rfl) (by kernel_rfl) (by kernel_rfl) (fun _ _ _ h => h) (Or.inl ⟨by rfl, ?_⟩) (by assumption) ?_
          rotate_left 1
          · intro w hSw; obtain ⟨_, s2⟩ := hSw; first | (go_simp; done) | (go_simp; with_reducible rfl)
          try simp only [Act.put, lsA, lsB, lsC]
          refine wpAnyH_ready (rs := [5]) (by kernel_rfl) (by simp) (AllReadyH.cons (o := { dst := some 34, op := Op.call { callee := Callee.value (Operand.func 45), args := #[Operand.tmp 33], argTypes := #[22] }, type := 22, pos := "ref.go:75", after := #[{ on := 4, ground := Ground.data }], guard := none }) rfl (fun K hK => ?_) AllReadyH.nil)
          go_simp
          refine (rseal_any (some ⟨B, O, none⟩) m c2 y _ (HY.out.grown (grown_drew W2 none)) (by omega)).mono ?_
          rintro e W3 ⟨A3, N3, c3, rfl, hm3⟩
          try dsimp only
          refine hK.out _ _ ?_ (fun hHeld => ?_)
          · exact csx_mk trivial (R2.out.grown (grown_trans (grown_drew W2 none) hm3.gr))
          clear hK K
          try simp only [Act.put, lsA, lsB, lsC]
          have hS1 : (CSx (CSx (fun _ => True) (some ⟨B, O, none⟩) (m + 4) c2 (Tm.shut y)) A3 N3 c3 (Tm.shut y)) W3 := csx_mk hHeld hm3.rb
          refine held_strong (S := (CSx (fun _ => True) (some ⟨B, O, none⟩) (m + 4) c2 (Tm.shut y))) (S' := (CSx (CSx (fun _ => True) (some ⟨B, O, none⟩) (m + 4) c2 (Tm.shut y)) A3 N3 c3 (Tm.shut y))) (fun _ h => h.1) _ _ _ _ ?_
          refine wpAnyH_take (i := 6) (oi := { dst := some 35, op := Op.convert 22 9 (Operand.tmp 34), type := 9, pos := "ref.go:75", after := #[{ on := 5, ground := Ground.data }], guard := none }) (v := ?_) rfl (by kernel_rfl) (by kernel_rfl) (by kernel_rfl) (fun _ _ _ h => h) (Or.inl ⟨by rfl, ?_⟩) (by assumption) ?_
          rotate_left 1
          · intro w hSw; obtain ⟨⟨_, s2⟩, s3⟩ := hSw; first | (go_simp; done) | (go_simp; with_reducible rfl)
          try simp only [Act.put, lsA, lsB, lsC]
          refine wpAnyH_take (i := 9) (oi := { dst := some 38, op := Op.binOp BinOp.neq 9 (Operand.tmp 35) (Operand.tmp 37) 9, type := 4, pos := "ref.go:75", after := #[{ on := 6, ground := Ground.data }, { on := 8, ground := Ground.data }], guard := none }) (v := ?_) rfl (by kernel_rfl) (by kernel_rfl) (by kernel_rfl) (fun _ _ _ h => h) (Or.inl ⟨by rfl, ?_⟩) (by assumption) ?_
          rotate_left 1
          · intro w hSw; obtain ⟨⟨_, s2⟩, s3⟩ := hSw; first | (go_simp; done) | (go_simp; with_reducible rfl)
          try simp only [Act.put, lsA, lsB, lsC]
          refine wpAnyH_done (by kernel_rfl) ?_ _
          have g3 := grown_trans (grown_drew W2 none) hm3.gr
          have G3 := Hi (grown_trans G2.out g3)
          have X3 := Hi (X2.out.grown g3 (by simp))
          have Y3 := Hi (HY.out.grown g3)
          have hXlt : X < W3.heap.size := World.block_lt_of_cell? _ _ X3.out.1.1
          clear hS1 g3 hm3 R2 HY X2 G2 hHeld
          go_wp2
          go_loopw [6, 7] (fun s6 s7 wr => ∃ (ns : List Int) (k pos c6 : Nat) (A6 : Option Addr), s6 = .slice A6 k c6 ∧ s7 = .int .i64 pos ∧ pos ≤ m ∧ k ≤ pos ∧ Hid (MadeI W3 wr A6 k c6 ns) ∧ Hid (Rn y ns k pos)) (fun _ s7 _ => m - (intOf s7).toNat)
          case atStart => exact ⟨[], 0, 0, 0, none, rfl, rfl, by omega, by omega, madeI_nil _ _ (grown_refl _ _), rn_start y⟩
          case round =>
            obtain ⟨ns, k, pos, c6, A6, rfl, rfl, hpos, hkp, M6, RN⟩ := hrel
            have XR := Hi (X3.out.grown M6.out.gr (by simp))
            have GR := Hi (grown_trans G3.out M6.out.gr)
            by_cases hlt : pos < m
            · have RY : Hid (RB wr (some ⟨B, O, none⟩) m y) := Y3.out.grown M6.out.gr
              have HI := Hi (rint_any (some ⟨B, O, none⟩) m c2 y (pos : Int) wr RY.out (by omega) (by omega) (by omega))
              have hltI : (pos : Int) < (m : Int) := by omega
              obtain ⟨⟨x, q, er⟩, hr⟩ : ∃ r, Wm.intR y (pos : Int) = r := ⟨_, rfl⟩
              rw [hr] at HI
              by_cases he : er = 0
              · subst he
                obtain ⟨pos', rfl, hn, hlt2⟩ := RN.out.next hr
                have hp2 := hn.le
                have hk2 := hn.kp
                rw [hy] at hp2
                have RN := Hi hn
                clear hn hr
                go_wp2_with fail
                refine HI.out.mono ?_
                rintro e w' ⟨rfl, rfl⟩
                go_wp2_with (first
                  | (at_builtin; refine wpList_appI rfl (.tmp 59) (.tmp 61) rfl rfl rfl (M6.out.alloc _) (madeI_lit wr wr #[.int .i64 x] 1 [x] rfl rfl (grown_refl _ _) (by omega)).ir (by omega) (k + 1) rfl ?_; intro A7 c7 w7 hm7 _; have M7 := Hi hm7; clear hm7)
                  | fail)
                go_roundw
                case rel => exact ⟨ns ++ [x], k + 1, pos', c7, A7, rfl, rfl, hp2, hk2, M7, RN⟩
                case measure => simp [intOf]; omega
              · have HD := Hi (Tm.Dc.form y hlen HU.out (RN.out.stop (by omega) hr he))
                clear hr
                go_wp2_with fail
                refine HI.out.mono ?_
                rintro e w' ⟨rfl, rfl⟩
                obtain ⟨⟨a0, a1, a2, a3, a4, a5⟩, b0, b1, b2, b3, b4, b5⟩ := XR.out
                go_wp2
                obtain ⟨⟨q0, q1, q2, q3, q4, q5⟩, _⟩ := XR.out.store Tm.zero nilV
                unfold six nilV at q0 q1 q2 q3 q4 q5
                dsimp only [Tm.zero] at q0 q1 q2 q3 q4 q5
                refine bodyPost_ret (v := .tuple #[tv Tm.zero nilV, .int .i64 3]) (by simp [results, Tryz.results42, go_sem, q0, q1, q2, q3, q4, q5, tv, Tm.zero, nilV]) rfl (rdec_bad (grown_off GR.out (six_grown _ X Tm.zero nilV) (by omega)) HD.out)
            · obtain rfl : pos = m := by omega
              by_cases hk6 : k < 6
              · have HD := Hi (Tm.Dc.form y hlen HU.out (RN.out.few hy.symm hk6))
                have hk6I : (k : Int) < 6 := by omega
                obtain ⟨⟨a0, a1, a2, a3, a4, a5⟩, b0, b1, b2, b3, b4, b5⟩ := XR.out
                go_wp2
                obtain ⟨⟨q0, q1, q2, q3, q4, q5⟩, _⟩ := XR.out.store Tm.zero nilV
                unfold six nilV at q0 q1 q2 q3 q4 q5
                dsimp only [Tm.zero] at q0 q1 q2 q3 q4 q5
                refine bodyPost_ret (v := .tuple #[tv Tm.zero nilV, .int .i64 3]) (by simp [results, Tryz.results42, go_sem, q0, q1, q2, q3, q4, q5, tv, Tm.zero, nilV]) rfl (rdec_bad (grown_off GR.out (six_grown _ X Tm.zero nilV) (by omega)) HD.out)
              · obtain ⟨g, rfl, hg3, hgr, z5, _⟩ := M6.out.at0 5 (by omega)
                have hk6I : (5 : Int) < (k : Int) := by omega
                have hk6J : ¬ (k : Int) < 6 := by omega
                by_cases h5 : ns.getD 5 0 = (k : Int) - 6
                · have hgX : g ≠ X := by omega
                  have c6k : k ≤ c6 ∧ c6 ≤ 9223372036854775807 := ⟨M6.out.shape.1, M6.out.shape.2.1⟩
                  obtain ⟨_, e0, _, _, z0, _⟩ := M6.out.at0 0 (by omega)
                  injection e0 with e0; injection e0 with e0; subst e0
                  obtain ⟨_, e0, _, _, z1, _⟩ := M6.out.at0 1 (by omega)
                  injection e0 with e0; injection e0 with e0; subst e0
                  obtain ⟨_, e0, _, _, z2, _⟩ := M6.out.at0 2 (by omega)
                  injection e0 with e0; injection e0 with e0; subst e0
                  obtain ⟨_, e0, _, _, z3, _⟩ := M6.out.at0 3 (by omega)
                  injection e0 with e0; injection e0 with e0; subst e0
                  obtain ⟨_, e0, _, _, z4, _⟩ := M6.out.at0 4 (by omega)
                  injection e0 with e0; injection e0 with e0; subst e0
                  have HG := Hi (RN.out.good hy.symm (by omega) h5)
                  have HW := Hi (fun h => RN.out.bad hy.symm (by omega) h5 h)
                  have HTG := Hi (show tgOf ns = ⟨ns.getD 0 0, ns.getD 1 0, ns.getD 2 0, ns.getD 3 0, ns.getD 4 0, ns.drop 6⟩ from rfl)
                  have HDR : Hid (IR wr (some ⟨g, 6, none⟩) (k - 6) (ns.drop 6)) := by have := M6.out.ir.drop 6 (k - 6) (by omega); rw [Nat.zero_add] at this; exact this
                  rw [h5] at z5
                  have w5 : IntKind.i64.wrap ((k : Int) - 6) = (k : Int) - 6 := IntWalk.i64_in _ (by omega)
                  generalize ns.getD 0 0 = ta at *
                  generalize ns.getD 1 0 = tb at *
                  generalize ns.getD 2 0 = tc at *
                  generalize ns.getD 3 0 = td at *
                  generalize ns.getD 4 0 = te at *
                  generalize ns.drop 6 = vs at *
                  generalize tgOf ns = tg at *
                  have l0 : 0 < k := by omega
                  have l1 : (1 : Int) < (k : Int) := by omega
                  have l2 : (2 : Int) < (k : Int) := by omega
                  have l3 : (3 : Int) < (k : Int) := by omega
                  have l4 : (4 : Int) < (k : Int) := by omega
                  have l6 : (6 : Int) ≤ (k : Int) := by omega
                  by_cases hc6 : c6 = 6
                  · subst hc6
                    obtain rfl : k = 6 := by omega
                    have HDR : Hid (IR wr (some ⟨g, 0, none⟩) 0 vs) := ⟨HDR.out.1, fun i hi => absurd hi (by omega)⟩
                    go_wp2_with fail
                    refine wp_region_held_drew (S := (fun w' => w'.cell? ⟨g, 0, none⟩ = some (.int .i64 ta) ∧ w'.cell? ⟨g, 1, none⟩ = some (.int .i64 tb) ∧ w'.cell? ⟨g, 2, none⟩ = some (.int .i64 tc) ∧ w'.cell? ⟨g, 3, none⟩ = some (.int .i64 td) ∧ w'.cell? ⟨g, 4, none⟩ = some (.int .i64 te))) (by kernel_rfl) ?_ (fun hHeld => ?_)
                    · exact ⟨z0, z1, z2, z3, z4⟩
                    try simp only [Act.put, lsA, lsB, lsC]
                    refine wpAnyH_take (i := 0) (oi := { dst := some 77, op := Op.move (Operand.tmp 6), type := 26, pos := "ref.go:90", after := #[], guard := none }) (v := ?_) rfl (by kernel_rfl) (by kernel_rfl) (by kernel_rfl) (fun _ _ _ h => h) (Or.inl ⟨by rfl, ?_⟩) (by assumption) ?_
                    rotate_left 1
                    · intro w hSw; obtain ⟨s0, s1, s2, s3, s4⟩ := hSw; first | (go_simp; done) | (go_simp; with_reducible rfl)
                    try simp only [Act.put, lsA, lsB, lsC]
                    refine wpAnyH_take (i := 1) (oi := { dst := some 78, op := Op.indexAddr 26 (Operand.tmp 77) (Operand.const (Value.int IntKind.i64 0)), type := 0, pos := "ref.go:90", after := #[{ on := 0, ground := Ground.data }], guard := none }) (v := ?_) rfl (by kernel_rfl) (by kernel_rfl) (by kernel_rfl) (fun _ _ _ h => h) (Or.inl ⟨by rfl, ?_⟩) (by assumption) ?_
                    rotate_left 1
                    · intro w hSw; obtain ⟨s0, s1, s2, s3, s4⟩ := hSw; first | (go_simp; done) | (go_simp; with_reducible rfl)
                    try simp only [Act.put, lsA, lsB, lsC]
                    refine wpAnyH_take (i := 2) (oi := { dst := some 79, op := Op.load 3 (Operand.tmp 78), type := 3, pos := "ref.go:90", after := #[{ on := 1, ground := Ground.data }], guard := none }) (v := ?_) rfl (by kernel_rfl) (by kernel_rfl) (by kernel_rfl) (fun _ _ _ h => h) (Or.inl ⟨by rfl, ?_⟩) (by assumption) ?_
                    rotate_left 1
                    · intro w hSw; obtain ⟨s0, s1, s2, s3, s4⟩ := hSw; first | (go_simp; done) | (go_simp; with_reducible rfl)
                    try simp only [Act.put, lsA, lsB, lsC]
                    refine wpAnyH_take (i := 3) (oi := { dst := some 80, op := Op.move (Operand.tmp 6), type := 26, pos := "ref.go:90", after := #[], guard := none }) (v := ?_) rfl (by kernel_rfl) (by kernel_rfl) (by kernel_rfl) (fun _ _ _ h => h) (Or.inl ⟨by rfl, ?_⟩) (by assumption) ?_
                    rotate_left 1
                    · intro w hSw; obtain ⟨s0, s1, s2, s3, s4⟩ := hSw; first | (go_simp; done) | (go_simp; with_reducible rfl)
                    try simp only [Act.put, lsA, lsB, lsC]
                    refine wpAnyH_take (i := 4) (oi := { dst := some 81, op := Op.indexAddr 26 (Operand.tmp 80) (Operand.const (Value.int IntKind.i64 1)), type := 0, pos := "ref.go:90", after := #[{ on := 3, ground := Ground.data }], guard := none }) (v := ?_) rfl (by kernel_rfl) (by kernel_rfl) (by kernel_rfl) (fun _ _ _ h => h) (Or.inl ⟨by rfl, ?_⟩) (by assumption) ?_
                    rotate_left 1
                    · intro w hSw; obtain ⟨s0, s1, s2, s3, s4⟩ := hSw; first | (go_simp; done) | (go_simp; with_reducible rfl)
                    try simp only [Act.put, lsA, lsB, lsC]
                    refine wpAnyH_take (i := 5) (oi := { dst := some 82, op := Op.load 3 (Operand.tmp 81), type := 3, pos := "ref.go:90", after := #[{ on := 4, ground := Ground.data }], guard := none }) (v := ?_) rfl (by kernel_rfl) (by kernel_rfl) (by kernel_rfl) (fun _ _ _ h => h) (Or.inl ⟨by rfl, ?_⟩) (by assumption) ?_
                    rotate_left 1
                    · intro w hSw; obtain ⟨s0, s1, s2, s3, s4⟩ := hSw; first | (go_simp; done) | (go_simp; with_reducible rfl)
                    try simp only [Act.put, lsA, lsB, lsC]
                    refine wpAnyH_take (i := 6) (oi := { dst := some 83, op := Op.move (Operand.tmp 6), type := 26, pos := "ref.go:90", after := #[], guard := none }) (v := ?_) rfl (by kernel_rfl) (by kernel_rfl) (by kernel_rfl) (fun _ _ _ h => h) (Or.inl ⟨by rfl, ?_⟩) (by assumption) ?_
                    rotate_left 1
                    · intro w hSw; obtain ⟨s0, s1, s2, s3, s4⟩ := hSw; first | (go_simp; done) | (go_simp; with_reducible rfl)
                    try simp only [Act.put, lsA, lsB, lsC]
                    refine wpAnyH_take (i := 7) (oi := { dst := some 84, op := Op.indexAddr 26 (Operand.tmp 83) (Operand.const (Value.int IntKind.i64 2)), type := 0, pos := "ref.go:90", after := #[{ on := 6, ground := Ground.data }], guard := none }) (v := ?_) rfl (by kernel_rfl) (by kernel_rfl) (by kernel_rfl) (fun _ _ _ h => h) (Or.inl ⟨by rfl, ?_⟩) (by assumption) ?_
                    rotate_left 1
                    · intro w hSw; obtain ⟨s0, s1, s2, s3, s4⟩ := hSw; first | (go_simp; done) | (go_simp; with_reducible rfl)
                    try simp only [Act.put, lsA, lsB, lsC]
                    refine wpAnyH_take (i := 8) (oi := { dst := some 85, op := Op.load 3 (Operand.tmp 84), type := 3, pos := "ref.go:90", after := #[{ on := 7, ground := Ground.data }], guard := none }) (v := ?_) rfl (by kernel_rfl) (by kernel_rfl) (by kernel_rfl) (fun _ _ _ h => h) (Or.inl ⟨by rfl, ?_⟩) (by assumption) ?_
                    rotate_left 1
                    · intro w hSw; obtain ⟨s0, s1, s2, s3, s4⟩ := hSw; first | (go_simp; done) | (go_simp; with_reducible rfl)
                    try simp only [Act.put, lsA, lsB, lsC]
                    refine wpAnyH_take (i := 9) (oi := { dst := some 86, op := Op.move (Operand.tmp 6), type := 26, pos := "ref.go:90", after := #[], guard := none }) (v := ?_) rfl (by kernel_rfl) (by kernel_rfl) (by kernel_rfl) (fun _ _ _ h => h) (Or.inl ⟨by rfl, ?_⟩) (by assumption) ?_
                    rotate_left 1
                    · intro w hSw; obtain ⟨s0, s1, s2, s3, s4⟩ := hSw; first | (go_simp; done) | (go_simp; with_reducible rfl)
                    try simp only [Act.put, lsA, lsB, lsC]
                    refine wpAnyH_take (i := 10) (oi := { dst := some 87, op := Op.indexAddr 26 (Operand.tmp 86) (Operand.const (Value.int IntKind.i64 3)), type := 0, pos := "ref.go:90", after := #[{ on := 9, ground := Ground.data }], guard := none }) (v := ?_) rfl (by kernel_rfl) (by kernel_rfl) (by kernel_rfl) (fun _ _ _ h => h) (Or.inl ⟨by rfl, ?_⟩) (by assumption) ?_
                    rotate_left 1
                    · intro w hSw; obtain ⟨s0, s1, s2, s3, s4⟩ := hSw; first | (go_simp; done) | (go_simp; with_reducible rfl)
                    try simp only [Act.put, lsA, lsB, lsC]
                    refine wpAnyH_take (i := 11) (oi := { dst := some 88, op := Op.load 3 (Operand.tmp 87), type := 3, pos := "ref.go:90", after := #[{ on := 10, ground := Ground.data }], guard := none }) (v := ?_) rfl (by kernel_rfl) (by kernel_rfl) (by kernel_rfl) (fun _ _ _ h => h) (Or.inl ⟨by rfl, ?_⟩) (by assumption) ?_
                    rotate_left 1
                    · intro w hSw; obtain ⟨s0, s1, s2, s3, s4⟩ := hSw; first | (go_simp; done) | (go_simp; with_reducible rfl)
                    try simp only [Act.put, lsA, lsB, lsC]
                    refine wpAnyH_take (i := 12) (oi := { dst := some 89, op := Op.move (Operand.tmp 6), type := 26, pos := "ref.go:90", after := #[], guard := none }) (v := ?_) rfl (by kernel_rfl) (by kernel_rfl) (by kernel_rfl) (fun _ _ _ h => h) (Or.inl ⟨by rfl, ?_⟩) (by assumption) ?_
                    rotate_left 1
                    · intro w hSw; obtain ⟨s0, s1, s2, s3, s4⟩ := hSw; first | (go_simp; done) | (go_simp; with_reducible rfl)
                    try simp only [Act.put, lsA, lsB, lsC]
                    refine wpAnyH_take (i := 13) (oi := { dst := some 90, op := Op.indexAddr 26 (Operand.tmp 89) (Operand.const (Value.int IntKind.i64 4)), type := 0, pos := "ref.go:90", after := #[{ on := 12, ground := Ground.data }], guard := none }) (v := ?_) rfl (by kernel_rfl) (by kernel_rfl) (by kernel_rfl) (fun _ _ _ h => h) (Or.inl ⟨by rfl, ?_⟩) (by assumption) ?_
                    rotate_left 1
                    · intro w hSw; obtain ⟨s0, s1, s2, s3, s4⟩ := hSw; first | (go_simp; done) | (go_simp; with_reducible rfl)
                    try simp only [Act.put, lsA, lsB, lsC]
                    refine wpAnyH_take (i := 14) (oi := { dst := some 91, op := Op.load 3 (Operand.tmp 90), type := 3, pos := "ref.go:90", after := #[{ on := 13, ground := Ground.data }], guard := none }) (v := ?_) rfl (by kernel_rfl) (by kernel_rfl) (by kernel_rfl) (fun _ _ _ h => h) (Or.inl ⟨by rfl, ?_⟩) (by assumption) ?_
                    rotate_left 1
                    · intro w hSw; obtain ⟨s0, s1, s2, s3, s4⟩ := hSw; first | (go_simp; done) | (go_simp; with_reducible rfl)
                    try simp only [Act.put, lsA, lsB, lsC]
                    refine wpAnyH_take (i := 15) (oi := { dst := some 92, op := Op.move (Operand.tmp 6), type := 26, pos := "ref.go:90", after := #[], guard := none }) (v := ?_) rfl (by kernel_rfl) (by kernel_rfl) (by kernel_rfl) (fun _ _ _ h => h) (Or.inl ⟨by rfl, ?_⟩) (by assumption) ?_
                    rotate_left 1
                    · intro w hSw; obtain ⟨s0, s1, s2, s3, s4⟩ := hSw; first | (go_simp; done) | (go_simp; with_reducible rfl)
                    try simp only [Act.put, lsA, lsB, lsC]
                    refine wpAnyH_take (i := 16) (oi := { dst := some 93, op := Op.slice 26 (Operand.tmp 92) (some (Operand.const (Value.int IntKind.i64 6))) none none, type := 26, pos := "ref.go:90", after := #[{ on := 15, ground := Ground.data }], guard := none }) (v := ?_) rfl (by kernel_rfl) (by kernel_rfl) (by kernel_rfl) (fun _ _ _ h => h) (Or.inl ⟨by rfl, ?_⟩) (by assumption) ?_
                    rotate_left 1
                    · intro w hSw; obtain ⟨s0, s1, s2, s3, s4⟩ := hSw; first | (go_simp; done) | (go_simp; with_reducible rfl)
                    try simp only [Act.put, lsA, lsB, lsC]
                    refine wpAnyH_take (i := 17) (oi := { dst := some 94, op := Op.build 28 #[(0, Operand.tmp 79), (1, Operand.tmp 82), (2, Operand.tmp 85), (3, Operand.tmp 88), (4, Operand.tmp 91), (5, Operand.tmp 93)], type := 28, pos := "ref.go:90", after := #[{ on := 2, ground := Ground.data }, { on := 5, ground := Ground.data }, { on := 8, ground := Ground.data }, { on := 11, ground := Ground.data }, { on := 14, ground := Ground.data }, { on := 16, ground := Ground.data }], guard := none }) (v := ?_) rfl (by kernel_rfl) (by kernel_rfl) (by kernel_rfl) (fun _ _ _ h => h) (Or.inl ⟨by rfl, ?_⟩) (by assumption) ?_
                    rotate_left 1
                    · intro w hSw; obtain ⟨s0, s1, s2, s3, s4⟩ := hSw; first | (go_simp; done) | (go_simp; with_reducible rfl)
                    try simp only [Act.put, lsA, lsB, lsC]
                    refine wpAnyH_ready (rs := [18]) (by kernel_rfl) (by simp) (AllReadyH.cons (o := { dst := some 11, op := Op.alloc 28, type := 0, pos := "ref.go:90", after := #[], guard := none }) rfl (fun K hK => ?_) AllReadyH.nil)
                    go_simp
                    refine hK.out _ _ ?_ (fun hHeld => ?_)
                    · (refine ⟨?_, ?_, ?_, ?_, ?_⟩ <;> go_simp)
                    clear hK K
                    try simp only [Act.put, lsA, lsB, lsC]
                    refine wpAnyH_ready (rs := [19]) (by kernel_rfl) (by simp) (AllReadyH.cons (o := { dst := none, op := Op.store 28 (Operand.tmp 11) (Operand.tmp 94), type := 0, pos := "ref.go:90", after := #[{ on := 18, ground := Ground.data }, { on := 17, ground := Ground.data }, { on := 0, ground := Ground.phase }, { on := 1, ground := Ground.phase }, { on := 2, ground := Ground.phase }, { on := 3, ground := Ground.phase }, { on := 4, ground := Ground.phase }, { on := 5, ground := Ground.phase }, { on := 6, ground := Ground.phase }, { on := 7, ground := Ground.phase }, { on := 8, ground := Ground.phase }, { on := 9, ground := Ground.phase }, { on := 10, ground := Ground.phase }, { on := 11, ground := Ground.phase }, { on := 12, ground := Ground.phase }, { on := 13, ground := Ground.phase }, { on := 14, ground := Ground.phase }, { on := 15, ground := Ground.phase }, { on := 16, ground := Ground.phase }, { on := 17, ground := Ground.phase }, { on := 18, ground := Ground.phase }], guard := none }) rfl (fun K hK => ?_) AllReadyH.nil)
                    go_simp
                    refine hK.out _ _ ?_ (fun hHeld => ?_)
                    · (refine ⟨?_, ?_, ?_, ?_, ?_⟩ <;> go_simp)
                    clear hK K
                    try simp only [Act.put, lsA, lsB, lsC]
                    refine wpAnyH_done (by kernel_rfl) ?_ _
                    go_wp2_with fail
                    have gB : (wr.alloc (tcells ⟨ta, tb, tc, td, te, vs⟩ (.slice (some ⟨g, 0, none⟩) 0 0))).grownBy (wr.alloc (tcells ⟨ta, tb, tc, td, te, vs⟩ (.slice (some ⟨g, 0, none⟩) 0 0))).drew none := grown_drew _ _
                    have gA : wr.grownBy (wr.alloc (tcells ⟨ta, tb, tc, td, te, vs⟩ (.slice (some ⟨g, 0, none⟩) 0 0))).drew none := grown_trans (World.grownBy_alloc _ _ _) gB
                    unfold tcells at gA gB
                    dsimp only at gA gB
                    by_cases hok : tg.ok = true
                    · have HD := Hi (Tm.Dc.good tg hlen (by rw [HU.out, HG.out]) hok)
                      rw [HTG.out] at hok HD
                      refine (rvalid_at (t := ⟨ta, tb, tc, td, te, vs⟩) (HDR.out.grown gA) (by omega) hok).mono ?_
                      rintro e W6 ⟨rfl, g6⟩
                      have hm16 : 0 ≤ 16 := by have := ((Tm.Tg.ok_iff _).1 hok).2.2.2.2.2.1; have := HDR.out.1; dsimp only at *; omega
                      obtain ⟨c0, c1, c2q, c3q, c4q, c5q⟩ := boxed_at (t := ⟨ta, tb, tc, td, te, vs⟩) (V := .slice (some ⟨g, 0, none⟩) 0 0) (grown_trans gB g6)
                      have X6 := Hi (XR.out.grown (grown_trans gA g6) (by simp))
                      have G6 := Hi (grown_trans GR.out (grown_trans gA g6))
                      have I6 : Hid (IR (Wr.six W6 X ⟨ta, tb, tc, td, te, vs⟩ (.slice (some ⟨g, 0, none⟩) 0 0)) (some ⟨g, 0, none⟩) 0 vs) := (HDR.out.grown (grown_trans gA g6)).apart2 (six_grown _ X _ _) hgX
                      clear g6 gA gB hok z0 z1 z2 z3 z4 z5
                      obtain ⟨⟨a0, a1, a2, a3, a4, a5⟩, b0, b1, b2, b3, b4, b5⟩ := X6.out
                      go_wp2
                      obtain ⟨⟨q0, q1, q2, q3, q4, q5⟩, _⟩ := X6.out.store ⟨ta, tb, tc, td, te, vs⟩ (.slice (some ⟨g, 0, none⟩) 0 0)
                      unfold six at q0 q1 q2 q3 q4 q5
                      dsimp only at q0 q1 q2 q3 q4 q5
                      refine bodyPost_ret (v := .tuple #[tv ⟨ta, tb, tc, td, te, vs⟩ (.slice (some ⟨g, 0, none⟩) 0 0), .int .i64 0]) (by simp [results, Tryz.results42, go_sem, q0, q1, q2, q3, q4, q5, tv]) rfl ⟨grown_off G6.out (six_grown _ X ⟨ta, tb, tc, td, te, vs⟩ (.slice (some ⟨g, 0, none⟩) 0 0)) (by omega), ⟨ta, tb, tc, td, te, vs⟩, (some ⟨g, 0, none⟩), 0, 0, 0, rfl, I6.out, hm16, HD.out, ⟨by omega, by omega⟩, fun b hb => by (injection hb with hb; dsimp only at hb; omega)⟩
                    · have hok := eq_false_of_ne_true hok
                      have HD := Hi (Tm.Dc.form y hlen HU.out (HW.out hok))
                      rw [HTG.out] at hok
                      refine (rvalid_at (t := ⟨ta, tb, tc, td, te, vs⟩) (HDR.out.grown gA) (by omega) hok).mono ?_
                      rintro e W6 ⟨rfl, g6⟩
                      have X6 := Hi (XR.out.grown (grown_trans gA g6) (by simp))
                      have G6 := Hi (grown_trans GR.out (grown_trans gA g6))
                      clear g6 gA gB hok z0 z1 z2 z3 z4 z5
                      obtain ⟨⟨a0, a1, a2, a3, a4, a5⟩, b0, b1, b2, b3, b4, b5⟩ := X6.out
                      go_wp2
                      obtain ⟨⟨q0, q1, q2, q3, q4, q5⟩, _⟩ := X6.out.store Tm.zero nilV
                      unfold six nilV at q0 q1 q2 q3 q4 q5
                      dsimp only [Tm.zero] at q0 q1 q2 q3 q4 q5
                      refine bodyPost_ret (v := .tuple #[tv Tm.zero nilV, .int .i64 3]) (by simp [results, Tryz.results42, go_sem, q0, q1, q2, q3, q4, q5, tv, Tm.zero, nilV]) rfl (rdec_bad (grown_off G6.out (six_grown _ X Tm.zero nilV) (by omega)) HD.out)
                  · go_wp2_with fail
                    refine wp_region_held_drew (S := (fun w' => w'.cell? ⟨g, 0, none⟩ = some (.int .i64 ta) ∧ w'.cell? ⟨g, 1, none⟩ = some (.int .i64 tb) ∧ w'.cell? ⟨g, 2, none⟩ = some (.int .i64 tc) ∧ w'.cell? ⟨g, 3, none⟩ = some (.int .i64 td) ∧ w'.cell? ⟨g, 4, none⟩ = some (.int .i64 te))) (by kernel_rfl) ?_ (fun hHeld => ?_)
                    · exact ⟨z0, z1, z2, z3, z4⟩
                    try simp only [Act.put, lsA, lsB, lsC]
                    refine wpAnyH_take (i := 0) (oi := { dst := some 77, op := Op.move (Operand.tmp 6), type := 26, pos := "ref.go:90", after := #[], guard := none }) (v := ?_) rfl (by kernel_rfl) (by kernel_rfl) (by kernel_rfl) (fun _ _ _ h => h) (Or.inl ⟨by rfl, ?_⟩) (by assumption) ?_
                    rotate_left 1
                    · intro w hSw; obtain ⟨s0, s1, s2, s3, s4⟩ := hSw; first | (go_simp; done) | (go_simp; with_reducible rfl)
                    try simp only [Act.put, lsA, lsB, lsC]
                    refine wpAnyH_take (i := 1) (oi := { dst := some 78, op := Op.indexAddr 26 (Operand.tmp 77) (Operand.const (Value.int IntKind.i64 0)), type := 0, pos := "ref.go:90", after := #[{ on := 0, ground := Ground.data }], guard := none }) (v := ?_) rfl (by kernel_rfl) (by kernel_rfl) (by kernel_rfl) (fun _ _ _ h => h) (Or.inl ⟨by rfl, ?_⟩) (by assumption) ?_
                    rotate_left 1
                    · intro w hSw; obtain ⟨s0, s1, s2, s3, s4⟩ := hSw; first | (go_simp; done) | (go_simp; with_reducible rfl)
                    try simp only [Act.put, lsA, lsB, lsC]
                    refine wpAnyH_take (i := 2) (oi := { dst := some 79, op := Op.load 3 (Operand.tmp 78), type := 3, pos := "ref.go:90", after := #[{ on := 1, ground := Ground.data }], guard := none }) (v := ?_) rfl (by kernel_rfl) (by kernel_rfl) (by kernel_rfl) (fun _ _ _ h => h) (Or.inl ⟨by rfl, ?_⟩) (by assumption) ?_
                    rotate_left 1
                    · intro w hSw; obtain ⟨s0, s1, s2, s3, s4⟩ := hSw; first | (go_simp; done) | (go_simp; with_reducible rfl)
                    try simp only [Act.put, lsA, lsB, lsC]
                    refine wpAnyH_take (i := 3) (oi := { dst := some 80, op := Op.move (Operand.tmp 6), type := 26, pos := "ref.go:90", after := #[], guard := none }) (v := ?_) rfl (by kernel_rfl) (by kernel_rfl) (by kernel_rfl) (fun _ _ _ h => h) (Or.inl ⟨by rfl, ?_⟩) (by assumption) ?_
                    rotate_left 1
                    · intro w hSw; obtain ⟨s0, s1, s2, s3, s4⟩ := hSw; first | (go_simp; done) | (go_simp; with_reducible rfl)
                    try simp only [Act.put, lsA, lsB, lsC]
                    refine wpAnyH_take (i := 4) (oi := { dst := some 81, op := Op.indexAddr 26 (Operand.tmp 80) (Operand.const (Value.int IntKind.i64 1)), type := 0, pos := "ref.go:90", after := #[{ on := 3, ground := Ground.data }], guard := none }) (v := ?_) rfl (by kernel_rfl) (by kernel_rfl) (by kernel_rfl) (fun _ _ _ h => h) (Or.inl ⟨by rfl, ?_⟩) (by assumption) ?_
                    rotate_left 1
                    · intro w hSw; obtain ⟨s0, s1, s2, s3, s4⟩ := hSw; first | (go_simp; done) | (go_simp; with_reducible rfl)
                    try simp only [Act.put, lsA, lsB, lsC]
                    refine wpAnyH_take (i := 5) (oi := { dst := some 82, op := Op.load 3 (Operand.tmp 81), type := 3, pos := "ref.go:90", after := #[{ on := 4, ground := Ground.data }], guard := none }) (v := ?_) rfl (by kernel_rfl) (by kernel_rfl) (by kernel_rfl) (fun _ _ _ h => h) (Or.inl ⟨by rfl, ?_⟩) (by assumption) ?_
                    rotate_left 1
                    · intro w hSw; obtain ⟨s0, s1, s2, s3, s4⟩ := hSw; first | (go_simp; done) | (go_simp; with_reducible rfl)
                    try simp only [Act.put, lsA, lsB, lsC]
                    refine wpAnyH_take (i := 6) (oi := { dst := some 83, op := Op.move (Operand.tmp 6), type := 26, pos := "ref.go:90", after := #[], guard := none }) (v := ?_) rfl (by kernel_rfl) (by kernel_rfl) (by kernel_rfl) (fun _ _ _ h => h) (Or.inl ⟨by rfl, ?_⟩) (by assumption) ?_
                    rotate_left 1
                    · intro w hSw; obtain ⟨s0, s1, s2, s3, s4⟩ := hSw; first | (go_simp; done) | (go_simp; with_reducible rfl)
                    try simp only [Act.put, lsA, lsB, lsC]
                    refine wpAnyH_take (i := 7) (oi := { dst := some 84, op := Op.indexAddr 26 (Operand.tmp 83) (Operand.const (Value.int IntKind.i64 2)), type := 0, pos := "ref.go:90", after := #[{ on := 6, ground := Ground.data }], guard := none }) (v := ?_) rfl (by kernel_rfl) (by kernel_rfl) (by kernel_rfl) (fun _ _ _ h => h) (Or.inl ⟨by rfl, ?_⟩) (by assumption) ?_
                    rotate_left 1
                    · intro w hSw; obtain ⟨s0, s1, s2, s3, s4⟩ := hSw; first | (go_simp; done) | (go_simp; with_reducible rfl)
                    try simp only [Act.put, lsA, lsB, lsC]
                    refine wpAnyH_take (i := 8) (oi := { dst := some 85, op := Op.load 3 (Operand.tmp 84), type := 3, pos := "ref.go:90", after := #[{ on := 7, ground := Ground.data }], guard := none }) (v := ?_) rfl (by kernel_rfl) (by kernel_rfl) (by kernel_rfl) (fun _ _ _ h => h) (Or.inl ⟨by rfl, ?_⟩) (by assumption) ?_
                    rotate_left 1
                    · intro w hSw; obtain ⟨s0, s1, s2, s3, s4⟩ := hSw; first | (go_simp; done) | (go_simp; with_reducible rfl)
                    try simp only [Act.put, lsA, lsB, lsC]
                    refine wpAnyH_take (i := 9) (oi := { dst := some 86, op := Op.move (Operand.tmp 6), type := 26, pos := "ref.go:90", after := #[], guard := none }) (v := ?_) rfl (by kernel_rfl) (by kernel_rfl) (by kernel_rfl) (fun _ _ _ h => h) (Or.inl ⟨by rfl, ?_⟩) (by assumption) ?_
                    rotate_left 1
                    · intro w hSw; obtain ⟨s0, s1, s2, s3, s4⟩ := hSw; first | (go_simp; done) | (go_simp; with_reducible rfl)
                    try simp only [Act.put, lsA, lsB, lsC]
                    refine wpAnyH_take (i := 10) (oi := { dst := some 87, op := Op.indexAddr 26 (Operand.tmp 86) (Operand.const (Value.int IntKind.i64 3)), type := 0, pos := "ref.go:90", after := #[{ on := 9, ground := Ground.data }], guard := none }) (v := ?_) rfl (by kernel_rfl) (by kernel_rfl) (by kernel_rfl) (fun _ _ _ h => h) (Or.inl ⟨by rfl, ?_⟩) (by assumption) ?_
                    rotate_left 1
                    · intro w hSw; obtain ⟨s0, s1, s2, s3, s4⟩ := hSw; first | (go_simp; done) | (go_simp; with_reducible rfl)
                    try simp only [Act.put, lsA, lsB, lsC]
                    refine wpAnyH_take (i := 11) (oi := { dst := some 88, op := Op.load 3 (Operand.tmp 87), type := 3, pos := "ref.go:90", after := #[{ on := 10, ground := Ground.data }], guard := none }) (v := ?_) rfl (by kernel_rfl) (by kernel_rfl) (by kernel_rfl) (fun _ _ _ h => h) (Or.inl ⟨by rfl, ?_⟩) (by assumption) ?_
                    rotate_left 1
                    · intro w hSw; obtain ⟨s0, s1, s2, s3, s4⟩ := hSw; first | (go_simp; done) | (go_simp; with_reducible rfl)
                    try simp only [Act.put, lsA, lsB, lsC]
                    refine wpAnyH_take (i := 12) (oi := { dst := some 89, op := Op.move (Operand.tmp 6), type := 26, pos := "ref.go:90", after := #[], guard := none }) (v := ?_) rfl (by kernel_rfl) (by kernel_rfl) (by kernel_rfl) (fun _ _ _ h => h) (Or.inl ⟨by rfl, ?_⟩) (by assumption) ?_
                    rotate_left 1
                    · intro w hSw; obtain ⟨s0, s1, s2, s3, s4⟩ := hSw; first | (go_simp; done) | (go_simp; with_reducible rfl)
                    try simp only [Act.put, lsA, lsB, lsC]
                    refine wpAnyH_take (i := 13) (oi := { dst := some 90, op := Op.indexAddr 26 (Operand.tmp 89) (Operand.const (Value.int IntKind.i64 4)), type := 0, pos := "ref.go:90", after := #[{ on := 12, ground := Ground.data }], guard := none }) (v := ?_) rfl (by kernel_rfl) (by kernel_rfl) (by kernel_rfl) (fun _ _ _ h => h) (Or.inl ⟨by rfl, ?_⟩) (by assumption) ?_
                    rotate_left 1
                    · intro w hSw; obtain ⟨s0, s1, s2, s3, s4⟩ := hSw; first | (go_simp; done) | (go_simp; with_reducible rfl)
                    try simp only [Act.put, lsA, lsB, lsC]
                    refine wpAnyH_take (i := 14) (oi := { dst := some 91, op := Op.load 3 (Operand.tmp 90), type := 3, pos := "ref.go:90", after := #[{ on := 13, ground := Ground.data }], guard := none }) (v := ?_) rfl (by kernel_rfl) (by kernel_rfl) (by kernel_rfl) (fun _ _ _ h => h) (Or.inl ⟨by rfl, ?_⟩) (by assumption) ?_
                    rotate_left 1
                    · intro w hSw; obtain ⟨s0, s1, s2, s3, s4⟩ := hSw; first | (go_simp; done) | (go_simp; with_reducible rfl)
                    try simp only [Act.put, lsA, lsB, lsC]
                    refine wpAnyH_take (i := 15) (oi := { dst := some 92, op := Op.move (Operand.tmp 6), type := 26, pos := "ref.go:90", after := #[], guard := none }) (v := ?_) rfl (by kernel_rfl) (by kernel_rfl) (by kernel_rfl) (fun _ _ _ h => h) (Or.inl ⟨by rfl, ?_⟩) (by assumption) ?_
                    rotate_left 1
                    · intro w hSw; obtain ⟨s0, s1, s2, s3, s4⟩ := hSw; first | (go_simp; done) | (go_simp; with_reducible rfl)
                    try simp only [Act.put, lsA, lsB, lsC]
                    refine wpAnyH_take (i := 16) (oi := { dst := some 93, op := Op.slice 26 (Operand.tmp 92) (some (Operand.const (Value.int IntKind.i64 6))) none none, type := 26, pos := "ref.go:90", after := #[{ on := 15, ground := Ground.data }], guard := none }) (v := ?_) rfl (by kernel_rfl) (by kernel_rfl) (by kernel_rfl) (fun _ _ _ h => h) (Or.inl ⟨by rfl, ?_⟩) (by assumption) ?_
                    rotate_left 1
                    · intro w hSw; obtain ⟨s0, s1, s2, s3, s4⟩ := hSw; first | (go_simp; done) | (go_simp; with_reducible rfl)
                    try simp only [Act.put, lsA, lsB, lsC]
                    refine wpAnyH_take (i := 17) (oi := { dst := some 94, op := Op.build 28 #[(0, Operand.tmp 79), (1, Operand.tmp 82), (2, Operand.tmp 85), (3, Operand.tmp 88), (4, Operand.tmp 91), (5, Operand.tmp 93)], type := 28, pos := "ref.go:90", after := #[{ on := 2, ground := Ground.data }, { on := 5, ground := Ground.data }, { on := 8, ground := Ground.data }, { on := 11, ground := Ground.data }, { on := 14, ground := Ground.data }, { on := 16, ground := Ground.data }], guard := none }) (v := ?_) rfl (by kernel_rfl) (by kernel_rfl) (by kernel_rfl) (fun _ _ _ h => h) (Or.inl ⟨by rfl, ?_⟩) (by assumption) ?_
                    rotate_left 1
                    · intro w hSw; obtain ⟨s0, s1, s2, s3, s4⟩ := hSw; first | (go_simp; done) | (go_simp; with_reducible rfl)
                    try simp only [Act.put, lsA, lsB, lsC]
                    refine wpAnyH_ready (rs := [18]) (by kernel_rfl) (by simp) (AllReadyH.cons (o := { dst := some 11, op := Op.alloc 28, type := 0, pos := "ref.go:90", after := #[], guard := none }) rfl (fun K hK => ?_) AllReadyH.nil)
                    go_simp
                    refine hK.out _ _ ?_ (fun hHeld => ?_)
                    · (refine ⟨?_, ?_, ?_, ?_, ?_⟩ <;> go_simp)
                    clear hK K
                    try simp only [Act.put, lsA, lsB, lsC]
                    refine wpAnyH_ready (rs := [19]) (by kernel_rfl) (by simp) (AllReadyH.cons (o := { dst := none, op := Op.store 28 (Operand.tmp 11) (Operand.tmp 94), type := 0, pos := "ref.go:90", after := #[{ on := 18, ground := Ground.data }, { on := 17, ground := Ground.data }, { on := 0, ground := Ground.phase }, { on := 1, ground := Ground.phase }, { on := 2, ground := Ground.phase }, { on := 3, ground := Ground.phase }, { on := 4, ground := Ground.phase }, { on := 5, ground := Ground.phase }, { on := 6, ground := Ground.phase }, { on := 7, ground := Ground.phase }, { on := 8, ground := Ground.phase }, { on := 9, ground := Ground.phase }, { on := 10, ground := Ground.phase }, { on := 11, ground := Ground.phase }, { on := 12, ground := Ground.phase }, { on := 13, ground := Ground.phase }, { on := 14, ground := Ground.phase }, { on := 15, ground := Ground.phase }, { on := 16, ground := Ground.phase }, { on := 17, ground := Ground.phase }, { on := 18, ground := Ground.phase }], guard := none }) rfl (fun K hK => ?_) AllReadyH.nil)
                    go_simp
                    refine hK.out _ _ ?_ (fun hHeld => ?_)
                    · (refine ⟨?_, ?_, ?_, ?_, ?_⟩ <;> go_simp)
                    clear hK K
                    try simp only [Act.put, lsA, lsB, lsC]
                    refine wpAnyH_done (by kernel_rfl) ?_ _
                    go_wp2_with fail
                    have gB : (wr.alloc (tcells ⟨ta, tb, tc, td, te, vs⟩ (.slice (some ⟨g, 6, none⟩) (k - 6) (c6 - 6)))).grownBy (wr.alloc (tcells ⟨ta, tb, tc, td, te, vs⟩ (.slice (some ⟨g, 6, none⟩) (k - 6) (c6 - 6)))).drew none := grown_drew _ _
                    have gA : wr.grownBy (wr.alloc (tcells ⟨ta, tb, tc, td, te, vs⟩ (.slice (some ⟨g, 6, none⟩) (k - 6) (c6 - 6)))).drew none := grown_trans (World.grownBy_alloc _ _ _) gB
                    unfold tcells at gA gB
                    dsimp only at gA gB
                    by_cases hok : tg.ok = true
                    · have HD := Hi (Tm.Dc.good tg hlen (by rw [HU.out, HG.out]) hok)
                      rw [HTG.out] at hok HD
                      refine (rvalid_at (t := ⟨ta, tb, tc, td, te, vs⟩) (HDR.out.grown gA) (by omega) hok).mono ?_
                      rintro e W6 ⟨rfl, g6⟩
                      have hm16 : (k - 6) ≤ 16 := by have := ((Tm.Tg.ok_iff _).1 hok).2.2.2.2.2.1; have := HDR.out.1; dsimp only at *; omega
                      obtain ⟨c0, c1, c2q, c3q, c4q, c5q⟩ := boxed_at (t := ⟨ta, tb, tc, td, te, vs⟩) (V := .slice (some ⟨g, 6, none⟩) (k - 6) (c6 - 6)) (grown_trans gB g6)
                      have X6 := Hi (XR.out.grown (grown_trans gA g6) (by simp))
                      have G6 := Hi (grown_trans GR.out (grown_trans gA g6))
                      have I6 : Hid (IR (Wr.six W6 X ⟨ta, tb, tc, td, te, vs⟩ (.slice (some ⟨g, 6, none⟩) (k - 6) (c6 - 6))) (some ⟨g, 6, none⟩) (k - 6) vs) := (HDR.out.grown (grown_trans gA g6)).apart2 (six_grown _ X _ _) hgX
                      clear g6 gA gB hok z0 z1 z2 z3 z4 z5
                      obtain ⟨⟨a0, a1, a2, a3, a4, a5⟩, b0, b1, b2, b3, b4, b5⟩ := X6.out
                      go_wp2
                      obtain ⟨⟨q0, q1, q2, q3, q4, q5⟩, _⟩ := X6.out.store ⟨ta, tb, tc, td, te, vs⟩ (.slice (some ⟨g, 6, none⟩) (k - 6) (c6 - 6))
                      unfold six at q0 q1 q2 q3 q4 q5
                      dsimp only at q0 q1 q2 q3 q4 q5
                      refine bodyPost_ret (v := .tuple #[tv ⟨ta, tb, tc, td, te, vs⟩ (.slice (some ⟨g, 6, none⟩) (k - 6) (c6 - 6)), .int .i64 0]) (by simp [results, Tryz.results42, go_sem, q0, q1, q2, q3, q4, q5, tv]) rfl ⟨grown_off G6.out (six_grown _ X ⟨ta, tb, tc, td, te, vs⟩ (.slice (some ⟨g, 6, none⟩) (k - 6) (c6 - 6))) (by omega), ⟨ta, tb, tc, td, te, vs⟩, (some ⟨g, 6, none⟩), (k - 6), (c6 - 6), 0, rfl, I6.out, hm16, HD.out, ⟨by omega, by omega⟩, fun b hb => by (injection hb with hb; dsimp only at hb; omega)⟩
                    · have hok := eq_false_of_ne_true hok
                      have HD := Hi (Tm.Dc.form y hlen HU.out (HW.out hok))
                      rw [HTG.out] at hok
                      refine (rvalid_at (t := ⟨ta, tb, tc, td, te, vs⟩) (HDR.out.grown gA) (by omega) hok).mono ?_
                      rintro e W6 ⟨rfl, g6⟩
                      have X6 := Hi (XR.out.grown (grown_trans gA g6) (by simp))
                      have G6 := Hi (grown_trans GR.out (grown_trans gA g6))
                      clear g6 gA gB hok z0 z1 z2 z3 z4 z5
                      obtain ⟨⟨a0, a1, a2, a3, a4, a5⟩, b0, b1, b2, b3, b4, b5⟩ := X6.out
                      go_wp2
                      obtain ⟨⟨q0, q1, q2, q3, q4, q5⟩, _⟩ := X6.out.store Tm.zero nilV
                      unfold six nilV at q0 q1 q2 q3 q4 q5
                      dsimp only [Tm.zero] at q0 q1 q2 q3 q4 q5
                      refine bodyPost_ret (v := .tuple #[tv Tm.zero nilV, .int .i64 3]) (by simp [results, Tryz.results42, go_sem, q0, q1, q2, q3, q4, q5, tv, Tm.zero, nilV]) rfl (rdec_bad (grown_off G6.out (six_grown _ X Tm.zero nilV) (by omega)) HD.out)
                · have HD := Hi (Tm.Dc.form y hlen HU.out (RN.out.wrong hy.symm h5))
                  generalize ns.getD 5 0 = v5 at *
                  have w5 : IntKind.i64.wrap ((k : Int) - 6) = (k : Int) - 6 := IntWalk.i64_in _ (by omega)
                  obtain ⟨⟨a0, a1, a2, a3, a4, a5⟩, b0, b1, b2, b3, b4, b5⟩ := XR.out
                  go_wp2
                  obtain ⟨⟨q0, q1, q2, q3, q4, q5⟩, _⟩ := XR.out.store Tm.zero nilV
                  unfold six nilV at q0 q1 q2 q3 q4 q5
                  dsimp only [Tm.zero] at q0 q1 q2 q3 q4 q5
                  refine bodyPost_ret (v := .tuple #[tv Tm.zero nilV, .int .i64 3]) (by simp [results, Tryz.results42, go_sem, q0, q1, q2, q3, q4, q5, tv, Tm.zero, nilV]) rfl (rdec_bad (grown_off GR.out (six_grown _ X Tm.zero nilV) (by omega)) HD.out)
        · have HD := Hi (Tm.Dc.sum y z hlen hU hz hs)
          have hE : (Tm.shut y == y ++ z) = false := by
            rw [beq_eq_false_iff_ne]; intro e; exact hs (Tm.split4 e rfl hz).2.symm
          clear hU
          go_wp2_with fail
          refine wp_region_held_drew (S := (CSx (fun _ => True) (some ⟨B, O, none⟩) (m + 4) c2 (y ++ z))) (by kernel_rfl) ?_ (fun hHeld => ?_)
          · exact csx_mk trivial R2.out
          try simp only [Act.put, lsA, lsB, lsC]
          refine wpAnyH_take (i := 0) (oi := { dst := some 29, op := Op.move (Operand.tmp 4), type := 22, pos := "ref.go:75", after := #[], guard := none }) (v := ?_) rfl (by kernel_rfl) (by kernel_rfl) (by kernel_rfl) (fun _ _ _ h => h) (Or.inl ⟨by rfl, ?_⟩) (by assumption) ?_
          rotate_left 1
          · intro w hSw; obtain ⟨_, s2⟩ := hSw; first | (go_simp; done) | (go_simp; with_reducible rfl)
          try simp only [Act.put, lsA, lsB, lsC]
          refine wpAnyH_take (i := 1) (oi := { dst := some 30, op := Op.move (Operand.tmp 4), type := 22, pos := "ref.go:75", after := #[], guard := none }) (v := ?_) rfl (by kernel_rfl) (by kernel_rfl) (by kernel_rfl) (fun _ _ _ h => h) (Or.inl ⟨by rfl, ?_⟩) (by assumption) ?_
          rotate_left 1
          · intro w hSw; obtain ⟨_, s2⟩ := hSw; first | (go_simp; done) | (go_simp; with_reducible rfl)
          try simp only [Act.put, lsA, lsB, lsC]
          refine wpAnyH_take (i := 2) (oi := { dst := some 31, op := Op.call { callee := Callee.builtin Builtin.len, args := #[Operand.tmp 30], argTypes := #[22] }, type := 3, pos := "ref.go:75", after := #[{ on := 1, ground := Ground.data }], guard := none }) (v := ?_) rfl (by kernel_rfl) (by kernel_rfl) (by kernel_rfl) (fun _ _ _ h => h) (Or.inl ⟨by rfl, ?_⟩) (by assumption) ?_
          rotate_left 1
          · intro w hSw; obtain ⟨_, s2⟩ := hSw; first | (go_simp; done) | (go_simp; with_reducible rfl)
          try simp only [Act.put, lsA, lsB, lsC]
          refine wpAnyH_take (i := 3) (oi := { dst := some 32, op := Op.binOp BinOp.sub 3 (Operand.tmp 31) (Operand.const (Value.int IntKind.i64 4)) 3, type := 3, pos := "ref.go:75", after := #[{ on := 2, ground := Ground.data }], guard := none }) (v := ?_) rfl (by kernel_rfl) (by kernel_rfl) (by kernel_rfl) (fun _ _ _ h => h) (Or.inl ⟨by rfl, ?_⟩) (by assumption) ?_
          rotate_left 1
          · intro w hSw; obtain ⟨_, s2⟩ := hSw; first | (go_simp; done) | (go_simp; with_reducible rfl)
          try simp only [Act.put, lsA, lsB, lsC]
          refine wpAnyH_take (i := 4) (oi := { dst := some 33, op := Op.slice 22 (Operand.tmp 29) none (some (Operand.tmp 32)) none, type := 22, pos := "ref.go:75", after := #[{ on := 0, ground := Ground.data }, { on := 3, ground := Ground.data }], guard := none }) (v := ?_) rfl (by kernel_rfl) (by kernel_rfl) (by kernel_rfl) (fun _ _ _ h => h) (Or.inl ⟨by rfl, ?_⟩) (by assumption) ?_
          rotate_left 1
          · intro w hSw; obtain ⟨_, s2⟩ := hSw; first | (go_simp; done) | (go_simp; with_reducible rfl)
          try simp only [Act.put, lsA, lsB, lsC]
          refine wpAnyH_take (i := 7) (oi := { dst := some 36, op := Op.move (Operand.tmp 4), type := 22, pos := "ref.go:75", after := #[], guard := none }) (v := ?_) rfl (by kernel_rfl) (by kernel_rfl) (by kernel_rfl) (fun _ _ _ h => h) (Or.inl ⟨by rfl, ?_⟩) (by assumption) ?_
          rotate_left 1
          · intro w hSw; obtain ⟨_, s2⟩ := hSw; first | (go_simp; done) | (go_simp; with_reducible rfl)
          try simp only [Act.put, lsA, lsB, lsC]
          refine wpAnyH_take (i := 8) (oi := { dst := some 37, op := Op.convert 22 9 (Operand.tmp 36), type := 9, pos := "ref.go:75", after := #[{ on := 7, ground := Ground.data }], guard := none }) (v := ?_) rfl (by kernel_rfl) (by kernel_rfl) (by kernel_rfl) (fun _ _ _ h => h) (Or.inl ⟨by rfl, ?_⟩) (by assumption) ?_
          rotate_left 1
          · intro w hSw; obtain ⟨_, s2⟩ := hSw; first | (go_simp; done) | (go_simp; with_reducible rfl)
          try simp only [Act.put, lsA, lsB, lsC]
          refine wpAnyH_ready (rs := [5]) (by kernel_rfl) (by simp) (AllReadyH.cons (o := { dst := some 34, op := Op.call { callee := Callee.value (Operand.func 45), args := #[Operand.tmp 33], argTypes := #[22] }, type := 22, pos := "ref.go:75", after := #[{ on := 4, ground := Ground.data }], guard := none }) rfl (fun K hK => ?_) AllReadyH.nil)
          go_simp
          refine (rseal_any (some ⟨B, O, none⟩) m c2 y _ (HY.out.grown (grown_drew W2 none)) (by omega)).mono ?_
          rintro e W3 ⟨A3, N3, c3, rfl, hm3⟩
          try dsimp only
          refine hK.out _ _ ?_ (fun hHeld => ?_)
          · exact csx_mk trivial (R2.out.grown (grown_trans (grown_drew W2 none) hm3.gr))
          clear hK K
          try simp only [Act.put, lsA, lsB, lsC]
          have hS1 : (CSx (CSx (fun _ => True) (some ⟨B, O, none⟩) (m + 4) c2 (y ++ z)) A3 N3 c3 (Tm.shut y)) W3 := csx_mk hHeld hm3.rb
          refine held_strong (S := (CSx (fun _ => True) (some ⟨B, O, none⟩) (m + 4) c2 (y ++ z))) (S' := (CSx (CSx (fun _ => True) (some ⟨B, O, none⟩) (m + 4) c2 (y ++ z)) A3 N3 c3 (Tm.shut y))) (fun _ h => h.1) _ _ _ _ ?_
          refine wpAnyH_take (i := 6) (oi := { dst := some 35, op := Op.convert 22 9 (Operand.tmp 34), type := 9, pos := "ref.go:75", after := #[{ on := 5, ground := Ground.data }], guard := none }) (v := ?_) rfl (by kernel_rfl) (by kernel_rfl) (by kernel_rfl) (fun _ _ _ h => h) (Or.inl ⟨by rfl, ?_⟩) (by assumption) ?_
          rotate_left 1
          · intro w hSw; obtain ⟨⟨_, s2⟩, s3⟩ := hSw; first | (go_simp; done) | (go_simp; with_reducible rfl)
          try simp only [Act.put, lsA, lsB, lsC]
          refine wpAnyH_take (i := 9) (oi := { dst := some 38, op := Op.binOp BinOp.neq 9 (Operand.tmp 35) (Operand.tmp 37) 9, type := 4, pos := "ref.go:75", after := #[{ on := 6, ground := Ground.data }, { on := 8, ground := Ground.data }], guard := none }) (v := ?_) rfl (by kernel_rfl) (by kernel_rfl) (by kernel_rfl) (fun _ _ _ h => h) (Or.inl ⟨by rfl, ?_⟩) (by assumption) ?_
          rotate_left 1
          · intro w hSw; obtain ⟨⟨_, s2⟩, s3⟩ := hSw; first | (go_simp; done) | (go_simp; with_reducible rfl)
          try simp only [Act.put, lsA, lsB, lsC]
          refine wpAnyH_done (by kernel_rfl) ?_ _
          have G3 := Hi (grown_trans G2.out (grown_trans (grown_drew W2 none) hm3.gr))
          have X3 := Hi (X2.out.grown (grown_trans (grown_drew W2 none) hm3.gr) (by simp))
          obtain ⟨⟨a0, a1, a2, a3, a4, a5⟩, b0, b1, b2, b3, b4, b5⟩ := X3.out
          go_wp2
          obtain ⟨⟨q0, q1, q2, q3, q4, q5⟩, _⟩ := X3.out.store Tm.zero nilV
          unfold six nilV at q0 q1 q2 q3 q4 q5
          dsimp only [Tm.zero] at q0 q1 q2 q3 q4 q5
          refine bodyPost_ret (v := .tuple #[tv Tm.zero nilV, .int .i64 5]) (by simp [results, Tryz.results42, go_sem, q0, q1, q2, q3, q4, q5, tv, Tm.zero, nilV]) rfl (rdec_bad (grown_off G3.out (six_grown _ X Tm.zero nilV) (by omega)) HD.out)
    · have HD := Hi (Tm.Dc.fr er hlen (by rw [hU]) her)
      clear hU
      obtain ⟨⟨a0, a1, a2, a3, a4, a5⟩, b0, b1, b2, b3, b4, b5⟩ := X2.out
      go_wp2
      obtain ⟨⟨q0, q1, q2, q3, q4, q5⟩, _⟩ := X2.out.store Tm.zero nilV
      unfold six nilV at q0 q1 q2 q3 q4 q5
      dsimp only [Tm.zero] at q0 q1 q2 q3 q4 q5
      refine bodyPost_ret (v := .tuple #[tv Tm.zero nilV, .int .i64 er]) (by simp [results, Tryz.results42, go_sem, q0, q1, q2, q3, q4, q5, tv, Tm.zero, nilV]) rfl (rdec_bad (grown_off G2.out (six_grown _ X Tm.zero nilV) (by omega)) HD.out)
end Go.Proofs.YticmoaebegahgaaGreatDoor.Wr
