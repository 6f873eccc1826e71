/- The walk of ValveRaw. -/
import Derived.Test.YtckohnlpmooecaaVj
namespace Go.Proofs.Ytckohnlpmooecaa
open Go.ChangeShapes Go.WideShapes Go.ChangeAt Go.RowKit

theorem smod_pos (x n : Int) (w : World) (hn : 1 ≤ n) (hn2 : n ≤ 4611686018427387904) (hx : IsI64 x) :
    Calls Try.prog 6 #[.int .i64 x, .int .i64 n] w fun e w' => e = .returned (.int .i64 (x % n)) ∧ w = w' := by
  go_enter Try.func6, Try.ntmps6
  go_wp2_with fail
  refine (mod_pos x n w hn hn2 hx.1 hx.2).mono ?_
  rintro e w' ⟨rfl, rfl⟩
  go_wp2
  go_ret
  exact ⟨rfl, rfl⟩

theorem VC.set0 {w : World} {B : Nat} {t o : Int} {a s : Bool} (h : VC w B t o a s) (t' : Int) : VC (w.setCell ⟨B, 0, none⟩ (.int .i64 t')) B t' o a s := by
  obtain ⟨h0, h1, h2, h3, f0, f1, f2, f3⟩ := h
  refine ⟨?_, ?_, ?_, ?_, ?_, ?_, ?_, ?_⟩
  · exact World.cell?_setCell_same _ _ _ h0
  · exact (World.cell?_setCell_other _ _ _ _ (by simp)).trans h1
  · exact (World.cell?_setCell_other _ _ _ _ (by simp)).trans h2
  · exact (World.cell?_setCell_other _ _ _ _ (by simp)).trans h3
  · rw [World.frozen?_setCell]; exact f0
  · rw [World.frozen?_setCell]; exact f1
  · rw [World.frozen?_setCell]; exact f2
  · rw [World.frozen?_setCell]; exact f3
/-- The valve that came in, and the six that were made of it. -/
def Rx (X A B C D E F : Nat) (t o : Int) (a s ca : Bool) (so po : Int) (w : World) : Prop :=
  VC w X t o a s ∧ VC w A t o ca s ∧ VC w B t o ca s ∧ VC w C t so a s ∧ VC w D t so a s ∧ VC w E t po a s ∧ VC w F t po a s
theorem Rx.grown {X A B C D E F : Nat} {t o : Int} {a s ca : Bool} {so po : Int} {w w' : World} (h : Rx X A B C D E F t o a s ca so po w) (hg : w.grownBy w' none) : Rx X A B C D E F t o a s ca so po w' :=
  ⟨h.1.grown hg, h.2.1.grown hg, h.2.2.1.grown hg, h.2.2.2.1.grown hg, h.2.2.2.2.1.grown hg, h.2.2.2.2.2.1.grown hg, h.2.2.2.2.2.2.grown hg⟩

set_option maxRecDepth 100000 in
set_option maxHeartbeats 4000000 in
theorem raw_walk (t o n : Int) (a s b sm : Bool) (ht : IsI64 t) (ho : IsI64 o) (hn : IsI64 n) (w : World) :
    Calls Try.prog 3 #[vv t o a s, .bool b, .int .i64 n, .bool sm] w fun e w' => e = .returned (.bool true) ∧ Below w.heap.size w w' := by
  have TI := Lib.hid ht
  have OI := Lib.hid ho
  have NI := Lib.hid hn
  clear ht ho hn
  unfold vv
  go_enter Try.func3, Try.ntmps3
  go_upto_if 21 with fail
  go_cut [2] (fun s2 wc => ∃ (t' o' n' : Int), s2 = .int .i64 n' ∧ Hid (IsI64 t') ∧ Hid (IsI64 o') ∧ Hid (VC wc w.heap.size t' o' a s) ∧ Hid (w.grownBy wc none))
  case first =>
    cases sm with
    | false =>
      go_wp2
      go_meet
      case rel => exact ⟨t, o, n, rfl, TI, OI, Lib.hid (VC.one _ _ _ _ _), Lib.hid (World.grownBy_alloc _ _ _)⟩
    | true =>
      have m1 : 0 ≤ t % 64 ∧ t % 64 < 64 := by omega
      have m2 : 0 ≤ o % 64 ∧ o % 64 < 64 := by omega
      have m3 : 0 ≤ n % 405 ∧ n % 405 < 405 := by omega
      have TI2 := Lib.hid (show IsI64 (t % 64) from ⟨by omega, by omega⟩)
      have OI2 := Lib.hid (show IsI64 (o % 64) from ⟨by omega, by omega⟩)
      have hw : IntKind.i64.wrap (n % 405 - 2) = n % 405 - 2 := IntWalk.i64_in _ (by omega)
      go_upto_region 2 with fail
      have V0 := Lib.hid (VC.one w t o a s)
      have G0 := Lib.hid (World.grownBy_alloc w (Obj.cells #[.int .i64 t, .int .i64 o, .bool a, .bool s] 23) none)
      generalize w.alloc (Obj.cells #[.int .i64 t, .int .i64 o, .bool a, .bool s] 23) = W0 at *
      have VD := Lib.hid (V0.out.grown (grown_drewN _ 1 _))
      have GD := Lib.hid (grown_trans G0.out (grown_drewN _ 1 _))
      obtain ⟨k0, k1, k2, k3, l0, l1, l2, l3⟩ := V0.out
      refine wp_region_held_drew (S := (fun w' => ∃ t2 o2, VC w' w.heap.size t2 o2 a s)) (by kernel_rfl) ?_ (fun hHeld => ?_)
      · exact ⟨t, o, VD.out⟩
      try simp only [Act.put, List.setIfInBounds_toArray, List.set_cons_zero, List.set_cons_succ]
      refine wpAnyH_take (i := 0) (oi := { dst := some 22, op := Op.fieldAddr 23 (Operand.tmp 4) 0, type := 0, pos := "law.go:21", after := #[], guard := none }) (v := ?_) rfl (by kernel_rfl) (by kernel_rfl) (by kernel_rfl) (fun _ _ _ h => h) (Or.inl ⟨by rfl, ?_⟩) (by assumption) ?_
      rotate_left 1
      · intro w hSw; obtain ⟨t2, o2, s0, s1, s2, s3, _⟩ := hSw; first | (go_simp; done) | (go_simp; with_reducible rfl)
      try simp only [Act.put, List.setIfInBounds_toArray, List.set_cons_zero, List.set_cons_succ]
      refine wpAnyH_take (i := 3) (oi := { dst := some 25, op := Op.fieldAddr 23 (Operand.tmp 4) 1, type := 0, pos := "law.go:21", after := #[], guard := none }) (v := ?_) rfl (by kernel_rfl) (by kernel_rfl) (by kernel_rfl) (fun _ _ _ h => h) (Or.inl ⟨by rfl, ?_⟩) (by assumption) ?_
      rotate_left 1
      · intro w hSw; obtain ⟨t2, o2, s0, s1, s2, s3, _⟩ := hSw; first | (go_simp; done) | (go_simp; with_reducible rfl)
      try simp only [Act.put, List.setIfInBounds_toArray, List.set_cons_zero, List.set_cons_succ]
      refine wpAnyH_take (i := 6) (oi := { dst := some 28, op := Op.move (Operand.tmp 2), type := 3, pos := "law.go:21", after := #[], guard := none }) (v := ?_) rfl (by kernel_rfl) (by kernel_rfl) (by kernel_rfl) (fun _ _ _ h => h) (Or.inl ⟨by rfl, ?_⟩) (by assumption) ?_
      rotate_left 1
      · intro w hSw; obtain ⟨t2, o2, s0, s1, s2, s3, _⟩ := hSw; first | (go_simp; done) | (go_simp; with_reducible rfl)
      try simp only [Act.put, List.setIfInBounds_toArray, List.set_cons_zero, List.set_cons_succ]
      refine wpAnyH_ready (rs := [1, 4]) (by kernel_rfl) (by simp) (AllReadyH.cons (o := { dst := some 23, op := Op.load 3 (Operand.tmp 22), type := 3, pos := "law.go:21", after := #[{ on := 0, ground := Ground.data }], guard := none }) rfl (fun K hK => ?_) (AllReadyH.cons (o := { dst := some 26, op := Op.load 3 (Operand.tmp 25), type := 3, pos := "law.go:21", after := #[{ on := 3, ground := Ground.data }], guard := none }) rfl (fun K hK => ?_) AllReadyH.nil))
      · go_simp
        refine hK.out _ _ ?_ (fun hHeld => ?_)
        · exact ⟨t, o, VD.out⟩
        clear hK K
        try simp only [Act.put, List.setIfInBounds_toArray, List.set_cons_zero, List.set_cons_succ]
        refine wpAnyH_ready (rs := [2, 4]) (by kernel_rfl) (by simp) (AllReadyH.cons (o := { dst := some 24, op := Op.call { callee := Callee.value (Operand.func 6), args := #[Operand.tmp 23, Operand.const (Value.int IntKind.i64 64)], argTypes := #[3, 3] }, type := 3, pos := "law.go:21", after := #[{ on := 1, ground := Ground.data }], guard := none }) rfl (fun K hK => ?_) (AllReadyH.cons (o := { dst := some 26, op := Op.load 3 (Operand.tmp 25), type := 3, pos := "law.go:21", after := #[{ on := 3, ground := Ground.data }], guard := none }) rfl (fun K hK => ?_) AllReadyH.nil))
        · go_simp
          refine (smod_pos t 64 _ (by omega) (by omega) TI.out).mono ?_
          rintro e u ⟨rfl, rfl⟩
          try dsimp only
          refine hK.out _ _ ?_ (fun hHeld => ?_)
          · exact ⟨t, o, VD.out⟩
          clear hK K
          try simp only [Act.put, List.setIfInBounds_toArray, List.set_cons_zero, List.set_cons_succ]
          refine wpAnyH_ready (rs := [4]) (by kernel_rfl) (by simp) (AllReadyH.cons (o := { dst := some 26, op := Op.load 3 (Operand.tmp 25), type := 3, pos := "law.go:21", after := #[{ on := 3, ground := Ground.data }], guard := none }) rfl (fun K hK => ?_) AllReadyH.nil)
          · go_simp
            refine hK.out _ _ ?_ (fun hHeld => ?_)
            · exact ⟨t, o, VD.out⟩
            clear hK K
            try simp only [Act.put, List.setIfInBounds_toArray, List.set_cons_zero, List.set_cons_succ]
            refine wpAnyH_take (i := 9) (oi := { dst := some 31, op := Op.fieldAddr 23 (Operand.tmp 4) 0, type := 0, pos := "law.go:21", after := #[{ on := 0, ground := Ground.phase }, { on := 1, ground := Ground.phase }, { on := 2, ground := Ground.phase }, { on := 3, ground := Ground.phase }, { on := 4, ground := Ground.phase }, { on := 5, ground := Ground.textOnly Departure.lateStoresUnsure }, { on := 6, ground := Ground.textOnly Departure.lateStores }, { on := 7, ground := Ground.textOnly Departure.lateStoresUnsure }, { on := 8, ground := Ground.textOnly Departure.lateStores }], guard := none }) (v := ?_) rfl (by kernel_rfl) (by kernel_rfl) (by kernel_rfl) (fun _ _ _ h => h) (Or.inl ⟨by rfl, ?_⟩) (by assumption) ?_
            rotate_left 1
            · intro w hSw; obtain ⟨t2, o2, s0, s1, s2, s3, _⟩ := hSw; first | (go_simp; done) | (go_simp; with_reducible rfl)
            try simp only [Act.put, List.setIfInBounds_toArray, List.set_cons_zero, List.set_cons_succ]
            refine wpAnyH_ready (rs := [5]) (by kernel_rfl) (by simp) (AllReadyH.cons (o := { dst := some 27, op := Op.call { callee := Callee.value (Operand.func 6), args := #[Operand.tmp 26, Operand.const (Value.int IntKind.i64 64)], argTypes := #[3, 3] }, type := 3, pos := "law.go:21", after := #[{ on := 4, ground := Ground.data }, { on := 2, ground := Ground.chain }], guard := none }) rfl (fun K hK => ?_) AllReadyH.nil)
            · go_simp
              refine (smod_pos o 64 _ (by omega) (by omega) OI.out).mono ?_
              rintro e u ⟨rfl, rfl⟩
              try dsimp only
              refine hK.out _ _ ?_ (fun hHeld => ?_)
              · exact ⟨t, o, VD.out⟩
              clear hK K
              try simp only [Act.put, List.setIfInBounds_toArray, List.set_cons_zero, List.set_cons_succ]
              refine wpAnyH_ready (rs := [7]) (by kernel_rfl) (by simp) (AllReadyH.cons (o := { dst := some 29, op := Op.call { callee := Callee.value (Operand.func 6), args := #[Operand.tmp 28, Operand.const (Value.int IntKind.i64 405)], argTypes := #[3, 3] }, type := 3, pos := "law.go:21", after := #[{ on := 6, ground := Ground.data }, { on := 5, ground := Ground.chain }], guard := none }) rfl (fun K hK => ?_) AllReadyH.nil)
              · go_simp
                refine (smod_pos n 405 _ (by omega) (by omega) NI.out).mono ?_
                rintro e u ⟨rfl, rfl⟩
                try dsimp only
                refine hK.out _ _ ?_ (fun hHeld => ?_)
                · exact ⟨t, o, VD.out⟩
                clear hK K
                try simp only [Act.put, List.setIfInBounds_toArray, List.set_cons_zero, List.set_cons_succ]
                refine wpAnyH_take (i := 8) (oi := { dst := some 30, op := Op.binOp BinOp.sub 3 (Operand.tmp 29) (Operand.const (Value.int IntKind.i64 2)) 3, type := 3, pos := "law.go:21", after := #[{ on := 7, ground := Ground.data }, { on := 12, ground := Ground.gcOnly Departure.lateStores }], guard := none }) (v := ?_) rfl (by kernel_rfl) (by kernel_rfl) (by kernel_rfl) (fun _ _ _ h => h) (Or.inl ⟨by rfl, ?_⟩) (by assumption) ?_
                rotate_left 1
                · intro w hSw; obtain ⟨t2, o2, s0, s1, s2, s3, _⟩ := hSw; first | (go_simp; done) | (go_simp; with_reducible rfl)
                try simp only [Act.put, List.setIfInBounds_toArray, List.set_cons_zero, List.set_cons_succ]
                refine wpAnyH_ready (rs := [10]) (by kernel_rfl) (by simp) (AllReadyH.cons (o := { dst := none, op := Op.store 3 (Operand.tmp 31) (Operand.tmp 24), type := 0, pos := "law.go:21", after := #[{ on := 9, ground := Ground.data }, { on := 2, ground := Ground.data }, { on := 7, ground := Ground.chain }, { on := 0, ground := Ground.phase }, { on := 1, ground := Ground.phase }, { on := 2, ground := Ground.phase }, { on := 3, ground := Ground.phase }, { on := 4, ground := Ground.phase }, { on := 5, ground := Ground.textOnly Departure.lateStoresUnsure }, { on := 6, ground := Ground.textOnly Departure.lateStores }, { on := 7, ground := Ground.textOnly Departure.lateStoresUnsure }, { on := 8, ground := Ground.textOnly Departure.lateStores }], guard := none }) rfl (fun K hK => ?_) AllReadyH.nil)
                · go_simp
                  have V10 := Lib.hid (VD.out.set0 (t % 64))
                  refine hK.out _ _ ?_ (fun hHeld => ?_)
                  · exact ⟨_, _, V10.out⟩
                  clear hK K
                  try simp only [Act.put, List.setIfInBounds_toArray, List.set_cons_zero, List.set_cons_succ]
                  refine wpAnyH_take (i := 11) (oi := { dst := some 32, op := Op.fieldAddr 23 (Operand.tmp 4) 1, type := 0, pos := "law.go:21", after := #[{ on := 0, ground := Ground.phase }, { on := 1, ground := Ground.phase }, { on := 2, ground := Ground.phase }, { on := 3, ground := Ground.phase }, { on := 4, ground := Ground.phase }, { on := 5, ground := Ground.phase }, { on := 6, ground := Ground.textOnly Departure.lateStores }, { on := 7, ground := Ground.textOnly Departure.lateStoresUnsure }, { on := 8, ground := Ground.textOnly Departure.lateStores }, { on := 9, ground := Ground.phase }, { on := 10, ground := Ground.phase }], guard := none }) (v := ?_) rfl (by kernel_rfl) (by kernel_rfl) (by kernel_rfl) (fun _ _ _ h => h) (Or.inl ⟨by rfl, ?_⟩) (by assumption) ?_
                  rotate_left 1
                  · intro w hSw; obtain ⟨t2, o2, s0, s1, s2, s3, _⟩ := hSw; first | (go_simp; done) | (go_simp; with_reducible rfl)
                  try simp only [Act.put, List.setIfInBounds_toArray, List.set_cons_zero, List.set_cons_succ]
                  refine wpAnyH_ready (rs := [12]) (by kernel_rfl) (by simp) (AllReadyH.cons (o := { dst := none, op := Op.store 3 (Operand.tmp 32) (Operand.tmp 27), type := 0, pos := "law.go:21", after := #[{ on := 11, ground := Ground.data }, { on := 5, ground := Ground.data }, { on := 10, ground := Ground.chain }, { on := 0, ground := Ground.phase }, { on := 1, ground := Ground.phase }, { on := 2, ground := Ground.phase }, { on := 3, ground := Ground.phase }, { on := 4, ground := Ground.phase }, { on := 5, ground := Ground.phase }, { on := 6, ground := Ground.textOnly Departure.lateStores }, { on := 7, ground := Ground.textOnly Departure.lateStoresUnsure }, { on := 8, ground := Ground.textOnly Departure.lateStores }, { on := 9, ground := Ground.phase }, { on := 10, ground := Ground.phase }], guard := none }) rfl (fun K hK => ?_) AllReadyH.nil)
                  · go_simp
                    have V12 := Lib.hid (V10.out.set1 (o % 64))
                    refine hK.out _ _ ?_ (fun hHeld => ?_)
                    · exact ⟨_, _, V12.out⟩
                    clear hK K
                    try simp only [Act.put, List.setIfInBounds_toArray, List.set_cons_zero, List.set_cons_succ]
                    refine wpAnyH_take (i := 13) (oi := { dst := some 2, op := Op.assign (Operand.tmp 30), type := 3, pos := "law.go:21", after := #[{ on := 8, ground := Ground.data }, { on := 12, ground := Ground.chain }, { on := 0, ground := Ground.phase }, { on := 1, ground := Ground.phase }, { on := 2, ground := Ground.phase }, { on := 3, ground := Ground.phase }, { on := 4, ground := Ground.phase }, { on := 5, ground := Ground.phase }, { on := 6, ground := Ground.phase }, { on := 7, ground := Ground.phase }, { on := 8, ground := Ground.phase }, { on := 9, ground := Ground.phase }, { on := 10, ground := Ground.phase }, { on := 11, ground := Ground.phase }, { on := 12, ground := Ground.phase }], guard := none }) (v := ?_) rfl (by kernel_rfl) (by kernel_rfl) (by kernel_rfl) (fun _ _ _ h => h) (Or.inl ⟨by rfl, ?_⟩) (by assumption) ?_
                    rotate_left 1
                    · intro w hSw; obtain ⟨t2, o2, s0, s1, s2, s3, _⟩ := hSw; first | (go_simp; done) | (go_simp; with_reducible rfl)
                    try simp only [Act.put, List.setIfInBounds_toArray, List.set_cons_zero, List.set_cons_succ]
                    refine wpAnyH_done (by kernel_rfl) ?_ _
                    go_wp2
                    go_meet
                    case rel => exact ⟨t % 64, o % 64, n % 405 - 2, rfl, TI2, OI2, V12, Lib.hid (grown_off (grown_off GD.out (grown_set _ ⟨w.heap.size, 0, none⟩ _) (Nat.le_refl _)) (grown_set _ ⟨w.heap.size, 1, none⟩ _) (Nat.le_refl _))⟩
        · go_simp
          refine hK.out _ _ ?_ (fun hHeld => ?_)
          · exact ⟨t, o, VD.out⟩
          clear hK K
          try simp only [Act.put, List.setIfInBounds_toArray, List.set_cons_zero, List.set_cons_succ]
          refine wpAnyH_ready (rs := [2]) (by kernel_rfl) (by simp) (AllReadyH.cons (o := { dst := some 24, op := Op.call { callee := Callee.value (Operand.func 6), args := #[Operand.tmp 23, Operand.const (Value.int IntKind.i64 64)], argTypes := #[3, 3] }, type := 3, pos := "law.go:21", after := #[{ on := 1, ground := Ground.data }], guard := none }) rfl (fun K hK => ?_) AllReadyH.nil)
          · go_simp
            refine (smod_pos t 64 _ (by omega) (by omega) TI.out).mono ?_
            rintro e u ⟨rfl, rfl⟩
            try dsimp only
            refine hK.out _ _ ?_ (fun hHeld => ?_)
            · exact ⟨t, o, VD.out⟩
            clear hK K
            try simp only [Act.put, List.setIfInBounds_toArray, List.set_cons_zero, List.set_cons_succ]
            refine wpAnyH_take (i := 9) (oi := { dst := some 31, op := Op.fieldAddr 23 (Operand.tmp 4) 0, type := 0, pos := "law.go:21", after := #[{ on := 0, ground := Ground.phase }, { on := 1, ground := Ground.phase }, { on := 2, ground := Ground.phase }, { on := 3, ground := Ground.phase }, { on := 4, ground := Ground.phase }, { on := 5, ground := Ground.textOnly Departure.lateStoresUnsure }, { on := 6, ground := Ground.textOnly Departure.lateStores }, { on := 7, ground := Ground.textOnly Departure.lateStoresUnsure }, { on := 8, ground := Ground.textOnly Departure.lateStores }], guard := none }) (v := ?_) rfl (by kernel_rfl) (by kernel_rfl) (by kernel_rfl) (fun _ _ _ h => h) (Or.inl ⟨by rfl, ?_⟩) (by assumption) ?_
            rotate_left 1
            · intro w hSw; obtain ⟨t2, o2, s0, s1, s2, s3, _⟩ := hSw; first | (go_simp; done) | (go_simp; with_reducible rfl)
            try simp only [Act.put, List.setIfInBounds_toArray, List.set_cons_zero, List.set_cons_succ]
            refine wpAnyH_ready (rs := [5]) (by kernel_rfl) (by simp) (AllReadyH.cons (o := { dst := some 27, op := Op.call { callee := Callee.value (Operand.func 6), args := #[Operand.tmp 26, Operand.const (Value.int IntKind.i64 64)], argTypes := #[3, 3] }, type := 3, pos := "law.go:21", after := #[{ on := 4, ground := Ground.data }, { on := 2, ground := Ground.chain }], guard := none }) rfl (fun K hK => ?_) AllReadyH.nil)
            · go_simp
              refine (smod_pos o 64 _ (by omega) (by omega) OI.out).mono ?_
              rintro e u ⟨rfl, rfl⟩
              try dsimp only
              refine hK.out _ _ ?_ (fun hHeld => ?_)
              · exact ⟨t, o, VD.out⟩
              clear hK K
              try simp only [Act.put, List.setIfInBounds_toArray, List.set_cons_zero, List.set_cons_succ]
              refine wpAnyH_ready (rs := [7]) (by kernel_rfl) (by simp) (AllReadyH.cons (o := { dst := some 29, op := Op.call { callee := Callee.value (Operand.func 6), args := #[Operand.tmp 28, Operand.const (Value.int IntKind.i64 405)], argTypes := #[3, 3] }, type := 3, pos := "law.go:21", after := #[{ on := 6, ground := Ground.data }, { on := 5, ground := Ground.chain }], guard := none }) rfl (fun K hK => ?_) AllReadyH.nil)
              · go_simp
                refine (smod_pos n 405 _ (by omega) (by omega) NI.out).mono ?_
                rintro e u ⟨rfl, rfl⟩
                try dsimp only
                refine hK.out _ _ ?_ (fun hHeld => ?_)
                · exact ⟨t, o, VD.out⟩
                clear hK K
                try simp only [Act.put, List.setIfInBounds_toArray, List.set_cons_zero, List.set_cons_succ]
                refine wpAnyH_take (i := 8) (oi := { dst := some 30, op := Op.binOp BinOp.sub 3 (Operand.tmp 29) (Operand.const (Value.int IntKind.i64 2)) 3, type := 3, pos := "law.go:21", after := #[{ on := 7, ground := Ground.data }, { on := 12, ground := Ground.gcOnly Departure.lateStores }], guard := none }) (v := ?_) rfl (by kernel_rfl) (by kernel_rfl) (by kernel_rfl) (fun _ _ _ h => h) (Or.inl ⟨by rfl, ?_⟩) (by assumption) ?_
                rotate_left 1
                · intro w hSw; obtain ⟨t2, o2, s0, s1, s2, s3, _⟩ := hSw; first | (go_simp; done) | (go_simp; with_reducible rfl)
                try simp only [Act.put, List.setIfInBounds_toArray, List.set_cons_zero, List.set_cons_succ]
                refine wpAnyH_ready (rs := [10]) (by kernel_rfl) (by simp) (AllReadyH.cons (o := { dst := none, op := Op.store 3 (Operand.tmp 31) (Operand.tmp 24), type := 0, pos := "law.go:21", after := #[{ on := 9, ground := Ground.data }, { on := 2, ground := Ground.data }, { on := 7, ground := Ground.chain }, { on := 0, ground := Ground.phase }, { on := 1, ground := Ground.phase }, { on := 2, ground := Ground.phase }, { on := 3, ground := Ground.phase }, { on := 4, ground := Ground.phase }, { on := 5, ground := Ground.textOnly Departure.lateStoresUnsure }, { on := 6, ground := Ground.textOnly Departure.lateStores }, { on := 7, ground := Ground.textOnly Departure.lateStoresUnsure }, { on := 8, ground := Ground.textOnly Departure.lateStores }], guard := none }) rfl (fun K hK => ?_) AllReadyH.nil)
                · go_simp
                  have V10 := Lib.hid (VD.out.set0 (t % 64))
                  refine hK.out _ _ ?_ (fun hHeld => ?_)
                  · exact ⟨_, _, V10.out⟩
                  clear hK K
                  try simp only [Act.put, List.setIfInBounds_toArray, List.set_cons_zero, List.set_cons_succ]
                  refine wpAnyH_take (i := 11) (oi := { dst := some 32, op := Op.fieldAddr 23 (Operand.tmp 4) 1, type := 0, pos := "law.go:21", after := #[{ on := 0, ground := Ground.phase }, { on := 1, ground := Ground.phase }, { on := 2, ground := Ground.phase }, { on := 3, ground := Ground.phase }, { on := 4, ground := Ground.phase }, { on := 5, ground := Ground.phase }, { on := 6, ground := Ground.textOnly Departure.lateStores }, { on := 7, ground := Ground.textOnly Departure.lateStoresUnsure }, { on := 8, ground := Ground.textOnly Departure.lateStores }, { on := 9, ground := Ground.phase }, { on := 10, ground := Ground.phase }], guard := none }) (v := ?_) rfl (by kernel_rfl) (by kernel_rfl) (by kernel_rfl) (fun _ _ _ h => h) (Or.inl ⟨by rfl, ?_⟩) (by assumption) ?_
                  rotate_left 1
                  · intro w hSw; obtain ⟨t2, o2, s0, s1, s2, s3, _⟩ := hSw; first | (go_simp; done) | (go_simp; with_reducible rfl)
                  try simp only [Act.put, List.setIfInBounds_toArray, List.set_cons_zero, List.set_cons_succ]
                  refine wpAnyH_ready (rs := [12]) (by kernel_rfl) (by simp) (AllReadyH.cons (o := { dst := none, op := Op.store 3 (Operand.tmp 32) (Operand.tmp 27), type := 0, pos := "law.go:21", after := #[{ on := 11, ground := Ground.data }, { on := 5, ground := Ground.data }, { on := 10, ground := Ground.chain }, { on := 0, ground := Ground.phase }, { on := 1, ground := Ground.phase }, { on := 2, ground := Ground.phase }, { on := 3, ground := Ground.phase }, { on := 4, ground := Ground.phase }, { on := 5, ground := Ground.phase }, { on := 6, ground := Ground.textOnly Departure.lateStores }, { on := 7, ground := Ground.textOnly Departure.lateStoresUnsure }, { on := 8, ground := Ground.textOnly Departure.lateStores }, { on := 9, ground := Ground.phase }, { on := 10, ground := Ground.phase }], guard := none }) rfl (fun K hK => ?_) AllReadyH.nil)
                  · go_simp
                    have V12 := Lib.hid (V10.out.set1 (o % 64))
                    refine hK.out _ _ ?_ (fun hHeld => ?_)
                    · exact ⟨_, _, V12.out⟩
                    clear hK K
                    try simp only [Act.put, List.setIfInBounds_toArray, List.set_cons_zero, List.set_cons_succ]
                    refine wpAnyH_take (i := 13) (oi := { dst := some 2, op := Op.assign (Operand.tmp 30), type := 3, pos := "law.go:21", after := #[{ on := 8, ground := Ground.data }, { on := 12, ground := Ground.chain }, { on := 0, ground := Ground.phase }, { on := 1, ground := Ground.phase }, { on := 2, ground := Ground.phase }, { on := 3, ground := Ground.phase }, { on := 4, ground := Ground.phase }, { on := 5, ground := Ground.phase }, { on := 6, ground := Ground.phase }, { on := 7, ground := Ground.phase }, { on := 8, ground := Ground.phase }, { on := 9, ground := Ground.phase }, { on := 10, ground := Ground.phase }, { on := 11, ground := Ground.phase }, { on := 12, ground := Ground.phase }], guard := none }) (v := ?_) rfl (by kernel_rfl) (by kernel_rfl) (by kernel_rfl) (fun _ _ _ h => h) (Or.inl ⟨by rfl, ?_⟩) (by assumption) ?_
                    rotate_left 1
                    · intro w hSw; obtain ⟨t2, o2, s0, s1, s2, s3, _⟩ := hSw; first | (go_simp; done) | (go_simp; with_reducible rfl)
                    try simp only [Act.put, List.setIfInBounds_toArray, List.set_cons_zero, List.set_cons_succ]
                    refine wpAnyH_done (by kernel_rfl) ?_ _
                    go_wp2
                    go_meet
                    case rel => exact ⟨t % 64, o % 64, n % 405 - 2, rfl, TI2, OI2, V12, Lib.hid (grown_off (grown_off GD.out (grown_set _ ⟨w.heap.size, 0, none⟩ _) (Nat.le_refl _)) (grown_set _ ⟨w.heap.size, 1, none⟩ _) (Nat.le_refl _))⟩
      · go_simp
        refine hK.out _ _ ?_ (fun hHeld => ?_)
        · exact ⟨t, o, VD.out⟩
        clear hK K
        try simp only [Act.put, List.setIfInBounds_toArray, List.set_cons_zero, List.set_cons_succ]
        refine wpAnyH_ready (rs := [1]) (by kernel_rfl) (by simp) (AllReadyH.cons (o := { dst := some 23, op := Op.load 3 (Operand.tmp 22), type := 3, pos := "law.go:21", after := #[{ on := 0, ground := Ground.data }], guard := none }) rfl (fun K hK => ?_) AllReadyH.nil)
        · go_simp
          refine hK.out _ _ ?_ (fun hHeld => ?_)
          · exact ⟨t, o, VD.out⟩
          clear hK K
          try simp only [Act.put, List.setIfInBounds_toArray, List.set_cons_zero, List.set_cons_succ]
          refine wpAnyH_ready (rs := [2]) (by kernel_rfl) (by simp) (AllReadyH.cons (o := { dst := some 24, op := Op.call { callee := Callee.value (Operand.func 6), args := #[Operand.tmp 23, Operand.const (Value.int IntKind.i64 64)], argTypes := #[3, 3] }, type := 3, pos := "law.go:21", after := #[{ on := 1, ground := Ground.data }], guard := none }) rfl (fun K hK => ?_) AllReadyH.nil)
          · go_simp
            refine (smod_pos t 64 _ (by omega) (by omega) TI.out).mono ?_
            rintro e u ⟨rfl, rfl⟩
            try dsimp only
            refine hK.out _ _ ?_ (fun hHeld => ?_)
            · exact ⟨t, o, VD.out⟩
            clear hK K
            try simp only [Act.put, List.setIfInBounds_toArray, List.set_cons_zero, List.set_cons_succ]
            refine wpAnyH_take (i := 9) (oi := { dst := some 31, op := Op.fieldAddr 23 (Operand.tmp 4) 0, type := 0, pos := "law.go:21", after := #[{ on := 0, ground := Ground.phase }, { on := 1, ground := Ground.phase }, { on := 2, ground := Ground.phase }, { on := 3, ground := Ground.phase }, { on := 4, ground := Ground.phase }, { on := 5, ground := Ground.textOnly Departure.lateStoresUnsure }, { on := 6, ground := Ground.textOnly Departure.lateStores }, { on := 7, ground := Ground.textOnly Departure.lateStoresUnsure }, { on := 8, ground := Ground.textOnly Departure.lateStores }], guard := none }) (v := ?_) rfl (by kernel_rfl) (by kernel_rfl) (by kernel_rfl) (fun _ _ _ h => h) (Or.inl ⟨by rfl, ?_⟩) (by assumption) ?_
            rotate_left 1
            · intro w hSw; obtain ⟨t2, o2, s0, s1, s2, s3, _⟩ := hSw; first | (go_simp; done) | (go_simp; with_reducible rfl)
            try simp only [Act.put, List.setIfInBounds_toArray, List.set_cons_zero, List.set_cons_succ]
            refine wpAnyH_ready (rs := [5]) (by kernel_rfl) (by simp) (AllReadyH.cons (o := { dst := some 27, op := Op.call { callee := Callee.value (Operand.func 6), args := #[Operand.tmp 26, Operand.const (Value.int IntKind.i64 64)], argTypes := #[3, 3] }, type := 3, pos := "law.go:21", after := #[{ on := 4, ground := Ground.data }, { on := 2, ground := Ground.chain }], guard := none }) rfl (fun K hK => ?_) AllReadyH.nil)
            · go_simp
              refine (smod_pos o 64 _ (by omega) (by omega) OI.out).mono ?_
              rintro e u ⟨rfl, rfl⟩
              try dsimp only
              refine hK.out _ _ ?_ (fun hHeld => ?_)
              · exact ⟨t, o, VD.out⟩
              clear hK K
              try simp only [Act.put, List.setIfInBounds_toArray, List.set_cons_zero, List.set_cons_succ]
              refine wpAnyH_ready (rs := [7]) (by kernel_rfl) (by simp) (AllReadyH.cons (o := { dst := some 29, op := Op.call { callee := Callee.value (Operand.func 6), args := #[Operand.tmp 28, Operand.const (Value.int IntKind.i64 405)], argTypes := #[3, 3] }, type := 3, pos := "law.go:21", after := #[{ on := 6, ground := Ground.data }, { on := 5, ground := Ground.chain }], guard := none }) rfl (fun K hK => ?_) AllReadyH.nil)
              · go_simp
                refine (smod_pos n 405 _ (by omega) (by omega) NI.out).mono ?_
                rintro e u ⟨rfl, rfl⟩
                try dsimp only
                refine hK.out _ _ ?_ (fun hHeld => ?_)
                · exact ⟨t, o, VD.out⟩
                clear hK K
                try simp only [Act.put, List.setIfInBounds_toArray, List.set_cons_zero, List.set_cons_succ]
                refine wpAnyH_take (i := 8) (oi := { dst := some 30, op := Op.binOp BinOp.sub 3 (Operand.tmp 29) (Operand.const (Value.int IntKind.i64 2)) 3, type := 3, pos := "law.go:21", after := #[{ on := 7, ground := Ground.data }, { on := 12, ground := Ground.gcOnly Departure.lateStores }], guard := none }) (v := ?_) rfl (by kernel_rfl) (by kernel_rfl) (by kernel_rfl) (fun _ _ _ h => h) (Or.inl ⟨by rfl, ?_⟩) (by assumption) ?_
                rotate_left 1
                · intro w hSw; obtain ⟨t2, o2, s0, s1, s2, s3, _⟩ := hSw; first | (go_simp; done) | (go_simp; with_reducible rfl)
                try simp only [Act.put, List.setIfInBounds_toArray, List.set_cons_zero, List.set_cons_succ]
                refine wpAnyH_ready (rs := [10]) (by kernel_rfl) (by simp) (AllReadyH.cons (o := { dst := none, op := Op.store 3 (Operand.tmp 31) (Operand.tmp 24), type := 0, pos := "law.go:21", after := #[{ on := 9, ground := Ground.data }, { on := 2, ground := Ground.data }, { on := 7, ground := Ground.chain }, { on := 0, ground := Ground.phase }, { on := 1, ground := Ground.phase }, { on := 2, ground := Ground.phase }, { on := 3, ground := Ground.phase }, { on := 4, ground := Ground.phase }, { on := 5, ground := Ground.textOnly Departure.lateStoresUnsure }, { on := 6, ground := Ground.textOnly Departure.lateStores }, { on := 7, ground := Ground.textOnly Departure.lateStoresUnsure }, { on := 8, ground := Ground.textOnly Departure.lateStores }], guard := none }) rfl (fun K hK => ?_) AllReadyH.nil)
                · go_simp
                  have V10 := Lib.hid (VD.out.set0 (t % 64))
                  refine hK.out _ _ ?_ (fun hHeld => ?_)
                  · exact ⟨_, _, V10.out⟩
                  clear hK K
                  try simp only [Act.put, List.setIfInBounds_toArray, List.set_cons_zero, List.set_cons_succ]
                  refine wpAnyH_take (i := 11) (oi := { dst := some 32, op := Op.fieldAddr 23 (Operand.tmp 4) 1, type := 0, pos := "law.go:21", after := #[{ on := 0, ground := Ground.phase }, { on := 1, ground := Ground.phase }, { on := 2, ground := Ground.phase }, { on := 3, ground := Ground.phase }, { on := 4, ground := Ground.phase }, { on := 5, ground := Ground.phase }, { on := 6, ground := Ground.textOnly Departure.lateStores }, { on := 7, ground := Ground.textOnly Departure.lateStoresUnsure }, { on := 8, ground := Ground.textOnly Departure.lateStores }, { on := 9, ground := Ground.phase }, { on := 10, ground := Ground.phase }], guard := none }) (v := ?_) rfl (by kernel_rfl) (by kernel_rfl) (by kernel_rfl) (fun _ _ _ h => h) (Or.inl ⟨by rfl, ?_⟩) (by assumption) ?_
                  rotate_left 1
                  · intro w hSw; obtain ⟨t2, o2, s0, s1, s2, s3, _⟩ := hSw; first | (go_simp; done) | (go_simp; with_reducible rfl)
                  try simp only [Act.put, List.setIfInBounds_toArray, List.set_cons_zero, List.set_cons_succ]
                  refine wpAnyH_ready (rs := [12]) (by kernel_rfl) (by simp) (AllReadyH.cons (o := { dst := none, op := Op.store 3 (Operand.tmp 32) (Operand.tmp 27), type := 0, pos := "law.go:21", after := #[{ on := 11, ground := Ground.data }, { on := 5, ground := Ground.data }, { on := 10, ground := Ground.chain }, { on := 0, ground := Ground.phase }, { on := 1, ground := Ground.phase }, { on := 2, ground := Ground.phase }, { on := 3, ground := Ground.phase }, { on := 4, ground := Ground.phase }, { on := 5, ground := Ground.phase }, { on := 6, ground := Ground.textOnly Departure.lateStores }, { on := 7, ground := Ground.textOnly Departure.lateStoresUnsure }, { on := 8, ground := Ground.textOnly Departure.lateStores }, { on := 9, ground := Ground.phase }, { on := 10, ground := Ground.phase }], guard := none }) rfl (fun K hK => ?_) AllReadyH.nil)
                  · go_simp
                    have V12 := Lib.hid (V10.out.set1 (o % 64))
                    refine hK.out _ _ ?_ (fun hHeld => ?_)
                    · exact ⟨_, _, V12.out⟩
                    clear hK K
                    try simp only [Act.put, List.setIfInBounds_toArray, List.set_cons_zero, List.set_cons_succ]
                    refine wpAnyH_take (i := 13) (oi := { dst := some 2, op := Op.assign (Operand.tmp 30), type := 3, pos := "law.go:21", after := #[{ on := 8, ground := Ground.data }, { on := 12, ground := Ground.chain }, { on := 0, ground := Ground.phase }, { on := 1, ground := Ground.phase }, { on := 2, ground := Ground.phase }, { on := 3, ground := Ground.phase }, { on := 4, ground := Ground.phase }, { on := 5, ground := Ground.phase }, { on := 6, ground := Ground.phase }, { on := 7, ground := Ground.phase }, { on := 8, ground := Ground.phase }, { on := 9, ground := Ground.phase }, { on := 10, ground := Ground.phase }, { on := 11, ground := Ground.phase }, { on := 12, ground := Ground.phase }], guard := none }) (v := ?_) rfl (by kernel_rfl) (by kernel_rfl) (by kernel_rfl) (fun _ _ _ h => h) (Or.inl ⟨by rfl, ?_⟩) (by assumption) ?_
                    rotate_left 1
                    · intro w hSw; obtain ⟨t2, o2, s0, s1, s2, s3, _⟩ := hSw; first | (go_simp; done) | (go_simp; with_reducible rfl)
                    try simp only [Act.put, List.setIfInBounds_toArray, List.set_cons_zero, List.set_cons_succ]
                    refine wpAnyH_done (by kernel_rfl) ?_ _
                    go_wp2
                    go_meet
                    case rel => exact ⟨t % 64, o % 64, n % 405 - 2, rfl, TI2, OI2, V12, Lib.hid (grown_off (grown_off GD.out (grown_set _ ⟨w.heap.size, 0, none⟩ _) (Nat.le_refl _)) (grown_set _ ⟨w.heap.size, 1, none⟩ _) (Nat.le_refl _))⟩
  case rest =>
    clear TI OI NI
    obtain ⟨t', o', n', rfl, TI, OI, V, G⟩ := hcut
    have HA := Lib.hid (fun w => ccommand_any t' o' a s b w)
    have HB := Lib.hid (fun w => rcommand_any t' o' a s b w)
    have HC := Lib.hid (fun w => cstep_any t' o' a s w)
    have HD := Lib.hid (fun w => rstep_any t' o' a s w)
    have HE := Lib.hid (fun w => cpass_any t' o' n' a s w)
    have HF := Lib.hid (fun w => rpass_any t' o' n' a s w)
    have H1 := Lib.hid (fun w => cvalid_any t' o' a s w)
    have H2 := Lib.hid (fun w => rvalid_any t' o' a s w)
    have H3 := Lib.hid (fun w => copen_any t' o' a s w TI.out OI.out)
    have H4 := Lib.hid (fun w => ropen_any t' o' a s w TI.out OI.out)
    have H5 := Lib.hid (fun w => cclosed_any t' o' a s w TI.out OI.out)
    have H6 := Lib.hid (fun w => rclosed_any t' o' a s w TI.out OI.out)
    have H7 := Lib.hid (fun w => cleft_any t' o' a s w)
    have H8 := Lib.hid (fun w => rleft_any t' o' a s w)
    generalize cmdA t' o' a b = ca at *
    generalize cmdE t' o' = ce at *
    generalize stepO t' o' a s = so at *
    generalize passO t' o' a s n' = po at *
    generalize passE t' o' n' = pe at *
    generalize decide (Vm.Ok t' o' ∧ o' = t') = d1 at *
    generalize decide (Vm.Ok t' o' ∧ o' = 0) = d2 at *
    generalize decide (Vm.Ok t' o') = d0 at *
    generalize Vm.left t' o' a s = lf at *
    obtain ⟨k0, k1, k2, k3, _⟩ := V.out
    go_wp2_with fail
    refine (HA.out _).mono ?_
    rintro e w1 ⟨rfl, hg⟩
    have hz := World.grownBy_alloc w1 (Obj.cells #[.int .i64 t', .int .i64 o', .bool ca, .bool s] 23) none
    replace V := Lib.hid ((V.out.grown hg).grown hz)
    replace G := Lib.hid (grown_trans (grown_trans G.out hg) hz)
    have P1 := Lib.hid (VC.one w1 t' o' ca s)
    clear hg hz k0 k1 k2 k3 HA
    unfold ve vv
    go_upto_region 4 with fail
    generalize w1.alloc (Obj.cells #[.int .i64 t', .int .i64 o', .bool ca, .bool s] 23) = W1 at *
    generalize w1.heap.size = Y1 at *
    obtain ⟨k0, k1, k2, k3, _⟩ := V.out
    go_wp2_with fail
    refine (HB.out _).mono ?_
    rintro e w2 ⟨rfl, hg⟩
    have hz := World.grownBy_alloc w2 (Obj.cells #[.int .i64 t', .int .i64 o', .bool ca, .bool s] 23) none
    replace V := Lib.hid ((V.out.grown hg).grown hz)
    replace G := Lib.hid (grown_trans (grown_trans G.out hg) hz)
    replace P1 := Lib.hid ((P1.out.grown hg).grown hz)
    have P2 := Lib.hid (VC.one w2 t' o' ca s)
    clear hg hz k0 k1 k2 k3 HB
    unfold ve vv
    go_upto_region 5 with fail
    generalize w2.alloc (Obj.cells #[.int .i64 t', .int .i64 o', .bool ca, .bool s] 23) = W2 at *
    generalize w2.heap.size = Y2 at *
    obtain ⟨k0, k1, k2, k3, _⟩ := V.out
    go_wp2_with fail
    refine (HC.out _).mono ?_
    rintro e w3 ⟨rfl, hg⟩
    have hz := World.grownBy_alloc w3 (Obj.cells #[.int .i64 t', .int .i64 so, .bool a, .bool s] 23) none
    replace V := Lib.hid ((V.out.grown hg).grown hz)
    replace G := Lib.hid (grown_trans (grown_trans G.out hg) hz)
    replace P1 := Lib.hid ((P1.out.grown hg).grown hz)
    replace P2 := Lib.hid ((P2.out.grown hg).grown hz)
    have P3 := Lib.hid (VC.one w3 t' so a s)
    clear hg hz k0 k1 k2 k3 HC
    unfold ve vv
    go_upto_region 6 with fail
    generalize w3.alloc (Obj.cells #[.int .i64 t', .int .i64 so, .bool a, .bool s] 23) = W3 at *
    generalize w3.heap.size = Y3 at *
    obtain ⟨k0, k1, k2, k3, _⟩ := V.out
    go_wp2_with fail
    refine (HD.out _).mono ?_
    rintro e w4 ⟨rfl, hg⟩
    have hz := World.grownBy_alloc w4 (Obj.cells #[.int .i64 t', .int .i64 so, .bool a, .bool s] 23) none
    replace V := Lib.hid ((V.out.grown hg).grown hz)
    replace G := Lib.hid (grown_trans (grown_trans G.out hg) hz)
    replace P1 := Lib.hid ((P1.out.grown hg).grown hz)
    replace P2 := Lib.hid ((P2.out.grown hg).grown hz)
    replace P3 := Lib.hid ((P3.out.grown hg).grown hz)
    have P4 := Lib.hid (VC.one w4 t' so a s)
    clear hg hz k0 k1 k2 k3 HD
    unfold ve vv
    go_upto_region 7 with fail
    generalize w4.alloc (Obj.cells #[.int .i64 t', .int .i64 so, .bool a, .bool s] 23) = W4 at *
    generalize w4.heap.size = Y4 at *
    obtain ⟨k0, k1, k2, k3, _⟩ := V.out
    go_wp2_with fail
    refine (HE.out _).mono ?_
    rintro e w5 ⟨rfl, hg⟩
    have hz := World.grownBy_alloc w5 (Obj.cells #[.int .i64 t', .int .i64 po, .bool a, .bool s] 23) none
    replace V := Lib.hid ((V.out.grown hg).grown hz)
    replace G := Lib.hid (grown_trans (grown_trans G.out hg) hz)
    replace P1 := Lib.hid ((P1.out.grown hg).grown hz)
    replace P2 := Lib.hid ((P2.out.grown hg).grown hz)
    replace P3 := Lib.hid ((P3.out.grown hg).grown hz)
    replace P4 := Lib.hid ((P4.out.grown hg).grown hz)
    have P5 := Lib.hid (VC.one w5 t' po a s)
    clear hg hz k0 k1 k2 k3 HE
    unfold ve vv
    go_upto_region 8 with fail
    generalize w5.alloc (Obj.cells #[.int .i64 t', .int .i64 po, .bool a, .bool s] 23) = W5 at *
    generalize w5.heap.size = Y5 at *
    obtain ⟨k0, k1, k2, k3, _⟩ := V.out
    go_wp2_with fail
    refine (HF.out _).mono ?_
    rintro e w6 ⟨rfl, hg⟩
    have hz := World.grownBy_alloc w6 (Obj.cells #[.int .i64 t', .int .i64 po, .bool a, .bool s] 23) none
    replace V := Lib.hid ((V.out.grown hg).grown hz)
    replace G := Lib.hid (grown_trans (grown_trans G.out hg) hz)
    replace P1 := Lib.hid ((P1.out.grown hg).grown hz)
    replace P2 := Lib.hid ((P2.out.grown hg).grown hz)
    replace P3 := Lib.hid ((P3.out.grown hg).grown hz)
    replace P4 := Lib.hid ((P4.out.grown hg).grown hz)
    replace P5 := Lib.hid ((P5.out.grown hg).grown hz)
    have P6 := Lib.hid (VC.one w6 t' po a s)
    clear hg hz k0 k1 k2 k3 HF
    unfold ve vv
    go_upto_region 9 with fail
    generalize w6.alloc (Obj.cells #[.int .i64 t', .int .i64 po, .bool a, .bool s] 23) = W6 at *
    generalize w6.heap.size = Y6 at *
    have R0 := Lib.hid (show Rx w.heap.size Y1 Y2 Y3 Y4 Y5 Y6 t' o' a s ca so po W6 from ⟨V.out, P1.out, P2.out, P3.out, P4.out, P5.out, P6.out⟩)
    clear V P1 P2 P3 P4 P5 P6
    refine wp_region_held_drew (S := (Rx w.heap.size Y1 Y2 Y3 Y4 Y5 Y6 t' o' a s ca so po)) (by kernel_rfl) ?_ (fun hHeld => ?_)
    · exact R0.out.grown (grown_drewN _ 1 _)
    try simp only [Act.put, List.setIfInBounds_toArray, List.set_cons_zero, List.set_cons_succ]
    refine wpAnyH_take (i := 0) (oi := { dst := some 67, op := Op.load 23 (Operand.tmp 9), type := 23, pos := "law.go:29", after := #[], guard := none }) (v := ?_) rfl (by kernel_rfl) (by kernel_rfl) (by kernel_rfl) (fun _ _ _ h => h) (Or.inl ⟨by rfl, ?_⟩) (by assumption) ?_
    rotate_left 1
    · intro w hSw; obtain ⟨⟨v0, v1, v2, v3, _⟩, ⟨a0, a1, a2, a3, _⟩, ⟨b0, b1, b2, b3, _⟩, ⟨c0, c1, c2, c3, _⟩, ⟨d0, d1, d2, d3, _⟩, ⟨e0, e1, e2, e3, _⟩, ⟨f0, f1, f2, f3, _⟩⟩ := hSw; first | (go_simp; done) | (go_simp; with_reducible rfl)
    try simp only [Act.put, List.setIfInBounds_toArray, List.set_cons_zero, List.set_cons_succ]
    refine wpAnyH_take (i := 1) (oi := { dst := some 68, op := Op.load 23 (Operand.tmp 11), type := 23, pos := "law.go:29", after := #[], guard := none }) (v := ?_) rfl (by kernel_rfl) (by kernel_rfl) (by kernel_rfl) (fun _ _ _ h => h) (Or.inl ⟨by rfl, ?_⟩) (by assumption) ?_
    rotate_left 1
    · intro w hSw; obtain ⟨⟨v0, v1, v2, v3, _⟩, ⟨a0, a1, a2, a3, _⟩, ⟨b0, b1, b2, b3, _⟩, ⟨c0, c1, c2, c3, _⟩, ⟨d0, d1, d2, d3, _⟩, ⟨e0, e1, e2, e3, _⟩, ⟨f0, f1, f2, f3, _⟩⟩ := hSw; first | (go_simp; done) | (go_simp; with_reducible rfl)
    try simp only [Act.put, List.setIfInBounds_toArray, List.set_cons_zero, List.set_cons_succ]
    refine wpAnyH_take (i := 2) (oi := { dst := some 69, op := Op.binOp BinOp.eql 23 (Operand.tmp 67) (Operand.tmp 68) 23, type := 4, pos := "law.go:29", after := #[{ on := 0, ground := Ground.data }, { on := 1, ground := Ground.data }], guard := none }) (v := ?_) rfl (by kernel_rfl) (by kernel_rfl) (by kernel_rfl) (fun _ _ _ h => h) (Or.inl ⟨by rfl, ?_⟩) (by assumption) ?_
    rotate_left 1
    · intro w hSw; obtain ⟨⟨v0, v1, v2, v3, _⟩, ⟨a0, a1, a2, a3, _⟩, ⟨b0, b1, b2, b3, _⟩, ⟨c0, c1, c2, c3, _⟩, ⟨d0, d1, d2, d3, _⟩, ⟨e0, e1, e2, e3, _⟩, ⟨f0, f1, f2, f3, _⟩⟩ := hSw; first | (go_simp; done) | (go_simp; with_reducible rfl)
    try simp only [Act.put, List.setIfInBounds_toArray, List.set_cons_zero, List.set_cons_succ]
    refine wpAnyH_take (i := 3) (oi := { dst := some 70, op := Op.move (Operand.tmp 69), type := 4, pos := "law.go:29", after := #[{ on := 2, ground := Ground.data }], guard := none }) (v := ?_) rfl (by kernel_rfl) (by kernel_rfl) (by kernel_rfl) (fun _ _ _ h => h) (Or.inl ⟨by rfl, ?_⟩) (by assumption) ?_
    rotate_left 1
    · intro w hSw; obtain ⟨⟨v0, v1, v2, v3, _⟩, ⟨a0, a1, a2, a3, _⟩, ⟨b0, b1, b2, b3, _⟩, ⟨c0, c1, c2, c3, _⟩, ⟨d0, d1, d2, d3, _⟩, ⟨e0, e1, e2, e3, _⟩, ⟨f0, f1, f2, f3, _⟩⟩ := hSw; first | (go_simp; done) | (go_simp; with_reducible rfl)
    try simp only [Act.put, List.setIfInBounds_toArray, List.set_cons_zero, List.set_cons_succ]
    refine wpAnyH_take (i := 4) (oi := { dst := some 71, op := Op.move (Operand.tmp 10), type := 25, pos := "law.go:29", after := #[{ on := 3, ground := Ground.guard }], guard := some (3, true) }) (v := ?_) rfl (by kernel_rfl) (by kernel_rfl) (by kernel_rfl) (fun _ _ _ h => h) (Or.inl ⟨by rfl, ?_⟩) (by assumption) ?_
    rotate_left 1
    · intro w hSw; obtain ⟨⟨v0, v1, v2, v3, _⟩, ⟨a0, a1, a2, a3, _⟩, ⟨b0, b1, b2, b3, _⟩, ⟨c0, c1, c2, c3, _⟩, ⟨d0, d1, d2, d3, _⟩, ⟨e0, e1, e2, e3, _⟩, ⟨f0, f1, f2, f3, _⟩⟩ := hSw; first | (go_simp; done) | (go_simp; with_reducible rfl)
    try simp only [Act.put, List.setIfInBounds_toArray, List.set_cons_zero, List.set_cons_succ]
    refine wpAnyH_take (i := 5) (oi := { dst := some 72, op := Op.move (Operand.tmp 12), type := 25, pos := "law.go:29", after := #[{ on := 3, ground := Ground.guard }], guard := some (3, true) }) (v := ?_) rfl (by kernel_rfl) (by kernel_rfl) (by kernel_rfl) (fun _ _ _ h => h) (Or.inl ⟨by rfl, ?_⟩) (by assumption) ?_
    rotate_left 1
    · intro w hSw; obtain ⟨⟨v0, v1, v2, v3, _⟩, ⟨a0, a1, a2, a3, _⟩, ⟨b0, b1, b2, b3, _⟩, ⟨c0, c1, c2, c3, _⟩, ⟨d0, d1, d2, d3, _⟩, ⟨e0, e1, e2, e3, _⟩, ⟨f0, f1, f2, f3, _⟩⟩ := hSw; first | (go_simp; done) | (go_simp; with_reducible rfl)
    try simp only [Act.put, List.setIfInBounds_toArray, List.set_cons_zero, List.set_cons_succ]
    refine wpAnyH_take (i := 6) (oi := { dst := some 73, op := Op.binOp BinOp.eql 25 (Operand.tmp 71) (Operand.tmp 72) 25, type := 4, pos := "law.go:29", after := #[{ on := 4, ground := Ground.data }, { on := 5, ground := Ground.data }, { on := 3, ground := Ground.guard }], guard := some (3, true) }) (v := ?_) rfl (by kernel_rfl) (by kernel_rfl) (by kernel_rfl) (fun _ _ _ h => h) (Or.inl ⟨by rfl, ?_⟩) (by assumption) ?_
    rotate_left 1
    · intro w hSw; obtain ⟨⟨v0, v1, v2, v3, _⟩, ⟨a0, a1, a2, a3, _⟩, ⟨b0, b1, b2, b3, _⟩, ⟨c0, c1, c2, c3, _⟩, ⟨d0, d1, d2, d3, _⟩, ⟨e0, e1, e2, e3, _⟩, ⟨f0, f1, f2, f3, _⟩⟩ := hSw; first | (go_simp; done) | (go_simp; with_reducible rfl)
    try simp only [Act.put, List.setIfInBounds_toArray, List.set_cons_zero, List.set_cons_succ]
    refine wpAnyH_take (i := 7) (oi := { dst := some 74, op := Op.pick (Operand.tmp 70) (Operand.tmp 73) (Operand.const (Value.bool false)), type := 4, pos := "law.go:29", after := #[{ on := 3, ground := Ground.data }, { on := 6, ground := Ground.data }], guard := none }) (v := ?_) rfl (by kernel_rfl) (by kernel_rfl) (by kernel_rfl) (fun _ _ _ h => h) (Or.inl ⟨by rfl, ?_⟩) (by assumption) ?_
    rotate_left 1
    · intro w hSw; obtain ⟨⟨v0, v1, v2, v3, _⟩, ⟨a0, a1, a2, a3, _⟩, ⟨b0, b1, b2, b3, _⟩, ⟨c0, c1, c2, c3, _⟩, ⟨d0, d1, d2, d3, _⟩, ⟨e0, e1, e2, e3, _⟩, ⟨f0, f1, f2, f3, _⟩⟩ := hSw; first | (go_simp; done) | (go_simp; with_reducible rfl)
    try simp only [Act.put, List.setIfInBounds_toArray, List.set_cons_zero, List.set_cons_succ]
    refine wpAnyH_take (i := 8) (oi := { dst := some 75, op := Op.move (Operand.tmp 74), type := 4, pos := "law.go:29", after := #[{ on := 7, ground := Ground.data }, { on := 3, ground := Ground.chain }], guard := none }) (v := ?_) rfl (by kernel_rfl) (by kernel_rfl) (by kernel_rfl) (fun _ _ _ h => h) (Or.inl ⟨by rfl, ?_⟩) (by assumption) ?_
    rotate_left 1
    · intro w hSw; obtain ⟨⟨v0, v1, v2, v3, _⟩, ⟨a0, a1, a2, a3, _⟩, ⟨b0, b1, b2, b3, _⟩, ⟨c0, c1, c2, c3, _⟩, ⟨d0, d1, d2, d3, _⟩, ⟨e0, e1, e2, e3, _⟩, ⟨f0, f1, f2, f3, _⟩⟩ := hSw; first | (go_simp; done) | (go_simp; with_reducible rfl)
    try simp only [Act.put, List.setIfInBounds_toArray, List.set_cons_zero, List.set_cons_succ]
    refine wpAnyH_take (i := 9) (oi := { dst := some 76, op := Op.load 23 (Operand.tmp 13), type := 23, pos := "law.go:29", after := #[{ on := 8, ground := Ground.guard }], guard := some (8, true) }) (v := ?_) rfl (by kernel_rfl) (by kernel_rfl) (by kernel_rfl) (fun _ _ _ h => h) (Or.inl ⟨by rfl, ?_⟩) (by assumption) ?_
    rotate_left 1
    · intro w hSw; obtain ⟨⟨v0, v1, v2, v3, _⟩, ⟨a0, a1, a2, a3, _⟩, ⟨b0, b1, b2, b3, _⟩, ⟨c0, c1, c2, c3, _⟩, ⟨d0, d1, d2, d3, _⟩, ⟨e0, e1, e2, e3, _⟩, ⟨f0, f1, f2, f3, _⟩⟩ := hSw; first | (go_simp; done) | (go_simp; with_reducible rfl)
    try simp only [Act.put, List.setIfInBounds_toArray, List.set_cons_zero, List.set_cons_succ]
    refine wpAnyH_take (i := 10) (oi := { dst := some 77, op := Op.load 23 (Operand.tmp 15), type := 23, pos := "law.go:29", after := #[{ on := 8, ground := Ground.guard }], guard := some (8, true) }) (v := ?_) rfl (by kernel_rfl) (by kernel_rfl) (by kernel_rfl) (fun _ _ _ h => h) (Or.inl ⟨by rfl, ?_⟩) (by assumption) ?_
    rotate_left 1
    · intro w hSw; obtain ⟨⟨v0, v1, v2, v3, _⟩, ⟨a0, a1, a2, a3, _⟩, ⟨b0, b1, b2, b3, _⟩, ⟨c0, c1, c2, c3, _⟩, ⟨d0, d1, d2, d3, _⟩, ⟨e0, e1, e2, e3, _⟩, ⟨f0, f1, f2, f3, _⟩⟩ := hSw; first | (go_simp; done) | (go_simp; with_reducible rfl)
    try simp only [Act.put, List.setIfInBounds_toArray, List.set_cons_zero, List.set_cons_succ]
    refine wpAnyH_take (i := 11) (oi := { dst := some 78, op := Op.binOp BinOp.eql 23 (Operand.tmp 76) (Operand.tmp 77) 23, type := 4, pos := "law.go:29", after := #[{ on := 9, ground := Ground.data }, { on := 10, ground := Ground.data }, { on := 8, ground := Ground.guard }], guard := some (8, true) }) (v := ?_) rfl (by kernel_rfl) (by kernel_rfl) (by kernel_rfl) (fun _ _ _ h => h) (Or.inl ⟨by rfl, ?_⟩) (by assumption) ?_
    rotate_left 1
    · intro w hSw; obtain ⟨⟨v0, v1, v2, v3, _⟩, ⟨a0, a1, a2, a3, _⟩, ⟨b0, b1, b2, b3, _⟩, ⟨c0, c1, c2, c3, _⟩, ⟨d0, d1, d2, d3, _⟩, ⟨e0, e1, e2, e3, _⟩, ⟨f0, f1, f2, f3, _⟩⟩ := hSw; first | (go_simp; done) | (go_simp; with_reducible rfl)
    try simp only [Act.put, List.setIfInBounds_toArray, List.set_cons_zero, List.set_cons_succ]
    refine wpAnyH_take (i := 12) (oi := { dst := some 79, op := Op.pick (Operand.tmp 75) (Operand.tmp 78) (Operand.const (Value.bool false)), type := 4, pos := "law.go:29", after := #[{ on := 8, ground := Ground.data }, { on := 11, ground := Ground.data }], guard := none }) (v := ?_) rfl (by kernel_rfl) (by kernel_rfl) (by kernel_rfl) (fun _ _ _ h => h) (Or.inl ⟨by rfl, ?_⟩) (by assumption) ?_
    rotate_left 1
    · intro w hSw; obtain ⟨⟨v0, v1, v2, v3, _⟩, ⟨a0, a1, a2, a3, _⟩, ⟨b0, b1, b2, b3, _⟩, ⟨c0, c1, c2, c3, _⟩, ⟨d0, d1, d2, d3, _⟩, ⟨e0, e1, e2, e3, _⟩, ⟨f0, f1, f2, f3, _⟩⟩ := hSw; first | (go_simp; done) | (go_simp; with_reducible rfl)
    try simp only [Act.put, List.setIfInBounds_toArray, List.set_cons_zero, List.set_cons_succ]
    refine wpAnyH_take (i := 13) (oi := { dst := some 80, op := Op.move (Operand.tmp 79), type := 4, pos := "law.go:29", after := #[{ on := 12, ground := Ground.data }, { on := 8, ground := Ground.chain }], guard := none }) (v := ?_) rfl (by kernel_rfl) (by kernel_rfl) (by kernel_rfl) (fun _ _ _ h => h) (Or.inl ⟨by rfl, ?_⟩) (by assumption) ?_
    rotate_left 1
    · intro w hSw; obtain ⟨⟨v0, v1, v2, v3, _⟩, ⟨a0, a1, a2, a3, _⟩, ⟨b0, b1, b2, b3, _⟩, ⟨c0, c1, c2, c3, _⟩, ⟨d0, d1, d2, d3, _⟩, ⟨e0, e1, e2, e3, _⟩, ⟨f0, f1, f2, f3, _⟩⟩ := hSw; first | (go_simp; done) | (go_simp; with_reducible rfl)
    try simp only [Act.put, List.setIfInBounds_toArray, List.set_cons_zero, List.set_cons_succ]
    refine wpAnyH_take (i := 14) (oi := { dst := some 81, op := Op.move (Operand.tmp 14), type := 25, pos := "law.go:29", after := #[{ on := 13, ground := Ground.guard }], guard := some (13, true) }) (v := ?_) rfl (by kernel_rfl) (by kernel_rfl) (by kernel_rfl) (fun _ _ _ h => h) (Or.inl ⟨by rfl, ?_⟩) (by assumption) ?_
    rotate_left 1
    · intro w hSw; obtain ⟨⟨v0, v1, v2, v3, _⟩, ⟨a0, a1, a2, a3, _⟩, ⟨b0, b1, b2, b3, _⟩, ⟨c0, c1, c2, c3, _⟩, ⟨d0, d1, d2, d3, _⟩, ⟨e0, e1, e2, e3, _⟩, ⟨f0, f1, f2, f3, _⟩⟩ := hSw; first | (go_simp; done) | (go_simp; with_reducible rfl)
    try simp only [Act.put, List.setIfInBounds_toArray, List.set_cons_zero, List.set_cons_succ]
    refine wpAnyH_take (i := 15) (oi := { dst := some 82, op := Op.move (Operand.tmp 16), type := 25, pos := "law.go:29", after := #[{ on := 13, ground := Ground.guard }], guard := some (13, true) }) (v := ?_) rfl (by kernel_rfl) (by kernel_rfl) (by kernel_rfl) (fun _ _ _ h => h) (Or.inl ⟨by rfl, ?_⟩) (by assumption) ?_
    rotate_left 1
    · intro w hSw; obtain ⟨⟨v0, v1, v2, v3, _⟩, ⟨a0, a1, a2, a3, _⟩, ⟨b0, b1, b2, b3, _⟩, ⟨c0, c1, c2, c3, _⟩, ⟨d0, d1, d2, d3, _⟩, ⟨e0, e1, e2, e3, _⟩, ⟨f0, f1, f2, f3, _⟩⟩ := hSw; first | (go_simp; done) | (go_simp; with_reducible rfl)
    try simp only [Act.put, List.setIfInBounds_toArray, List.set_cons_zero, List.set_cons_succ]
    refine wpAnyH_take (i := 16) (oi := { dst := some 83, op := Op.binOp BinOp.eql 25 (Operand.tmp 81) (Operand.tmp 82) 25, type := 4, pos := "law.go:29", after := #[{ on := 14, ground := Ground.data }, { on := 15, ground := Ground.data }, { on := 13, ground := Ground.guard }], guard := some (13, true) }) (v := ?_) rfl (by kernel_rfl) (by kernel_rfl) (by kernel_rfl) (fun _ _ _ h => h) (Or.inl ⟨by rfl, ?_⟩) (by assumption) ?_
    rotate_left 1
    · intro w hSw; obtain ⟨⟨v0, v1, v2, v3, _⟩, ⟨a0, a1, a2, a3, _⟩, ⟨b0, b1, b2, b3, _⟩, ⟨c0, c1, c2, c3, _⟩, ⟨d0, d1, d2, d3, _⟩, ⟨e0, e1, e2, e3, _⟩, ⟨f0, f1, f2, f3, _⟩⟩ := hSw; first | (go_simp; done) | (go_simp; with_reducible rfl)
    try simp only [Act.put, List.setIfInBounds_toArray, List.set_cons_zero, List.set_cons_succ]
    refine wpAnyH_take (i := 17) (oi := { dst := some 84, op := Op.pick (Operand.tmp 80) (Operand.tmp 83) (Operand.const (Value.bool false)), type := 4, pos := "law.go:29", after := #[{ on := 13, ground := Ground.data }, { on := 16, ground := Ground.data }], guard := none }) (v := ?_) rfl (by kernel_rfl) (by kernel_rfl) (by kernel_rfl) (fun _ _ _ h => h) (Or.inl ⟨by rfl, ?_⟩) (by assumption) ?_
    rotate_left 1
    · intro w hSw; obtain ⟨⟨v0, v1, v2, v3, _⟩, ⟨a0, a1, a2, a3, _⟩, ⟨b0, b1, b2, b3, _⟩, ⟨c0, c1, c2, c3, _⟩, ⟨d0, d1, d2, d3, _⟩, ⟨e0, e1, e2, e3, _⟩, ⟨f0, f1, f2, f3, _⟩⟩ := hSw; first | (go_simp; done) | (go_simp; with_reducible rfl)
    try simp only [Act.put, List.setIfInBounds_toArray, List.set_cons_zero, List.set_cons_succ]
    refine wpAnyH_take (i := 18) (oi := { dst := some 85, op := Op.move (Operand.tmp 84), type := 4, pos := "law.go:29", after := #[{ on := 17, ground := Ground.data }, { on := 13, ground := Ground.chain }], guard := none }) (v := ?_) rfl (by kernel_rfl) (by kernel_rfl) (by kernel_rfl) (fun _ _ _ h => h) (Or.inl ⟨by rfl, ?_⟩) (by assumption) ?_
    rotate_left 1
    · intro w hSw; obtain ⟨⟨v0, v1, v2, v3, _⟩, ⟨a0, a1, a2, a3, _⟩, ⟨b0, b1, b2, b3, _⟩, ⟨c0, c1, c2, c3, _⟩, ⟨d0, d1, d2, d3, _⟩, ⟨e0, e1, e2, e3, _⟩, ⟨f0, f1, f2, f3, _⟩⟩ := hSw; first | (go_simp; done) | (go_simp; with_reducible rfl)
    try simp only [Act.put, List.setIfInBounds_toArray, List.set_cons_zero, List.set_cons_succ]
    refine wpAnyH_take (i := 19) (oi := { dst := some 86, op := Op.load 23 (Operand.tmp 17), type := 23, pos := "law.go:29", after := #[{ on := 18, ground := Ground.guard }], guard := some (18, true) }) (v := ?_) rfl (by kernel_rfl) (by kernel_rfl) (by kernel_rfl) (fun _ _ _ h => h) (Or.inl ⟨by rfl, ?_⟩) (by assumption) ?_
    rotate_left 1
    · intro w hSw; obtain ⟨⟨v0, v1, v2, v3, _⟩, ⟨a0, a1, a2, a3, _⟩, ⟨b0, b1, b2, b3, _⟩, ⟨c0, c1, c2, c3, _⟩, ⟨d0, d1, d2, d3, _⟩, ⟨e0, e1, e2, e3, _⟩, ⟨f0, f1, f2, f3, _⟩⟩ := hSw; first | (go_simp; done) | (go_simp; with_reducible rfl)
    try simp only [Act.put, List.setIfInBounds_toArray, List.set_cons_zero, List.set_cons_succ]
    refine wpAnyH_take (i := 20) (oi := { dst := some 87, op := Op.load 23 (Operand.tmp 19), type := 23, pos := "law.go:29", after := #[{ on := 18, ground := Ground.guard }], guard := some (18, true) }) (v := ?_) rfl (by kernel_rfl) (by kernel_rfl) (by kernel_rfl) (fun _ _ _ h => h) (Or.inl ⟨by rfl, ?_⟩) (by assumption) ?_
    rotate_left 1
    · intro w hSw; obtain ⟨⟨v0, v1, v2, v3, _⟩, ⟨a0, a1, a2, a3, _⟩, ⟨b0, b1, b2, b3, _⟩, ⟨c0, c1, c2, c3, _⟩, ⟨d0, d1, d2, d3, _⟩, ⟨e0, e1, e2, e3, _⟩, ⟨f0, f1, f2, f3, _⟩⟩ := hSw; first | (go_simp; done) | (go_simp; with_reducible rfl)
    try simp only [Act.put, List.setIfInBounds_toArray, List.set_cons_zero, List.set_cons_succ]
    refine wpAnyH_take (i := 21) (oi := { dst := some 88, op := Op.binOp BinOp.eql 23 (Operand.tmp 86) (Operand.tmp 87) 23, type := 4, pos := "law.go:29", after := #[{ on := 19, ground := Ground.data }, { on := 20, ground := Ground.data }, { on := 18, ground := Ground.guard }], guard := some (18, true) }) (v := ?_) rfl (by kernel_rfl) (by kernel_rfl) (by kernel_rfl) (fun _ _ _ h => h) (Or.inl ⟨by rfl, ?_⟩) (by assumption) ?_
    rotate_left 1
    · intro w hSw; obtain ⟨⟨v0, v1, v2, v3, _⟩, ⟨a0, a1, a2, a3, _⟩, ⟨b0, b1, b2, b3, _⟩, ⟨c0, c1, c2, c3, _⟩, ⟨d0, d1, d2, d3, _⟩, ⟨e0, e1, e2, e3, _⟩, ⟨f0, f1, f2, f3, _⟩⟩ := hSw; first | (go_simp; done) | (go_simp; with_reducible rfl)
    try simp only [Act.put, List.setIfInBounds_toArray, List.set_cons_zero, List.set_cons_succ]
    refine wpAnyH_take (i := 22) (oi := { dst := some 89, op := Op.pick (Operand.tmp 85) (Operand.tmp 88) (Operand.const (Value.bool false)), type := 4, pos := "law.go:29", after := #[{ on := 18, ground := Ground.data }, { on := 21, ground := Ground.data }], guard := none }) (v := ?_) rfl (by kernel_rfl) (by kernel_rfl) (by kernel_rfl) (fun _ _ _ h => h) (Or.inl ⟨by rfl, ?_⟩) (by assumption) ?_
    rotate_left 1
    · intro w hSw; obtain ⟨⟨v0, v1, v2, v3, _⟩, ⟨a0, a1, a2, a3, _⟩, ⟨b0, b1, b2, b3, _⟩, ⟨c0, c1, c2, c3, _⟩, ⟨d0, d1, d2, d3, _⟩, ⟨e0, e1, e2, e3, _⟩, ⟨f0, f1, f2, f3, _⟩⟩ := hSw; first | (go_simp; done) | (go_simp; with_reducible rfl)
    try simp only [Act.put, List.setIfInBounds_toArray, List.set_cons_zero, List.set_cons_succ]
    refine wpAnyH_take (i := 23) (oi := { dst := some 90, op := Op.move (Operand.tmp 89), type := 4, pos := "law.go:29", after := #[{ on := 22, ground := Ground.data }, { on := 18, ground := Ground.chain }], guard := none }) (v := ?_) rfl (by kernel_rfl) (by kernel_rfl) (by kernel_rfl) (fun _ _ _ h => h) (Or.inl ⟨by rfl, ?_⟩) (by assumption) ?_
    rotate_left 1
    · intro w hSw; obtain ⟨⟨v0, v1, v2, v3, _⟩, ⟨a0, a1, a2, a3, _⟩, ⟨b0, b1, b2, b3, _⟩, ⟨c0, c1, c2, c3, _⟩, ⟨d0, d1, d2, d3, _⟩, ⟨e0, e1, e2, e3, _⟩, ⟨f0, f1, f2, f3, _⟩⟩ := hSw; first | (go_simp; done) | (go_simp; with_reducible rfl)
    try simp only [Act.put, List.setIfInBounds_toArray, List.set_cons_zero, List.set_cons_succ]
    refine wpAnyH_take (i := 24) (oi := { dst := some 91, op := Op.move (Operand.tmp 18), type := 25, pos := "law.go:29", after := #[{ on := 23, ground := Ground.guard }], guard := some (23, true) }) (v := ?_) rfl (by kernel_rfl) (by kernel_rfl) (by kernel_rfl) (fun _ _ _ h => h) (Or.inl ⟨by rfl, ?_⟩) (by assumption) ?_
    rotate_left 1
    · intro w hSw; obtain ⟨⟨v0, v1, v2, v3, _⟩, ⟨a0, a1, a2, a3, _⟩, ⟨b0, b1, b2, b3, _⟩, ⟨c0, c1, c2, c3, _⟩, ⟨d0, d1, d2, d3, _⟩, ⟨e0, e1, e2, e3, _⟩, ⟨f0, f1, f2, f3, _⟩⟩ := hSw; first | (go_simp; done) | (go_simp; with_reducible rfl)
    try simp only [Act.put, List.setIfInBounds_toArray, List.set_cons_zero, List.set_cons_succ]
    refine wpAnyH_take (i := 25) (oi := { dst := some 92, op := Op.move (Operand.tmp 20), type := 25, pos := "law.go:29", after := #[{ on := 23, ground := Ground.guard }], guard := some (23, true) }) (v := ?_) rfl (by kernel_rfl) (by kernel_rfl) (by kernel_rfl) (fun _ _ _ h => h) (Or.inl ⟨by rfl, ?_⟩) (by assumption) ?_
    rotate_left 1
    · intro w hSw; obtain ⟨⟨v0, v1, v2, v3, _⟩, ⟨a0, a1, a2, a3, _⟩, ⟨b0, b1, b2, b3, _⟩, ⟨c0, c1, c2, c3, _⟩, ⟨d0, d1, d2, d3, _⟩, ⟨e0, e1, e2, e3, _⟩, ⟨f0, f1, f2, f3, _⟩⟩ := hSw; first | (go_simp; done) | (go_simp; with_reducible rfl)
    try simp only [Act.put, List.setIfInBounds_toArray, List.set_cons_zero, List.set_cons_succ]
    refine wpAnyH_take (i := 26) (oi := { dst := some 93, op := Op.binOp BinOp.eql 25 (Operand.tmp 91) (Operand.tmp 92) 25, type := 4, pos := "law.go:29", after := #[{ on := 24, ground := Ground.data }, { on := 25, ground := Ground.data }, { on := 23, ground := Ground.guard }], guard := some (23, true) }) (v := ?_) rfl (by kernel_rfl) (by kernel_rfl) (by kernel_rfl) (fun _ _ _ h => h) (Or.inl ⟨by rfl, ?_⟩) (by assumption) ?_
    rotate_left 1
    · intro w hSw; obtain ⟨⟨v0, v1, v2, v3, _⟩, ⟨a0, a1, a2, a3, _⟩, ⟨b0, b1, b2, b3, _⟩, ⟨c0, c1, c2, c3, _⟩, ⟨d0, d1, d2, d3, _⟩, ⟨e0, e1, e2, e3, _⟩, ⟨f0, f1, f2, f3, _⟩⟩ := hSw; first | (go_simp; done) | (go_simp; with_reducible rfl)
    try simp only [Act.put, List.setIfInBounds_toArray, List.set_cons_zero, List.set_cons_succ]
    refine wpAnyH_take (i := 27) (oi := { dst := some 94, op := Op.pick (Operand.tmp 90) (Operand.tmp 93) (Operand.const (Value.bool false)), type := 4, pos := "law.go:29", after := #[{ on := 23, ground := Ground.data }, { on := 26, ground := Ground.data }], guard := none }) (v := ?_) rfl (by kernel_rfl) (by kernel_rfl) (by kernel_rfl) (fun _ _ _ h => h) (Or.inl ⟨by rfl, ?_⟩) (by assumption) ?_
    rotate_left 1
    · intro w hSw; obtain ⟨⟨v0, v1, v2, v3, _⟩, ⟨a0, a1, a2, a3, _⟩, ⟨b0, b1, b2, b3, _⟩, ⟨c0, c1, c2, c3, _⟩, ⟨d0, d1, d2, d3, _⟩, ⟨e0, e1, e2, e3, _⟩, ⟨f0, f1, f2, f3, _⟩⟩ := hSw; first | (go_simp; done) | (go_simp; with_reducible rfl)
    try simp only [Act.put, List.setIfInBounds_toArray, List.set_cons_zero, List.set_cons_succ]
    refine wpAnyH_take (i := 28) (oi := { dst := some 95, op := Op.move (Operand.tmp 94), type := 4, pos := "law.go:29", after := #[{ on := 27, ground := Ground.data }, { on := 23, ground := Ground.chain }], guard := none }) (v := ?_) rfl (by kernel_rfl) (by kernel_rfl) (by kernel_rfl) (fun _ _ _ h => h) (Or.inl ⟨by rfl, ?_⟩) (by assumption) ?_
    rotate_left 1
    · intro w hSw; obtain ⟨⟨v0, v1, v2, v3, _⟩, ⟨a0, a1, a2, a3, _⟩, ⟨b0, b1, b2, b3, _⟩, ⟨c0, c1, c2, c3, _⟩, ⟨d0, d1, d2, d3, _⟩, ⟨e0, e1, e2, e3, _⟩, ⟨f0, f1, f2, f3, _⟩⟩ := hSw; first | (go_simp; done) | (go_simp; with_reducible rfl)
    try simp only [Act.put, List.setIfInBounds_toArray, List.set_cons_zero, List.set_cons_succ]
    refine wpAnyH_take (i := 29) (oi := { dst := some 96, op := Op.load 23 (Operand.tmp 4), type := 23, pos := "law.go:29", after := #[{ on := 28, ground := Ground.guard }], guard := some (28, true) }) (v := ?_) rfl (by kernel_rfl) (by kernel_rfl) (by kernel_rfl) (fun _ _ _ h => h) (Or.inl ⟨by rfl, ?_⟩) (by assumption) ?_
    rotate_left 1
    · intro w hSw; obtain ⟨⟨v0, v1, v2, v3, _⟩, ⟨a0, a1, a2, a3, _⟩, ⟨b0, b1, b2, b3, _⟩, ⟨c0, c1, c2, c3, _⟩, ⟨d0, d1, d2, d3, _⟩, ⟨e0, e1, e2, e3, _⟩, ⟨f0, f1, f2, f3, _⟩⟩ := hSw; first | (go_simp; done) | (go_simp; with_reducible rfl)
    try simp only [Act.put, List.setIfInBounds_toArray, List.set_cons_zero, List.set_cons_succ]
    refine wpAnyH_take (i := 31) (oi := { dst := some 98, op := Op.load 23 (Operand.tmp 4), type := 23, pos := "law.go:29", after := #[{ on := 28, ground := Ground.guard }], guard := some (28, true) }) (v := ?_) rfl (by kernel_rfl) (by kernel_rfl) (by kernel_rfl) (fun _ _ _ h => h) (Or.inl ⟨by rfl, ?_⟩) (by assumption) ?_
    rotate_left 1
    · intro w hSw; obtain ⟨⟨v0, v1, v2, v3, _⟩, ⟨a0, a1, a2, a3, _⟩, ⟨b0, b1, b2, b3, _⟩, ⟨c0, c1, c2, c3, _⟩, ⟨d0, d1, d2, d3, _⟩, ⟨e0, e1, e2, e3, _⟩, ⟨f0, f1, f2, f3, _⟩⟩ := hSw; first | (go_simp; done) | (go_simp; with_reducible rfl)
    try simp only [Act.put, List.setIfInBounds_toArray, List.set_cons_zero, List.set_cons_succ]
    refine wpAnyH_ready (rs := [30]) (by kernel_rfl) (by simp) (AllReadyH.cons (o := { dst := some 97, op := Op.call { callee := Callee.value (Operand.func 13), args := #[Operand.tmp 96], argTypes := #[23] }, type := 4, pos := "law.go:29", after := #[{ on := 29, ground := Ground.data }, { on := 28, ground := Ground.chain }, { on := 28, ground := Ground.guard }], guard := some (28, true) }) rfl (fun K hK => ?_) AllReadyH.nil)
    go_simp
    refine (H1.out _).mono ?_
    rintro e u1 ⟨rfl, hg⟩
    have R1 := Lib.hid ((R0.out.grown (grown_drewN _ 1 _)).grown hg)
    replace G := Lib.hid (grown_trans (grown_trans G.out (grown_drewN _ 1 _)) hg)
    clear hg
    try dsimp only
    refine hK.out _ _ ?_ (fun hHeld => ?_)
    · exact R1.out
    clear hK K
    try simp only [Act.put, List.setIfInBounds_toArray, List.set_cons_zero, List.set_cons_succ]
    refine wpAnyH_ready (rs := [32]) (by kernel_rfl) (by simp) (AllReadyH.cons (o := { dst := some 99, op := Op.call { callee := Callee.value (Operand.func 14), args := #[Operand.tmp 98], argTypes := #[23] }, type := 4, pos := "law.go:29", after := #[{ on := 31, ground := Ground.data }, { on := 30, ground := Ground.chain }, { on := 28, ground := Ground.guard }], guard := some (28, true) }) rfl (fun K hK => ?_) AllReadyH.nil)
    go_simp
    refine (H2.out _).mono ?_
    rintro e u2 ⟨rfl, hg⟩
    have R2 := Lib.hid (R1.out.grown hg)
    replace G := Lib.hid (grown_trans G.out hg)
    clear hg
    try dsimp only
    refine hK.out _ _ ?_ (fun hHeld => ?_)
    · exact R2.out
    clear hK K
    try simp only [Act.put, List.setIfInBounds_toArray, List.set_cons_zero, List.set_cons_succ]
    refine wpAnyH_take (i := 33) (oi := { dst := some 100, op := Op.binOp BinOp.eql 4 (Operand.tmp 97) (Operand.tmp 99) 4, type := 4, pos := "law.go:29", after := #[{ on := 30, ground := Ground.data }, { on := 32, ground := Ground.data }, { on := 28, ground := Ground.guard }], guard := some (28, true) }) (v := ?_) rfl (by kernel_rfl) (by kernel_rfl) (by kernel_rfl) (fun _ _ _ h => h) (Or.inl ⟨by rfl, ?_⟩) (by assumption) ?_
    rotate_left 1
    · intro w hSw; obtain ⟨⟨v0, v1, v2, v3, _⟩, ⟨a0, a1, a2, a3, _⟩, ⟨b0, b1, b2, b3, _⟩, ⟨c0, c1, c2, c3, _⟩, ⟨d0, d1, d2, d3, _⟩, ⟨e0, e1, e2, e3, _⟩, ⟨f0, f1, f2, f3, _⟩⟩ := hSw; first | (go_simp; done) | (go_simp; with_reducible rfl)
    try simp only [Act.put, List.setIfInBounds_toArray, List.set_cons_zero, List.set_cons_succ]
    refine wpAnyH_take (i := 34) (oi := { dst := some 101, op := Op.pick (Operand.tmp 95) (Operand.tmp 100) (Operand.const (Value.bool false)), type := 4, pos := "law.go:29", after := #[{ on := 28, ground := Ground.data }, { on := 33, ground := Ground.data }], guard := none }) (v := ?_) rfl (by kernel_rfl) (by kernel_rfl) (by kernel_rfl) (fun _ _ _ h => h) (Or.inl ⟨by rfl, ?_⟩) (by assumption) ?_
    rotate_left 1
    · intro w hSw; obtain ⟨⟨v0, v1, v2, v3, _⟩, ⟨a0, a1, a2, a3, _⟩, ⟨b0, b1, b2, b3, _⟩, ⟨c0, c1, c2, c3, _⟩, ⟨d0, d1, d2, d3, _⟩, ⟨e0, e1, e2, e3, _⟩, ⟨f0, f1, f2, f3, _⟩⟩ := hSw; first | (go_simp; done) | (go_simp; with_reducible rfl)
    try simp only [Act.put, List.setIfInBounds_toArray, List.set_cons_zero, List.set_cons_succ]
    refine wpAnyH_take (i := 35) (oi := { dst := some 102, op := Op.move (Operand.tmp 101), type := 4, pos := "law.go:29", after := #[{ on := 34, ground := Ground.data }, { on := 32, ground := Ground.chain }], guard := none }) (v := ?_) rfl (by kernel_rfl) (by kernel_rfl) (by kernel_rfl) (fun _ _ _ h => h) (Or.inl ⟨by rfl, ?_⟩) (by assumption) ?_
    rotate_left 1
    · intro w hSw; obtain ⟨⟨v0, v1, v2, v3, _⟩, ⟨a0, a1, a2, a3, _⟩, ⟨b0, b1, b2, b3, _⟩, ⟨c0, c1, c2, c3, _⟩, ⟨d0, d1, d2, d3, _⟩, ⟨e0, e1, e2, e3, _⟩, ⟨f0, f1, f2, f3, _⟩⟩ := hSw; first | (go_simp; done) | (go_simp; with_reducible rfl)
    try simp only [Act.put, List.setIfInBounds_toArray, List.set_cons_zero, List.set_cons_succ]
    refine wpAnyH_take (i := 36) (oi := { dst := some 103, op := Op.load 23 (Operand.tmp 4), type := 23, pos := "law.go:29", after := #[{ on := 35, ground := Ground.guard }], guard := some (35, true) }) (v := ?_) rfl (by kernel_rfl) (by kernel_rfl) (by kernel_rfl) (fun _ _ _ h => h) (Or.inl ⟨by rfl, ?_⟩) (by assumption) ?_
    rotate_left 1
    · intro w hSw; obtain ⟨⟨v0, v1, v2, v3, _⟩, ⟨a0, a1, a2, a3, _⟩, ⟨b0, b1, b2, b3, _⟩, ⟨c0, c1, c2, c3, _⟩, ⟨d0, d1, d2, d3, _⟩, ⟨e0, e1, e2, e3, _⟩, ⟨f0, f1, f2, f3, _⟩⟩ := hSw; first | (go_simp; done) | (go_simp; with_reducible rfl)
    try simp only [Act.put, List.setIfInBounds_toArray, List.set_cons_zero, List.set_cons_succ]
    refine wpAnyH_take (i := 38) (oi := { dst := some 105, op := Op.load 23 (Operand.tmp 4), type := 23, pos := "law.go:29", after := #[{ on := 35, ground := Ground.guard }], guard := some (35, true) }) (v := ?_) rfl (by kernel_rfl) (by kernel_rfl) (by kernel_rfl) (fun _ _ _ h => h) (Or.inl ⟨by rfl, ?_⟩) (by assumption) ?_
    rotate_left 1
    · intro w hSw; obtain ⟨⟨v0, v1, v2, v3, _⟩, ⟨a0, a1, a2, a3, _⟩, ⟨b0, b1, b2, b3, _⟩, ⟨c0, c1, c2, c3, _⟩, ⟨d0, d1, d2, d3, _⟩, ⟨e0, e1, e2, e3, _⟩, ⟨f0, f1, f2, f3, _⟩⟩ := hSw; first | (go_simp; done) | (go_simp; with_reducible rfl)
    try simp only [Act.put, List.setIfInBounds_toArray, List.set_cons_zero, List.set_cons_succ]
    refine wpAnyH_ready (rs := [37]) (by kernel_rfl) (by simp) (AllReadyH.cons (o := { dst := some 104, op := Op.call { callee := Callee.value (Operand.func 15), args := #[Operand.tmp 103], argTypes := #[23] }, type := 4, pos := "law.go:29", after := #[{ on := 36, ground := Ground.data }, { on := 35, ground := Ground.chain }, { on := 35, ground := Ground.guard }], guard := some (35, true) }) rfl (fun K hK => ?_) AllReadyH.nil)
    go_simp
    refine (H3.out _).mono ?_
    rintro e u3 ⟨rfl, hg⟩
    have R3 := Lib.hid (R2.out.grown hg)
    replace G := Lib.hid (grown_trans G.out hg)
    clear hg
    try dsimp only
    refine hK.out _ _ ?_ (fun hHeld => ?_)
    · exact R3.out
    clear hK K
    try simp only [Act.put, List.setIfInBounds_toArray, List.set_cons_zero, List.set_cons_succ]
    refine wpAnyH_ready (rs := [39]) (by kernel_rfl) (by simp) (AllReadyH.cons (o := { dst := some 106, op := Op.call { callee := Callee.value (Operand.func 16), args := #[Operand.tmp 105], argTypes := #[23] }, type := 4, pos := "law.go:29", after := #[{ on := 38, ground := Ground.data }, { on := 37, ground := Ground.chain }, { on := 35, ground := Ground.guard }], guard := some (35, true) }) rfl (fun K hK => ?_) AllReadyH.nil)
    go_simp
    refine (H4.out _).mono ?_
    rintro e u4 ⟨rfl, hg⟩
    have R4 := Lib.hid (R3.out.grown hg)
    replace G := Lib.hid (grown_trans G.out hg)
    clear hg
    try dsimp only
    refine hK.out _ _ ?_ (fun hHeld => ?_)
    · exact R4.out
    clear hK K
    try simp only [Act.put, List.setIfInBounds_toArray, List.set_cons_zero, List.set_cons_succ]
    refine wpAnyH_take (i := 40) (oi := { dst := some 107, op := Op.binOp BinOp.eql 4 (Operand.tmp 104) (Operand.tmp 106) 4, type := 4, pos := "law.go:29", after := #[{ on := 37, ground := Ground.data }, { on := 39, ground := Ground.data }, { on := 35, ground := Ground.guard }], guard := some (35, true) }) (v := ?_) rfl (by kernel_rfl) (by kernel_rfl) (by kernel_rfl) (fun _ _ _ h => h) (Or.inl ⟨by rfl, ?_⟩) (by assumption) ?_
    rotate_left 1
    · intro w hSw; obtain ⟨⟨v0, v1, v2, v3, _⟩, ⟨a0, a1, a2, a3, _⟩, ⟨b0, b1, b2, b3, _⟩, ⟨c0, c1, c2, c3, _⟩, ⟨d0, d1, d2, d3, _⟩, ⟨e0, e1, e2, e3, _⟩, ⟨f0, f1, f2, f3, _⟩⟩ := hSw; first | (go_simp; done) | (go_simp; with_reducible rfl)
    try simp only [Act.put, List.setIfInBounds_toArray, List.set_cons_zero, List.set_cons_succ]
    refine wpAnyH_take (i := 41) (oi := { dst := some 108, op := Op.pick (Operand.tmp 102) (Operand.tmp 107) (Operand.const (Value.bool false)), type := 4, pos := "law.go:29", after := #[{ on := 35, ground := Ground.data }, { on := 40, ground := Ground.data }], guard := none }) (v := ?_) rfl (by kernel_rfl) (by kernel_rfl) (by kernel_rfl) (fun _ _ _ h => h) (Or.inl ⟨by rfl, ?_⟩) (by assumption) ?_
    rotate_left 1
    · intro w hSw; obtain ⟨⟨v0, v1, v2, v3, _⟩, ⟨a0, a1, a2, a3, _⟩, ⟨b0, b1, b2, b3, _⟩, ⟨c0, c1, c2, c3, _⟩, ⟨d0, d1, d2, d3, _⟩, ⟨e0, e1, e2, e3, _⟩, ⟨f0, f1, f2, f3, _⟩⟩ := hSw; first | (go_simp; done) | (go_simp; with_reducible rfl)
    try simp only [Act.put, List.setIfInBounds_toArray, List.set_cons_zero, List.set_cons_succ]
    refine wpAnyH_take (i := 42) (oi := { dst := some 109, op := Op.move (Operand.tmp 108), type := 4, pos := "law.go:29", after := #[{ on := 41, ground := Ground.data }, { on := 39, ground := Ground.chain }], guard := none }) (v := ?_) rfl (by kernel_rfl) (by kernel_rfl) (by kernel_rfl) (fun _ _ _ h => h) (Or.inl ⟨by rfl, ?_⟩) (by assumption) ?_
    rotate_left 1
    · intro w hSw; obtain ⟨⟨v0, v1, v2, v3, _⟩, ⟨a0, a1, a2, a3, _⟩, ⟨b0, b1, b2, b3, _⟩, ⟨c0, c1, c2, c3, _⟩, ⟨d0, d1, d2, d3, _⟩, ⟨e0, e1, e2, e3, _⟩, ⟨f0, f1, f2, f3, _⟩⟩ := hSw; first | (go_simp; done) | (go_simp; with_reducible rfl)
    try simp only [Act.put, List.setIfInBounds_toArray, List.set_cons_zero, List.set_cons_succ]
    refine wpAnyH_take (i := 43) (oi := { dst := some 110, op := Op.load 23 (Operand.tmp 4), type := 23, pos := "law.go:29", after := #[{ on := 42, ground := Ground.guard }], guard := some (42, true) }) (v := ?_) rfl (by kernel_rfl) (by kernel_rfl) (by kernel_rfl) (fun _ _ _ h => h) (Or.inl ⟨by rfl, ?_⟩) (by assumption) ?_
    rotate_left 1
    · intro w hSw; obtain ⟨⟨v0, v1, v2, v3, _⟩, ⟨a0, a1, a2, a3, _⟩, ⟨b0, b1, b2, b3, _⟩, ⟨c0, c1, c2, c3, _⟩, ⟨d0, d1, d2, d3, _⟩, ⟨e0, e1, e2, e3, _⟩, ⟨f0, f1, f2, f3, _⟩⟩ := hSw; first | (go_simp; done) | (go_simp; with_reducible rfl)
    try simp only [Act.put, List.setIfInBounds_toArray, List.set_cons_zero, List.set_cons_succ]
    refine wpAnyH_take (i := 45) (oi := { dst := some 112, op := Op.load 23 (Operand.tmp 4), type := 23, pos := "law.go:29", after := #[{ on := 42, ground := Ground.guard }], guard := some (42, true) }) (v := ?_) rfl (by kernel_rfl) (by kernel_rfl) (by kernel_rfl) (fun _ _ _ h => h) (Or.inl ⟨by rfl, ?_⟩) (by assumption) ?_
    rotate_left 1
    · intro w hSw; obtain ⟨⟨v0, v1, v2, v3, _⟩, ⟨a0, a1, a2, a3, _⟩, ⟨b0, b1, b2, b3, _⟩, ⟨c0, c1, c2, c3, _⟩, ⟨d0, d1, d2, d3, _⟩, ⟨e0, e1, e2, e3, _⟩, ⟨f0, f1, f2, f3, _⟩⟩ := hSw; first | (go_simp; done) | (go_simp; with_reducible rfl)
    try simp only [Act.put, List.setIfInBounds_toArray, List.set_cons_zero, List.set_cons_succ]
    refine wpAnyH_ready (rs := [44]) (by kernel_rfl) (by simp) (AllReadyH.cons (o := { dst := some 111, op := Op.call { callee := Callee.value (Operand.func 17), args := #[Operand.tmp 110], argTypes := #[23] }, type := 4, pos := "law.go:29", after := #[{ on := 43, ground := Ground.data }, { on := 42, ground := Ground.chain }, { on := 42, ground := Ground.guard }], guard := some (42, true) }) rfl (fun K hK => ?_) AllReadyH.nil)
    go_simp
    refine (H5.out _).mono ?_
    rintro e u5 ⟨rfl, hg⟩
    have R5 := Lib.hid (R4.out.grown hg)
    replace G := Lib.hid (grown_trans G.out hg)
    clear hg
    try dsimp only
    refine hK.out _ _ ?_ (fun hHeld => ?_)
    · exact R5.out
    clear hK K
    try simp only [Act.put, List.setIfInBounds_toArray, List.set_cons_zero, List.set_cons_succ]
    refine wpAnyH_ready (rs := [46]) (by kernel_rfl) (by simp) (AllReadyH.cons (o := { dst := some 113, op := Op.call { callee := Callee.value (Operand.func 18), args := #[Operand.tmp 112], argTypes := #[23] }, type := 4, pos := "law.go:29", after := #[{ on := 45, ground := Ground.data }, { on := 44, ground := Ground.chain }, { on := 42, ground := Ground.guard }], guard := some (42, true) }) rfl (fun K hK => ?_) AllReadyH.nil)
    go_simp
    refine (H6.out _).mono ?_
    rintro e u6 ⟨rfl, hg⟩
    have R6 := Lib.hid (R5.out.grown hg)
    replace G := Lib.hid (grown_trans G.out hg)
    clear hg
    try dsimp only
    refine hK.out _ _ ?_ (fun hHeld => ?_)
    · exact R6.out
    clear hK K
    try simp only [Act.put, List.setIfInBounds_toArray, List.set_cons_zero, List.set_cons_succ]
    refine wpAnyH_take (i := 47) (oi := { dst := some 114, op := Op.binOp BinOp.eql 4 (Operand.tmp 111) (Operand.tmp 113) 4, type := 4, pos := "law.go:29", after := #[{ on := 44, ground := Ground.data }, { on := 46, ground := Ground.data }, { on := 42, ground := Ground.guard }], guard := some (42, true) }) (v := ?_) rfl (by kernel_rfl) (by kernel_rfl) (by kernel_rfl) (fun _ _ _ h => h) (Or.inl ⟨by rfl, ?_⟩) (by assumption) ?_
    rotate_left 1
    · intro w hSw; obtain ⟨⟨v0, v1, v2, v3, _⟩, ⟨a0, a1, a2, a3, _⟩, ⟨b0, b1, b2, b3, _⟩, ⟨c0, c1, c2, c3, _⟩, ⟨d0, d1, d2, d3, _⟩, ⟨e0, e1, e2, e3, _⟩, ⟨f0, f1, f2, f3, _⟩⟩ := hSw; first | (go_simp; done) | (go_simp; with_reducible rfl)
    try simp only [Act.put, List.setIfInBounds_toArray, List.set_cons_zero, List.set_cons_succ]
    refine wpAnyH_take (i := 48) (oi := { dst := some 115, op := Op.pick (Operand.tmp 109) (Operand.tmp 114) (Operand.const (Value.bool false)), type := 4, pos := "law.go:29", after := #[{ on := 42, ground := Ground.data }, { on := 47, ground := Ground.data }], guard := none }) (v := ?_) rfl (by kernel_rfl) (by kernel_rfl) (by kernel_rfl) (fun _ _ _ h => h) (Or.inl ⟨by rfl, ?_⟩) (by assumption) ?_
    rotate_left 1
    · intro w hSw; obtain ⟨⟨v0, v1, v2, v3, _⟩, ⟨a0, a1, a2, a3, _⟩, ⟨b0, b1, b2, b3, _⟩, ⟨c0, c1, c2, c3, _⟩, ⟨d0, d1, d2, d3, _⟩, ⟨e0, e1, e2, e3, _⟩, ⟨f0, f1, f2, f3, _⟩⟩ := hSw; first | (go_simp; done) | (go_simp; with_reducible rfl)
    try simp only [Act.put, List.setIfInBounds_toArray, List.set_cons_zero, List.set_cons_succ]
    refine wpAnyH_take (i := 49) (oi := { dst := some 116, op := Op.move (Operand.tmp 115), type := 4, pos := "law.go:29", after := #[{ on := 48, ground := Ground.data }, { on := 46, ground := Ground.chain }], guard := none }) (v := ?_) rfl (by kernel_rfl) (by kernel_rfl) (by kernel_rfl) (fun _ _ _ h => h) (Or.inl ⟨by rfl, ?_⟩) (by assumption) ?_
    rotate_left 1
    · intro w hSw; obtain ⟨⟨v0, v1, v2, v3, _⟩, ⟨a0, a1, a2, a3, _⟩, ⟨b0, b1, b2, b3, _⟩, ⟨c0, c1, c2, c3, _⟩, ⟨d0, d1, d2, d3, _⟩, ⟨e0, e1, e2, e3, _⟩, ⟨f0, f1, f2, f3, _⟩⟩ := hSw; first | (go_simp; done) | (go_simp; with_reducible rfl)
    try simp only [Act.put, List.setIfInBounds_toArray, List.set_cons_zero, List.set_cons_succ]
    refine wpAnyH_take (i := 50) (oi := { dst := some 117, op := Op.load 23 (Operand.tmp 4), type := 23, pos := "law.go:29", after := #[{ on := 49, ground := Ground.guard }], guard := some (49, true) }) (v := ?_) rfl (by kernel_rfl) (by kernel_rfl) (by kernel_rfl) (fun _ _ _ h => h) (Or.inl ⟨by rfl, ?_⟩) (by assumption) ?_
    rotate_left 1
    · intro w hSw; obtain ⟨⟨v0, v1, v2, v3, _⟩, ⟨a0, a1, a2, a3, _⟩, ⟨b0, b1, b2, b3, _⟩, ⟨c0, c1, c2, c3, _⟩, ⟨d0, d1, d2, d3, _⟩, ⟨e0, e1, e2, e3, _⟩, ⟨f0, f1, f2, f3, _⟩⟩ := hSw; first | (go_simp; done) | (go_simp; with_reducible rfl)
    try simp only [Act.put, List.setIfInBounds_toArray, List.set_cons_zero, List.set_cons_succ]
    refine wpAnyH_take (i := 52) (oi := { dst := some 119, op := Op.load 23 (Operand.tmp 4), type := 23, pos := "law.go:29", after := #[{ on := 49, ground := Ground.guard }], guard := some (49, true) }) (v := ?_) rfl (by kernel_rfl) (by kernel_rfl) (by kernel_rfl) (fun _ _ _ h => h) (Or.inl ⟨by rfl, ?_⟩) (by assumption) ?_
    rotate_left 1
    · intro w hSw; obtain ⟨⟨v0, v1, v2, v3, _⟩, ⟨a0, a1, a2, a3, _⟩, ⟨b0, b1, b2, b3, _⟩, ⟨c0, c1, c2, c3, _⟩, ⟨d0, d1, d2, d3, _⟩, ⟨e0, e1, e2, e3, _⟩, ⟨f0, f1, f2, f3, _⟩⟩ := hSw; first | (go_simp; done) | (go_simp; with_reducible rfl)
    try simp only [Act.put, List.setIfInBounds_toArray, List.set_cons_zero, List.set_cons_succ]
    refine wpAnyH_ready (rs := [51]) (by kernel_rfl) (by simp) (AllReadyH.cons (o := { dst := some 118, op := Op.call { callee := Callee.value (Operand.func 19), args := #[Operand.tmp 117], argTypes := #[23] }, type := 3, pos := "law.go:29", after := #[{ on := 50, ground := Ground.data }, { on := 49, ground := Ground.chain }, { on := 49, ground := Ground.guard }], guard := some (49, true) }) rfl (fun K hK => ?_) AllReadyH.nil)
    go_simp
    refine (H7.out _).mono ?_
    rintro e u7 ⟨rfl, hg⟩
    have R7 := Lib.hid (R6.out.grown hg)
    replace G := Lib.hid (grown_trans G.out hg)
    clear hg
    try dsimp only
    refine hK.out _ _ ?_ (fun hHeld => ?_)
    · exact R7.out
    clear hK K
    try simp only [Act.put, List.setIfInBounds_toArray, List.set_cons_zero, List.set_cons_succ]
    refine wpAnyH_ready (rs := [53]) (by kernel_rfl) (by simp) (AllReadyH.cons (o := { dst := some 120, op := Op.call { callee := Callee.value (Operand.func 20), args := #[Operand.tmp 119], argTypes := #[23] }, type := 3, pos := "law.go:29", after := #[{ on := 52, ground := Ground.data }, { on := 51, ground := Ground.chain }, { on := 49, ground := Ground.guard }], guard := some (49, true) }) rfl (fun K hK => ?_) AllReadyH.nil)
    go_simp
    refine (H8.out _).mono ?_
    rintro e u8 ⟨rfl, hg⟩
    have R8 := Lib.hid (R7.out.grown hg)
    replace G := Lib.hid (grown_trans G.out hg)
    clear hg
    try dsimp only
    refine hK.out _ _ ?_ (fun hHeld => ?_)
    · exact R8.out
    clear hK K
    try simp only [Act.put, List.setIfInBounds_toArray, List.set_cons_zero, List.set_cons_succ]
    refine wpAnyH_take (i := 54) (oi := { dst := some 121, op := Op.binOp BinOp.eql 3 (Operand.tmp 118) (Operand.tmp 120) 3, type := 4, pos := "law.go:29", after := #[{ on := 51, ground := Ground.data }, { on := 53, ground := Ground.data }, { on := 49, ground := Ground.guard }], guard := some (49, true) }) (v := ?_) rfl (by kernel_rfl) (by kernel_rfl) (by kernel_rfl) (fun _ _ _ h => h) (Or.inl ⟨by rfl, ?_⟩) (by assumption) ?_
    rotate_left 1
    · intro w hSw; obtain ⟨⟨v0, v1, v2, v3, _⟩, ⟨a0, a1, a2, a3, _⟩, ⟨b0, b1, b2, b3, _⟩, ⟨c0, c1, c2, c3, _⟩, ⟨d0, d1, d2, d3, _⟩, ⟨e0, e1, e2, e3, _⟩, ⟨f0, f1, f2, f3, _⟩⟩ := hSw; first | (go_simp; done) | (go_simp; with_reducible rfl)
    try simp only [Act.put, List.setIfInBounds_toArray, List.set_cons_zero, List.set_cons_succ]
    refine wpAnyH_take (i := 55) (oi := { dst := some 122, op := Op.pick (Operand.tmp 116) (Operand.tmp 121) (Operand.const (Value.bool false)), type := 4, pos := "law.go:29", after := #[{ on := 49, ground := Ground.data }, { on := 54, ground := Ground.data }], guard := none }) (v := ?_) rfl (by kernel_rfl) (by kernel_rfl) (by kernel_rfl) (fun _ _ _ h => h) (Or.inl ⟨by rfl, ?_⟩) (by assumption) ?_
    rotate_left 1
    · intro w hSw; obtain ⟨⟨v0, v1, v2, v3, _⟩, ⟨a0, a1, a2, a3, _⟩, ⟨b0, b1, b2, b3, _⟩, ⟨c0, c1, c2, c3, _⟩, ⟨d0, d1, d2, d3, _⟩, ⟨e0, e1, e2, e3, _⟩, ⟨f0, f1, f2, f3, _⟩⟩ := hSw; first | (go_simp; done) | (go_simp; with_reducible rfl)
    try simp only [Act.put, List.setIfInBounds_toArray, List.set_cons_zero, List.set_cons_succ]
    refine wpAnyH_take (i := 56) (oi := { dst := some 123, op := Op.move (Operand.tmp 122), type := 4, pos := "law.go:29", after := #[{ on := 55, ground := Ground.data }, { on := 53, ground := Ground.chain }], guard := none }) (v := ?_) rfl (by kernel_rfl) (by kernel_rfl) (by kernel_rfl) (fun _ _ _ h => h) (Or.inl ⟨by rfl, ?_⟩) (by assumption) ?_
    rotate_left 1
    · intro w hSw; obtain ⟨⟨v0, v1, v2, v3, _⟩, ⟨a0, a1, a2, a3, _⟩, ⟨b0, b1, b2, b3, _⟩, ⟨c0, c1, c2, c3, _⟩, ⟨d0, d1, d2, d3, _⟩, ⟨e0, e1, e2, e3, _⟩, ⟨f0, f1, f2, f3, _⟩⟩ := hSw; first | (go_simp; done) | (go_simp; with_reducible rfl)
    try simp only [Act.put, List.setIfInBounds_toArray, List.set_cons_zero, List.set_cons_succ]
    refine wpAnyH_ready (rs := [57]) (by kernel_rfl) (by simp) (AllReadyH.cons (o := { dst := some 124, op := Op.call { callee := Callee.value (Operand.func 21), args := #[], argTypes := #[] }, type := 4, pos := "law.go:29", after := #[{ on := 56, ground := Ground.chain }, { on := 56, ground := Ground.guard }], guard := some (56, true) }) rfl (fun K hK => ?_) AllReadyH.nil)
    go_simp
    refine (awake23_any _).mono ?_
    rintro e u9 ⟨rfl, hg⟩
    have R9 := Lib.hid (R8.out.grown hg)
    replace G := Lib.hid (grown_trans G.out hg)
    clear hg
    try dsimp only
    refine hK.out _ _ ?_ (fun hHeld => ?_)
    · exact R9.out
    clear hK K
    try simp only [Act.put, List.setIfInBounds_toArray, List.set_cons_zero, List.set_cons_succ]
    refine wpAnyH_take (i := 58) (oi := { dst := some 125, op := Op.pick (Operand.tmp 123) (Operand.tmp 124) (Operand.const (Value.bool false)), type := 4, pos := "law.go:29", after := #[{ on := 56, ground := Ground.data }, { on := 57, ground := Ground.data }], guard := none }) (v := ?_) rfl (by kernel_rfl) (by kernel_rfl) (by kernel_rfl) (fun _ _ _ h => h) (Or.inl ⟨by rfl, ?_⟩) (by assumption) ?_
    rotate_left 1
    · intro w hSw; obtain ⟨⟨v0, v1, v2, v3, _⟩, ⟨a0, a1, a2, a3, _⟩, ⟨b0, b1, b2, b3, _⟩, ⟨c0, c1, c2, c3, _⟩, ⟨d0, d1, d2, d3, _⟩, ⟨e0, e1, e2, e3, _⟩, ⟨f0, f1, f2, f3, _⟩⟩ := hSw; first | (go_simp; done) | (go_simp; with_reducible rfl)
    try simp only [Act.put, List.setIfInBounds_toArray, List.set_cons_zero, List.set_cons_succ]
    refine wpAnyH_take (i := 59) (oi := { dst := some 8, op := Op.assign (Operand.tmp 125), type := 4, pos := "law.go:29", after := #[{ on := 58, ground := Ground.data }, { on := 57, ground := Ground.chain }, { on := 0, ground := Ground.phase }, { on := 1, ground := Ground.phase }, { on := 2, ground := Ground.phase }, { on := 3, ground := Ground.phase }, { on := 4, ground := Ground.phase }, { on := 5, ground := Ground.phase }, { on := 6, ground := Ground.phase }, { on := 7, ground := Ground.phase }, { on := 8, ground := Ground.phase }, { on := 9, ground := Ground.phase }, { on := 10, ground := Ground.phase }, { on := 11, ground := Ground.phase }, { on := 12, ground := Ground.phase }, { on := 13, ground := Ground.phase }, { on := 14, ground := Ground.phase }, { on := 15, ground := Ground.phase }, { on := 16, ground := Ground.phase }, { on := 17, ground := Ground.phase }, { on := 18, ground := Ground.phase }, { on := 19, ground := Ground.phase }, { on := 20, ground := Ground.phase }, { on := 21, ground := Ground.phase }, { on := 22, ground := Ground.phase }, { on := 23, ground := Ground.phase }, { on := 24, ground := Ground.phase }, { on := 25, ground := Ground.phase }, { on := 26, ground := Ground.phase }, { on := 27, ground := Ground.phase }, { on := 28, ground := Ground.phase }, { on := 29, ground := Ground.phase }, { on := 30, ground := Ground.phase }, { on := 31, ground := Ground.phase }, { on := 32, ground := Ground.phase }, { on := 33, ground := Ground.phase }, { on := 34, ground := Ground.phase }, { on := 35, ground := Ground.phase }, { on := 36, ground := Ground.phase }, { on := 37, ground := Ground.phase }, { on := 38, ground := Ground.phase }, { on := 39, ground := Ground.phase }, { on := 40, ground := Ground.phase }, { on := 41, ground := Ground.phase }, { on := 42, ground := Ground.phase }, { on := 43, ground := Ground.phase }, { on := 44, ground := Ground.phase }, { on := 45, ground := Ground.phase }, { on := 46, ground := Ground.phase }, { on := 47, ground := Ground.phase }, { on := 48, ground := Ground.phase }, { on := 49, ground := Ground.phase }, { on := 50, ground := Ground.phase }, { on := 51, ground := Ground.phase }, { on := 52, ground := Ground.phase }, { on := 53, ground := Ground.phase }, { on := 54, ground := Ground.phase }, { on := 55, ground := Ground.phase }, { on := 56, ground := Ground.phase }, { on := 57, ground := Ground.phase }, { on := 58, ground := Ground.phase }], guard := none }) (v := ?_) rfl (by kernel_rfl) (by kernel_rfl) (by kernel_rfl) (fun _ _ _ h => h) (Or.inl ⟨by rfl, ?_⟩) (by assumption) ?_
    rotate_left 1
    · intro w hSw; obtain ⟨⟨v0, v1, v2, v3, _⟩, ⟨a0, a1, a2, a3, _⟩, ⟨b0, b1, b2, b3, _⟩, ⟨c0, c1, c2, c3, _⟩, ⟨d0, d1, d2, d3, _⟩, ⟨e0, e1, e2, e3, _⟩, ⟨f0, f1, f2, f3, _⟩⟩ := hSw; first | (go_simp; done) | (go_simp; with_reducible rfl)
    try simp only [Act.put, List.setIfInBounds_toArray, List.set_cons_zero, List.set_cons_succ]
    refine wpAnyH_done (by kernel_rfl) ?_ _
    go_wp2
    go_ret
    exact ⟨rfl, grown_below G.out⟩
end Go.Proofs.Ytckohnlpmooecaa
