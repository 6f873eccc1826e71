/- Contract of the reader's Telegram. -/
import Derived.Test.YtcjbhkocpfkcbaaDoorTs
import Derived.Deep.RegionHeld3
import Derived.Deep.DeepCutAuto
namespace Go.Proofs.YtcjbhkocpfkcbaaDoor.Wr
open Go.ChangeShapes Go.WideShapes Go.ChangeAt Go.RowKit

def pks : List Int := [0, -1, 62, 63, -63, -62, 9007199254740992, -9007199254740992, 126, 1000]
theorem pks_in {v : Int} (h : v ∈ pks) : -9007199254740992 ≤ v ∧ v ≤ 9007199254740992 := by
  simp [pks] at h; omega
def TgOK (st : Int) (t : Tm.Tg) : Prop := t.st = st ∧ t.ok = true ∧ t.vs.length ≤ 3

set_option maxRecDepth 100000 in
set_option maxHeartbeats 2000000 in
theorem telegram_any (S : Nat) (st : Int) (w : World) (hs : SrcOK w S) (h1 : 0 ≤ st) (h2 : st ≤ 255) :
    Calls Tryd.prog 17 #[.pointer (some ⟨S, 0, none⟩), .int .i64 st] w (TgEnd S (TgOK st) w) := by
  have hS := src_lt hs
  have HS := Lib.hid hs
  clear hs
  go_enter Tryd.func17, Tryd.ntmps17
  go_wp2_with fail
  obtain ⟨X, hX⟩ : ∃ X, w.heap.size = X := ⟨_, rfl⟩
  have X1 : Hid (Six (w.alloc (tcells Tm.zero nilV)) X Tm.zero nilV) := by rw [← hX]; exact Six.made w _ _
  have G1 : Hid (w.grownBy (w.alloc (tcells Tm.zero nilV)) (some S)) := World.grownBy_alloc _ _ _
  have S1 : Hid (SrcOK (w.alloc (tcells Tm.zero nilV)) S) := HS.out.grown (World.grownBy_alloc _ _ _)
  have Z1 : Hid (X < (w.alloc (tcells Tm.zero nilV)).heap.size) := World.block_lt_of_cell? _ _ X1.out.1.1
  rw [hX] at hS ⊢
  have hwX : w.heap.size ≤ X := by omega
  have hSX : S < X := hS
  have hneX : some X ≠ some S := by intro e; injection e; omega
  unfold tcells nilV at X1 G1 S1 Z1
  dsimp only [Tm.zero] at X1 G1 S1 Z1
  generalize (w.alloc (Obj.cells #[.int .i64 0, .int .i64 0, .int .i64 0, .int .i64 0, .int .i64 0, .slice none 0 0] 24)) = W1 at *
  refine (n_any S 3 W1 S1.out (by omega) (by omega)).mono ?_
  rintro e W2 ⟨ep, ⟨e1, e2⟩, rfl, hg, hs⟩
  have X2 : Hid (Six W2 X Tm.zero nilV) := X1.out.grown hg hneX
  have G2 := Lib.hid (grown_trans G1.out hg)
  have S2 := Lib.hid hs
  clear X1 G1 S1 Z1 hg hs
  go_wp2_with fail
  refine (n_any S 6 W2 S2.out (by omega) (by omega)).mono ?_
  rintro e W3 ⟨sq, ⟨q1, q2⟩, rfl, hg, hs⟩
  have X3 : Hid (Six W3 X Tm.zero nilV) := X2.out.grown hg hneX
  have G3 := Lib.hid (grown_trans G2.out hg)
  have S3 := Lib.hid hs
  clear X2 G2 S2 hg hs
  go_wp2_with fail
  refine Calls.mono (pick_lit S 5 W3.heap.size [0, 125, 63, 62, 1099511627776] #[.int .i64 0, .int .i64 125, .int .i64 63, .int .i64 62, .int .i64 1099511627776] W3 rfl S3.out rfl (by omega) (by omega) ?_) ?_
  · intro i hi
    match i, hi with
    | 0, _ => rfl
    | 1, _ => rfl
    | 2, _ => rfl
    | 3, _ => rfl
    | 4, _ => rfl
  rintro e W4 ⟨tt, ht, rfl, hg, hs⟩
  have ht2 : 0 ≤ tt ∧ tt ≤ 1099511627776 := by simp at ht; omega
  have X4 : Hid (Six W4 X Tm.zero nilV) := X3.out.grown hg hneX
  have G4 := Lib.hid (grown_trans G3.out hg)
  have S4 := Lib.hid hs
  clear X3 G3 S3 hg hs ht
  go_wp2_with fail
  refine (n_any S 64 W4 S4.out (by omega) (by omega)).mono ?_
  rintro e W5 ⟨kd, ⟨k1, k2⟩, rfl, hg, hs⟩
  have X5 : Hid (Six W5 X Tm.zero nilV) := X4.out.grown hg hneX
  have G5 := Lib.hid (grown_trans G4.out hg)
  have S5 := Lib.hid hs
  clear X4 G4 S4 hg hs
  go_wp2_with fail
  obtain ⟨T, hT⟩ : ∃ T, W5.heap.size = T := ⟨_, rfl⟩
  have hXT : X < T := by have := World.block_lt_of_cell? _ _ X5.out.1.1; dsimp only at this; omega
  have hST : S < T := by omega
  have TS6 : Hid (TS w S X T ⟨st, ep, sq, tt, kd, []⟩ none 0 0 (W5.alloc (tcells ⟨st, ep, sq, tt, kd, []⟩ nilV))) := by
    refine ⟨grown_trans G5.out (World.grownBy_alloc _ _ _), S5.out.grown (World.grownBy_alloc _ _ _), X5.out.grown (World.grownBy_alloc W5 (tcells ⟨st, ep, sq, tt, kd, []⟩ nilV) none) (by simp), ?_, oi_nil _ _, by simp; omega⟩
    rw [← hT]; exact Six.made W5 _ _
  rw [hT]
  clear X5 G5 S5 hT
  unfold tcells nilV at TS6
  dsimp only at TS6
  generalize (W5.alloc (Obj.cells #[.int .i64 st, .int .i64 ep, .int .i64 sq, .int .i64 tt, .int .i64 kd, .slice none 0 0] 24)) = W6 at *
  refine (n_any S 4 W6 TS6.out.src (by omega) (by omega)).mono ?_
  rintro e W7 ⟨i0, ⟨i1, i2⟩, rfl, hg, hs⟩
  have TS7 := Lib.hid (TS6.out.step hSX hST hg hs)
  clear TS6 hg hs
  go_wp2
  go_loopw [6] (fun s6 wr => ∃ (i : Int) (vs : List Int) (n c : Nat) (A : Option Addr), s6 = .int .i64 i ∧ 0 ≤ i ∧ i + n ≤ 3 ∧ Hid (TS w S X T ⟨st, ep, sq, tt, kd, vs⟩ A n c wr) ∧ Hid (∀ v ∈ vs, v ∈ pks)) (fun s6 _ => (intOf s6).toNat)
  case atStart => exact ⟨i0, [], 0, 0, none, rfl, i1, by omega, TS7, by intro v hv; cases hv⟩
  case round =>
    obtain ⟨i, vs, n, c, A, rfl, hi0, hin, HWR, HV⟩ := hrel
    by_cases hlt : 0 < i
    · go_wp2_with fail
      refine wp_region_held_drew (S := fun _ => True) (by kernel_rfl) trivial (fun hHeld => ?_)
      have HWD := Lib.hid (HWR.out.step0 hSX hST (grown_drew wr none))
      generalize wr.drew = WD at *
      try simp only [Act.put, List.setIfInBounds_toArray, List.set_cons_zero, List.set_cons_succ]
      refine wpAnyH_take (i := 0) (oi := { dst := some 24, op := Op.fieldAddr 24 (Operand.tmp 5) 5, type := 0, pos := "make.go:90", after := #[], guard := none }) (v := ?_) rfl (by kernel_rfl) (by kernel_rfl) (by kernel_rfl) (fun _ _ _ h => h) (Or.inl ⟨by rfl, ?_⟩) (by assumption) ?_
      rotate_left 1
      · intro w hSw; first | (go_simp; done) | (go_simp; with_reducible rfl)
      try simp only [Act.put, List.setIfInBounds_toArray, List.set_cons_zero, List.set_cons_succ]
      refine wpAnyH_take (i := 2) (oi := { dst := some 26, op := Op.move (Operand.tmp 0), type := 27, pos := "make.go:90", after := #[], guard := none }) (v := ?_) rfl (by kernel_rfl) (by kernel_rfl) (by kernel_rfl) (fun _ _ _ h => h) (Or.inl ⟨by rfl, ?_⟩) (by assumption) ?_
      rotate_left 1
      · intro w hSw; first | (go_simp; done) | (go_simp; with_reducible rfl)
      try simp only [Act.put, List.setIfInBounds_toArray, List.set_cons_zero, List.set_cons_succ]
      refine wpAnyH_ready (rs := [1, 3]) (by kernel_rfl) (by simp) (AllReadyH.cons (o := { dst := some 25, op := Op.load 22 (Operand.tmp 24), type := 22, pos := "make.go:90", after := #[{ on := 0, ground := Ground.data }], guard := none }) rfl (fun K hK => ?_) (AllReadyH.cons (o := { dst := some 27, op := Op.buildSlice 22 10 #[(0, Operand.const (Value.int IntKind.i64 0)), (1, Operand.const (Value.int IntKind.i64 (-1))), (2, Operand.const (Value.int IntKind.i64 62)), (3, Operand.const (Value.int IntKind.i64 63)), (4, Operand.const (Value.int IntKind.i64 (-63))), (5, Operand.const (Value.int IntKind.i64 (-62))), (6, Operand.const (Value.int IntKind.i64 9007199254740992)), (7, Operand.const (Value.int IntKind.i64 (-9007199254740992))), (8, Operand.const (Value.int IntKind.i64 126)), (9, Operand.const (Value.int IntKind.i64 1000))], type := 22, pos := "make.go:90", after := #[], guard := none }) rfl (fun K hK => ?_) AllReadyH.nil))
      · skip
        obtain ⟨⟨_, _, _, _, _, z5⟩, _⟩ := HWD.out.tel
        go_simp
        clear z5
        refine hK.out _ _ trivial (fun hHeld => ?_)
        clear hK K
        try simp only [Act.put, List.setIfInBounds_toArray, List.set_cons_zero, List.set_cons_succ]
        refine wpAnyH_ready (rs := [3]) (by kernel_rfl) (by simp) (AllReadyH.cons (o := { dst := some 27, op := Op.buildSlice 22 10 #[(0, Operand.const (Value.int IntKind.i64 0)), (1, Operand.const (Value.int IntKind.i64 (-1))), (2, Operand.const (Value.int IntKind.i64 62)), (3, Operand.const (Value.int IntKind.i64 63)), (4, Operand.const (Value.int IntKind.i64 (-63))), (5, Operand.const (Value.int IntKind.i64 (-62))), (6, Operand.const (Value.int IntKind.i64 9007199254740992)), (7, Operand.const (Value.int IntKind.i64 (-9007199254740992))), (8, Operand.const (Value.int IntKind.i64 126)), (9, Operand.const (Value.int IntKind.i64 1000))], type := 22, pos := "make.go:90", after := #[], guard := none }) rfl (fun K hK => ?_) AllReadyH.nil)
        · skip
          go_simp
          refine hK.out _ _ trivial (fun hHeld => ?_)
          clear hK K
          try simp only [Act.put, List.setIfInBounds_toArray, List.set_cons_zero, List.set_cons_succ]
          refine wpAnyH_ready (rs := [4]) (by kernel_rfl) (by simp) (AllReadyH.cons (o := { dst := some 28, op := Op.call { callee := Callee.value (Operand.func 21), args := #[Operand.tmp 26, Operand.tmp 27], argTypes := #[27, 22] }, type := 3, pos := "make.go:90", after := #[{ on := 2, ground := Ground.data }, { on := 3, ground := Ground.data }], guard := none }) rfl (fun K hK => ?_) AllReadyH.nil)
          · skip
            go_simp
            refine Calls.mono (pick_lit S 10 WD.heap.size [0, -1, 62, 63, -63, -62, 9007199254740992, -9007199254740992, 126, 1000] #[.int .i64 0, .int .i64 (-1), .int .i64 62, .int .i64 63, .int .i64 (-63), .int .i64 (-62), .int .i64 9007199254740992, .int .i64 (-9007199254740992), .int .i64 126, .int .i64 1000] WD rfl HWD.out.src rfl (by omega) (by omega) ?_) ?_
            · intro i hi
              match i, hi with
              | 0, _ => rfl
              | 1, _ => rfl
              | 2, _ => rfl
              | 3, _ => rfl
              | 4, _ => rfl
              | 5, _ => rfl
              | 6, _ => rfl
              | 7, _ => rfl
              | 8, _ => rfl
              | 9, _ => rfl
            rintro e W4 ⟨r, hr, rfl, hg, hs⟩
            have HW4 := Lib.hid (HWD.out.step hSX hST hg hs)
            have HR := Lib.hid hr
            clear hg hs hr
            try dsimp only
            refine hK.out _ _ trivial (fun hHeld => ?_)
            clear hK K
            try simp only [Act.put, List.setIfInBounds_toArray, List.set_cons_zero, List.set_cons_succ]
            refine wpAnyH_ready (rs := [5]) (by kernel_rfl) (by simp) (AllReadyH.cons (o := { dst := some 29, op := Op.buildSlice 22 1 #[(0, Operand.tmp 28)], type := 22, pos := "make.go:90", after := #[{ on := 4, ground := Ground.data }], guard := none }) rfl (fun K hK => ?_) AllReadyH.nil)
            · skip
              go_simp
              refine hK.out _ _ trivial (fun hHeld => ?_)
              clear hK K
              try simp only [Act.put, List.setIfInBounds_toArray, List.set_cons_zero, List.set_cons_succ]
              refine wpAnyH_ready (rs := [6]) (by kernel_rfl) (by simp) (AllReadyH.cons (o := { dst := some 30, op := Op.call { callee := Callee.builtin Builtin.append, args := #[Operand.tmp 25, Operand.tmp 29], argTypes := #[22, 22] }, type := 22, pos := "make.go:90", after := #[{ on := 1, ground := Ground.data }, { on := 5, ground := Ground.data }, { on := 4, ground := Ground.chain }], guard := none }) rfl (fun K hK => ?_) AllReadyH.nil)
              refine step_appO rfl (.tmp 25) (.tmp 29) rfl rfl rfl (HW4.out.step0 hSX hST (World.grownBy_alloc W4 (Obj.cells #[.int .i64 r] 3) none)).own (HW4.out.step0 hSX hST (World.grownBy_alloc W4 (Obj.cells #[.int .i64 r] 3) none)).sz (madeI_lit W4 W4 #[.int .i64 r] 1 [r] rfl rfl (grown_refl _ _) (by omega)).ir (by omega) (by omega) (n + 1) rfl ?_
              intro A6 c6 W6 ho6 hg6
              have HP := Lib.hid ((HW4.out.step0 hSX hST (World.grownBy_alloc W4 (Obj.cells #[.int .i64 r] 3) none)).push (vs ++ [r]) hwX hSX hXT ho6 hg6 (fun k e => (World.ownsRow.lt (HW4.out.step0 hSX hST (World.grownBy_alloc W4 (Obj.cells #[.int .i64 r] 3) none)).own k e).1))
              obtain ⟨⟨_, _, _, _, _, z5⟩, _, _, _, _, _, y5⟩ := (HW4.out.step0 hSX hST (World.grownBy_alloc W4 (Obj.cells #[.int .i64 r] 3) none)).tel.grown hg6 (fun e => by have := (World.ownsRow.lt (HW4.out.step0 hSX hST (World.grownBy_alloc W4 (Obj.cells #[.int .i64 r] 3) none)).own T e.symm).1; omega)
              refine hK.out _ _ trivial (fun hHeld => ?_)
              clear hK K ho6 hg6
              try simp only [Act.put, List.setIfInBounds_toArray, List.set_cons_zero, List.set_cons_succ]
              refine wpAnyH_take (i := 7) (oi := { dst := some 31, op := Op.fieldAddr 24 (Operand.tmp 5) 5, type := 0, pos := "make.go:90", after := #[{ on := 0, ground := Ground.phase }, { on := 1, ground := Ground.phase }, { on := 2, ground := Ground.phase }, { on := 3, ground := Ground.phase }, { on := 4, ground := Ground.phase }, { on := 5, ground := Ground.phase }, { on := 6, ground := Ground.phase }], guard := none }) (v := ?_) rfl (by kernel_rfl) (by kernel_rfl) (by kernel_rfl) (fun _ _ _ h => h) (Or.inl ⟨by rfl, ?_⟩) (by assumption) ?_
              rotate_left 1
              · intro w hSw; first | (go_simp; done) | (go_simp; with_reducible rfl)
              try simp only [Act.put, List.setIfInBounds_toArray, List.set_cons_zero, List.set_cons_succ]
              refine wpAnyH_ready (rs := [8]) (by kernel_rfl) (by simp) (AllReadyH.cons (o := { dst := none, op := Op.store 22 (Operand.tmp 31) (Operand.tmp 30), type := 0, pos := "make.go:90", after := #[{ on := 7, ground := Ground.data }, { on := 6, ground := Ground.data }, { on := 6, ground := Ground.chain }, { on := 0, ground := Ground.phase }, { on := 1, ground := Ground.phase }, { on := 2, ground := Ground.phase }, { on := 3, ground := Ground.phase }, { on := 4, ground := Ground.phase }, { on := 5, ground := Ground.phase }, { on := 6, ground := Ground.phase }], guard := none }) rfl (fun K hK => ?_) AllReadyH.nil)
              go_simp
              clear z5 y5
              refine hK.out _ _ trivial (fun hHeld => ?_)
              clear hK K
              try simp only [Act.put, List.setIfInBounds_toArray, List.set_cons_zero, List.set_cons_succ]
              refine wpAnyH_done (by kernel_rfl) ?_ _
              go_wp2
              go_roundw
              case rel => exact ⟨i - 1, vs ++ [r], n + 1, c6, A6, rfl, by omega, by omega, HP, (fun v hv => by rcases List.mem_append.1 hv with h | h; exact HV.out v h; simp at h; rw [h]; exact HR.out)⟩
              case measure => simp [intOf]; omega
      · skip
        go_simp
        refine hK.out _ _ trivial (fun hHeld => ?_)
        clear hK K
        try simp only [Act.put, List.setIfInBounds_toArray, List.set_cons_zero, List.set_cons_succ]
        refine wpAnyH_ready (rs := [1, 4]) (by kernel_rfl) (by simp) (AllReadyH.cons (o := { dst := some 25, op := Op.load 22 (Operand.tmp 24), type := 22, pos := "make.go:90", after := #[{ on := 0, ground := Ground.data }], guard := none }) rfl (fun K hK => ?_) (AllReadyH.cons (o := { dst := some 28, op := Op.call { callee := Callee.value (Operand.func 21), args := #[Operand.tmp 26, Operand.tmp 27], argTypes := #[27, 22] }, type := 3, pos := "make.go:90", after := #[{ on := 2, ground := Ground.data }, { on := 3, ground := Ground.data }], guard := none }) rfl (fun K hK => ?_) AllReadyH.nil))
        · skip
          obtain ⟨⟨_, _, _, _, _, z5⟩, _⟩ := HWD.out.tel
          have z5 := (World.grownBy_alloc WD (Obj.cells #[.int .i64 0, .int .i64 (-1), .int .i64 62, .int .i64 63, .int .i64 (-63), .int .i64 (-62), .int .i64 9007199254740992, .int .i64 (-9007199254740992), .int .i64 126, .int .i64 1000] 3) none).cell z5 (by simp)
          go_simp
          clear z5
          refine hK.out _ _ trivial (fun hHeld => ?_)
          clear hK K
          try simp only [Act.put, List.setIfInBounds_toArray, List.set_cons_zero, List.set_cons_succ]
          refine wpAnyH_ready (rs := [4]) (by kernel_rfl) (by simp) (AllReadyH.cons (o := { dst := some 28, op := Op.call { callee := Callee.value (Operand.func 21), args := #[Operand.tmp 26, Operand.tmp 27], argTypes := #[27, 22] }, type := 3, pos := "make.go:90", after := #[{ on := 2, ground := Ground.data }, { on := 3, ground := Ground.data }], guard := none }) rfl (fun K hK => ?_) AllReadyH.nil)
          · skip
            go_simp
            refine Calls.mono (pick_lit S 10 WD.heap.size [0, -1, 62, 63, -63, -62, 9007199254740992, -9007199254740992, 126, 1000] #[.int .i64 0, .int .i64 (-1), .int .i64 62, .int .i64 63, .int .i64 (-63), .int .i64 (-62), .int .i64 9007199254740992, .int .i64 (-9007199254740992), .int .i64 126, .int .i64 1000] WD rfl HWD.out.src rfl (by omega) (by omega) ?_) ?_
            · intro i hi
              match i, hi with
              | 0, _ => rfl
              | 1, _ => rfl
              | 2, _ => rfl
              | 3, _ => rfl
              | 4, _ => rfl
              | 5, _ => rfl
              | 6, _ => rfl
              | 7, _ => rfl
              | 8, _ => rfl
              | 9, _ => rfl
            rintro e W4 ⟨r, hr, rfl, hg, hs⟩
            have HW4 := Lib.hid (HWD.out.step hSX hST hg hs)
            have HR := Lib.hid hr
            clear hg hs hr
            try dsimp only
            refine hK.out _ _ trivial (fun hHeld => ?_)
            clear hK K
            try simp only [Act.put, List.setIfInBounds_toArray, List.set_cons_zero, List.set_cons_succ]
            refine wpAnyH_ready (rs := [5]) (by kernel_rfl) (by simp) (AllReadyH.cons (o := { dst := some 29, op := Op.buildSlice 22 1 #[(0, Operand.tmp 28)], type := 22, pos := "make.go:90", after := #[{ on := 4, ground := Ground.data }], guard := none }) rfl (fun K hK => ?_) AllReadyH.nil)
            · skip
              go_simp
              refine hK.out _ _ trivial (fun hHeld => ?_)
              clear hK K
              try simp only [Act.put, List.setIfInBounds_toArray, List.set_cons_zero, List.set_cons_succ]
              refine wpAnyH_ready (rs := [6]) (by kernel_rfl) (by simp) (AllReadyH.cons (o := { dst := some 30, op := Op.call { callee := Callee.builtin Builtin.append, args := #[Operand.tmp 25, Operand.tmp 29], argTypes := #[22, 22] }, type := 22, pos := "make.go:90", after := #[{ on := 1, ground := Ground.data }, { on := 5, ground := Ground.data }, { on := 4, ground := Ground.chain }], guard := none }) rfl (fun K hK => ?_) AllReadyH.nil)
              refine step_appO rfl (.tmp 25) (.tmp 29) rfl rfl rfl (HW4.out.step0 hSX hST (World.grownBy_alloc W4 (Obj.cells #[.int .i64 r] 3) none)).own (HW4.out.step0 hSX hST (World.grownBy_alloc W4 (Obj.cells #[.int .i64 r] 3) none)).sz (madeI_lit W4 W4 #[.int .i64 r] 1 [r] rfl rfl (grown_refl _ _) (by omega)).ir (by omega) (by omega) (n + 1) rfl ?_
              intro A6 c6 W6 ho6 hg6
              have HP := Lib.hid ((HW4.out.step0 hSX hST (World.grownBy_alloc W4 (Obj.cells #[.int .i64 r] 3) none)).push (vs ++ [r]) hwX hSX hXT ho6 hg6 (fun k e => (World.ownsRow.lt (HW4.out.step0 hSX hST (World.grownBy_alloc W4 (Obj.cells #[.int .i64 r] 3) none)).own k e).1))
              obtain ⟨⟨_, _, _, _, _, z5⟩, _, _, _, _, _, y5⟩ := (HW4.out.step0 hSX hST (World.grownBy_alloc W4 (Obj.cells #[.int .i64 r] 3) none)).tel.grown hg6 (fun e => by have := (World.ownsRow.lt (HW4.out.step0 hSX hST (World.grownBy_alloc W4 (Obj.cells #[.int .i64 r] 3) none)).own T e.symm).1; omega)
              refine hK.out _ _ trivial (fun hHeld => ?_)
              clear hK K ho6 hg6
              try simp only [Act.put, List.setIfInBounds_toArray, List.set_cons_zero, List.set_cons_succ]
              refine wpAnyH_take (i := 7) (oi := { dst := some 31, op := Op.fieldAddr 24 (Operand.tmp 5) 5, type := 0, pos := "make.go:90", after := #[{ on := 0, ground := Ground.phase }, { on := 1, ground := Ground.phase }, { on := 2, ground := Ground.phase }, { on := 3, ground := Ground.phase }, { on := 4, ground := Ground.phase }, { on := 5, ground := Ground.phase }, { on := 6, ground := Ground.phase }], guard := none }) (v := ?_) rfl (by kernel_rfl) (by kernel_rfl) (by kernel_rfl) (fun _ _ _ h => h) (Or.inl ⟨by rfl, ?_⟩) (by assumption) ?_
              rotate_left 1
              · intro w hSw; first | (go_simp; done) | (go_simp; with_reducible rfl)
              try simp only [Act.put, List.setIfInBounds_toArray, List.set_cons_zero, List.set_cons_succ]
              refine wpAnyH_ready (rs := [8]) (by kernel_rfl) (by simp) (AllReadyH.cons (o := { dst := none, op := Op.store 22 (Operand.tmp 31) (Operand.tmp 30), type := 0, pos := "make.go:90", after := #[{ on := 7, ground := Ground.data }, { on := 6, ground := Ground.data }, { on := 6, ground := Ground.chain }, { on := 0, ground := Ground.phase }, { on := 1, ground := Ground.phase }, { on := 2, ground := Ground.phase }, { on := 3, ground := Ground.phase }, { on := 4, ground := Ground.phase }, { on := 5, ground := Ground.phase }, { on := 6, ground := Ground.phase }], guard := none }) rfl (fun K hK => ?_) AllReadyH.nil)
              go_simp
              clear z5 y5
              refine hK.out _ _ trivial (fun hHeld => ?_)
              clear hK K
              try simp only [Act.put, List.setIfInBounds_toArray, List.set_cons_zero, List.set_cons_succ]
              refine wpAnyH_done (by kernel_rfl) ?_ _
              go_wp2
              go_roundw
              case rel => exact ⟨i - 1, vs ++ [r], n + 1, c6, A6, rfl, by omega, by omega, HP, (fun v hv => by rcases List.mem_append.1 hv with h | h; exact HV.out v h; simp at h; rw [h]; exact HR.out)⟩
              case measure => simp [intOf]; omega
        · skip
          go_simp
          refine Calls.mono (pick_lit S 10 WD.heap.size [0, -1, 62, 63, -63, -62, 9007199254740992, -9007199254740992, 126, 1000] #[.int .i64 0, .int .i64 (-1), .int .i64 62, .int .i64 63, .int .i64 (-63), .int .i64 (-62), .int .i64 9007199254740992, .int .i64 (-9007199254740992), .int .i64 126, .int .i64 1000] WD rfl HWD.out.src rfl (by omega) (by omega) ?_) ?_
          · intro i hi
            match i, hi with
            | 0, _ => rfl
            | 1, _ => rfl
            | 2, _ => rfl
            | 3, _ => rfl
            | 4, _ => rfl
            | 5, _ => rfl
            | 6, _ => rfl
            | 7, _ => rfl
            | 8, _ => rfl
            | 9, _ => rfl
          rintro e W4 ⟨r, hr, rfl, hg, hs⟩
          have HW4 := Lib.hid (HWD.out.step hSX hST hg hs)
          have HR := Lib.hid hr
          clear hg hs hr
          try dsimp only
          refine hK.out _ _ trivial (fun hHeld => ?_)
          clear hK K
          try simp only [Act.put, List.setIfInBounds_toArray, List.set_cons_zero, List.set_cons_succ]
          refine wpAnyH_ready (rs := [1, 5]) (by kernel_rfl) (by simp) (AllReadyH.cons (o := { dst := some 25, op := Op.load 22 (Operand.tmp 24), type := 22, pos := "make.go:90", after := #[{ on := 0, ground := Ground.data }], guard := none }) rfl (fun K hK => ?_) (AllReadyH.cons (o := { dst := some 29, op := Op.buildSlice 22 1 #[(0, Operand.tmp 28)], type := 22, pos := "make.go:90", after := #[{ on := 4, ground := Ground.data }], guard := none }) rfl (fun K hK => ?_) AllReadyH.nil))
          · skip
            obtain ⟨⟨_, _, _, _, _, z5⟩, _⟩ := HW4.out.tel
            go_simp
            clear z5
            refine hK.out _ _ trivial (fun hHeld => ?_)
            clear hK K
            try simp only [Act.put, List.setIfInBounds_toArray, List.set_cons_zero, List.set_cons_succ]
            refine wpAnyH_ready (rs := [5]) (by kernel_rfl) (by simp) (AllReadyH.cons (o := { dst := some 29, op := Op.buildSlice 22 1 #[(0, Operand.tmp 28)], type := 22, pos := "make.go:90", after := #[{ on := 4, ground := Ground.data }], guard := none }) rfl (fun K hK => ?_) AllReadyH.nil)
            · skip
              go_simp
              refine hK.out _ _ trivial (fun hHeld => ?_)
              clear hK K
              try simp only [Act.put, List.setIfInBounds_toArray, List.set_cons_zero, List.set_cons_succ]
              refine wpAnyH_ready (rs := [6]) (by kernel_rfl) (by simp) (AllReadyH.cons (o := { dst := some 30, op := Op.call { callee := Callee.builtin Builtin.append, args := #[Operand.tmp 25, Operand.tmp 29], argTypes := #[22, 22] }, type := 22, pos := "make.go:90", after := #[{ on := 1, ground := Ground.data }, { on := 5, ground := Ground.data }, { on := 4, ground := Ground.chain }], guard := none }) rfl (fun K hK => ?_) AllReadyH.nil)
              refine step_appO rfl (.tmp 25) (.tmp 29) rfl rfl rfl (HW4.out.step0 hSX hST (World.grownBy_alloc W4 (Obj.cells #[.int .i64 r] 3) none)).own (HW4.out.step0 hSX hST (World.grownBy_alloc W4 (Obj.cells #[.int .i64 r] 3) none)).sz (madeI_lit W4 W4 #[.int .i64 r] 1 [r] rfl rfl (grown_refl _ _) (by omega)).ir (by omega) (by omega) (n + 1) rfl ?_
              intro A6 c6 W6 ho6 hg6
              have HP := Lib.hid ((HW4.out.step0 hSX hST (World.grownBy_alloc W4 (Obj.cells #[.int .i64 r] 3) none)).push (vs ++ [r]) hwX hSX hXT ho6 hg6 (fun k e => (World.ownsRow.lt (HW4.out.step0 hSX hST (World.grownBy_alloc W4 (Obj.cells #[.int .i64 r] 3) none)).own k e).1))
              obtain ⟨⟨_, _, _, _, _, z5⟩, _, _, _, _, _, y5⟩ := (HW4.out.step0 hSX hST (World.grownBy_alloc W4 (Obj.cells #[.int .i64 r] 3) none)).tel.grown hg6 (fun e => by have := (World.ownsRow.lt (HW4.out.step0 hSX hST (World.grownBy_alloc W4 (Obj.cells #[.int .i64 r] 3) none)).own T e.symm).1; omega)
              refine hK.out _ _ trivial (fun hHeld => ?_)
              clear hK K ho6 hg6
              try simp only [Act.put, List.setIfInBounds_toArray, List.set_cons_zero, List.set_cons_succ]
              refine wpAnyH_take (i := 7) (oi := { dst := some 31, op := Op.fieldAddr 24 (Operand.tmp 5) 5, type := 0, pos := "make.go:90", after := #[{ on := 0, ground := Ground.phase }, { on := 1, ground := Ground.phase }, { on := 2, ground := Ground.phase }, { on := 3, ground := Ground.phase }, { on := 4, ground := Ground.phase }, { on := 5, ground := Ground.phase }, { on := 6, ground := Ground.phase }], guard := none }) (v := ?_) rfl (by kernel_rfl) (by kernel_rfl) (by kernel_rfl) (fun _ _ _ h => h) (Or.inl ⟨by rfl, ?_⟩) (by assumption) ?_
              rotate_left 1
              · intro w hSw; first | (go_simp; done) | (go_simp; with_reducible rfl)
              try simp only [Act.put, List.setIfInBounds_toArray, List.set_cons_zero, List.set_cons_succ]
              refine wpAnyH_ready (rs := [8]) (by kernel_rfl) (by simp) (AllReadyH.cons (o := { dst := none, op := Op.store 22 (Operand.tmp 31) (Operand.tmp 30), type := 0, pos := "make.go:90", after := #[{ on := 7, ground := Ground.data }, { on := 6, ground := Ground.data }, { on := 6, ground := Ground.chain }, { on := 0, ground := Ground.phase }, { on := 1, ground := Ground.phase }, { on := 2, ground := Ground.phase }, { on := 3, ground := Ground.phase }, { on := 4, ground := Ground.phase }, { on := 5, ground := Ground.phase }, { on := 6, ground := Ground.phase }], guard := none }) rfl (fun K hK => ?_) AllReadyH.nil)
              go_simp
              clear z5 y5
              refine hK.out _ _ trivial (fun hHeld => ?_)
              clear hK K
              try simp only [Act.put, List.setIfInBounds_toArray, List.set_cons_zero, List.set_cons_succ]
              refine wpAnyH_done (by kernel_rfl) ?_ _
              go_wp2
              go_roundw
              case rel => exact ⟨i - 1, vs ++ [r], n + 1, c6, A6, rfl, by omega, by omega, HP, (fun v hv => by rcases List.mem_append.1 hv with h | h; exact HV.out v h; simp at h; rw [h]; exact HR.out)⟩
              case measure => simp [intOf]; omega
          · skip
            go_simp
            refine hK.out _ _ trivial (fun hHeld => ?_)
            clear hK K
            try simp only [Act.put, List.setIfInBounds_toArray, List.set_cons_zero, List.set_cons_succ]
            refine wpAnyH_ready (rs := [1]) (by kernel_rfl) (by simp) (AllReadyH.cons (o := { dst := some 25, op := Op.load 22 (Operand.tmp 24), type := 22, pos := "make.go:90", after := #[{ on := 0, ground := Ground.data }], guard := none }) rfl (fun K hK => ?_) AllReadyH.nil)
            · skip
              obtain ⟨⟨_, _, _, _, _, z5⟩, _⟩ := HW4.out.tel
              have z5 := (World.grownBy_alloc W4 (Obj.cells #[.int .i64 r] 3) none).cell z5 (by simp)
              go_simp
              clear z5
              refine hK.out _ _ trivial (fun hHeld => ?_)
              clear hK K
              try simp only [Act.put, List.setIfInBounds_toArray, List.set_cons_zero, List.set_cons_succ]
              refine wpAnyH_ready (rs := [6]) (by kernel_rfl) (by simp) (AllReadyH.cons (o := { dst := some 30, op := Op.call { callee := Callee.builtin Builtin.append, args := #[Operand.tmp 25, Operand.tmp 29], argTypes := #[22, 22] }, type := 22, pos := "make.go:90", after := #[{ on := 1, ground := Ground.data }, { on := 5, ground := Ground.data }, { on := 4, ground := Ground.chain }], guard := none }) rfl (fun K hK => ?_) AllReadyH.nil)
              refine step_appO rfl (.tmp 25) (.tmp 29) rfl rfl rfl (HW4.out.step0 hSX hST (World.grownBy_alloc W4 (Obj.cells #[.int .i64 r] 3) none)).own (HW4.out.step0 hSX hST (World.grownBy_alloc W4 (Obj.cells #[.int .i64 r] 3) none)).sz (madeI_lit W4 W4 #[.int .i64 r] 1 [r] rfl rfl (grown_refl _ _) (by omega)).ir (by omega) (by omega) (n + 1) rfl ?_
              intro A6 c6 W6 ho6 hg6
              have HP := Lib.hid ((HW4.out.step0 hSX hST (World.grownBy_alloc W4 (Obj.cells #[.int .i64 r] 3) none)).push (vs ++ [r]) hwX hSX hXT ho6 hg6 (fun k e => (World.ownsRow.lt (HW4.out.step0 hSX hST (World.grownBy_alloc W4 (Obj.cells #[.int .i64 r] 3) none)).own k e).1))
              obtain ⟨⟨_, _, _, _, _, z5⟩, _, _, _, _, _, y5⟩ := (HW4.out.step0 hSX hST (World.grownBy_alloc W4 (Obj.cells #[.int .i64 r] 3) none)).tel.grown hg6 (fun e => by have := (World.ownsRow.lt (HW4.out.step0 hSX hST (World.grownBy_alloc W4 (Obj.cells #[.int .i64 r] 3) none)).own T e.symm).1; omega)
              refine hK.out _ _ trivial (fun hHeld => ?_)
              clear hK K ho6 hg6
              try simp only [Act.put, List.setIfInBounds_toArray, List.set_cons_zero, List.set_cons_succ]
              refine wpAnyH_take (i := 7) (oi := { dst := some 31, op := Op.fieldAddr 24 (Operand.tmp 5) 5, type := 0, pos := "make.go:90", after := #[{ on := 0, ground := Ground.phase }, { on := 1, ground := Ground.phase }, { on := 2, ground := Ground.phase }, { on := 3, ground := Ground.phase }, { on := 4, ground := Ground.phase }, { on := 5, ground := Ground.phase }, { on := 6, ground := Ground.phase }], guard := none }) (v := ?_) rfl (by kernel_rfl) (by kernel_rfl) (by kernel_rfl) (fun _ _ _ h => h) (Or.inl ⟨by rfl, ?_⟩) (by assumption) ?_
              rotate_left 1
              · intro w hSw; first | (go_simp; done) | (go_simp; with_reducible rfl)
              try simp only [Act.put, List.setIfInBounds_toArray, List.set_cons_zero, List.set_cons_succ]
              refine wpAnyH_ready (rs := [8]) (by kernel_rfl) (by simp) (AllReadyH.cons (o := { dst := none, op := Op.store 22 (Operand.tmp 31) (Operand.tmp 30), type := 0, pos := "make.go:90", after := #[{ on := 7, ground := Ground.data }, { on := 6, ground := Ground.data }, { on := 6, ground := Ground.chain }, { on := 0, ground := Ground.phase }, { on := 1, ground := Ground.phase }, { on := 2, ground := Ground.phase }, { on := 3, ground := Ground.phase }, { on := 4, ground := Ground.phase }, { on := 5, ground := Ground.phase }, { on := 6, ground := Ground.phase }], guard := none }) rfl (fun K hK => ?_) AllReadyH.nil)
              go_simp
              clear z5 y5
              refine hK.out _ _ trivial (fun hHeld => ?_)
              clear hK K
              try simp only [Act.put, List.setIfInBounds_toArray, List.set_cons_zero, List.set_cons_succ]
              refine wpAnyH_done (by kernel_rfl) ?_ _
              go_wp2
              go_roundw
              case rel => exact ⟨i - 1, vs ++ [r], n + 1, c6, A6, rfl, by omega, by omega, HP, (fun v hv => by rcases List.mem_append.1 hv with h | h; exact HV.out v h; simp at h; rw [h]; exact HR.out)⟩
              case measure => simp [intOf]; omega
    · obtain rfl : i = 0 := by omega
      have HX := Lib.hid (HWR.out.res.store ⟨st, ep, sq, tt, kd, vs⟩ (.slice A n c))
      obtain ⟨⟨a0, a1, a2, a3, a4, a5⟩, b0, b1, b2, b3, b4, b5⟩ := HWR.out.res
      obtain ⟨⟨d0, d1, d2, d3, d4, d5⟩, _⟩ := HWR.out.tel
      dsimp only at d0 d1 d2 d3 d4 d5
      go_wp2
      obtain ⟨⟨p0, p1, p2, p3, p4, p5⟩, _⟩ := HX.out
      unfold six at p0 p1 p2 p3 p4 p5
      dsimp only at p0 p1 p2 p3 p4 p5
      have gX := six_grown wr X ⟨st, ep, sq, tt, kd, vs⟩ (.slice A n c)
      refine bodyPost_ret (v := tv ⟨st, ep, sq, tt, kd, vs⟩ (.slice A n c)) (by simp [results, Tryd.results17, go_sem, p0, p1, p2, p3, p4, p5, tv]) rfl ⟨⟨st, ep, sq, tt, kd, vs⟩, A, n, c, rfl, grown_rowS HWR.out.gr gX (fun b e => .inr (by injection e; omega)), HWR.out.src.grownRow gX (fun k e => by injection e; omega), ?_, rfl, ?_, ?_⟩
      · have := HWR.out.own.keep gX (by intro k e; injection e; omega)
        exact World.ownsRow.mono this (by omega)
      · refine (Tm.Tg.ok_iff _).2 ⟨⟨h1, h2⟩, ⟨e1, by show ep ≤ 255; omega⟩, ⟨q1, by show sq ≤ _; omega⟩, ht2, ⟨k1, by show kd ≤ 63; omega⟩, ?_, fun v hv => pks_in (HV.out v hv)⟩
        have := HWR.out.own.len; show vs.length ≤ 16; dsimp only at this; omega
      · have := HWR.out.own.len; show vs.length ≤ 3; dsimp only at this; omega
end Go.Proofs.YtcjbhkocpfkcbaaDoor.Wr
