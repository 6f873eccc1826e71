import Derived.Test.YticmoaebegahgaaGreatDoorT3
import Derived.Test.YticmoaebegahgaaGreatDoorW2
import Derived.Deep.RegionHeld3
import Derived.Deep.DeepCutAuto
import Derived.Test.YticmoaebegahgaaGreatDoorT1
import Derived.Test.YticmoaebegahgaaGreatDoorT2
import Derived.Lib.SlBytesConst
set_option linter.all false
namespace Go.Proofs.YticmoaebegahgaaGreatDoor.Wr
open Go.ChangeShapes Go.WideShapes Go.ChangeAt Go.RowKit
theorem src_lt {w : World} {S : Nat} (h : SrcOK w S) : S < w.heap.size := by
  obtain ⟨a, b, off, cap, k, l, h0, _⟩ := h
  exact World.block_lt_of_cell? w ⟨S, 0, none⟩ h0
theorem pick_lit (S n X : Nat) (xs : List Int) (C : Array Value) (w : World) (hX : w.heap.size = X) (hs : SrcOK w S) (hn : xs.length = n) (h0 : 0 < n) (hl : n ≤ 1000000)
    (hC : ∀ i, i < n → C[i]? = some (.int .i64 (xs.getD i 0))) :
    Calls Tryz.prog 24 #[.pointer (some ⟨S, 0, none⟩), .slice (some ⟨X, 0, none⟩) n n] (w.alloc (.cells C 3))
      fun e w' => ∃ r : Int, r ∈ xs ∧ e = .returned (.int .i64 r) ∧ w.grownBy w' (some S) ∧ SrcOK w' S := by
  subst hX
  have hS := src_lt hs
  refine (pick_any S w.heap.size 0 n n xs _ (hs.grown (World.grownBy_alloc _ _ _)) (by omega) hn h0 hl ?_).mono ?_
  · intro i hi
    rw [Nat.zero_add, World.cell?_alloc_new]
    exact hC i hi
  · rintro e w1 ⟨r, ⟨j, hj, rfl⟩, rfl, hg, hs1⟩
    refine ⟨_, ?_, rfl, grown_trans (World.grownBy_alloc _ _ _) hg, hs1⟩
    have hj2 : j < xs.length := by omega
    rw [List.getD_eq_getElem?_getD, List.getElem?_eq_getElem hj2]
    exact List.getElem_mem hj2
def OI (base : Nat) (w : World) (A : Option Addr) (n c : Nat) (l : List Int) : Prop := w.ownsRow base 3 1 (.slice A n c) n (ivs l)
section
variable {base : Nat} {w w' : World} {A : Option Addr} {n c : Nat} {l : List Int}
theorem OI.len (h : OI base w A n c l) : l.length = n := by have := h.1; rw [ivs_len] at this; omega
theorem OI.row (h : OI base w A n c l) : ∀ k, (Value.slice A n c).ownBlock = some k → base ≤ k ∧ k < w.heap.size := World.ownsRow.lt h
theorem OI.keep (h : OI base w A n c l) {row : Option Nat} (hg : w.grownBy w' row) (hr : ∀ k, row = some k → k < base) : OI base w' A n c l :=
  World.ownsRow.kept h hg (by
    cases hv : (Value.slice A n c).ownBlock with
    | none => exact .inl rfl
    | some k => exact .inr (fun e => by have := h.row k hv; have := hr k e.symm; omega))
theorem OI.shape (h : OI base w A n c l) : n ≤ c ∧ c ≤ 9223372036854775807 ∧ (0 < n → ∃ g, A = some ⟨g, 0, none⟩ ∧ base ≤ g ∧ g < w.heap.size) := by
  rcases h.2 with ⟨e, rfl⟩ | ⟨g, cap, cur, e, hb, hg, hc, hm, _⟩
  · injection e with e1 e2 e3
    subst e3; exact ⟨by omega, by omega, fun h => absurd h (by omega)⟩
  · injection e with e1 e2 e3
    subst e3
    exact ⟨hc, by unfold maxLen at hm; exact hm, fun _ => ⟨g, e1, hb, (Array.getElem?_eq_some_iff.1 hg).1⟩⟩
theorem OI.ir (h : OI base w A n c l) : IR w A n l := by
  refine ⟨h.len, fun i hi => ?_⟩
  obtain ⟨g, rfl, _, _⟩ := h.shape.2.2 (by omega)
  exact ⟨g, 0, rfl, by rw [Nat.zero_add, World.ownsRow.cellAt h i (by omega), ivs_get l i (by rw [h.len]; exact hi)]; rfl⟩
end
theorem oi_nil (base : Nat) (w : World) : OI base w none 0 0 [] := World.ownsRow_nil _ _ _ _
theorem appO_run {base : Nat} {w : World} {A B : Option Addr} {n c m d : Nat} {l news : List Int} (hm : OI base w A n c l) (hb0 : base ≤ w.heap.size) (hr : IR w B m news) (h0 : 0 < m) (hb : n + m ≤ 8796093022208) (ty : TypeId) :
    ∃ A' c' w', (Builtin.append_ #[26, 26] ty #[.slice A n c, .slice B m d]).run Tryz.prog w = .ok (.slice A' (n + m) c') w' ∧ OI base w' A' (n + m) c' (l ++ news) ∧ w.grownBy w' (Value.slice A n c).ownBlock := by
  obtain ⟨i, hi, hz, hs, hby⟩ := info_parts3
  obtain ⟨b, off, rfl, _⟩ := hr.2 0 h0
  obtain ⟨v', w', hrun, hown, hg, _, _⟩ := run_append_own_at (P := Tryz.prog) w base 26 ty 3 i (.int .i64 0) 1 8 Tryz.underlying26 hi hz hs hby rfl (by omega) (.slice A n c) n (ivs l) hm ⟨b, off, none⟩ m d (ivs news)
    (by rw [ivs_len, hr.1]; omega) hr.news (ivs_one _) (by unfold maxLen; omega) (by omega) hb0
  have hown' : w'.ownsRow base 3 1 v' (n + m) (ivs (l ++ news)) := by rw [ivs_append]; exact hown
  rcases hown'.2 with ⟨e, hn⟩ | ⟨g, cap, cur, e, _⟩
  · omega
  · subst e
    exact ⟨_, cap, w', hrun, hown', hg⟩
theorem step_appO {ops : Array Oper} {o : Oper} {a : Act} {w : World} {K : Act → World → Prop} {Q : Exit → Act → World → Prop} {E : Prop} (hgd : o.guard = none) (s x : Operand)
    (ho : o.op = .call { callee := .builtin .append, args := #[s, x], argTypes := #[26, 26] }) {base : Nat} {A B : Option Addr} {n c m d : Nat} {l news : List Int} (hs : a.eval s = .slice A n c) (hx : a.eval x = .slice B m d)
    (hm : OI base w A n c l) (hb0 : base ≤ w.heap.size) (hr : IR w B m news) (h0 : 0 < m) (hb : n + m ≤ 8796093022208) (N : Nat) (hN : n + m = N)
    (h : ∀ A' c' w', OI base w' A' N c' (l ++ news) → w.grownBy w' (Value.slice A n c).ownBlock → K (a.put o.dst (.slice A' N c')) w') :
    if Region.wanted o (yielded ops a.tmps) = true then Oper.wp Tryz.prog o a w K Q else E := by
  subst hN
  have hw : Region.wanted o (yielded ops a.tmps) = true := by simp [Region.wanted, hgd]
  rw [if_pos hw]
  obtain ⟨A', c', w', hrun, h2, h3⟩ := appO_run (d := d) hm hb0 hr h0 hb o.type
  unfold Oper.wp execOp
  simp only [ho, resolve, invoke, builtin, Sem.run_bind, Sem.run_pure, Result.andThen_ok, List.map_toArray, List.map_cons, List.map_nil, hs, hx, hrun]
  exact h A' c' w' h2 h3
theorem grown_rowS {w wr w' : World} {S : Nat} {row : Option Nat} (h : w.grownBy wr (some S)) (k : wr.grownBy w' row) (hr : ∀ b, row = some b → b = S ∨ w.heap.size ≤ b) : w.grownBy w' (some S) :=
  ⟨k.os.trans h.os, k.tape.trans h.tape, k.output.trans h.output, Nat.le_trans h.size k.size, fun i hi hne => (k.block i (Nat.lt_of_lt_of_le hi h.size) (by
    intro e
    rcases hr i e.symm with e1 | e1
    · exact hne (by rw [e1])
    · omega)).trans (h.block i hi hne)⟩
structure TS (w : World) (S X T : Nat) (t : Tm.Tg) (A : Option Addr) (n c : Nat) (wr : World) : Prop where
  gr : w.grownBy wr (some S)
  src : SrcOK wr S
  res : Six wr X Tm.zero nilV
  tel : Six wr T t (.slice A n c)
  own : OI (T + 1) wr A n c t.vs
  sz : T + 1 ≤ wr.heap.size
section
variable {w wr w' : World} {S X T : Nat} {t : Tm.Tg} {A : Option Addr} {n c : Nat}
theorem TS.step (h : TS w S X T t A n c wr) (hX : S < X) (hT : S < T) (g : wr.grownBy w' (some S)) (hs : SrcOK w' S) : TS w S X T t A n c w' :=
  ⟨grown_trans h.gr g, hs, h.res.grown g (by intro e; injection e; omega), h.tel.grown g (by intro e; injection e; omega), h.own.keep g (by intro k e; injection e; omega), Nat.le_trans h.sz g.size⟩
theorem TS.step0 (h : TS w S X T t A n c wr) (hX : S < X) (hT : S < T) (g : wr.grownBy w' none) : TS w S X T t A n c w' := h.step hX hT (grown_weak _ g) (h.src.grown g)
theorem TS.push {w6 : World} {A' : Option Addr} {n' c' : Nat} {row : Option Nat} (vs' : List Int) (h : TS w S X T t A n c wr) (hw : w.heap.size ≤ X) (hX : S < X) (hT : X < T) (ho : OI (T + 1) w6 A' n' c' vs') (g : wr.grownBy w6 row) (hr : ∀ k, row = some k → T + 1 ≤ k) :
    TS w S X T ⟨t.st, t.ep, t.sq, t.tm, t.kd, vs'⟩ A' n' c' (w6.setCell ⟨T, 5, none⟩ (.slice A' n' c')) := by
  have gT : w6.grownBy (w6.setCell ⟨T, 5, none⟩ (.slice A' n' c')) (some T) := grown_set w6 ⟨T, 5, none⟩ _
  have g6 : w.grownBy w6 (some S) := grown_rowS h.gr g (fun b e => .inr (by have := hr b e; omega))
  have s6 : SrcOK w6 S := h.src.grownRow g (fun k e => by have := hr k e; omega)
  have r6 : Six w6 X Tm.zero nilV := h.res.grown g (fun e => by have := hr X e.symm; omega)
  have t6 : Six w6 T t (.slice A n c) := h.tel.grown g (fun e => by have := hr T e.symm; omega)
  refine ⟨grown_rowS g6 gT (fun b e => .inr (by injection e; omega)), s6.grownRow gT (fun k e => by injection e; omega), r6.grown gT (by intro e; injection e; omega), ?_, ho.keep gT (by intro k e; injection e; omega), by have := gT.size; have := g.size; have := h.sz; omega⟩
  obtain ⟨⟨h0, h1, h2, h3, h4, h5⟩, k0, k1, k2, k3, k4, k5⟩ := t6
  have d (j : Nat) (e : 5 ≠ j) := off_ne T e
  refine ⟨⟨set_miss _ (d 0 (by omega)) h0, set_miss _ (d 1 (by omega)) h1, set_miss _ (d 2 (by omega)) h2, set_miss _ (d 3 (by omega)) h3, set_miss _ (d 4 (by omega)) h4, set_hit _ h5⟩, ?_⟩
  simp only [World.frozen?_setCell]; exact ⟨k0, k1, k2, k3, k4, k5⟩
end
def TgEnd (S : Nat) (P : Tm.Tg → Prop) (w : World) (e : Ending) (w' : World) : Prop :=
  ∃ t A n c, e = .returned (tv t (.slice A n c)) ∧ w.grownBy w' (some S) ∧ SrcOK w' S ∧ OI (w.heap.size + 1) w' A n c t.vs ∧ P t
end Go.Proofs.YticmoaebegahgaaGreatDoor.Wr
namespace Go.Proofs.YticmoaebegahgaaGreatDoor.Wr
open Go.ChangeShapes Go.WideShapes Go.ChangeAt Go.RowKit
def pks : List Int := [0, -1, 62, 63, -63, -62, 9007199254740992, -9007199254740992, 126, 1000]
theorem pks_in {v : Int} (h : v ∈ pks) : -9007199254740992 ≤ v ∧ v ≤ 9007199254740992 := by
  simp [pks] at h; omega
def TgOK (st : Int) (t : Tm.Tg) : Prop := t.st = st ∧ t.ok = true ∧ t.vs.length ≤ 3
def TgIn (st : Int) (t : Tm.Tg) : Prop := TgOK st t ∧ (0 ≤ t.ep ∧ t.ep ≤ 2) ∧ (0 ≤ t.sq ∧ t.sq ≤ 5) ∧ t.tm ∈ ([0, 125, 63, 62, 1099511627776] : List Int) ∧ (0 ≤ t.kd ∧ t.kd ≤ 63) ∧ ∀ v ∈ t.vs, v ∈ pks
set_option maxRecDepth 100000 in
set_option maxHeartbeats 2000000 in
theorem telegram_in (S : Nat) (st : Int) (w : World) (hs : SrcOK w S) (h1 : 0 ≤ st) (h2 : st ≤ 255) :
    Calls Tryz.prog 15 #[.pointer (some ⟨S, 0, none⟩), .int .i64 st] w (TgEnd S (TgIn st) w) := by
  have hS := src_lt hs
  have HS := Hi hs
  clear hs
  go_enter Tryz.func15, Tryz.ntmps15
  go_wp2_with fail
  obtain ⟨X, hX⟩ : ∃ X, w.heap.size = X := ⟨_, rfl⟩
  have X1 : Hid (Six (w.alloc (tcells Tm.zero nilV)) X Tm.zero nilV) := by rw [← hX]; exact Six.made w _ _
  have G1 : Hid (w.grownBy (w.alloc (tcells Tm.zero nilV)) (some S)) := World.grownBy_alloc _ _ _
  have S1 : Hid (SrcOK (w.alloc (tcells Tm.zero nilV)) S) := HS.out.grown (World.grownBy_alloc _ _ _)
  have Z1 : Hid (X < (w.alloc (tcells Tm.zero nilV)).heap.size) := World.block_lt_of_cell? _ _ X1.out.1.1
  rw [hX] at hS ⊢
  have hwX : w.heap.size ≤ X := by omega
  have hSX : S < X := hS
  have hneX : some X ≠ some S := by intro e; injection e; omega
  unfold tcells nilV at X1 G1 S1 Z1
  dsimp only [Tm.zero] at X1 G1 S1 Z1
  generalize (w.alloc (Obj.cells #[.int .i64 0, .int .i64 0, .int .i64 0, .int .i64 0, .int .i64 0, .slice none 0 0] 28)) = W1 at *
  refine (n_any S 3 W1 S1.out (by omega) (by omega)).mono ?_
  rintro e W2 ⟨ep, ⟨e1, e2⟩, rfl, hg, hs⟩
  have X2 : Hid (Six W2 X Tm.zero nilV) := X1.out.grown hg hneX
  have G2 := Hi (grown_trans G1.out hg)
  have S2 := Hi hs
  clear X1 G1 S1 Z1 hg hs
  go_wp2_with fail
  refine (n_any S 6 W2 S2.out (by omega) (by omega)).mono ?_
  rintro e W3 ⟨sq, ⟨q1, q2⟩, rfl, hg, hs⟩
  have X3 : Hid (Six W3 X Tm.zero nilV) := X2.out.grown hg hneX
  have G3 := Hi (grown_trans G2.out hg)
  have S3 := Hi hs
  clear X2 G2 S2 hg hs
  go_wp2_with fail
  refine Calls.mono (pick_lit S 5 W3.heap.size [0, 125, 63, 62, 1099511627776] #[.int .i64 0, .int .i64 125, .int .i64 63, .int .i64 62, .int .i64 1099511627776] W3 rfl S3.out rfl (by omega) (by omega) ?_) ?_
  · intro i hi
    match i, hi with
    | 0, _ => rfl
    | 1, _ => rfl
    | 2, _ => rfl
    | 3, _ => rfl
    | 4, _ => rfl
  rintro e W4 ⟨tt, ht, rfl, hg, hs⟩
  have ht2 : 0 ≤ tt ∧ tt ≤ 1099511627776 := by simp at ht; omega
  have HTM := Hi ht
  have X4 : Hid (Six W4 X Tm.zero nilV) := X3.out.grown hg hneX
  have G4 := Hi (grown_trans G3.out hg)
  have S4 := Hi hs
  clear X3 G3 S3 hg hs ht
  go_wp2_with fail
  refine (n_any S 64 W4 S4.out (by omega) (by omega)).mono ?_
  rintro e W5 ⟨kd, ⟨k1, k2⟩, rfl, hg, hs⟩
  have X5 : Hid (Six W5 X Tm.zero nilV) := X4.out.grown hg hneX
  have G5 := Hi (grown_trans G4.out hg)
  have S5 := Hi hs
  clear X4 G4 S4 hg hs
  go_wp2_with fail
  obtain ⟨T, hT⟩ : ∃ T, W5.heap.size = T := ⟨_, rfl⟩
  have hXT : X < T := by have := World.block_lt_of_cell? _ _ X5.out.1.1; dsimp only at this; omega
  have hST : S < T := by omega
  have TS6 : Hid (TS w S X T ⟨st, ep, sq, tt, kd, []⟩ none 0 0 (W5.alloc (tcells ⟨st, ep, sq, tt, kd, []⟩ nilV))) := by
    refine ⟨grown_trans G5.out (World.grownBy_alloc _ _ _), S5.out.grown (World.grownBy_alloc _ _ _), X5.out.grown (World.grownBy_alloc W5 (tcells ⟨st, ep, sq, tt, kd, []⟩ nilV) none) (by simp), ?_, oi_nil _ _, by simp; omega⟩
    rw [← hT]; exact Six.made W5 _ _
  rw [hT]
  clear X5 G5 S5 hT
  unfold tcells nilV at TS6
  dsimp only at TS6
  generalize (W5.alloc (Obj.cells #[.int .i64 st, .int .i64 ep, .int .i64 sq, .int .i64 tt, .int .i64 kd, .slice none 0 0] 28)) = W6 at *
  refine (n_any S 4 W6 TS6.out.src (by omega) (by omega)).mono ?_
  rintro e W7 ⟨i0, ⟨i1, i2⟩, rfl, hg, hs⟩
  have TS7 := Hi (TS6.out.step hSX hST hg hs)
  clear TS6 hg hs
  go_wp2
  go_loopw [6] (fun s6 wr => ∃ (i : Int) (vs : List Int) (n c : Nat) (A : Option Addr), s6 = .int .i64 i ∧ 0 ≤ i ∧ i + n ≤ 3 ∧ Hid (TS w S X T ⟨st, ep, sq, tt, kd, vs⟩ A n c wr) ∧ Hid (∀ v ∈ vs, v ∈ pks)) (fun s6 _ => (intOf s6).toNat)
  case atStart => exact ⟨i0, [], 0, 0, none, rfl, i1, by omega, TS7, by intro v hv; cases hv⟩
  case round =>
    obtain ⟨i, vs, n, c, A, rfl, hi0, hin, HWR, HV⟩ := hrel
    by_cases hlt : 0 < i
    · go_wp2_with fail
      refine wp_region_held_drew (S := fun _ => True) (by kernel_rfl) trivial (fun hHeld => ?_)
      have HWD := Hi (HWR.out.step0 hSX hST (grown_drew wr none))
      generalize wr.drew = WD at *
      try simp only [Act.put, lsA, lsB, lsC]
      refine wpAnyH_take (i := 0) (oi := { dst := some 24, op := Op.fieldAddr 28 (Operand.tmp 5) 5, type := 0, pos := "make.go:90", after := #[], guard := none }) (v := ?_) rfl (by kernel_rfl) (by kernel_rfl) (by kernel_rfl) (fun _ _ _ h => h) (Or.inl ⟨by rfl, ?_⟩) (by assumption) ?_
      rotate_left 1
      · intro w hSw; first | (go_simp; done) | (go_simp; with_reducible rfl)
      try simp only [Act.put, lsA, lsB, lsC]
      refine wpAnyH_take (i := 2) (oi := { dst := some 26, op := Op.move (Operand.tmp 0), type := 33, pos := "make.go:90", after := #[], guard := none }) (v := ?_) rfl (by kernel_rfl) (by kernel_rfl) (by kernel_rfl) (fun _ _ _ h => h) (Or.inl ⟨by rfl, ?_⟩) (by assumption) ?_
      rotate_left 1
      · intro w hSw; first | (go_simp; done) | (go_simp; with_reducible rfl)
      try simp only [Act.put, lsA, lsB, lsC]
      refine wpAnyH_ready (rs := [1, 3]) (by kernel_rfl) (by simp) (AllReadyH.cons (o := { dst := some 25, op := Op.load 26 (Operand.tmp 24), type := 26, pos := "make.go:90", after := #[{ on := 0, ground := Ground.data }], guard := none }) rfl (fun K hK => ?_) (AllReadyH.cons (o := { dst := some 27, op := Op.buildSlice 26 10 #[(0, Operand.const (Value.int IntKind.i64 0)), (1, Operand.const (Value.int IntKind.i64 (-1))), (2, Operand.const (Value.int IntKind.i64 62)), (3, Operand.const (Value.int IntKind.i64 63)), (4, Operand.const (Value.int IntKind.i64 (-63))), (5, Operand.const (Value.int IntKind.i64 (-62))), (6, Operand.const (Value.int IntKind.i64 9007199254740992)), (7, Operand.const (Value.int IntKind.i64 (-9007199254740992))), (8, Operand.const (Value.int IntKind.i64 126)), (9, Operand.const (Value.int IntKind.i64 1000))], type := 26, pos := "make.go:90", after := #[], guard := none }) rfl (fun K hK => ?_) AllReadyH.nil))
      · skip
        obtain ⟨⟨_, _, _, _, _, z5⟩, _⟩ := HWD.out.tel
        go_simp
        clear z5
        refine hK.out _ _ trivial (fun hHeld => ?_)
        clear hK K
        try simp only [Act.put, lsA, lsB, lsC]
        refine wpAnyH_ready (rs := [3]) (by kernel_rfl) (by simp) (AllReadyH.cons (o := { dst := some 27, op := Op.buildSlice 26 10 #[(0, Operand.const (Value.int IntKind.i64 0)), (1, Operand.const (Value.int IntKind.i64 (-1))), (2, Operand.const (Value.int IntKind.i64 62)), (3, Operand.const (Value.int IntKind.i64 63)), (4, Operand.const (Value.int IntKind.i64 (-63))), (5, Operand.const (Value.int IntKind.i64 (-62))), (6, Operand.const (Value.int IntKind.i64 9007199254740992)), (7, Operand.const (Value.int IntKind.i64 (-9007199254740992))), (8, Operand.const (Value.int IntKind.i64 126)), (9, Operand.const (Value.int IntKind.i64 1000))], type := 26, pos := "make.go:90", after := #[], guard := none }) rfl (fun K hK => ?_) AllReadyH.nil)
        · skip
          go_simp
          refine hK.out _ _ trivial (fun hHeld => ?_)
          clear hK K
          try simp only [Act.put, lsA, lsB, lsC]
          refine wpAnyH_ready (rs := [4]) (by kernel_rfl) (by simp) (AllReadyH.cons (o := { dst := some 28, op := Op.call { callee := Callee.value (Operand.func 24), args := #[Operand.tmp 26, Operand.tmp 27], argTypes := #[33, 26] }, type := 3, pos := "make.go:90", after := #[{ on := 2, ground := Ground.data }, { on := 3, ground := Ground.data }], guard := none }) rfl (fun K hK => ?_) AllReadyH.nil)
          · skip
            go_simp
            refine Calls.mono (pick_lit S 10 WD.heap.size [0, -1, 62, 63, -63, -62, 9007199254740992, -9007199254740992, 126, 1000] #[.int .i64 0, .int .i64 (-1), .int .i64 62, .int .i64 63, .int .i64 (-63), .int .i64 (-62), .int .i64 9007199254740992, .int .i64 (-9007199254740992), .int .i64 126, .int .i64 1000] WD rfl HWD.out.src rfl (by omega) (by omega) ?_) ?_
            · intro i hi
              match i, hi with
              | 0, _ => rfl
              | 1, _ => rfl
              | 2, _ => rfl
              | 3, _ => rfl
              | 4, _ => rfl
              | 5, _ => rfl
              | 6, _ => rfl
              | 7, _ => rfl
              | 8, _ => rfl
              | 9, _ => rfl
            rintro e W4 ⟨r, hr, rfl, hg, hs⟩
            have HW4 := Hi (HWD.out.step hSX hST hg hs)
            have HR := Hi hr
            clear hg hs hr
            try dsimp only
            refine hK.out _ _ trivial (fun hHeld => ?_)
            clear hK K
            try simp only [Act.put, lsA, lsB, lsC]
            refine wpAnyH_ready (rs := [5]) (by kernel_rfl) (by simp) (AllReadyH.cons (o := { dst := some 29, op := Op.buildSlice 26 1 #[(0, Operand.tmp 28)], type := 26, pos := "make.go:90", after := #[{ on := 4, ground := Ground.data }], guard := none }) rfl (fun K hK => ?_) AllReadyH.nil)
            · skip
              go_simp
              refine hK.out _ _ trivial (fun hHeld => ?_)
              clear hK K
              try simp only [Act.put, lsA, lsB, lsC]
              refine wpAnyH_ready (rs := [6]) (by kernel_rfl) (by simp) (AllReadyH.cons (o := { dst := some 30, op := Op.call { callee := Callee.builtin Builtin.append, args := #[Operand.tmp 25, Operand.tmp 29], argTypes := #[26, 26] }, type := 26, pos := "make.go:90", after := #[{ on := 1, ground := Ground.data }, { on := 5, ground := Ground.data }, { on := 4, ground := Ground.chain }], guard := none }) rfl (fun K hK => ?_) AllReadyH.nil)
              refine step_appO rfl (.tmp 25) (.tmp 29) rfl rfl rfl (HW4.out.step0 hSX hST (World.grownBy_alloc W4 (Obj.cells #[.int .i64 r] 3) none)).own (HW4.out.step0 hSX hST (World.grownBy_alloc W4 (Obj.cells #[.int .i64 r] 3) none)).sz (madeI_lit W4 W4 #[.int .i64 r] 1 [r] rfl rfl (grown_refl _ _) (by omega)).ir (by omega) (by omega) (n + 1) rfl ?_
              intro A6 c6 W6 ho6 hg6
              have HP := Hi ((HW4.out.step0 hSX hST (World.grownBy_alloc W4 (Obj.cells #[.int .i64 r] 3) none)).push (vs ++ [r]) hwX hSX hXT ho6 hg6 (fun k e => (World.ownsRow.lt (HW4.out.step0 hSX hST (World.grownBy_alloc W4 (Obj.cells #[.int .i64 r] 3) none)).own k e).1))
              obtain ⟨⟨_, _, _, _, _, z5⟩, _, _, _, _, _, y5⟩ := (HW4.out.step0 hSX hST (World.grownBy_alloc W4 (Obj.cells #[.int .i64 r] 3) none)).tel.grown hg6 (fun e => by have := (World.ownsRow.lt (HW4.out.step0 hSX hST (World.grownBy_alloc W4 (Obj.cells #[.int .i64 r] 3) none)).own T e.symm).1; omega)
              refine hK.out _ _ trivial (fun hHeld => ?_)
              clear hK K ho6 hg6
              try simp only [Act.put, lsA, lsB, lsC]
              refine wpAnyH_take (i := 7) (oi := { dst := some 31, op := Op.fieldAddr 28 (Operand.tmp 5) 5, type := 0, pos := "make.go:90", after := #[{ on := 0, ground := Ground.phase }, { on := 1, ground := Ground.phase }, { on := 2, ground := Ground.phase }, { on := 3, ground := Ground.phase }, { on := 4, ground := Ground.phase }, { on := 5, ground := Ground.phase }, { on := 6, ground := Ground.phase }], guard := none }) (v := ?_) rfl (by kernel_rfl) (by kernel_rfl) (by kernel_rfl) (fun _ _ _ h => h) (Or.inl ⟨by rfl, ?_⟩) (by assumption) ?_
              rotate_left 1
              · intro w hSw; first | (go_simp; done) | (go_simp; with_reducible rfl)
              try simp only [Act.put, lsA, lsB, lsC]
              refine wpAnyH_ready (rs := [8]) (by kernel_rfl) (by simp) (AllReadyH.cons (o := { dst := none, op := Op.store 26 (Operand.tmp 31) (Operand.tmp 30), type := 0, pos := "make.go:90", after := #[{ on := 7, ground := Ground.data }, { on := 6, ground := Ground.data }, { on := 6, ground := Ground.chain }, { on := 0, ground := Ground.phase }, { on := 1, ground := Ground.phase }, { on := 2, ground := Ground.phase }, { on := 3, ground := Ground.phase }, { on := 4, ground := Ground.phase }, { on := 5, ground := Ground.phase }, { on := 6, ground := Ground.phase }], guard := none }) rfl (fun K hK => ?_) AllReadyH.nil)
              go_simp
              clear z5 y5
              refine hK.out _ _ trivial (fun hHeld => ?_)
              clear hK K
              try simp only [Act.put, lsA, lsB, lsC]
              refine wpAnyH_done (by kernel_rfl) ?_ _
              go_wp2
              go_roundw
              case rel => exact ⟨i - 1, vs ++ [r], n + 1, c6, A6, rfl, by omega, by omega, HP, (fun v hv => by rcases List.mem_append.1 hv with h | h; exact HV.out v h; simp at h; rw [h]; exact HR.out)⟩
              case measure => simp [intOf]; omega
      · skip
        go_simp
        refine hK.out _ _ trivial (fun hHeld => ?_)
        clear hK K
        try simp only [Act.put, lsA, lsB, lsC]
        refine wpAnyH_ready (rs := [1, 4]) (by kernel_rfl) (by simp) (AllReadyH.cons (o := { dst := some 25, op := Op.load 26 (Operand.tmp 24), type := 26, pos := "make.go:90", after := #[{ on := 0, ground := Ground.data }], guard := none }) rfl (fun K hK => ?_) (AllReadyH.cons (o := { dst := some 28, op := Op.call { callee := Callee.value (Operand.func 24), args := #[Operand.tmp 26, Operand.tmp 27], argTypes := #[33, 26] }, type := 3, pos := "make.go:90", after := #[{ on := 2, ground := Ground.data }, { on := 3, ground := Ground.data }], guard := none }) rfl (fun K hK => ?_) AllReadyH.nil))
        · skip
          obtain ⟨⟨_, _, _, _, _, z5⟩, _⟩ := HWD.out.tel
          have z5 := (World.grownBy_alloc WD (Obj.cells #[.int .i64 0, .int .i64 (-1), .int .i64 62, .int .i64 63, .int .i64 (-63), .int .i64 (-62), .int .i64 9007199254740992, .int .i64 (-9007199254740992), .int .i64 126, .int .i64 1000] 3) none).cell z5 (by simp)
          go_simp
          clear z5
          refine hK.out _ _ trivial (fun hHeld => ?_)
          clear hK K
          try simp only [Act.put, lsA, lsB, lsC]
          refine wpAnyH_ready (rs := [4]) (by kernel_rfl) (by simp) (AllReadyH.cons (o := { dst := some 28, op := Op.call { callee := Callee.value (Operand.func 24), args := #[Operand.tmp 26, Operand.tmp 27], argTypes := #[33, 26] }, type := 3, pos := "make.go:90", after := #[{ on := 2, ground := Ground.data }, { on := 3, ground := Ground.data }], guard := none }) rfl (fun K hK => ?_) AllReadyH.nil)
          · skip
            go_simp
            refine Calls.mono (pick_lit S 10 WD.heap.size [0, -1, 62, 63, -63, -62, 9007199254740992, -9007199254740992, 126, 1000] #[.int .i64 0, .int .i64 (-1), .int .i64 62, .int .i64 63, .int .i64 (-63), .int .i64 (-62), .int .i64 9007199254740992, .int .i64 (-9007199254740992), .int .i64 126, .int .i64 1000] WD rfl HWD.out.src rfl (by omega) (by omega) ?_) ?_
            · intro i hi
              match i, hi with
              | 0, _ => rfl
              | 1, _ => rfl
              | 2, _ => rfl
              | 3, _ => rfl
              | 4, _ => rfl
              | 5, _ => rfl
              | 6, _ => rfl
              | 7, _ => rfl
              | 8, _ => rfl
              | 9, _ => rfl
            rintro e W4 ⟨r, hr, rfl, hg, hs⟩
            have HW4 := Hi (HWD.out.step hSX hST hg hs)
            have HR := Hi hr
            clear hg hs hr
            try dsimp only
            refine hK.out _ _ trivial (fun hHeld => ?_)
            clear hK K
            try simp only [Act.put, lsA, lsB, lsC]
            refine wpAnyH_ready (rs := [5]) (by kernel_rfl) (by simp) (AllReadyH.cons (o := { dst := some 29, op := Op.buildSlice 26 1 #[(0, Operand.tmp 28)], type := 26, pos := "make.go:90", after := #[{ on := 4, ground := Ground.data }], guard := none }) rfl (fun K hK => ?_) AllReadyH.nil)
            · skip
              go_simp
              refine hK.out _ _ trivial (fun hHeld => ?_)
              clear hK K
              try simp only [Act.put, lsA, lsB, lsC]
              refine wpAnyH_ready (rs := [6]) (by kernel_rfl) (by simp) (AllReadyH.cons (o := { dst := some 30, op := Op.call { callee := Callee.builtin Builtin.append, args := #[Operand.tmp 25, Operand.tmp 29], argTypes := #[26, 26] }, type := 26, pos := "make.go:90", after := #[{ on := 1, ground := Ground.data }, { on := 5, ground := Ground.data }, { on := 4, ground := Ground.chain }], guard := none }) rfl (fun K hK => ?_) AllReadyH.nil)
              refine step_appO rfl (.tmp 25) (.tmp 29) rfl rfl rfl (HW4.out.step0 hSX hST (World.grownBy_alloc W4 (Obj.cells #[.int .i64 r] 3) none)).own (HW4.out.step0 hSX hST (World.grownBy_alloc W4 (Obj.cells #[.int .i64 r] 3) none)).sz (madeI_lit W4 W4 #[.int .i64 r] 1 [r] rfl rfl (grown_refl _ _) (by omega)).ir (by omega) (by omega) (n + 1) rfl ?_
              intro A6 c6 W6 ho6 hg6
              have HP := Hi ((HW4.out.step0 hSX hST (World.grownBy_alloc W4 (Obj.cells #[.int .i64 r] 3) none)).push (vs ++ [r]) hwX hSX hXT ho6 hg6 (fun k e => (World.ownsRow.lt (HW4.out.step0 hSX hST (World.grownBy_alloc W4 (Obj.cells #[.int .i64 r] 3) none)).own k e).1))
              obtain ⟨⟨_, _, _, _, _, z5⟩, _, _, _, _, _, y5⟩ := (HW4.out.step0 hSX hST (World.grownBy_alloc W4 (Obj.cells #[.int .i64 r] 3) none)).tel.grown hg6 (fun e => by have := (World.ownsRow.lt (HW4.out.step0 hSX hST (World.grownBy_alloc W4 (Obj.cells #[.int .i64 r] 3) none)).own T e.symm).1; omega)
              refine hK.out _ _ trivial (fun hHeld => ?_)
              clear hK K ho6 hg6
              try simp only [Act.put, lsA, lsB, lsC]
              refine wpAnyH_take (i := 7) (oi := { dst := some 31, op := Op.fieldAddr 28 (Operand.tmp 5) 5, type := 0, pos := "make.go:90", after := #[{ on := 0, ground := Ground.phase }, { on := 1, ground := Ground.phase }, { on := 2, ground := Ground.phase }, { on := 3, ground := Ground.phase }, { on := 4, ground := Ground.phase }, { on := 5, ground := Ground.phase }, { on := 6, ground := Ground.phase }], guard := none }) (v := ?_) rfl (by kernel_rfl) (by kernel_rfl) (by kernel_rfl) (fun _ _ _ h => h) (Or.inl ⟨by rfl, ?_⟩) (by assumption) ?_
              rotate_left 1
              · intro w hSw; first | (go_simp; done) | (go_simp; with_reducible rfl)
              try simp only [Act.put, lsA, lsB, lsC]
              refine wpAnyH_ready (rs := [8]) (by kernel_rfl) (by simp) (AllReadyH.cons (o := { dst := none, op := Op.store 26 (Operand.tmp 31) (Operand.tmp 30), type := 0, pos := "make.go:90", after := #[{ on := 7, ground := Ground.data }, { on := 6, ground := Ground.data }, { on := 6, ground := Ground.chain }, { on := 0, ground := Ground.phase }, { on := 1, ground := Ground.phase }, { on := 2, ground := Ground.phase }, { on := 3, ground := Ground.phase }, { on := 4, ground := Ground.phase }, { on := 5, ground := Ground.phase }, { on := 6, ground := Ground.phase }], guard := none }) rfl (fun K hK => ?_) AllReadyH.nil)
              go_simp
              clear z5 y5
              refine hK.out _ _ trivial (fun hHeld => ?_)
              clear hK K
              try simp only [Act.put, lsA, lsB, lsC]
              refine wpAnyH_done (by kernel_rfl) ?_ _
              go_wp2
              go_roundw
              case rel => exact ⟨i - 1, vs ++ [r], n + 1, c6, A6, rfl, by omega, by omega, HP, (fun v hv => by rcases List.mem_append.1 hv with h | h; exact HV.out v h; simp at h; rw [h]; exact HR.out)⟩
              case measure => simp [intOf]; omega
        · skip
          go_simp
          refine Calls.mono (pick_lit S 10 WD.heap.size [0, -1, 62, 63, -63, -62, 9007199254740992, -9007199254740992, 126, 1000] #[.int .i64 0, .int .i64 (-1), .int .i64 62, .int .i64 63, .int .i64 (-63), .int .i64 (-62), .int .i64 9007199254740992, .int .i64 (-9007199254740992), .int .i64 126, .int .i64 1000] WD rfl HWD.out.src rfl (by omega) (by omega) ?_) ?_
          · intro i hi
            match i, hi with
            | 0, _ => rfl
            | 1, _ => rfl
            | 2, _ => rfl
            | 3, _ => rfl
            | 4, _ => rfl
            | 5, _ => rfl
            | 6, _ => rfl
            | 7, _ => rfl
            | 8, _ => rfl
            | 9, _ => rfl
          rintro e W4 ⟨r, hr, rfl, hg, hs⟩
          have HW4 := Hi (HWD.out.step hSX hST hg hs)
          have HR := Hi hr
          clear hg hs hr
          try dsimp only
          refine hK.out _ _ trivial (fun hHeld => ?_)
          clear hK K
          try simp only [Act.put, lsA, lsB, lsC]
          refine wpAnyH_ready (rs := [1, 5]) (by kernel_rfl) (by simp) (AllReadyH.cons (o := { dst := some 25, op := Op.load 26 (Operand.tmp 24), type := 26, pos := "make.go:90", after := #[{ on := 0, ground := Ground.data }], guard := none }) rfl (fun K hK => ?_) (AllReadyH.cons (o := { dst := some 29, op := Op.buildSlice 26 1 #[(0, Operand.tmp 28)], type := 26, pos := "make.go:90", after := #[{ on := 4, ground := Ground.data }], guard := none }) rfl (fun K hK => ?_) AllReadyH.nil))
          · skip
            obtain ⟨⟨_, _, _, _, _, z5⟩, _⟩ := HW4.out.tel
            go_simp
            clear z5
            refine hK.out _ _ trivial (fun hHeld => ?_)
            clear hK K
            try simp only [Act.put, lsA, lsB, lsC]
            refine wpAnyH_ready (rs := [5]) (by kernel_rfl) (by simp) (AllReadyH.cons (o := { dst := some 29, op := Op.buildSlice 26 1 #[(0, Operand.tmp 28)], type := 26, pos := "make.go:90", after := #[{ on := 4, ground := Ground.data }], guard := none }) rfl (fun K hK => ?_) AllReadyH.nil)
            · skip
              go_simp
              refine hK.out _ _ trivial (fun hHeld => ?_)
              clear hK K
              try simp only [Act.put, lsA, lsB, lsC]
              refine wpAnyH_ready (rs := [6]) (by kernel_rfl) (by simp) (AllReadyH.cons (o := { dst := some 30, op := Op.call { callee := Callee.builtin Builtin.append, args := #[Operand.tmp 25, Operand.tmp 29], argTypes := #[26, 26] }, type := 26, pos := "make.go:90", after := #[{ on := 1, ground := Ground.data }, { on := 5, ground := Ground.data }, { on := 4, ground := Ground.chain }], guard := none }) rfl (fun K hK => ?_) AllReadyH.nil)
              refine step_appO rfl (.tmp 25) (.tmp 29) rfl rfl rfl (HW4.out.step0 hSX hST (World.grownBy_alloc W4 (Obj.cells #[.int .i64 r] 3) none)).own (HW4.out.step0 hSX hST (World.grownBy_alloc W4 (Obj.cells #[.int .i64 r] 3) none)).sz (madeI_lit W4 W4 #[.int .i64 r] 1 [r] rfl rfl (grown_refl _ _) (by omega)).ir (by omega) (by omega) (n + 1) rfl ?_
              intro A6 c6 W6 ho6 hg6
              have HP := Hi ((HW4.out.step0 hSX hST (World.grownBy_alloc W4 (Obj.cells #[.int .i64 r] 3) none)).push (vs ++ [r]) hwX hSX hXT ho6 hg6 (fun k e => (World.ownsRow.lt (HW4.out.step0 hSX hST (World.grownBy_alloc W4 (Obj.cells #[.int .i64 r] 3) none)).own k e).1))
              obtain ⟨⟨_, _, _, _, _, z5⟩, _, _, _, _, _, y5⟩ := (HW4.out.step0 hSX hST (World.grownBy_alloc W4 (Obj.cells #[.int .i64 r] 3) none)).tel.grown hg6 (fun e => by have := (World.ownsRow.lt (HW4.out.step0 hSX hST (World.grownBy_alloc W4 (Obj.cells #[.int .i64 r] 3) none)).own T e.symm).1; omega)
              refine hK.out _ _ trivial (fun hHeld => ?_)
              clear hK K ho6 hg6
              try simp only [Act.put, lsA, lsB, lsC]
              refine wpAnyH_take (i := 7) (oi := { dst := some 31, op := Op.fieldAddr 28 (Operand.tmp 5) 5, type := 0, pos := "make.go:90", after := #[{ on := 0, ground := Ground.phase }, { on := 1, ground := Ground.phase }, { on := 2, ground := Ground.phase }, { on := 3, ground := Ground.phase }, { on := 4, ground := Ground.phase }, { on := 5, ground := Ground.phase }, { on := 6, ground := Ground.phase }], guard := none }) (v := ?_) rfl (by kernel_rfl) (by kernel_rfl) (by kernel_rfl) (fun _ _ _ h => h) (Or.inl ⟨by rfl, ?_⟩) (by assumption) ?_
              rotate_left 1
              · intro w hSw; first | (go_simp; done) | (go_simp; with_reducible rfl)
              try simp only [Act.put, lsA, lsB, lsC]
              refine wpAnyH_ready (rs := [8]) (by kernel_rfl) (by simp) (AllReadyH.cons (o := { dst := none, op := Op.store 26 (Operand.tmp 31) (Operand.tmp 30), type := 0, pos := "make.go:90", after := #[{ on := 7, ground := Ground.data }, { on := 6, ground := Ground.data }, { on := 6, ground := Ground.chain }, { on := 0, ground := Ground.phase }, { on := 1, ground := Ground.phase }, { on := 2, ground := Ground.phase }, { on := 3, ground := Ground.phase }, { on := 4, ground := Ground.phase }, { on := 5, ground := Ground.phase }, { on := 6, ground := Ground.phase }], guard := none }) rfl (fun K hK => ?_) AllReadyH.nil)
              go_simp
              clear z5 y5
              refine hK.out _ _ trivial (fun hHeld => ?_)
              clear hK K
              try simp only [Act.put, lsA, lsB, lsC]
              refine wpAnyH_done (by kernel_rfl) ?_ _
              go_wp2
              go_roundw
              case rel => exact ⟨i - 1, vs ++ [r], n + 1, c6, A6, rfl, by omega, by omega, HP, (fun v hv => by rcases List.mem_append.1 hv with h | h; exact HV.out v h; simp at h; rw [h]; exact HR.out)⟩
              case measure => simp [intOf]; omega
          · skip
            go_simp
            refine hK.out _ _ trivial (fun hHeld => ?_)
            clear hK K
            try simp only [Act.put, lsA, lsB, lsC]
            refine wpAnyH_ready (rs := [1]) (by kernel_rfl) (by simp) (AllReadyH.cons (o := { dst := some 25, op := Op.load 26 (Operand.tmp 24), type := 26, pos := "make.go:90", after := #[{ on := 0, ground := Ground.data }], guard := none }) rfl (fun K hK => ?_) AllReadyH.nil)
            · skip
              obtain ⟨⟨_, _, _, _, _, z5⟩, _⟩ := HW4.out.tel
              have z5 := (World.grownBy_alloc W4 (Obj.cells #[.int .i64 r] 3) none).cell z5 (by simp)
              go_simp
              clear z5
              refine hK.out _ _ trivial (fun hHeld => ?_)
              clear hK K
              try simp only [Act.put, lsA, lsB, lsC]
              refine wpAnyH_ready (rs := [6]) (by kernel_rfl) (by simp) (AllReadyH.cons (o := { dst := some 30, op := Op.call { callee := Callee.builtin Builtin.append, args := #[Operand.tmp 25, Operand.tmp 29], argTypes := #[26, 26] }, type := 26, pos := "make.go:90", after := #[{ on := 1, ground := Ground.data }, { on := 5, ground := Ground.data }, { on := 4, ground := Ground.chain }], guard := none }) rfl (fun K hK => ?_) AllReadyH.nil)
              refine step_appO rfl (.tmp 25) (.tmp 29) rfl rfl rfl (HW4.out.step0 hSX hST (World.grownBy_alloc W4 (Obj.cells #[.int .i64 r] 3) none)).own (HW4.out.step0 hSX hST (World.grownBy_alloc W4 (Obj.cells #[.int .i64 r] 3) none)).sz (madeI_lit W4 W4 #[.int .i64 r] 1 [r] rfl rfl (grown_refl _ _) (by omega)).ir (by omega) (by omega) (n + 1) rfl ?_
              intro A6 c6 W6 ho6 hg6
              have HP := Hi ((HW4.out.step0 hSX hST (World.grownBy_alloc W4 (Obj.cells #[.int .i64 r] 3) none)).push (vs ++ [r]) hwX hSX hXT ho6 hg6 (fun k e => (World.ownsRow.lt (HW4.out.step0 hSX hST (World.grownBy_alloc W4 (Obj.cells #[.int .i64 r] 3) none)).own k e).1))
              obtain ⟨⟨_, _, _, _, _, z5⟩, _, _, _, _, _, y5⟩ := (HW4.out.step0 hSX hST (World.grownBy_alloc W4 (Obj.cells #[.int .i64 r] 3) none)).tel.grown hg6 (fun e => by have := (World.ownsRow.lt (HW4.out.step0 hSX hST (World.grownBy_alloc W4 (Obj.cells #[.int .i64 r] 3) none)).own T e.symm).1; omega)
              refine hK.out _ _ trivial (fun hHeld => ?_)
              clear hK K ho6 hg6
              try simp only [Act.put, lsA, lsB, lsC]
              refine wpAnyH_take (i := 7) (oi := { dst := some 31, op := Op.fieldAddr 28 (Operand.tmp 5) 5, type := 0, pos := "make.go:90", after := #[{ on := 0, ground := Ground.phase }, { on := 1, ground := Ground.phase }, { on := 2, ground := Ground.phase }, { on := 3, ground := Ground.phase }, { on := 4, ground := Ground.phase }, { on := 5, ground := Ground.phase }, { on := 6, ground := Ground.phase }], guard := none }) (v := ?_) rfl (by kernel_rfl) (by kernel_rfl) (by kernel_rfl) (fun _ _ _ h => h) (Or.inl ⟨by rfl, ?_⟩) (by assumption) ?_
              rotate_left 1
              · intro w hSw; first | (go_simp; done) | (go_simp; with_reducible rfl)
              try simp only [Act.put, lsA, lsB, lsC]
              refine wpAnyH_ready (rs := [8]) (by kernel_rfl) (by simp) (AllReadyH.cons (o := { dst := none, op := Op.store 26 (Operand.tmp 31) (Operand.tmp 30), type := 0, pos := "make.go:90", after := #[{ on := 7, ground := Ground.data }, { on := 6, ground := Ground.data }, { on := 6, ground := Ground.chain }, { on := 0, ground := Ground.phase }, { on := 1, ground := Ground.phase }, { on := 2, ground := Ground.phase }, { on := 3, ground := Ground.phase }, { on := 4, ground := Ground.phase }, { on := 5, ground := Ground.phase }, { on := 6, ground := Ground.phase }], guard := none }) rfl (fun K hK => ?_) AllReadyH.nil)
              go_simp
              clear z5 y5
              refine hK.out _ _ trivial (fun hHeld => ?_)
              clear hK K
              try simp only [Act.put, lsA, lsB, lsC]
              refine wpAnyH_done (by kernel_rfl) ?_ _
              go_wp2
              go_roundw
              case rel => exact ⟨i - 1, vs ++ [r], n + 1, c6, A6, rfl, by omega, by omega, HP, (fun v hv => by rcases List.mem_append.1 hv with h | h; exact HV.out v h; simp at h; rw [h]; exact HR.out)⟩
              case measure => simp [intOf]; omega
    · obtain rfl : i = 0 := by omega
      have HX := Hi (HWR.out.res.store ⟨st, ep, sq, tt, kd, vs⟩ (.slice A n c))
      obtain ⟨⟨a0, a1, a2, a3, a4, a5⟩, b0, b1, b2, b3, b4, b5⟩ := HWR.out.res
      obtain ⟨⟨d0, d1, d2, d3, d4, d5⟩, _⟩ := HWR.out.tel
      dsimp only at d0 d1 d2 d3 d4 d5
      go_wp2
      obtain ⟨⟨p0, p1, p2, p3, p4, p5⟩, _⟩ := HX.out
      unfold six at p0 p1 p2 p3 p4 p5
      dsimp only at p0 p1 p2 p3 p4 p5
      have gX := six_grown wr X ⟨st, ep, sq, tt, kd, vs⟩ (.slice A n c)
      refine bodyPost_ret (v := tv ⟨st, ep, sq, tt, kd, vs⟩ (.slice A n c)) (by simp [results, Tryz.results15, go_sem, p0, p1, p2, p3, p4, p5, tv]) rfl ⟨⟨st, ep, sq, tt, kd, vs⟩, A, n, c, rfl, grown_rowS HWR.out.gr gX (fun b e => .inr (by injection e; omega)), HWR.out.src.grownRow gX (fun k e => by injection e; omega), ?_, ⟨rfl, ?_, ?_⟩, ⟨e1, by show ep ≤ 2; omega⟩, ⟨q1, by show sq ≤ 5; omega⟩, HTM.out, ⟨k1, by show kd ≤ 63; omega⟩, HV.out⟩
      · have := HWR.out.own.keep gX (by intro k e; injection e; omega)
        exact World.ownsRow.mono this (by omega)
      · refine (Tm.Tg.ok_iff _).2 ⟨⟨h1, h2⟩, ⟨e1, by show ep ≤ 255; omega⟩, ⟨q1, by show sq ≤ _; omega⟩, ht2, ⟨k1, by show kd ≤ 63; omega⟩, ?_, fun v hv => pks_in (HV.out v hv)⟩
        have := HWR.out.own.len; show vs.length ≤ 16; dsimp only at this; omega
      · have := HWR.out.own.len; show vs.length ≤ 3; dsimp only at this; omega
theorem telegram_any (S : Nat) (st : Int) (w : World) (hs : SrcOK w S) (h1 : 0 ≤ st) (h2 : st ≤ 255) :
    Calls Tryz.prog 15 #[.pointer (some ⟨S, 0, none⟩), .int .i64 st] w (TgEnd S (TgOK st) w) :=
  (telegram_in S st w hs h1 h2).mono fun _ _ ⟨t, A, n, c, e, hg, hs, ho, hp⟩ => ⟨t, A, n, c, e, hg, hs, ho, hp.1⟩
end Go.Proofs.YticmoaebegahgaaGreatDoor.Wr
namespace Go.Proofs.YticmoaebegahgaaGreatDoor.Wr
open Go.ChangeShapes Go.WideShapes Go.ChangeAt Go.RowKit
end Go.Proofs.YticmoaebegahgaaGreatDoor.Wr
namespace Go.Proofs.YticmoaebegahgaaGreatDoor.Wr
open Go.ChangeShapes Go.WideShapes Go.ChangeAt Go.RowKit
theorem InRow.grown {w w' : World} {a : Option Addr} {len cap : Nat} {zs : List Int} (h : InRow w a len cap zs) (hg : w.grownBy w' none) : InRow w' a len cap zs := by
  obtain ⟨b, off, hb, h1, h2, h3, h4, h5, h6⟩ := h
  exact ⟨b, off, fun h0 => Nat.lt_of_lt_of_le (hb h0) hg.size, h1, h2, h3, h4, fun i hi => hg.cell (h5 i hi) (by simp), h6⟩
end Go.Proofs.YticmoaebegahgaaGreatDoor.Wr
