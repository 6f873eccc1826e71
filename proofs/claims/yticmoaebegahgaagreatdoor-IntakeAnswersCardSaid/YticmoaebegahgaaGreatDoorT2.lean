import Derived.Test.YticmoaebegahgaaGreatDoorT1
import Derived.Deep.RegionHeld3
import Derived.Test.YticmoaebegahgaaGreatDoorW2
import Derived.Deep.OwnRows
import Derived.Laws.OwnMore
import Derived.WalkMore
set_option linter.all false
namespace Go.Proofs.YticmoaebegahgaaGreatDoor.Wr
open Go.ChangeShapes Go.WideShapes Go.ChangeAt Go.RowKit
set_option maxHeartbeats 1000000 in
theorem rinside_any (t : Tm.Tg) (V : Option Addr) (n cv : Nat) (w : World) (h : IR w V n t.vs) (hf : t.fits) (hn : n ≤ 16) :
    Calls Tryz.prog 23 #[tv t (.slice V n cv)] w (OwnEnd t.inside w) := by
  have hfit : ∀ x ∈ t.nums, Tm.I64 x := Tm.Tg.nums_fit hf (by rw [h.1]; exact hn)
  have hlen : t.nums.length = 6 + n := by have := h.1; simp only [Tm.Tg.nums, List.length_cons]; omega
  have hnums : [t.st, t.ep, t.sq, t.tm, t.kd, (n : Int)] ++ t.vs = t.nums := by rw [← h.1]; rfl
  have HI := Hi h
  have E := Hi (show t.inside = Tm.shut (Tm.body t.nums) from rfl)
  obtain ⟨a, b, s, d, f, vs⟩ := t
  dsimp only [tv] at *
  generalize (Tm.Tg.mk a b s d f vs).inside = IN at *
  generalize (Tm.Tg.mk a b s d f vs).nums = ns at *
  have HFIT := Hi hfit
  have HLEN := Hi hlen
  have HN := Hi hnums
  clear hfit hlen h hf hnums
  have M1 : Hid (MadeI w ((w.alloc (Obj.cells #[.int .i64 a, .int .i64 b, .int .i64 s, .int .i64 d, .int .i64 f, .slice V n cv] 28)).alloc (Obj.cells #[.int .i64 a, .int .i64 b, .int .i64 s, .int .i64 d, .int .i64 f, .int .i64 n] 3)) (some ⟨w.heap.size + 1, 0, none⟩) 6 6 [a, b, s, d, f, (n : Int)]) := by
    have := madeI_lit w (w.alloc (Obj.cells #[.int .i64 a, .int .i64 b, .int .i64 s, .int .i64 d, .int .i64 f, .slice V n cv] 28)) #[.int .i64 a, .int .i64 b, .int .i64 s, .int .i64 d, .int .i64 f, .int .i64 n] 6 [a, b, s, d, f, (n : Int)] rfl rfl (World.grownBy_alloc _ _ _) (by omega)
    rw [show (w.alloc (Obj.cells #[.int .i64 a, .int .i64 b, .int .i64 s, .int .i64 d, .int .i64 f, .slice V n cv] 28)).heap.size = w.heap.size + 1 by go_simp] at this
    exact this
  go_enter Tryz.func23, Tryz.ntmps23
  go_wp2_with (first
    | (at_builtin; refine wpList_appI rfl (.tmp 19) (.tmp 21) rfl rfl rfl M1.out (HI.out.grown (grown_trans (World.grownBy_alloc _ _ _) (World.grownBy_alloc _ _ _))) (by omega) (6 + n) rfl ?_; intro A2 c2 w2 hm2 _; have M2 := Hi (by have := hm2; rw [HN.out] at this; exact this); clear hm2)
    | fail)
  have hc2 := M2.out.shape
  go_loopw [3, 24] (fun s3 s24 wr => ∃ (k N c : Nat) (A : Option Addr), s24 = .int .i64 k ∧ k ≤ 6 + n ∧ s3 = .slice A N c ∧ N ≤ 10 * k ∧ Hid (Made w wr A N c (Tm.body (ns.take k))) ∧ Hid (w2.grownBy wr none)) (fun _ i _ => 6 + n - (intOf i).toNat)
  case atStart => exact ⟨0, 0, 0, none, rfl, by omega, rfl, by omega, (show Made _ _ _ _ _ _ by simpa [Tm.body] using made_nil _ _ M2.out.gr), grown_refl _ _⟩
  case round =>
    obtain ⟨k, N, c3, A3, rfl, hk, rfl, hN, M3, G3⟩ := hrel
    by_cases hlt : k < 6 + n
    · obtain ⟨B, hA, _, _, cc, _⟩ := M2.out.at0 k hlt
      subst hA
      have cc := G3.out.cell cc (by simp)
      have hL : k < ns.length := by rw [HLEN.out]; omega
      have HE := Hi (body_next ns k hL)
      have HX := HFIT.out _ (getD_mem hL)
      have HT := Hi (take_len10 HFIT.out (k + 1))
      generalize ns.getD k 0 = x at *
      clear hL
      have HP := Hi (rput_any A3 N c3 (Tm.body (ns.take k)) x wr M3.out.rb (by omega) HX.1 HX.2)
      rw [HE.out] at HP
      clear HE HX
      go_wp2_with fail
      refine HP.out.mono ?_
      rintro e w4 ⟨A4, N4, c4, rfl, hm4⟩
      have hN4 : N4 ≤ 10 * (k + 1) := by have := hm4.len; have := HT.out; omega
      have M4 := Hi (hm4.base M3.out.gr)
      have G4 := Hi (grown_trans G3.out hm4.gr)
      clear hm4
      go_wp2
      go_roundw
      case rel => exact ⟨k + 1, N4, c4, A4, by go_num, by omega, rfl, hN4, M4, G4⟩
      case measure => simp [intOf]; omega
    · obtain rfl : k = 6 + n := by omega
      have HZ : Hid (ns.take (6 + n) = ns) := List.take_of_length_le (by rw [HLEN.out]; exact Nat.le_refl _)
      have M3 := Hi (by have := M3.out; rw [HZ.out] at this; exact this)
      go_wp2_with fail
      refine (rseal_any A3 N c3 _ wr M3.out.rb (by omega)).mono ?_
      rintro e w4 ⟨A4, N4, c4, rfl, hm4⟩
      have M4 := Hi (hm4.base M3.out.gr)
      rw [← E.out] at M4
      clear hm4
      go_wp2
      go_ret
      exact ⟨A4, N4, c4, rfl, M4.out⟩
theorem rvalid_at {t : Tm.Tg} {A : Option Addr} {n c : Nat} {w : World} {r : Bool} (h : IR w A n t.vs) (hn : n ≤ 4611686018427387904) (hr : t.ok = r) :
    Calls Tryz.prog 37 #[tv t (.slice A n c)] w (Ret (.bool r) w) := by
  subst hr; exact rvalid_any t A n c w h hn
end Go.Proofs.YticmoaebegahgaaGreatDoor.Wr
namespace Go.Proofs.YticmoaebegahgaaGreatDoor.Wr
open Go.ChangeShapes Go.WideShapes Go.ChangeAt Go.RowKit
theorem checked_short (A : Option Addr) (n c : Nat) (w : World) (hn : n < 4) :
    Calls Tryz.prog 81 #[.slice A n c] w (Ret (.tuple #[.slice none 0 0, .int .i64 2]) w) := by
  go_enter Tryz.func81, Tryz.ntmps81
  go_wp2
  go_ret2
  exact ⟨rfl, grown_refl _ _⟩
set_option maxHeartbeats 1000000 in
theorem checked_sum (A : Option Addr) (m c : Nat) (y z : List UInt8) (w : World) (h : RB w A (m + 4) (y ++ z)) (ht : Tabled w) (hm : m ≤ 1000000) (hc : m + 4 ≤ c) (_hc2 : c ≤ 9223372036854775807) (hz : z.length = 4) (hne : z ≠ Tm.four (Wm.crc y)) :
    Calls Tryz.prog 81 #[.slice A (m + 4) c] w (Ret (.tuple #[.slice none 0 0, .int .i64 5]) w) := by
  have hy : y.length = m := by have := h.1; rw [List.length_append] at this; omega
  obtain ⟨B, O, rfl, _⟩ := h.2 0 (by omega)
  have HY : Hid (RB w (some ⟨B, O, none⟩) m y) := by
    have := h.take m (by omega)
    rw [← hy, List.take_left] at this
    rw [← hy]; exact this
  have HZ : Hid (RB w (some ⟨B, O + m, none⟩) 4 z) := by
    have := h.drop m 4 rfl
    rw [← hy, List.drop_left] at this
    rw [← hy]; exact this
  have HT := Hi (fun w' (g : w.grownBy w' none) => ht.grown g)
  have HE := Hi (decide_eq_false hne)
  clear h ht hne
  have i1 : (m : Int) ≤ (m : Int) + 4 := by omega
  have i2 : m ≤ c := by omega
  have i3 : ¬ c = m := by omega
  go_enter Tryz.func81, Tryz.ntmps81
  go_wp2_with fail
  refine wp_region_held_drew (S := (fun w' => w.grownBy w' none)) (by kernel_rfl) ?_ (fun hHeld => ?_)
  · exact grown_drew w none
  try simp only [Act.put, lsA, lsB, lsC]
  refine wpAnyH_take (i := 0) (oi := { dst := some 10, op := Op.move (Operand.tmp 0), type := 22, pos := "telegram.go:88", after := #[], guard := none }) (v := ?_) rfl (by kernel_rfl) (by kernel_rfl) (by kernel_rfl) (fun _ _ _ h => h) (Or.inl ⟨by rfl, ?_⟩) (by assumption) ?_
  rotate_left 1
  · intro w hSw; skip; first | (go_simp; done) | (go_simp; with_reducible rfl)
  try simp only [Act.put, lsA, lsB, lsC]
  refine wpAnyH_take (i := 1) (oi := { dst := some 11, op := Op.move (Operand.tmp 4), type := 3, pos := "telegram.go:88", after := #[], guard := none }) (v := ?_) rfl (by kernel_rfl) (by kernel_rfl) (by kernel_rfl) (fun _ _ _ h => h) (Or.inl ⟨by rfl, ?_⟩) (by assumption) ?_
  rotate_left 1
  · intro w hSw; skip; first | (go_simp; done) | (go_simp; with_reducible rfl)
  try simp only [Act.put, lsA, lsB, lsC]
  refine wpAnyH_take (i := 3) (oi := { dst := some 13, op := Op.move (Operand.tmp 0), type := 22, pos := "telegram.go:88", after := #[], guard := none }) (v := ?_) rfl (by kernel_rfl) (by kernel_rfl) (by kernel_rfl) (fun _ _ _ h => h) (Or.inl ⟨by rfl, ?_⟩) (by assumption) ?_
  rotate_left 1
  · intro w hSw; skip; first | (go_simp; done) | (go_simp; with_reducible rfl)
  try simp only [Act.put, lsA, lsB, lsC]
  refine wpAnyH_take (i := 4) (oi := { dst := some 14, op := Op.move (Operand.tmp 4), type := 3, pos := "telegram.go:88", after := #[], guard := none }) (v := ?_) rfl (by kernel_rfl) (by kernel_rfl) (by kernel_rfl) (fun _ _ _ h => h) (Or.inl ⟨by rfl, ?_⟩) (by assumption) ?_
  rotate_left 1
  · intro w hSw; skip; first | (go_simp; done) | (go_simp; with_reducible rfl)
  try simp only [Act.put, lsA, lsB, lsC]
  refine wpAnyH_take (i := 2) (oi := { dst := some 12, op := Op.slice 22 (Operand.tmp 10) (some (Operand.tmp 11)) none none, type := 22, pos := "telegram.go:88", after := #[{ on := 0, ground := Ground.data }, { on := 1, ground := Ground.data }], guard := none }) (v := ?_) rfl (by kernel_rfl) (by kernel_rfl) (by kernel_rfl) (fun _ _ _ h => h) (Or.inl ⟨by rfl, ?_⟩) (by assumption) ?_
  rotate_left 1
  · intro w hSw; skip; first | (go_simp; done) | (go_simp; with_reducible rfl)
  try simp only [Act.put, lsA, lsB, lsC]
  refine wpAnyH_take (i := 5) (oi := { dst := some 15, op := Op.slice 22 (Operand.tmp 13) none (some (Operand.tmp 14)) none, type := 22, pos := "telegram.go:88", after := #[{ on := 3, ground := Ground.data }, { on := 4, ground := Ground.data }], guard := none }) (v := ?_) rfl (by kernel_rfl) (by kernel_rfl) (by kernel_rfl) (fun _ _ _ h => h) (Or.inl ⟨by rfl, ?_⟩) (by assumption) ?_
  rotate_left 1
  · intro w hSw; skip; first | (go_simp; done) | (go_simp; with_reducible rfl)
  try simp only [Act.put, lsA, lsB, lsC]
  refine wpAnyH_ready (rs := [6]) (by kernel_rfl) (by simp) (AllReadyH.cons (o := { dst := some 16, op := Op.call { callee := Callee.value (Operand.func 91), args := #[Operand.tmp 15], argTypes := #[22] }, type := 22, pos := "telegram.go:88", after := #[{ on := 5, ground := Ground.data }], guard := none }) rfl (fun K hK => ?_) AllReadyH.nil)
  go_simp
  refine (tsum_any (some ⟨B, O, none⟩) m c y _ (HY.out.grown (grown_drew w none)) (HT.out _ (grown_drew w none)) (by omega)).mono ?_
  rintro e w3 ⟨A3, N3, c3, rfl, hm3⟩
  have R3 := Hi hm3.rb
  have GX : Hid (w.grownBy w3 none) := grown_trans (grown_drew w none) hm3.gr
  clear hm3
  try dsimp only
  refine hK.out _ _ ?_ (fun hHeld => ?_)
  · exact GX.out
  clear hK K
  try simp only [Act.put, lsA, lsB, lsC]
  refine wpAnyH_ready (rs := [7]) (by kernel_rfl) (by simp) (AllReadyH.cons (o := { dst := some 17, op := Op.call { callee := Callee.value (Operand.func 90), args := #[Operand.tmp 12, Operand.tmp 16], argTypes := #[22, 22] }, type := 4, pos := "telegram.go:88", after := #[{ on := 2, ground := Ground.data }, { on := 6, ground := Ground.data }, { on := 6, ground := Ground.chain }], guard := none }) rfl (fun K hK => ?_) AllReadyH.nil)
  go_simp
  refine (equal_any _ _ _ _ _ _ z (Tm.four (Wm.crc y)) _ (HZ.out.grown GX.out) R3.out).mono ?_
  rintro e w5 ⟨rfl, rfl⟩
  rw [HE.out]
  try dsimp only
  refine hK.out _ _ ?_ (fun hHeld => ?_)
  · exact GX.out
  clear hK K
  try simp only [Act.put, lsA, lsB, lsC]
  refine wpAnyH_take (i := 8) (oi := { dst := some 18, op := Op.unOp UnOp.not 4 (Operand.tmp 17), type := 4, pos := "telegram.go:88", after := #[{ on := 7, ground := Ground.data }], guard := none }) (v := ?_) rfl (by kernel_rfl) (by kernel_rfl) (by kernel_rfl) (fun _ _ _ h => h) (Or.inl ⟨by rfl, ?_⟩) (by assumption) ?_
  rotate_left 1
  · intro w hSw; skip; first | (go_simp; done) | (go_simp; with_reducible rfl)
  try simp only [Act.put, lsA, lsB, lsC]
  refine wpAnyH_done (by kernel_rfl) ?_ _
  go_wp2
  go_ret2
  exact ⟨rfl, GX.out⟩
set_option maxHeartbeats 1000000 in
theorem checked_good (A : Option Addr) (m c : Nat) (y z : List UInt8) (w : World) (h : RB w A (m + 4) (y ++ z)) (ht : Tabled w) (hm : m ≤ 1000000) (hc : m + 4 ≤ c) (_hc2 : c ≤ 9223372036854775807) (hz : z.length = 4) (hne : z = Tm.four (Wm.crc y)) :
    Calls Tryz.prog 81 #[.slice A (m + 4) c] w (Ret (.tuple #[.slice A m c, .int .i64 0]) w) := by
  have hy : y.length = m := by have := h.1; rw [List.length_append] at this; omega
  obtain ⟨B, O, rfl, _⟩ := h.2 0 (by omega)
  have HY : Hid (RB w (some ⟨B, O, none⟩) m y) := by
    have := h.take m (by omega)
    rw [← hy, List.take_left] at this
    rw [← hy]; exact this
  have HZ : Hid (RB w (some ⟨B, O + m, none⟩) 4 z) := by
    have := h.drop m 4 rfl
    rw [← hy, List.drop_left] at this
    rw [← hy]; exact this
  have HT := Hi (fun w' (g : w.grownBy w' none) => ht.grown g)
  have HE := Hi (decide_eq_true hne)
  clear h ht hne
  have i0 : (m : Int) ≤ (c : Int) := by omega
  have i1 : (m : Int) ≤ (m : Int) + 4 := by omega
  have i2 : m ≤ c := by omega
  have i3 : ¬ c = m := by omega
  go_enter Tryz.func81, Tryz.ntmps81
  go_wp2_with fail
  refine wp_region_held_drew (S := (fun w' => w.grownBy w' none)) (by kernel_rfl) ?_ (fun hHeld => ?_)
  · exact grown_drew w none
  try simp only [Act.put, lsA, lsB, lsC]
  refine wpAnyH_take (i := 0) (oi := { dst := some 10, op := Op.move (Operand.tmp 0), type := 22, pos := "telegram.go:88", after := #[], guard := none }) (v := ?_) rfl (by kernel_rfl) (by kernel_rfl) (by kernel_rfl) (fun _ _ _ h => h) (Or.inl ⟨by rfl, ?_⟩) (by assumption) ?_
  rotate_left 1
  · intro w hSw; skip; first | (go_simp; done) | (go_simp; with_reducible rfl)
  try simp only [Act.put, lsA, lsB, lsC]
  refine wpAnyH_take (i := 1) (oi := { dst := some 11, op := Op.move (Operand.tmp 4), type := 3, pos := "telegram.go:88", after := #[], guard := none }) (v := ?_) rfl (by kernel_rfl) (by kernel_rfl) (by kernel_rfl) (fun _ _ _ h => h) (Or.inl ⟨by rfl, ?_⟩) (by assumption) ?_
  rotate_left 1
  · intro w hSw; skip; first | (go_simp; done) | (go_simp; with_reducible rfl)
  try simp only [Act.put, lsA, lsB, lsC]
  refine wpAnyH_take (i := 3) (oi := { dst := some 13, op := Op.move (Operand.tmp 0), type := 22, pos := "telegram.go:88", after := #[], guard := none }) (v := ?_) rfl (by kernel_rfl) (by kernel_rfl) (by kernel_rfl) (fun _ _ _ h => h) (Or.inl ⟨by rfl, ?_⟩) (by assumption) ?_
  rotate_left 1
  · intro w hSw; skip; first | (go_simp; done) | (go_simp; with_reducible rfl)
  try simp only [Act.put, lsA, lsB, lsC]
  refine wpAnyH_take (i := 4) (oi := { dst := some 14, op := Op.move (Operand.tmp 4), type := 3, pos := "telegram.go:88", after := #[], guard := none }) (v := ?_) rfl (by kernel_rfl) (by kernel_rfl) (by kernel_rfl) (fun _ _ _ h => h) (Or.inl ⟨by rfl, ?_⟩) (by assumption) ?_
  rotate_left 1
  · intro w hSw; skip; first | (go_simp; done) | (go_simp; with_reducible rfl)
  try simp only [Act.put, lsA, lsB, lsC]
  refine wpAnyH_take (i := 2) (oi := { dst := some 12, op := Op.slice 22 (Operand.tmp 10) (some (Operand.tmp 11)) none none, type := 22, pos := "telegram.go:88", after := #[{ on := 0, ground := Ground.data }, { on := 1, ground := Ground.data }], guard := none }) (v := ?_) rfl (by kernel_rfl) (by kernel_rfl) (by kernel_rfl) (fun _ _ _ h => h) (Or.inl ⟨by rfl, ?_⟩) (by assumption) ?_
  rotate_left 1
  · intro w hSw; skip; first | (go_simp; done) | (go_simp; with_reducible rfl)
  try simp only [Act.put, lsA, lsB, lsC]
  refine wpAnyH_take (i := 5) (oi := { dst := some 15, op := Op.slice 22 (Operand.tmp 13) none (some (Operand.tmp 14)) none, type := 22, pos := "telegram.go:88", after := #[{ on := 3, ground := Ground.data }, { on := 4, ground := Ground.data }], guard := none }) (v := ?_) rfl (by kernel_rfl) (by kernel_rfl) (by kernel_rfl) (fun _ _ _ h => h) (Or.inl ⟨by rfl, ?_⟩) (by assumption) ?_
  rotate_left 1
  · intro w hSw; skip; first | (go_simp; done) | (go_simp; with_reducible rfl)
  try simp only [Act.put, lsA, lsB, lsC]
  refine wpAnyH_ready (rs := [6]) (by kernel_rfl) (by simp) (AllReadyH.cons (o := { dst := some 16, op := Op.call { callee := Callee.value (Operand.func 91), args := #[Operand.tmp 15], argTypes := #[22] }, type := 22, pos := "telegram.go:88", after := #[{ on := 5, ground := Ground.data }], guard := none }) rfl (fun K hK => ?_) AllReadyH.nil)
  go_simp
  refine (tsum_any (some ⟨B, O, none⟩) m c y _ (HY.out.grown (grown_drew w none)) (HT.out _ (grown_drew w none)) (by omega)).mono ?_
  rintro e w3 ⟨A3, N3, c3, rfl, hm3⟩
  have R3 := Hi hm3.rb
  have GX : Hid (w.grownBy w3 none) := grown_trans (grown_drew w none) hm3.gr
  clear hm3
  try dsimp only
  refine hK.out _ _ ?_ (fun hHeld => ?_)
  · exact GX.out
  clear hK K
  try simp only [Act.put, lsA, lsB, lsC]
  refine wpAnyH_ready (rs := [7]) (by kernel_rfl) (by simp) (AllReadyH.cons (o := { dst := some 17, op := Op.call { callee := Callee.value (Operand.func 90), args := #[Operand.tmp 12, Operand.tmp 16], argTypes := #[22, 22] }, type := 4, pos := "telegram.go:88", after := #[{ on := 2, ground := Ground.data }, { on := 6, ground := Ground.data }, { on := 6, ground := Ground.chain }], guard := none }) rfl (fun K hK => ?_) AllReadyH.nil)
  go_simp
  refine (equal_any _ _ _ _ _ _ z (Tm.four (Wm.crc y)) _ (HZ.out.grown GX.out) R3.out).mono ?_
  rintro e w5 ⟨rfl, rfl⟩
  rw [HE.out]
  try dsimp only
  refine hK.out _ _ ?_ (fun hHeld => ?_)
  · exact GX.out
  clear hK K
  try simp only [Act.put, lsA, lsB, lsC]
  refine wpAnyH_take (i := 8) (oi := { dst := some 18, op := Op.unOp UnOp.not 4 (Operand.tmp 17), type := 4, pos := "telegram.go:88", after := #[{ on := 7, ground := Ground.data }], guard := none }) (v := ?_) rfl (by kernel_rfl) (by kernel_rfl) (by kernel_rfl) (fun _ _ _ h => h) (Or.inl ⟨by rfl, ?_⟩) (by assumption) ?_
  rotate_left 1
  · intro w hSw; skip; first | (go_simp; done) | (go_simp; with_reducible rfl)
  try simp only [Act.put, lsA, lsB, lsC]
  refine wpAnyH_done (by kernel_rfl) ?_ _
  go_wp2
  go_ret2
  exact ⟨rfl, GX.out⟩
end Go.Proofs.YticmoaebegahgaaGreatDoor.Wr
namespace Go.Proofs.YticmoaebegahgaaGreatDoor.Wr
open Go.ChangeShapes Go.WideShapes Go.ChangeAt Go.RowKit
theorem made_get (z : Value) (n p : Nat) (hp : p < n) : (madeCells #[z] n)[p]? = some z := by
  rw [← Array.getElem?_toList, toList_madeCells_one, List.getElem?_replicate, if_pos hp]
theorem made_cell (w : World) (z : Value) (n p : Nat) (t : TypeId) (hp : p < n) : (w.alloc (.cells (madeCells #[z] n) t)).cell? ⟨w.heap.size, p, none⟩ = some z := by
  rw [World.cell?_alloc_at _ _ _ _ rfl, made_get z n p hp]
theorem info70 : (Tryz.prog.info? 126).map (fun i => (i.zero, i.size, i.bytes)) = some (some (.pointer none), 1, 8) := by kernel_rfl
theorem info3 : (Tryz.prog.info? 3).map (fun i => (i.zero, i.size, i.bytes)) = some (some (.int .i64 0), 1, 8) := by kernel_rfl
def PV (w : World) (B n : Nat) (f : Nat → Value) : Prop := (∀ p, p < n → w.cell? ⟨B, p, none⟩ = some (f p)) ∧ ∀ p, w.frozen? ⟨B, p, none⟩ = false
theorem PV.set {w : World} {B n : Nat} {f : Nat → Value} (h : PV w B n f) (k : Nat) (v : Value) : PV (w.setCell ⟨B, k, none⟩ v) B n (fun p => if p = k then v else f p) := by
  refine ⟨fun p hp => ?_, fun p => by rw [World.frozen?_setCell]; exact h.2 p⟩
  by_cases e : p = k
  · subst e; simp only [if_true]; exact World.cell?_setCell_same _ _ _ (h.1 p hp)
  · simp only [if_neg e]
    rw [World.cell?_setCell_other _ _ _ _ (by intro e2; injection e2 with _ e3 _; exact e e3.symm)]
    exact h.1 p hp
theorem PV.congr {w : World} {B n : Nat} {f g : Nat → Value} (h : PV w B n f) (e : ∀ p, p < n → f p = g p) : PV w B n g := ⟨fun p hp => by rw [← e p hp]; exact h.1 p hp, h.2⟩
theorem PV.made (w : World) (z : Value) (n : Nat) (t : TypeId) : PV (w.alloc (.cells (madeCells #[z] n) t)) w.heap.size n (fun _ => z) :=
  ⟨fun p hp => made_cell w z n p t hp, fun p => by simp⟩
theorem grown_frozen {w w' : World} {row : Option Nat} (h : w.grownBy w' row) {a : Addr} {v : Value} (hc : w.cell? a = some v) (hf : w.frozen? a = false) (hr : some a.block ≠ row) : w'.frozen? a = false := by
  rw [World.frozen?_of_block (h.block a.block (World.block_lt_of_cell? _ _ hc) hr)]; exact hf
def ptrs (V k : Nat) : Nat → Value := fun p => if p < k then .pointer (some ⟨V, p, none⟩) else .pointer none
set_option maxHeartbeats 1000000 in
theorem pointers_any (V n c : Nat) (w : World) (hn : n ≤ 1000) :
    Calls Tryz.prog 94 #[.slice (some ⟨V, 0, none⟩) n c] w fun e w' => e = .returned (.slice (some ⟨w.heap.size, 0, none⟩) n n) ∧ w.grownBy w' none ∧ PV w' w.heap.size n (ptrs V n) := by
  have hmk := run_make_row' (P := Tryz.prog) 123 126 (.pointer none) 8 Tryz.underlying123 info70 rfl .i64 .i64 n (by omega) (by omega)
  have H0 := Hi (show w.grownBy (w.alloc (.cells (madeCells #[.pointer none] n) 126)) none ∧ PV (w.alloc (.cells (madeCells #[.pointer none] n) 126)) w.heap.size n (ptrs V 0) ∧ w.heap.size < (w.alloc (.cells (madeCells #[.pointer none] n) 126)).heap.size from
    ⟨World.grownBy_alloc _ _ _, (PV.made _ _ _ _).congr (fun p _ => by unfold ptrs; rw [if_neg (by omega)]), by simp⟩)
  go_enter Tryz.func94, Tryz.ntmps94
  go_wp2
  go_loopw [10] (fun s wr => ∃ k : Nat, s = .int .i64 k ∧ k ≤ n ∧ Hid (w.grownBy wr none ∧ PV wr w.heap.size n (ptrs V k) ∧ w.heap.size < wr.heap.size)) (fun i _ => n - (intOf i).toNat)
  case atStart => exact ⟨0, rfl, by omega, H0⟩
  case round =>
    obtain ⟨k, rfl, hk, I⟩ := hrel
    by_cases hlt : k < n
    · have c1 := I.out.2.1.1 k hlt
      have f1 := I.out.2.1.2 k
      have I2 : Hid (w.grownBy (wr.setCell ⟨w.heap.size, k, none⟩ (.pointer (some ⟨V, k, none⟩))) none ∧ PV (wr.setCell ⟨w.heap.size, k, none⟩ (.pointer (some ⟨V, k, none⟩))) w.heap.size n (ptrs V (k + 1)) ∧ w.heap.size < (wr.setCell ⟨w.heap.size, k, none⟩ (.pointer (some ⟨V, k, none⟩))).heap.size) := by
        refine ⟨grown_off I.out.1 (grown_set wr ⟨w.heap.size, k, none⟩ _) (Nat.le_refl _), (I.out.2.1.set k _).congr (fun p _ => ?_), by simpa [World.setCell] using I.out.2.2⟩
        unfold ptrs
        by_cases e : p = k
        · rw [if_pos e, if_pos (by omega), e]
        · rw [if_neg e]
          by_cases e2 : p < k
          · rw [if_pos e2, if_pos (by omega)]
          · rw [if_neg e2, if_neg (by omega)]
      clear I
      go_wp2
      go_roundw
      case rel => exact ⟨k + 1, by go_num, by omega, I2⟩
      case measure => simp [intOf]; omega
    · obtain rfl : k = n := by omega
      go_wp2
      go_ret
      exact ⟨rfl, I.out.1, I.out.2.1⟩
def put (w : World) (pb po : Nat → Nat) (f : Nat → Int) : Nat → World
  | 0 => w
  | k + 1 => (put w pb po f k).setCell ⟨pb k, po k, none⟩ (.int .i64 (f k))
theorem put_congr (w : World) (pb po : Nat → Nat) {f g : Nat → Int} : ∀ k, (∀ i, i < k → f i = g i) → put w pb po f k = put w pb po g k
  | 0, _ => rfl
  | k + 1, h => by
    show (put w pb po f k).setCell _ _ = (put w pb po g k).setCell _ _
    rw [put_congr w pb po k (fun i hi => h i (by omega)), h k (by omega)]
theorem put_frozen (w : World) (pb po : Nat → Nat) (f : Nat → Int) (a : Addr) : ∀ k, (put w pb po f k).frozen? a = w.frozen? a
  | 0 => rfl
  | k + 1 => by
    show ((put w pb po f k).setCell _ _).frozen? a = _
    rw [World.frozen?_setCell]; exact put_frozen w pb po f a k
theorem put_other (w : World) (pb po : Nat → Nat) (f : Nat → Int) (a : Addr) : ∀ k, (∀ i, i < k → (⟨pb i, po i, none⟩ : Addr) ≠ a) → (put w pb po f k).cell? a = w.cell? a
  | 0, _ => rfl
  | k + 1, h => by
    show ((put w pb po f k).setCell _ _).cell? a = _
    rw [World.cell?_setCell_other _ _ _ _ (h k (by omega))]
    exact put_other w pb po f a k (fun i hi => h i (by omega))
theorem put_some (w : World) (pb po : Nat → Nat) (f : Nat → Int) {a : Addr} {u : Value} (h : w.cell? a = some u) : ∀ k, ∃ u', (put w pb po f k).cell? a = some u'
  | 0 => ⟨u, h⟩
  | k + 1 => by
    obtain ⟨u', hu⟩ := put_some w pb po f h k
    by_cases e : (⟨pb k, po k, none⟩ : Addr) = a
    · subst e; exact ⟨_, World.cell?_setCell_same _ _ _ hu⟩
    · exact ⟨u', (World.cell?_setCell_other _ _ _ _ e).trans hu⟩
theorem put_at {n : Nat} (w : World) (pb po : Nat → Nat) (f : Nat → Int) (hs : ∀ i, ∃ u, i < n → w.cell? ⟨pb i, po i, none⟩ = some u) (hd : ∀ i j, i < j → j < n → (⟨pb j, po j, none⟩ : Addr) ≠ ⟨pb i, po i, none⟩) :
    ∀ k, k ≤ n → ∀ i, i < k → (put w pb po f k).cell? ⟨pb i, po i, none⟩ = some (.int .i64 (f i))
  | 0, _, i, hi => absurd hi (by omega)
  | k + 1, hk, i, hi => by
    by_cases e : i = k
    · subst e
      obtain ⟨u, hu⟩ := hs i
      obtain ⟨u', hu'⟩ := put_some w pb po f (hu (by omega)) i
      exact World.cell?_setCell_same _ _ _ hu'
    · exact (World.cell?_setCell_other _ _ _ _ (hd i k (by omega) (by omega))).trans (put_at w pb po f hs hd k (by omega) i (by omega))
theorem put_size (w : World) (pb po : Nat → Nat) (f : Nat → Int) : ∀ k, (put w pb po f k).heap.size = w.heap.size
  | 0 => rfl
  | k + 1 => by
    have := put_size w pb po f k
    simpa [put, World.setCell] using this
theorem put_grown {w0 w : World} (h : w0.grownBy w none) (pb po : Nat → Nat) (f : Nat → Int) : ∀ k, (∀ i, i < k → w0.heap.size ≤ pb i) → w0.grownBy (put w pb po f k) none
  | 0, _ => h
  | k + 1, hb => grown_off (put_grown h pb po f k (fun i hi => hb i (by omega))) (grown_set _ ⟨pb k, po k, none⟩ _) (hb k (by omega))
def lst (f : Nat → Int) (k : Nat) : List Int := (List.range k).map f
theorem lst_len (f : Nat → Int) (k : Nat) : (lst f k).length = k := by simp [lst]
theorem lst_snoc (f : Nat → Int) (k : Nat) : lst f (k + 1) = lst f k ++ [f k] := by simp [lst, List.range_succ]
theorem lst_congr {f g : Nat → Int} {k : Nat} (h : ∀ i, i < k → f i = g i) : lst f k = lst g k := List.map_congr_left fun i hi => h i (List.mem_range.1 hi)
theorem lst_mem {f : Nat → Int} {k : Nat} {n : Int} (h : n ∈ lst f k) : ∃ i, i < k ∧ n = f i := by
  obtain ⟨i, hi, rfl⟩ := List.mem_map.1 h
  exact ⟨i, List.mem_range.1 hi, rfl⟩
def setF (f : Nat → Int) (k : Nat) (v : Int) : Nat → Int := fun p => if p = k then v else f p
theorem setF_at (f : Nat → Int) (k : Nat) (v : Int) : setF f k v k = v := by simp [setF]
theorem setF_ne (f : Nat → Int) (k : Nat) (v : Int) {i : Nat} (h : i < k) : f i = setF f k v i := by unfold setF; rw [if_neg (by omega)]
def RdS (l : List UInt8) (p0 : Nat) (f : Nat → Int) (k pos : Nat) : Prop :=
  (∀ i, i < k → Tm.I64 (f i)) ∧ pos = p0 + (Tm.body (lst f k)).length ∧ l.drop p0 = Tm.body (lst f k) ++ l.drop pos
theorem RdS.pos_le {l : List UInt8} {p0 : Nat} {f : Nat → Int} {k pos : Nat} (h : RdS l p0 f k pos) (hp : p0 ≤ l.length) : pos ≤ l.length := by
  have := congrArg List.length h.2.2
  simp only [List.length_drop, List.length_append] at this
  have := h.2.1
  omega
theorem RdS.next {l : List UInt8} {p0 : Nat} {f : Nat → Int} {k pos : Nat} {n q : Int} (h : RdS l p0 f k pos) (hr : Wm.intR l (pos : Int) = (n, q, 0)) :
    ∃ pos', q = ((pos' : Nat) : Int) ∧ RdS l p0 (setF f k n) (k + 1) pos' := by
  obtain ⟨h1, h2, r, h3⟩ := Tm.intR_ok hr rfl
  have hl : lst (setF f k n) (k + 1) = lst f k ++ [n] := by
    rw [lst_snoc, setF_at, lst_congr (fun i hi => (setF_ne f k n hi).symm)]
  refine ⟨_, h2, fun i hi => ?_, ?_, ?_⟩
  · by_cases e : i = k
    · rw [e, setF_at]; exact h1
    · rw [← setF_ne f k n (by omega)]; exact h.1 i (by omega)
  · rw [hl, Tm.body_snoc, List.length_append, h.2.1]; omega
  · rw [hl, Tm.body_snoc, h.2.2, List.append_assoc]
    congr 1
    rw [← List.drop_drop, h3, List.drop_left]
theorem RdS.none {l : List UInt8} {p0 : Nat} {f : Nat → Int} {k K pos : Nat} {n q er : Int} (h : RdS l p0 f k pos) (hp : p0 ≤ l.length) (hk : k < K) (hr : Wm.intR l (pos : Int) = (n, q, er)) (he : er ≠ 0)
    (ns : List Int) (r : List UInt8) (hn : ns.length = K) (hi : ∀ x ∈ ns, Tm.I64 x) : l.drop p0 ≠ Tm.body ns ++ r := by
  intro e
  have hle := h.pos_le hp
  rw [h.2.2] at e
  have hs : ns = ns.take k ++ ns.drop k := (List.take_append_drop k ns).symm
  rw [hs, Tm.body_append, List.append_assoc] at e
  have hlt : k < ns.length := by omega
  obtain ⟨e1, e2⟩ := Tm.body_prefix (fun x hx => by obtain ⟨i, hi, rfl⟩ := lst_mem hx; exact h.1 i hi) (fun x hx => hi x (List.mem_of_mem_take hx)) (by rw [lst_len, List.length_take]; omega) e
  rw [List.drop_eq_getElem_cons hlt] at e2
  simp only [Tm.body, List.append_assoc] at e2
  have := Tm.intR_at hle (hi _ (List.getElem_mem hlt)) e2
  rw [hr] at this
  exact he (congrArg (·.2.2) this)
def RdEnd (w : World) (pb po : Nat → Nat) (K : Nat) (l : List UInt8) (p0 : Nat) (e : Ending) (w' : World) : Prop :=
  ∃ (q er : Int) (j : Nat) (f : Nat → Int), e = .returned (.tuple #[.int .i64 q, .int .i64 er]) ∧ j ≤ K ∧ w' = put w pb po f j ∧
    ((er = 0 ∧ j = K ∧ ∃ pos : Nat, q = pos ∧ RdS l p0 f K pos) ∨ (er ≠ 0 ∧ ∀ ns r, ns.length = K → (∀ x ∈ ns, Tm.I64 x) → l.drop p0 ≠ Tm.body ns ++ r))
set_option maxHeartbeats 1000000 in
theorem readinto_any (R K C : Nat) (pb po : Nat → Nat) (A : Option Addr) (n c : Nat) (l : List UInt8) (p0 : Nat) (w : World)
    (hR : ∀ i, i < K → w.cell? ⟨R, i, none⟩ = some (.pointer (some ⟨pb i, po i, none⟩)))
    (hs : ∀ i, i < K → pb i ≠ R ∧ (∃ u, w.cell? ⟨pb i, po i, none⟩ = some u) ∧ w.frozen? ⟨pb i, po i, none⟩ = false)
    (hb : RB w A n l) (hc : n ≤ c) (hc2 : c ≤ 9223372036854775807) (hn : n ≤ 1000000) (hB : 0 < n → ∀ b off, A = some ⟨b, off, none⟩ → ∀ i, i < K → pb i ≠ b) (hp : p0 ≤ n) (hK : K ≤ 1000) :
    Calls Tryz.prog 92 #[.slice (some ⟨R, 0, none⟩) K C, .slice A n c, .int .i64 (p0 : Int)] w (RdEnd w pb po K l p0) := by
  have HR := Hi hR
  have HS := Hi hs
  have HB := Hi hb
  have HN := Hi hB
  clear hR hs hb hB
  go_enter Tryz.func92, Tryz.ntmps92
  go_wp2
  go_step3
  go_wp2
  go_step3
  go_wp2
  go_loopw [2, 8, 13] (fun s2 s8 s13 wr => ∃ (k pos : Nat) (f : Nat → Int), s13 = .int .i64 k ∧ k ≤ K ∧ s2 = .int .i64 pos ∧ pos ≤ n ∧ s8 = .int .i64 0 ∧ Hid (wr = put w pb po f k) ∧ Hid (RdS l p0 f k pos)) (fun _ _ i _ => K - (intOf i).toNat)
  case atStart => exact ⟨0, p0, fun _ => 0, rfl, by omega, rfl, hp, rfl, rfl, ⟨fun i hi => absurd hi (by omega), by simp [lst, Tm.body], by simp [lst, Tm.body]⟩⟩
  case round =>
    obtain ⟨k, pos, f, rfl, hk, rfl, hpos, rfl, HW, HD⟩ := hrel
    by_cases hlt : k < K
    · have hRb : RB wr A n l := by
        rw [HW.out]
        refine ⟨HB.out.1, fun i hi => ?_⟩
        obtain ⟨b, off, e, hc⟩ := HB.out.2 i hi
        exact ⟨b, off, e, (put_other _ _ _ _ _ _ (fun j hj e2 => HN.out (by omega) b off e j (by omega) (by injection e2))).trans hc⟩
      have c1 : wr.cell? ⟨R, k, none⟩ = some (.pointer (some ⟨pb k, po k, none⟩)) := by
        rw [HW.out]
        exact (put_other _ _ _ _ _ _ (fun j hj e2 => (HS.out j (by omega)).1 (by injection e2))).trans (HR.out k hlt)
      obtain ⟨_, ⟨u, hu⟩, hf⟩ := HS.out k hlt
      obtain ⟨u', c2⟩ : ∃ u', wr.cell? ⟨pb k, po k, none⟩ = some u' := by rw [HW.out]; exact put_some w pb po f hu k
      have f2 : wr.frozen? ⟨pb k, po k, none⟩ = false := by rw [HW.out, put_frozen]; exact hf
      have HI := Hi (int_any A n c l (pos : Int) wr hRb hc hc2 (by omega) (by omega) (by omega))
      have HX : Hid (∀ v : Int, wr.setCell ⟨pb k, po k, none⟩ (.int .i64 v) = put w pb po (setF f k v) (k + 1)) := by
        intro v
        show _ = (put w pb po (setF f k v) k).setCell ⟨pb k, po k, none⟩ (.int .i64 (setF f k v k))
        rw [setF_at, HW.out, put_congr w pb po k (fun i hi => setF_ne f k v hi)]
      clear hRb hu hf
      generalize hbk : pb k = Bk at *
      generalize hok : po k = Ok at *
      obtain ⟨⟨x, q, er⟩, hr⟩ : ∃ r, Wm.intR l (pos : Int) = r := ⟨_, rfl⟩
      rw [hr] at HI
      have HQ := Hi hr
      clear hr hbk hok
      by_cases he : er = 0
      · subst he
        obtain ⟨pos', rfl, hD2⟩ := HD.out.next HQ.out
        have hp2 := hD2.pos_le (by rw [HB.out.1]; exact hp)
        rw [HB.out.1] at hp2
        have HD2 := Hi hD2
        have HX := Hi (HX.out x)
        clear HD hD2 HQ HW
        go_wp2_with fail
        refine HI.out.mono ?_
        rintro e w' ⟨rfl, rfl⟩
        go_wp2
        go_roundw
        case rel => exact ⟨k + 1, pos', setF f k x, by go_num, by omega, rfl, hp2, rfl, HX, HD2⟩
        case measure => simp [intOf]; omega
      · have HZ := Hi (HD.out.none (by rw [HB.out.1]; exact hp) hlt HQ.out he)
        have HX := Hi (HX.out x)
        clear HD HQ HW
        go_wp2_with fail
        refine HI.out.mono ?_
        rintro e w' ⟨rfl, rfl⟩
        go_wp2
        go_ret2
        exact ⟨q, er, k + 1, setF f k x, rfl, by omega, HX.out, .inr ⟨he, HZ.out⟩⟩
    · obtain rfl : k = K := by omega
      go_wp2
      go_ret2
      exact ⟨pos, 0, k, f, rfl, Nat.le_refl _, HW.out, .inl ⟨rfl, rfl, pos, rfl, HD.out⟩⟩
end Go.Proofs.YticmoaebegahgaaGreatDoor.Wr
namespace Go.Proofs.YticmoaebegahgaaGreatDoor.Wr
open Go.ChangeShapes Go.WideShapes Go.ChangeAt Go.RowKit
def Six (w : World) (B : Nat) (t : Tm.Tg) (V : Value) : Prop :=
  (w.cell? ⟨B, 0, none⟩ = some (.int .i64 t.st) ∧ w.cell? ⟨B, 1, none⟩ = some (.int .i64 t.ep) ∧ w.cell? ⟨B, 2, none⟩ = some (.int .i64 t.sq) ∧ w.cell? ⟨B, 3, none⟩ = some (.int .i64 t.tm) ∧ w.cell? ⟨B, 4, none⟩ = some (.int .i64 t.kd) ∧ w.cell? ⟨B, 5, none⟩ = some V) ∧
  (w.frozen? ⟨B, 0, none⟩ = false ∧ w.frozen? ⟨B, 1, none⟩ = false ∧ w.frozen? ⟨B, 2, none⟩ = false ∧ w.frozen? ⟨B, 3, none⟩ = false ∧ w.frozen? ⟨B, 4, none⟩ = false ∧ w.frozen? ⟨B, 5, none⟩ = false)
theorem Six.grown {w w' : World} {B : Nat} {t : Tm.Tg} {V : Value} {row : Option Nat} (h : Six w B t V) (g : w.grownBy w' row) (hr : some B ≠ row) : Six w' B t V := by
  obtain ⟨⟨h0, h1, h2, h3, h4, h5⟩, k0, k1, k2, k3, k4, k5⟩ := h
  exact ⟨⟨g.cell h0 hr, g.cell h1 hr, g.cell h2 hr, g.cell h3 hr, g.cell h4 hr, g.cell h5 hr⟩, grown_frozen g h0 k0 hr, grown_frozen g h1 k1 hr, grown_frozen g h2 k2 hr, grown_frozen g h3 k3 hr, grown_frozen g h4 k4 hr, grown_frozen g h5 k5 hr⟩
def six (w : World) (B : Nat) (t : Tm.Tg) (V : Value) : World :=
  (((((w.setCell ⟨B, 0, none⟩ (.int .i64 t.st)).setCell ⟨B, 1, none⟩ (.int .i64 t.ep)).setCell ⟨B, 2, none⟩ (.int .i64 t.sq)).setCell ⟨B, 3, none⟩ (.int .i64 t.tm)).setCell ⟨B, 4, none⟩ (.int .i64 t.kd)).setCell ⟨B, 5, none⟩ V
theorem six_grown (w : World) (B : Nat) (t : Tm.Tg) (V : Value) : w.grownBy (six w B t V) (some B) :=
  grown_trans (grown_trans (grown_trans (grown_trans (grown_trans (grown_set w ⟨B, 0, none⟩ _) (grown_set _ ⟨B, 1, none⟩ _)) (grown_set _ ⟨B, 2, none⟩ _)) (grown_set _ ⟨B, 3, none⟩ _)) (grown_set _ ⟨B, 4, none⟩ _)) (grown_set _ ⟨B, 5, none⟩ _)
theorem set_hit {w : World} {a : Addr} {u : Value} (v : Value) (h : w.cell? a = some u) : (w.setCell a v).cell? a = some v := World.cell?_setCell_same _ _ _ h
theorem set_miss {w : World} {a b : Addr} {u : Value} (v : Value) (n : a ≠ b) (h : w.cell? b = some u) : (w.setCell a v).cell? b = some u := (World.cell?_setCell_other _ _ _ _ n).trans h
theorem off_ne (B : Nat) {i j : Nat} (h : i ≠ j) : (⟨B, i, none⟩ : Addr) ≠ ⟨B, j, none⟩ := by intro e; injection e with _ e2 _; exact h e2
theorem Six.store {w : World} {B : Nat} {t : Tm.Tg} {V : Value} (h : Six w B t V) (u : Tm.Tg) (U : Value) : Six (six w B u U) B u U := by
  obtain ⟨⟨h0, h1, h2, h3, h4, h5⟩, k0, k1, k2, k3, k4, k5⟩ := h
  have d (i j : Nat) (e : i ≠ j) := off_ne B e
  unfold six
  refine ⟨⟨?_, ?_, ?_, ?_, ?_, ?_⟩, ?_, ?_, ?_, ?_, ?_, ?_⟩
  · exact set_miss _ (d 5 0 (by omega)) (set_miss _ (d 4 0 (by omega)) (set_miss _ (d 3 0 (by omega)) (set_miss _ (d 2 0 (by omega)) (set_miss _ (d 1 0 (by omega)) (set_hit _ h0)))))
  · exact set_miss _ (d 5 1 (by omega)) (set_miss _ (d 4 1 (by omega)) (set_miss _ (d 3 1 (by omega)) (set_miss _ (d 2 1 (by omega)) (set_hit _ (set_miss _ (d 0 1 (by omega)) h1)))))
  · exact set_miss _ (d 5 2 (by omega)) (set_miss _ (d 4 2 (by omega)) (set_miss _ (d 3 2 (by omega)) (set_hit _ (set_miss _ (d 1 2 (by omega)) (set_miss _ (d 0 2 (by omega)) h2)))))
  · exact set_miss _ (d 5 3 (by omega)) (set_miss _ (d 4 3 (by omega)) (set_hit _ (set_miss _ (d 2 3 (by omega)) (set_miss _ (d 1 3 (by omega)) (set_miss _ (d 0 3 (by omega)) h3)))))
  · exact set_miss _ (d 5 4 (by omega)) (set_hit _ (set_miss _ (d 3 4 (by omega)) (set_miss _ (d 2 4 (by omega)) (set_miss _ (d 1 4 (by omega)) (set_miss _ (d 0 4 (by omega)) h4)))))
  · exact set_hit _ (set_miss _ (d 4 5 (by omega)) (set_miss _ (d 3 5 (by omega)) (set_miss _ (d 2 5 (by omega)) (set_miss _ (d 1 5 (by omega)) (set_miss _ (d 0 5 (by omega)) h5)))))
  all_goals simp only [World.frozen?_setCell]; assumption
theorem Six.made (w : World) (t : Tm.Tg) (V : Value) : Six (w.alloc (tcells t V)) w.heap.size t V := by
  obtain ⟨h0, h1, h2, h3, h4, h5⟩ := boxed_at (t := t) (V := V) (grown_refl (w.alloc (tcells t V)) none)
  exact ⟨⟨h0, h1, h2, h3, h4, h5⟩, by unfold tcells; simp⟩
theorem Six.put {w : World} {B : Nat} {t : Tm.Tg} {V : Value} (h : Six w B t V) (pb po : Nat → Nat) (f : Nat → Int) (k : Nat) (hn : ∀ i, i < k → pb i ≠ B) : Six (Wr.put w pb po f k) B t V := by
  obtain ⟨⟨h0, h1, h2, h3, h4, h5⟩, k0, k1, k2, k3, k4, k5⟩ := h
  have d (o : Nat) : ∀ i, i < k → (⟨pb i, po i, none⟩ : Addr) ≠ ⟨B, o, none⟩ := fun i hi e => hn i hi (by injection e)
  simp only [Six, put_other w pb po f _ k (d _), put_frozen]
  exact ⟨⟨h0, h1, h2, h3, h4, h5⟩, k0, k1, k2, k3, k4, k5⟩
end Go.Proofs.YticmoaebegahgaaGreatDoor.Wr
namespace Go.Proofs.YticmoaebegahgaaGreatDoor.Wr
open Go.ChangeShapes Go.WideShapes Go.ChangeAt Go.RowKit
def ReadEnd (l : List UInt8) (w : World) (e : Ending) (w' : World) : Prop :=
  w.grownBy w' none ∧ ((∃ t Y m cv, e = .returned (.tuple #[tv t (.slice (some ⟨Y, 0, none⟩) m cv), .bool true]) ∧ w.heap.size ≤ Y ∧ IR w' (some ⟨Y, 0, none⟩) m t.vs ∧ m ≤ 16 ∧ t.fits ∧ l = Tm.body t.nums ∧ cv = m) ∨
    (∃ t V m cv, e = .returned (.tuple #[tv t (.slice V m cv), .bool false]) ∧ ∀ u : Tm.Tg, u.ok = true → l ≠ Tm.body u.nums))
def hb (X : Nat) (i : Nat) : Nat := if i < 5 then X + 1 else X + 1 + 1
def ho (i : Nat) : Nat := if i < 5 then i else 0
def nilV : Value := .slice none 0 0
structure Rs (w W : World) (X : Nat) : Prop where
  gr : w.grownBy W none
  size : W.heap.size = X + 4
  res : Six W X Tm.zero nilV
  tel : Six W (X + 1) Tm.zero nilV
  cnt : W.cell? ⟨X + 1 + 1, 0, none⟩ = some (.int .i64 0) ∧ W.frozen? ⟨X + 1 + 1, 0, none⟩ = false
  row : ∀ i, i < 6 → W.cell? ⟨X + 1 + 1 + 1, i, none⟩ = some (.pointer (some ⟨hb X i, ho i, none⟩))
theorem rs_start (w : World) (q : Nat) :
    Rs w (((((w.alloc (tcells Tm.zero nilV)).alloc (tcells Tm.zero nilV)).alloc (.cells #[.int .i64 0] 3)).alloc (hcells (w.heap.size + 1) (w.heap.size + 1 + 1))).drewN q) w.heap.size := by
  have s0 := Six.made w Tm.zero nilV
  have s1 := Six.made (w.alloc (tcells Tm.zero nilV)) Tm.zero nilV
  have e1 : (w.alloc (tcells Tm.zero nilV)).heap.size = w.heap.size + 1 := by simp
  rw [e1] at s1
  have g1 : (w.alloc (tcells Tm.zero nilV)).grownBy ((w.alloc (tcells Tm.zero nilV)).alloc (tcells Tm.zero nilV)) none := World.grownBy_alloc _ _ _
  have g2 : ((w.alloc (tcells Tm.zero nilV)).alloc (tcells Tm.zero nilV)).grownBy (((((w.alloc (tcells Tm.zero nilV)).alloc (tcells Tm.zero nilV)).alloc (.cells #[.int .i64 0] 3)).alloc (hcells (w.heap.size + 1) (w.heap.size + 1 + 1))).drewN q) none :=
    grown_trans (grown_trans (World.grownBy_alloc _ _ _) (World.grownBy_alloc _ _ _)) (grown_drewN _ _ _)
  refine ⟨grown_trans (grown_trans (World.grownBy_alloc _ _ _) g1) g2, ?_, (s0.grown g1 (by simp)).grown g2 (by simp), s1.grown g2 (by simp), ?_, ?_⟩
  · simp [World.drewN]
  · unfold tcells hcells; constructor <;> go_simp
  · intro i hi
    simp only [World.cell?_drewN]
    unfold hcells tcells hb ho
    match i, hi with
    | 0, _ => go_simp
    | 1, _ => go_simp
    | 2, _ => go_simp
    | 3, _ => go_simp
    | 4, _ => go_simp
    | 5, _ => go_simp
theorem Rs.slots {w W : World} {X : Nat} (h : Rs w W X) : ∀ i, i < 6 → hb X i ≠ X + 1 + 1 + 1 ∧ (∃ u, W.cell? ⟨hb X i, ho i, none⟩ = some u) ∧ W.frozen? ⟨hb X i, ho i, none⟩ = false := by
  obtain ⟨_, _, _, ⟨⟨h0, h1, h2, h3, h4, h5⟩, k0, k1, k2, k3, k4, k5⟩, ⟨h6, k6⟩, _⟩ := h
  intro i hi
  unfold hb ho
  match i, hi with
  | 0, _ => exact ⟨by simp, ⟨_, h0⟩, k0⟩
  | 1, _ => exact ⟨by simp, ⟨_, h1⟩, k1⟩
  | 2, _ => exact ⟨by simp, ⟨_, h2⟩, k2⟩
  | 3, _ => exact ⟨by simp, ⟨_, h3⟩, k3⟩
  | 4, _ => exact ⟨by simp, ⟨_, h4⟩, k4⟩
  | 5, _ => exact ⟨by simp, ⟨_, h6⟩, k6⟩
theorem hb_low (X i : Nat) : X + 1 ≤ hb X i := by unfold hb; split <;> omega
theorem ho_inj (X : Nat) : ∀ i j, i < j → j < 6 → (⟨hb X j, ho j, none⟩ : Addr) ≠ ⟨hb X i, ho i, none⟩ := by
  intro i j hij hj e
  injection e with e1 e2
  by_cases hi : i < 5
  · by_cases hj5 : j < 5
    · simp only [ho, if_pos hi, if_pos hj5] at e2; omega
    · simp only [hb, if_pos hi, if_neg hj5] at e1; omega
  · omega
theorem Rs.first {w W : World} {X : Nat} (h : Rs w W X) (f : Nat → Int) :
    Six (put W (hb X) ho f 6) (X + 1) ⟨f 0, f 1, f 2, f 3, f 4, []⟩ nilV ∧ (put W (hb X) ho f 6).cell? ⟨X + 1 + 1, 0, none⟩ = some (.int .i64 (f 5)) ∧ (put W (hb X) ho f 6).heap.size = X + 4 := by
  have hs := h.slots
  have P := put_at (n := 6) W (hb X) ho f (fun i => by
    by_cases hi : i < 6
    · obtain ⟨u, hu⟩ := (hs i hi).2.1; exact ⟨u, fun _ => hu⟩
    · exact ⟨.int .i64 0, fun h => absurd h hi⟩) (fun i j => ho_inj X i j) 6 (Nat.le_refl _)
  have F (i : Nat) (hi : i < 6) : (put W (hb X) ho f 6).frozen? ⟨hb X i, ho i, none⟩ = false := by rw [put_frozen]; exact (hs i hi).2.2
  refine ⟨⟨⟨P 0 (by omega), P 1 (by omega), P 2 (by omega), P 3 (by omega), P 4 (by omega), ?_⟩, F 0 (by omega), F 1 (by omega), F 2 (by omega), F 3 (by omega), F 4 (by omega), ?_⟩, P 5 (by omega), by rw [put_size]; exact h.size⟩
  · rw [put_other _ _ _ _ _ _ (fun i hi e => ?_)]
    · exact h.tel.1.2.2.2.2.2
    · injection e with e1 e2
      by_cases hi5 : i < 5
      · simp only [ho, if_pos hi5] at e2; omega
      · simp only [hb, if_neg hi5] at e1; omega
  · rw [put_frozen]; exact h.tel.2.2.2.2.2.2
structure Rt (w W : World) (X K : Nat) (t : Tm.Tg) : Prop where
  gr : w.grownBy W none
  res : Six W X Tm.zero nilV
  tel : Six W (X + 1) t (.slice (some ⟨X + 4, 0, none⟩) K K)
  ptr : ∀ i, i < K → W.cell? ⟨X + 4 + 1, i, none⟩ = some (.pointer (some ⟨X + 4, i, none⟩))
  vals : ∀ i, i < K → W.cell? ⟨X + 4, i, none⟩ = some (.int .i64 0) ∧ W.frozen? ⟨X + 4, i, none⟩ = false
theorem rb_lt {w : World} {A : Option Addr} {n : Nat} {l : List UInt8} (h : RB w A n l) (hn : 0 < n) : ∀ b off, A = some ⟨b, off, none⟩ → b < w.heap.size := by
  intro b off e
  obtain ⟨b', off', e', hc⟩ := h.2 0 hn
  rw [e] at e'
  injection e' with e'
  injection e' with e1 _
  subst e1
  exact World.block_lt_of_cell? w _ hc
def six6 (u : Tm.Tg) : List Int := [u.st, u.ep, u.sq, u.tm, u.kd, (u.vs.length : Int)]
theorem nums_six (u : Tm.Tg) : u.nums = six6 u ++ u.vs := rfl
theorem six_i64 {u : Tm.Tg} (h : u.ok = true) : ∀ x ∈ six6 u, Tm.I64 x := fun x hx => Tm.Tg.nums_ok h x (by rw [nums_six]; exact List.mem_append_left _ hx)
theorem no_first {l : List UInt8} (h : ∀ ns r, ns.length = 6 → (∀ x ∈ ns, Tm.I64 x) → l.drop 0 ≠ Tm.body ns ++ r) : ∀ u : Tm.Tg, u.ok = true → l ≠ Tm.body u.nums := by
  intro u hu e
  refine h (six6 u) (Tm.body u.vs) rfl (six_i64 hu) ?_
  rw [List.drop_zero, e, nums_six, Tm.body_append]
theorem first_is {l : List UInt8} {f : Nat → Int} {pos : Nat} (h : RdS l 0 f 6 pos) {u : Tm.Tg} (hu : u.ok = true) (e : l = Tm.body u.nums) : lst f 6 = six6 u ∧ l.drop pos = Tm.body u.vs := by
  have h2 := h.2.2
  rw [List.drop_zero, e, nums_six, Tm.body_append] at h2
  obtain ⟨e1, e2⟩ := Tm.body_prefix (six_i64 hu) (fun x hx => by obtain ⟨i, hi, rfl⟩ := lst_mem hx; exact h.1 i hi) (by rw [lst_len]; rfl) h2
  exact ⟨e1.symm, by rw [e, nums_six, Tm.body_append]; exact e2.symm⟩
theorem lst6 (f : Nat → Int) : lst f 6 = [f 0, f 1, f 2, f 3, f 4, f 5] := rfl
theorem no_count {l : List UInt8} {f : Nat → Int} {pos : Nat} (h : RdS l 0 f 6 pos) (hc : Tm.upTo (f 5) 16 = false) : ∀ u : Tm.Tg, u.ok = true → l ≠ Tm.body u.nums := by
  intro u hu e
  have h1 := (first_is h hu e).1
  rw [lst6] at h1
  unfold six6 at h1
  simp only [List.cons.injEq, and_true] at h1
  have h3 := h1.2.2.2.2.2
  have h4 := ((Tm.Tg.ok_iff u).1 hu).2.2.2.2.2.1
  have : Tm.upTo (f 5) 16 = true := Tm.upTo_iff.2 (by omega)
  rw [hc] at this
  cases this
theorem rt_made {w W4 : World} {X K : Nat} {t : Tm.Tg} (hX : w.heap.size = X) (g : w.grownBy W4 none) (z : W4.heap.size = X + 4) (hr : Six W4 X Tm.zero nilV) (ht : Six W4 (X + 1) t nilV) :
    let W6 := (W4.setCell ⟨X + 1, 5, none⟩ (.slice (some ⟨X + 4, 0, none⟩) K K)).alloc (.cells (madeCells #[.int .i64 0] K) 3)
    w.grownBy W6 none ∧ W6.heap.size = X + 4 + 1 ∧ Six W6 X Tm.zero nilV ∧ Six W6 (X + 1) t (.slice (some ⟨X + 4, 0, none⟩) K K) ∧ PV W6 (X + 4) K (fun _ => .int .i64 0) := by
  have z5 : (W4.setCell ⟨X + 1, 5, none⟩ (.slice (some ⟨X + 4, 0, none⟩) K K)).heap.size = X + 4 := by simpa [World.setCell] using z
  have g5 : W4.grownBy (W4.setCell ⟨X + 1, 5, none⟩ (.slice (some ⟨X + 4, 0, none⟩) K K)) (some (X + 1)) := grown_set W4 ⟨X + 1, 5, none⟩ _
  have g6 : (W4.setCell ⟨X + 1, 5, none⟩ (.slice (some ⟨X + 4, 0, none⟩) K K)).grownBy ((W4.setCell ⟨X + 1, 5, none⟩ (.slice (some ⟨X + 4, 0, none⟩) K K)).alloc (.cells (madeCells #[.int .i64 0] K) 3)) none := World.grownBy_alloc _ _ _
  refine ⟨grown_trans (grown_off g g5 (by omega)) g6, ?_, (hr.grown g5 (by intro e; injection e; omega)).grown g6 (by simp), ?_, ?_⟩
  · simp [z5]
  · obtain ⟨⟨h0, h1, h2, h3, h4, h5⟩, k0, k1, k2, k3, k4, k5⟩ := ht
    have d (j : Nat) (e : 5 ≠ j) := off_ne (X + 1) e
    refine Six.grown (w := W4.setCell ⟨X + 1, 5, none⟩ (.slice (some ⟨X + 4, 0, none⟩) K K)) ⟨⟨set_miss _ (d 0 (by omega)) h0, set_miss _ (d 1 (by omega)) h1, set_miss _ (d 2 (by omega)) h2, set_miss _ (d 3 (by omega)) h3, set_miss _ (d 4 (by omega)) h4, set_hit _ h5⟩, ?_⟩ g6 (by simp)
    simp only [World.frozen?_setCell]; exact ⟨k0, k1, k2, k3, k4, k5⟩
  · have := PV.made (W4.setCell ⟨X + 1, 5, none⟩ (.slice (some ⟨X + 4, 0, none⟩) K K)) (.int .i64 0) K 3
    rw [z5] at this
    exact this
theorem PV.grown {w w' : World} {B n : Nat} {f : Nat → Value} (h : PV w B n f) (g : w.grownBy w' none) (hB : B < w.heap.size) : PV w' B n f :=
  ⟨fun p hp => g.cell (h.1 p hp) (by simp), fun p => by rw [World.frozen?_of_block (g.block B hB (by simp))]; exact h.2 p⟩
theorem IR.apart {w w' : World} {Y X n : Nat} {vs : List Int} (h : IR w (some ⟨Y, 0, none⟩) n vs) (g : w.grownBy w' (some X)) (hne : Y ≠ X) : IR w' (some ⟨Y, 0, none⟩) n vs :=
  ⟨h.1, fun i hi => by
    obtain ⟨b, off, e, hc⟩ := h.2 i hi
    injection e with e
    injection e with e1 e2
    subst e1; subst e2
    exact ⟨Y, 0, rfl, g.cell hc (by intro e; injection e with e; exact hne e)⟩⟩
theorem rt_row {W8 W7 : World} {Y K : Nat} {g : Nat → Int} (h : PV W7 Y K (fun _ => .int .i64 0)) (hW : W8 = put W7 (fun _ => Y) (fun i => i) g K) : IR W8 (some ⟨Y, 0, none⟩) K (lst g K) := by
  refine ⟨lst_len _ _, fun i hi => ⟨Y, 0, rfl, ?_⟩⟩
  rw [hW, Nat.zero_add, put_at (n := K) W7 (fun _ => Y) (fun i => i) g (fun i => by
    by_cases hi : i < K
    · exact ⟨_, fun _ => h.1 i hi⟩
    · exact ⟨.int .i64 0, fun h => absurd h hi⟩) (fun i j hij _ => off_ne Y (by omega)) K (Nat.le_refl _) i hi]
  simp [lst, hi]
theorem read_all {l : List UInt8} {f g : Nat → Int} {pos pos2 K : Nat} (h : RdS l 0 f 6 pos) (k : RdS l pos g K pos2) (h5 : f 5 = (K : Int)) (hl : pos2 = l.length) :
    Tm.Tg.fits ⟨f 0, f 1, f 2, f 3, f 4, lst g K⟩ ∧ l = Tm.body (Tm.Tg.mk (f 0) (f 1) (f 2) (f 3) (f 4) (lst g K)).nums := by
  refine ⟨⟨h.1 0 (by omega), h.1 1 (by omega), h.1 2 (by omega), h.1 3 (by omega), h.1 4 (by omega), fun v hv => ?_⟩, ?_⟩
  · obtain ⟨i, hi, rfl⟩ := lst_mem hv; exact k.1 i hi
  · have h2 := h.2.2
    rw [List.drop_zero, k.2.2, hl, List.drop_length, List.append_nil, lst6, h5, ← Tm.body_append] at h2
    rw [h2]
    show _ = Tm.body (f 0 :: f 1 :: f 2 :: f 3 :: f 4 :: ((lst g K).length : Int) :: lst g K)
    rw [lst_len]; rfl
theorem read_more {l : List UInt8} {f g : Nat → Int} {pos pos2 K : Nat} (h : RdS l 0 f 6 pos) (k : RdS l pos g K pos2) (h5 : f 5 = (K : Int)) (hl : pos2 ≠ l.length) (hle : pos2 ≤ l.length) : ∀ u : Tm.Tg, u.ok = true → l ≠ Tm.body u.nums := by
  intro u hu e
  obtain ⟨h1, h2⟩ := first_is h hu e
  have hK : u.vs.length = K := by
    rw [lst6] at h1
    unfold six6 at h1
    simp only [List.cons.injEq, and_true] at h1
    omega
  have h3 := k.2.2
  rw [h2] at h3
  obtain ⟨_, e2⟩ := Tm.body_prefix (r := []) (fun x hx => Tm.Tg.nums_ok hu x (by rw [nums_six]; exact List.mem_append_right _ hx)) (fun x hx => by obtain ⟨i, hi, rfl⟩ := lst_mem hx; exact k.1 i hi) (by rw [lst_len, hK]) (by rw [List.append_nil]; exact h3)
  have := congrArg List.length e2
  rw [List.length_drop, List.length_nil] at this
  omega
theorem read_less {l : List UInt8} {f : Nat → Int} {pos K : Nat} (h : RdS l 0 f 6 pos) (h5 : f 5 = (K : Int)) (k : ∀ ns r, ns.length = K → (∀ x ∈ ns, Tm.I64 x) → l.drop pos ≠ Tm.body ns ++ r) : ∀ u : Tm.Tg, u.ok = true → l ≠ Tm.body u.nums := by
  intro u hu e
  obtain ⟨h1, h2⟩ := first_is h hu e
  have hK : u.vs.length = K := by
    rw [lst6] at h1
    unfold six6 at h1
    simp only [List.cons.injEq, and_true] at h1
    omega
  exact k u.vs [] hK (fun x hx => Tm.Tg.nums_ok hu x (by rw [nums_six]; exact List.mem_append_right _ hx)) (by rw [List.append_nil]; exact h2)
set_option maxHeartbeats 1000000 in
theorem read_any (A : Option Addr) (n c : Nat) (l : List UInt8) (w : World) (h : RB w A n l) (hc : n ≤ c) (hc2 : c ≤ 9223372036854775807) (hn : n ≤ 1000000) :
    Calls Tryz.prog 82 #[.slice A n c] w (ReadEnd l w) := by
  have HB := Hi h
  go_enter Tryz.func82, Tryz.ntmps82
  go_wp2_with fail
  refine (head_any (w.heap.size + 1) (w.heap.size + 1 + 1) _).mono ?_
  rintro e W3 ⟨rfl, q, hW⟩
  have S3 : Hid (Rs w W3 w.heap.size) := by rw [hW]; exact rs_start w q
  clear hW
  obtain ⟨X, hX⟩ : ∃ X, w.heap.size = X := ⟨_, rfl⟩
  rw [hX] at S3 ⊢
  go_wp2_with fail
  refine (readinto_any (X + 1 + 1 + 1) 6 6 (hb X) ho A n c l 0 W3 S3.out.row S3.out.slots (HB.out.grown S3.out.gr) hc hc2 hn ?_ (by omega) (by omega)).mono ?_
  · intro h0 b off e i _ e2
    have := rb_lt HB.out h0 b off e
    have := hb_low X i
    omega
  rintro e W4 ⟨q4, er, j, f, rfl, hj, hW4, HR⟩
  have G4 : Hid (w.grownBy W4 none) := by rw [hW4]; exact put_grown S3.out.gr _ _ _ _ (fun i _ => by have := hb_low X i; omega)
  have X4 : Hid (Six W4 X Tm.zero nilV) := by rw [hW4]; exact S3.out.res.put _ _ _ _ (fun i _ => by have := hb_low X i; omega)
  by_cases her : er = 0
  · subst her
    obtain ⟨rfl, pos, rfl, hD⟩ : j = 6 ∧ ∃ pos : Nat, q4 = pos ∧ RdS l 0 f 6 pos := by
      rcases HR with ⟨_, h1, h2⟩ | ⟨h0, _⟩
      · exact ⟨h1, h2⟩
      · exact absurd rfl h0
    have HD := Hi hD
    obtain ⟨T4, c4, z4⟩ := S3.out.first f
    rw [← hW4] at T4 c4 z4
    have T4 := Hi T4
    clear HR hW4 S3 hD
    by_cases hcount : Tm.upTo (f 5) 16 = true
    · obtain ⟨K, hK5, hK16⟩ : ∃ K : Nat, f 5 = (K : Int) ∧ K ≤ 16 := by
        have := Tm.upTo_iff.1 hcount
        exact ⟨(f 5).toNat, by omega, by omega⟩
      rw [hK5] at c4
      have HK := Hi hK5
      have HU : Hid (Tm.upTo (K : Int) 16 = true) := by rw [← hK5]; exact hcount
      clear hcount hK5
      have hmk := run_make_row' (P := Tryz.prog) 26 3 (.int .i64 0) 8 Tryz.underlying26 info3 rfl .i64 .i64 K (by omega) (by omega)
      obtain ⟨⟨d0, d1, d2, d3, d4, d5⟩, e0, e1, e2, e3, e4, e5⟩ := T4.out
      dsimp only at d0 d1 d2 d3 d4 d5
      unfold nilV at d5
      go_wp2_with fail
      refine (upto_at _ HU.out).mono ?_
      rintro e w5 ⟨rfl, rfl⟩
      go_wp2_with fail
      obtain ⟨G6, z6, X6, T6, V6⟩ := rt_made (K := K) hX G4.out z4 X4.out T4.out
      generalize ((W4.setCell ⟨X + 1, 5, none⟩ (.slice (some ⟨X + 4, 0, none⟩) K K)).alloc (.cells (madeCells #[.int .i64 0] K) 3)) = W6 at *
      clear hmk d0 d1 d2 d3 d4 d5 e0 e1 e2 e3 e4 e5 c4 z4 T4 X4 G4
      have HP := pointers_any (X + 4) K K W6 (by omega)
      rw [z6] at HP
      refine HP.mono ?_
      clear HP
      rintro e W7 ⟨rfl, g7, P7⟩
      have G7 := Hi (grown_trans G6 g7)
      have X7 := Hi (X6.grown g7 (by simp))
      have T7 := Hi (T6.grown g7 (by simp))
      have V7 := Hi (V6.grown g7 (by omega))
      have P7 := Hi P7
      clear G6 X6 T6 V6 g7 z6
      go_wp2_with fail
      have hpos : pos ≤ n := by have := HD.out.pos_le (by omega); rw [HB.out.1] at this; exact this
      refine (readinto_any (X + 4 + 1) K K (fun _ => X + 4) (fun i => i) A n c l pos W7 (fun i hi => ?_) (fun i hi => ⟨by omega, ⟨_, V7.out.1 i hi⟩, V7.out.2 i⟩) (HB.out.grown G7.out) hc hc2 hn ?_ hpos (by omega)).mono ?_
      · have := P7.out.1 i hi
        unfold ptrs at this
        rw [if_pos hi] at this
        exact this
      · intro h0 b off e i _ e2
        have := rb_lt HB.out h0 b off e
        omega
      rintro e W8 ⟨q8, er, j, g, rfl, hj8, hW8, HR⟩
      have G8 : Hid (w.grownBy W8 none) := by rw [hW8]; exact put_grown G7.out _ _ _ _ (fun i _ => by show _ ≤ X + 4; omega)
      have X8 : Hid (Six W8 X Tm.zero nilV) := by rw [hW8]; exact X7.out.put _ _ _ _ (fun i _ => by omega)
      have T8 : Hid (Six W8 (X + 1) ⟨f 0, f 1, f 2, f 3, f 4, []⟩ (.slice (some ⟨X + 4, 0, none⟩) K K)) := by rw [hW8]; exact T7.out.put _ _ _ _ (fun i _ => by omega)
      obtain ⟨⟨a0, a1, a2, a3, a4, a5⟩, b0, b1, b2, b3, b4, b5⟩ := X8.out
      dsimp only [Tm.zero] at a0 a1 a2 a3 a4 a5
      unfold nilV at a5
      obtain ⟨⟨d0, d1, d2, d3, d4, d5⟩, e0, e1, e2, e3, e4, e5⟩ := T8.out
      dsimp only at d0 d1 d2 d3 d4 d5
      obtain ⟨⟨q0, q1, q2, q3, q4, q5⟩, _⟩ := X8.out.store ⟨f 0, f 1, f 2, f 3, f 4, []⟩ (.slice (some ⟨X + 4, 0, none⟩) K K)
      unfold six at q0 q1 q2 q3 q4 q5
      dsimp only at q0 q1 q2 q3 q4 q5
      by_cases her : er = 0
      · subst her
        obtain ⟨rfl, pos2, rfl, hD2⟩ : j = K ∧ ∃ pos2 : Nat, q8 = pos2 ∧ RdS l pos g K pos2 := by
          rcases HR with ⟨_, h1, h2⟩ | ⟨h0, _⟩
          · exact ⟨h1, h2⟩
          · exact absurd rfl h0
        have hp2 := hD2.pos_le (by rw [HB.out.1]; exact hpos)
        rw [HB.out.1] at hp2
        have HI := Hi (rt_row V7.out hW8)
        have HD2 := Hi hD2
        clear HR hW8 hD2 T8 T7 V7 P7
        by_cases hend : pos2 = n
        · obtain ⟨hfit, hl⟩ := read_all HD.out HD2.out HK.out (by rw [HB.out.1]; exact hend)
          have HF := Hi hfit
          have HL := Hi hl
          clear hfit hl
          go_wp2
          refine bodyPost_ret (v := .tuple #[tv ⟨f 0, f 1, f 2, f 3, f 4, lst g j⟩ (.slice (some ⟨X + 4, 0, none⟩) j j), .bool true]) (by simp [results, Tryz.results82, go_sem, q0, q1, q2, q3, q4, q5, tv]) rfl ⟨grown_off G8.out (six_grown _ X ⟨f 0, f 1, f 2, f 3, f 4, []⟩ _) (by omega), .inl ⟨_, _, _, _, rfl, by omega, ?_, by omega, HF.out, HL.out, rfl⟩⟩
          exact IR.apart HI.out (six_grown _ X ⟨f 0, f 1, f 2, f 3, f 4, []⟩ _) (by omega)
        · have hend' : ¬ (pos2 : Int) = (n : Int) := by omega
          have HNO := Hi (read_more HD.out HD2.out HK.out (by rw [HB.out.1]; exact hend) (by rw [HB.out.1]; exact hp2))
          go_wp2
          refine bodyPost_ret (v := .tuple #[tv ⟨f 0, f 1, f 2, f 3, f 4, []⟩ (.slice (some ⟨X + 4, 0, none⟩) j j), .bool false]) (by simp [results, Tryz.results82, go_sem, q0, q1, q2, q3, q4, q5, tv, hend']) rfl ⟨grown_off G8.out (six_grown _ X ⟨f 0, f 1, f 2, f 3, f 4, []⟩ _) (by omega), .inr ⟨_, _, _, _, rfl, HNO.out⟩⟩
      · have HNO : Hid (∀ u : Tm.Tg, u.ok = true → l ≠ Tm.body u.nums) := by
          rcases HR with ⟨h0, _⟩ | ⟨_, h1⟩
          · exact absurd h0 her
          · exact read_less HD.out HK.out h1
        clear HR hW8 T8 T7 V7 P7
        go_wp2
        refine bodyPost_ret (v := .tuple #[tv ⟨f 0, f 1, f 2, f 3, f 4, []⟩ (.slice (some ⟨X + 4, 0, none⟩) K K), .bool false]) (by simp [results, Tryz.results82, go_sem, q0, q1, q2, q3, q4, q5, tv]) rfl ⟨grown_off G8.out (six_grown _ X ⟨f 0, f 1, f 2, f 3, f 4, []⟩ _) (by omega), .inr ⟨_, _, _, _, rfl, HNO.out⟩⟩
    · have hcount := eq_false_of_ne_true hcount
      have HNO := Hi (no_count HD.out hcount)
      have HU := Hi hcount
      clear hcount
      obtain ⟨⟨a0, a1, a2, a3, a4, a5⟩, b0, b1, b2, b3, b4, b5⟩ := X4.out
      dsimp only [Tm.zero] at a0 a1 a2 a3 a4 a5
      unfold nilV at a5
      go_wp2_with fail
      refine (upto_at _ HU.out).mono ?_
      rintro e w5 ⟨rfl, rfl⟩
      go_wp2
      have X5 := X4.out.store Tm.zero nilV
      obtain ⟨⟨q0, q1, q2, q3, q4, q5⟩, _⟩ := X5
      unfold six nilV at q0 q1 q2 q3 q4 q5
      dsimp only [Tm.zero] at q0 q1 q2 q3 q4 q5
      refine bodyPost_ret (v := .tuple #[tv Tm.zero nilV, .bool false]) (by simp [results, Tryz.results82, go_sem, q0, q1, q2, q3, q4, q5, tv, Tm.zero, nilV]) rfl ⟨grown_off G4.out (six_grown _ X Tm.zero nilV) (by omega), .inr ⟨Tm.zero, none, 0, 0, rfl, HNO.out⟩⟩
  · have HNO : Hid (∀ u : Tm.Tg, u.ok = true → l ≠ Tm.body u.nums) := by
      rcases HR with ⟨h0, _⟩ | ⟨_, h1⟩
      · exact absurd h0 her
      · exact no_first h1
    clear HR hW4 S3
    obtain ⟨⟨a0, a1, a2, a3, a4, a5⟩, b0, b1, b2, b3, b4, b5⟩ := X4.out
    dsimp only [Tm.zero] at a0 a1 a2 a3 a4 a5
    unfold nilV at a5
    go_wp2
    have X5 := X4.out.store Tm.zero nilV
    obtain ⟨⟨q0, q1, q2, q3, q4, q5⟩, _⟩ := X5
    unfold six nilV at q0 q1 q2 q3 q4 q5
    dsimp only [Tm.zero] at q0 q1 q2 q3 q4 q5
    refine bodyPost_ret (v := .tuple #[tv Tm.zero nilV, .bool false]) (by simp [results, Tryz.results82, go_sem, q0, q1, q2, q3, q4, q5, tv, Tm.zero, nilV]) rfl ⟨grown_off G4.out (six_grown _ X Tm.zero nilV) (by omega), .inr ⟨Tm.zero, none, 0, 0, rfl, HNO.out⟩⟩
end Go.Proofs.YticmoaebegahgaaGreatDoor.Wr
namespace Go.Proofs.YticmoaebegahgaaGreatDoor.Wr
open Go.ChangeShapes Go.WideShapes Go.ChangeAt Go.RowKit
theorem unst_len {l : List UInt8} (h : (Wm.unst l).2 = 0) : (Wm.unst l).1.length ≤ l.length := by
  have h1 := congrArg List.length (Wm.unst_ok h)
  have h2 := (Wm.esc_len (Wm.unst l).1).1
  rw [Wm.frame_len] at h1
  omega
theorem read_bad {y : List UInt8} {t : Tm.Tg} (h : y = Tm.body t.nums) (hf : t.fits) (hl : t.vs.length ≤ 16) (hok : t.ok = false) : ∀ u : Tm.Tg, u.ok = true → y ≠ Tm.body u.nums := by
  intro u hu e
  have := Tm.Tg.nums_inj (Tm.body_inj (Tm.Tg.nums_fit hf hl) (Tm.Tg.nums_ok hu) (h.symm.trans e))
  subst this
  rw [hok] at hu
  cases hu
def DecX (l : List UInt8) (w : World) (e : Ending) (w' : World) : Prop :=
  w.grownBy w' none ∧ ∃ t V m cv er, e = .returned (.tuple #[tv t (.slice V m cv), .int .i64 er]) ∧ IR w' V m t.vs ∧ m ≤ 16 ∧ Tm.Dc l t er ∧ (m ≤ cv ∧ cv ≤ 16) ∧ ∀ b, V.map (·.block) = some b → w.heap.size ≤ b
theorem decX_bad {l : List UInt8} {w w' : World} {er : Int} (g : w.grownBy w' none) (h : Tm.Dc l Tm.zero er) : DecX l w (.returned (.tuple #[tv Tm.zero nilV, .int .i64 er])) w' :=
  ⟨g, Tm.zero, none, 0, 0, er, rfl, IR.nil _ _, by omega, h, ⟨by omega, by omega⟩, fun b hb => by cases hb⟩
set_option maxHeartbeats 1000000 in
theorem decodeX_any (A : Option Addr) (n c : Nat) (l : List UInt8) (w : World) (h : RB w A n l) (hc : n ≤ c) (hc2 : c ≤ 9223372036854775807) (hn : n ≤ 1000000) (ht : Tabled w) :
    Calls Tryz.prog 63 #[.slice A n c] w (DecX l w) := by
  have HL := Hi h.1
  have HB := Hi h
  have HT := Hi (fun w' (g : w.grownBy w' none) => ht.grown g)
  by_cases hlim : 400 < n
  · have HD := Hi (Tm.Dc.limit (l := l) (by rw [HL.out]; exact hlim))
    have hlim' : (400 : Int) < (n : Int) := by omega
    go_enter Tryz.func63, Tryz.ntmps63
    go_wp2
    refine bodyPost_ret (v := .tuple #[tv Tm.zero nilV, .int .i64 4]) (by simp [results, Tryz.results63, go_sem, tv, Tm.zero, nilV]) rfl (decX_bad (World.grownBy_alloc _ _ _) HD.out)
  · have hlen : l.length ≤ 400 := by rw [HL.out]; omega
    have hlim' : ¬ (400 : Int) < (n : Int) := by omega
    go_enter Tryz.func63, Tryz.ntmps63
    go_wp2_with fail
    obtain ⟨X, hX⟩ : ∃ X, w.heap.size = X := ⟨_, rfl⟩
    have X1 : Hid (Six (w.alloc (tcells Tm.zero nilV)) X Tm.zero nilV) := by rw [← hX]; exact Six.made w _ _
    have G1 : Hid (w.grownBy (w.alloc (tcells Tm.zero nilV)) none) := World.grownBy_alloc _ _ _
    rw [hX]
    unfold tcells nilV at X1 G1
    dsimp only [Tm.zero] at X1 G1
    generalize (w.alloc (Obj.cells #[.int .i64 0, .int .i64 0, .int .i64 0, .int .i64 0, .int .i64 0, .slice none 0 0] 28)) = W1 at *
    refine (unstuff_any A n c l W1 (HB.out.grown G1.out) hn hc hc2).mono ?_
    rintro e W2 ⟨A2, n2, c2, rfl, hm2⟩
    have G2 := Hi (grown_trans G1.out hm2.gr)
    have X2 : Hid (Six W2 X Tm.zero nilV) := X1.out.grown hm2.gr (by simp)
    have R2 := Hi hm2.rb
    obtain ⟨hc2a, hc2b, _⟩ := hm2.shape
    clear X1 G1 hm2
    obtain ⟨⟨x, er⟩, hU⟩ : ∃ r, Wm.unst l = r := ⟨_, rfl⟩
    rw [hU] at R2 ⊢
    dsimp only at R2 ⊢
    obtain ⟨⟨a0, a1, a2, a3, a4, a5⟩, b0, b1, b2, b3, b4, b5⟩ := X2.out
    by_cases her : er = 0
    · subst her
      have hx : x.length ≤ l.length := by have := unst_len (l := l) (by rw [hU]); rw [hU] at this; exact this
      have hn2 : n2 ≤ 400 := by have := R2.out.1; omega
      have hxn := R2.out.1
      by_cases h4 : n2 < 4
      · have HD := Hi (Tm.Dc.short x hlen hU (by omega))
        clear hU
        go_wp2_with fail
        refine (checked_short A2 n2 c2 W2 h4).mono ?_
        rintro e W3 ⟨rfl, g3⟩
        have G3 := Hi (grown_trans G2.out g3)
        have X3 := Hi (X2.out.grown g3 (by simp))
        clear a0 a1 a2 a3 a4 a5 b0 b1 b2 b3 b4 b5 g3
        obtain ⟨⟨a0, a1, a2, a3, a4, a5⟩, b0, b1, b2, b3, b4, b5⟩ := X3.out
        go_wp2
        obtain ⟨⟨q0, q1, q2, q3, q4, q5⟩, _⟩ := X3.out.store Tm.zero nilV
        unfold six nilV at q0 q1 q2 q3 q4 q5
        dsimp only [Tm.zero] at q0 q1 q2 q3 q4 q5
        refine bodyPost_ret (v := .tuple #[tv Tm.zero nilV, .int .i64 2]) (by simp [results, Tryz.results63, go_sem, q0, q1, q2, q3, q4, q5, tv, Tm.zero, nilV]) rfl (decX_bad (grown_off G3.out (six_grown _ X Tm.zero nilV) (by omega)) HD.out)
      · obtain ⟨m, rfl⟩ : ∃ m, n2 = m + 4 := ⟨n2 - 4, by omega⟩
        obtain ⟨y, z, rfl, hz⟩ : ∃ y z, x = y ++ z ∧ z.length = 4 := ⟨x.take m, x.drop m, (List.take_append_drop m x).symm, by rw [List.length_drop]; omega⟩
        by_cases hs : z = Tm.four (Wm.crc y)
        · subst hs
          have hxy : y ++ Tm.four (Wm.crc y) = Tm.shut y := rfl
          rw [hxy] at hU
          have hy : y.length = m := by rw [List.length_append, Tm.four_len] at hxn; omega
          have HY : Hid (RB W2 A2 m y) := by
            have := R2.out.take m (by omega)
            rw [← hy, List.take_left] at this
            rw [← hy]; exact this
          go_wp2_with fail
          refine (checked_good A2 m c2 y (Tm.four (Wm.crc y)) W2 R2.out (HT.out _ G2.out) (by omega) hc2a hc2b rfl rfl).mono ?_
          rintro e W3 ⟨rfl, g3⟩
          have G3 := Hi (grown_trans G2.out g3)
          have X3 := Hi (X2.out.grown g3 (by simp))
          have HY := Hi (HY.out.grown g3)
          clear a0 a1 a2 a3 a4 a5 b0 b1 b2 b3 b4 b5 g3 X2 R2
          go_wp2_with fail
          refine (read_any A2 m c2 y W3 HY.out (by omega) hc2b (by omega)).mono ?_
          rintro e W4 ⟨g4, hcase⟩
          have G4 := Hi (grown_trans G3.out g4)
          have X4 := Hi (X3.out.grown g4 (by simp))
          have hXlt : X < W4.heap.size := World.block_lt_of_cell? _ _ X4.out.1.1
          have hXlt3 : X < W3.heap.size := World.block_lt_of_cell? _ _ X3.out.1.1
          clear X3 g4
          rcases hcase with ⟨t, Y, m5, cv5, rfl, hY, hi, hm5, hf, hyt, hcv⟩ | ⟨t, V, m5, cv5, rfl, hno⟩
          · have HCV := Hi hcv
            clear hcv
            have HI := Hi hi
            have hYX : Y ≠ X := by omega
            obtain ⟨V, hV⟩ : ∃ V : Option Addr, V = some ⟨Y, 0, none⟩ := ⟨_, rfl⟩
            rw [← hV] at HI hi ⊢
            have HV := Hi hV
            clear hV
            have G5 := Hi (grown_trans G4.out (World.grownBy_alloc W4 (tcells t (.slice V m5 cv5)) none))
            have gB : W4.grownBy (W4.alloc (tcells t (.slice V m5 cv5))) none := World.grownBy_alloc _ _ _
            by_cases hok : t.ok = true
            · have HD := Hi (Tm.Dc.good t hlen (by rw [hU, hyt]; rfl) hok)
              have HO := Hi hok
              clear hU hyt hf hi hok
              obtain ⟨ts, te, tq, tt, tk, vs⟩ := t
              unfold tv tcells at *
              dsimp only at *
              go_wp2_with fail
              refine (valid_at (t := ⟨ts, te, tq, tt, tk, vs⟩) (HI.out.grown gB) (by omega) HO.out).mono ?_
              rintro e W6 ⟨rfl, g6⟩
              have G6 := Hi (grown_trans G5.out g6)
              obtain ⟨c0, c1, c2', c3, c4, c5⟩ := boxed_at (t := ⟨ts, te, tq, tt, tk, vs⟩) (V := .slice V m5 cv5) g6
              have X6 := Hi ((X4.out.grown gB (by simp)).grown g6 (by simp))
              have I6 : Hid (IR (six W6 X ⟨ts, te, tq, tt, tk, vs⟩ (.slice V m5 cv5)) V m5 vs) := by have := HI.out.grown (grown_trans gB g6); rw [HV.out] at this ⊢; exact this.apart (six_grown _ X _ _) hYX
              clear g6 gB X4 G5 HI
              obtain ⟨⟨a0, a1, a2, a3, a4, a5⟩, b0, b1, b2, b3, b4, b5⟩ := X6.out
              go_wp2
              obtain ⟨⟨q0, q1, q2, q3, q4, q5⟩, _⟩ := X6.out.store ⟨ts, te, tq, tt, tk, vs⟩ (.slice V m5 cv5)
              unfold six at q0 q1 q2 q3 q4 q5
              try dsimp only [Tm.zero] at q0 q1 q2 q3 q4 q5
              refine bodyPost_ret (v := .tuple #[tv ⟨ts, te, tq, tt, tk, vs⟩ (.slice V m5 cv5), .int .i64 0]) (by simp [results, Tryz.results63, go_sem, q0, q1, q2, q3, q4, q5, tv]) rfl ⟨grown_off G6.out (six_grown _ X ⟨ts, te, tq, tt, tk, vs⟩ (.slice V m5 cv5)) (by omega), ⟨ts, te, tq, tt, tk, vs⟩, V, m5, cv5, 0, rfl, I6.out, hm5, HD.out, ⟨by have := HCV.out; omega, by have := HCV.out; omega⟩, fun b hb => by rw [HV.out] at hb; injection hb with hb; have h3 := G3.out.size; have hb : Y = b := hb; omega⟩
            · have hok := eq_false_of_ne_true hok
              have HD := Hi (Tm.Dc.form y hlen hU (read_bad hyt hf (by rw [hi.1]; exact hm5) hok))
              have HO := Hi hok
              clear hU hyt hf hi hok
              obtain ⟨ts, te, tq, tt, tk, vs⟩ := t
              unfold tv tcells at *
              dsimp only at *
              go_wp2_with fail
              refine (valid_at (t := ⟨ts, te, tq, tt, tk, vs⟩) (HI.out.grown gB) (by omega) HO.out).mono ?_
              rintro e W6 ⟨rfl, g6⟩
              have G6 := Hi (grown_trans G5.out g6)
              have X6 := Hi ((X4.out.grown gB (by simp)).grown g6 (by simp))
              clear g6 gB X4 G5 HI
              obtain ⟨⟨a0, a1, a2, a3, a4, a5⟩, b0, b1, b2, b3, b4, b5⟩ := X6.out
              go_wp2
              obtain ⟨⟨q0, q1, q2, q3, q4, q5⟩, _⟩ := X6.out.store Tm.zero nilV
              unfold six nilV at q0 q1 q2 q3 q4 q5
              dsimp only [Tm.zero] at q0 q1 q2 q3 q4 q5
              refine bodyPost_ret (v := .tuple #[tv Tm.zero nilV, .int .i64 3]) (by simp [results, Tryz.results63, go_sem, q0, q1, q2, q3, q4, q5, tv, Tm.zero, nilV]) rfl (decX_bad (grown_off G6.out (six_grown _ X Tm.zero nilV) (by omega)) HD.out)
          · have HD := Hi (Tm.Dc.form y hlen hU hno)
            clear hU hno
            obtain ⟨ts, te, tq, tt, tk, vs⟩ := t
            unfold tv at *
            dsimp only at *
            obtain ⟨⟨a0, a1, a2, a3, a4, a5⟩, b0, b1, b2, b3, b4, b5⟩ := X4.out
            go_wp2
            obtain ⟨⟨q0, q1, q2, q3, q4, q5⟩, _⟩ := (X4.out.store Tm.zero nilV).grown (World.grownBy_alloc _ (tcells ⟨ts, te, tq, tt, tk, vs⟩ (.slice V m5 cv5)) none) (by simp)
            unfold six nilV tcells at q0 q1 q2 q3 q4 q5
            dsimp only [Tm.zero] at q0 q1 q2 q3 q4 q5
            refine bodyPost_ret (v := .tuple #[tv Tm.zero nilV, .int .i64 3]) (by simp [results, Tryz.results63, go_sem, q0, q1, q2, q3, q4, q5, tv, Tm.zero, nilV]) rfl (decX_bad (grown_trans (grown_off G4.out (six_grown _ X Tm.zero nilV) (by omega)) (World.grownBy_alloc _ (tcells ⟨ts, te, tq, tt, tk, vs⟩ (.slice V m5 cv5)) none)) HD.out)
        · have HD := Hi (Tm.Dc.sum y z hlen hU hz hs)
          clear hU
          go_wp2_with fail
          refine (checked_sum A2 m c2 y z W2 R2.out (HT.out _ G2.out) (by omega) hc2a hc2b hz hs).mono ?_
          rintro e W3 ⟨rfl, g3⟩
          have G3 := Hi (grown_trans G2.out g3)
          have X3 := Hi (X2.out.grown g3 (by simp))
          clear a0 a1 a2 a3 a4 a5 b0 b1 b2 b3 b4 b5 g3
          obtain ⟨⟨a0, a1, a2, a3, a4, a5⟩, b0, b1, b2, b3, b4, b5⟩ := X3.out
          go_wp2
          obtain ⟨⟨q0, q1, q2, q3, q4, q5⟩, _⟩ := X3.out.store Tm.zero nilV
          unfold six nilV at q0 q1 q2 q3 q4 q5
          dsimp only [Tm.zero] at q0 q1 q2 q3 q4 q5
          refine bodyPost_ret (v := .tuple #[tv Tm.zero nilV, .int .i64 5]) (by simp [results, Tryz.results63, go_sem, q0, q1, q2, q3, q4, q5, tv, Tm.zero, nilV]) rfl (decX_bad (grown_off G3.out (six_grown _ X Tm.zero nilV) (by omega)) HD.out)
    · have HD := Hi (Tm.Dc.fr er hlen (by rw [hU]) her)
      clear hU
      go_wp2
      obtain ⟨⟨q0, q1, q2, q3, q4, q5⟩, _⟩ := X2.out.store Tm.zero nilV
      unfold six nilV at q0 q1 q2 q3 q4 q5
      dsimp only [Tm.zero] at q0 q1 q2 q3 q4 q5
      refine bodyPost_ret (v := .tuple #[tv Tm.zero nilV, .int .i64 er]) (by simp [results, Tryz.results63, go_sem, q0, q1, q2, q3, q4, q5, tv, Tm.zero, nilV]) rfl (decX_bad (grown_off G2.out (six_grown _ X Tm.zero nilV) (by omega)) HD.out)
end Go.Proofs.YticmoaebegahgaaGreatDoor.Wr
