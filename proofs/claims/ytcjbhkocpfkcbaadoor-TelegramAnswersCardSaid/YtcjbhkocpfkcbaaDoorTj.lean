/- Contract of checked. -/
import Derived.Test.YtcjbhkocpfkcbaaDoorTi
import Derived.Deep.RegionHeld3
namespace Go.Proofs.YtcjbhkocpfkcbaaDoor.Wr
open Go.ChangeShapes Go.WideShapes Go.ChangeAt Go.RowKit

theorem checked_short (A : Option Addr) (n c : Nat) (w : World) (hn : n < 4) :
    Calls Tryd.prog 39 #[.slice A n c] w (Ret (.tuple #[.slice none 0 0, .int .i64 2]) w) := by
  go_enter Tryd.func39, Tryd.ntmps39
  go_wp2
  go_ret2
  exact ⟨rfl, grown_refl _ _⟩

set_option maxHeartbeats 1000000 in
theorem checked_sum (A : Option Addr) (m c : Nat) (y z : List UInt8) (w : World) (h : RB w A (m + 4) (y ++ z)) (ht : Tabled w) (hm : m ≤ 1000000) (hc : m + 4 ≤ c) (_hc2 : c ≤ 9223372036854775807) (hz : z.length = 4) (hne : z ≠ Tm.four (Wm.crc y)) :
    Calls Tryd.prog 39 #[.slice A (m + 4) c] w (Ret (.tuple #[.slice none 0 0, .int .i64 5]) w) := by
  have hy : y.length = m := by have := h.1; rw [List.length_append] at this; omega
  obtain ⟨B, O, rfl, _⟩ := h.2 0 (by omega)
  have HY : Hid (RB w (some ⟨B, O, none⟩) m y) := by
    have := h.take m (by omega)
    rw [← hy, List.take_left] at this
    rw [← hy]; exact this
  have HZ : Hid (RB w (some ⟨B, O + m, none⟩) 4 z) := by
    have := h.drop m 4 rfl
    rw [← hy, List.drop_left] at this
    rw [← hy]; exact this
  have HT := Lib.hid (fun w' (g : w.grownBy w' none) => ht.grown g)
  have HE := Lib.hid (decide_eq_false hne)
  clear h ht hne
  have i1 : (m : Int) ≤ (m : Int) + 4 := by omega
  have i2 : m ≤ c := by omega
  have i3 : ¬ c = m := by omega
  go_enter Tryd.func39, Tryd.ntmps39
  go_wp2_with fail
  refine wp_region_held_drew (S := (fun w' => w.grownBy w' none)) (by kernel_rfl) ?_ (fun hHeld => ?_)
  · exact grown_drew w none
  try simp only [Act.put, List.setIfInBounds_toArray, List.set_cons_zero, List.set_cons_succ]
  refine wpAnyH_take (i := 0) (oi := { dst := some 10, op := Op.move (Operand.tmp 0), type := 25, pos := "telegram.go:88", after := #[], guard := none }) (v := ?_) rfl (by kernel_rfl) (by kernel_rfl) (by kernel_rfl) (fun _ _ _ h => h) (Or.inl ⟨by rfl, ?_⟩) (by assumption) ?_
  rotate_left 1
  · intro w hSw; skip; first | (go_simp; done) | (go_simp; with_reducible rfl)
  try simp only [Act.put, List.setIfInBounds_toArray, List.set_cons_zero, List.set_cons_succ]
  refine wpAnyH_take (i := 1) (oi := { dst := some 11, op := Op.move (Operand.tmp 4), type := 3, pos := "telegram.go:88", after := #[], guard := none }) (v := ?_) rfl (by kernel_rfl) (by kernel_rfl) (by kernel_rfl) (fun _ _ _ h => h) (Or.inl ⟨by rfl, ?_⟩) (by assumption) ?_
  rotate_left 1
  · intro w hSw; skip; first | (go_simp; done) | (go_simp; with_reducible rfl)
  try simp only [Act.put, List.setIfInBounds_toArray, List.set_cons_zero, List.set_cons_succ]
  refine wpAnyH_take (i := 3) (oi := { dst := some 13, op := Op.move (Operand.tmp 0), type := 25, pos := "telegram.go:88", after := #[], guard := none }) (v := ?_) rfl (by kernel_rfl) (by kernel_rfl) (by kernel_rfl) (fun _ _ _ h => h) (Or.inl ⟨by rfl, ?_⟩) (by assumption) ?_
  rotate_left 1
  · intro w hSw; skip; first | (go_simp; done) | (go_simp; with_reducible rfl)
  try simp only [Act.put, List.setIfInBounds_toArray, List.set_cons_zero, List.set_cons_succ]
  refine wpAnyH_take (i := 4) (oi := { dst := some 14, op := Op.move (Operand.tmp 4), type := 3, pos := "telegram.go:88", after := #[], guard := none }) (v := ?_) rfl (by kernel_rfl) (by kernel_rfl) (by kernel_rfl) (fun _ _ _ h => h) (Or.inl ⟨by rfl, ?_⟩) (by assumption) ?_
  rotate_left 1
  · intro w hSw; skip; first | (go_simp; done) | (go_simp; with_reducible rfl)
  try simp only [Act.put, List.setIfInBounds_toArray, List.set_cons_zero, List.set_cons_succ]
  refine wpAnyH_take (i := 2) (oi := { dst := some 12, op := Op.slice 25 (Operand.tmp 10) (some (Operand.tmp 11)) none none, type := 25, pos := "telegram.go:88", after := #[{ on := 0, ground := Ground.data }, { on := 1, ground := Ground.data }], guard := none }) (v := ?_) rfl (by kernel_rfl) (by kernel_rfl) (by kernel_rfl) (fun _ _ _ h => h) (Or.inl ⟨by rfl, ?_⟩) (by assumption) ?_
  rotate_left 1
  · intro w hSw; skip; first | (go_simp; done) | (go_simp; with_reducible rfl)
  try simp only [Act.put, List.setIfInBounds_toArray, List.set_cons_zero, List.set_cons_succ]
  refine wpAnyH_take (i := 5) (oi := { dst := some 15, op := Op.slice 25 (Operand.tmp 13) none (some (Operand.tmp 14)) none, type := 25, pos := "telegram.go:88", after := #[{ on := 3, ground := Ground.data }, { on := 4, ground := Ground.data }], guard := none }) (v := ?_) rfl (by kernel_rfl) (by kernel_rfl) (by kernel_rfl) (fun _ _ _ h => h) (Or.inl ⟨by rfl, ?_⟩) (by assumption) ?_
  rotate_left 1
  · intro w hSw; skip; first | (go_simp; done) | (go_simp; with_reducible rfl)
  try simp only [Act.put, List.setIfInBounds_toArray, List.set_cons_zero, List.set_cons_succ]
  refine wpAnyH_ready (rs := [6]) (by kernel_rfl) (by simp) (AllReadyH.cons (o := { dst := some 16, op := Op.call { callee := Callee.value (Operand.func 30), args := #[Operand.tmp 15], argTypes := #[25] }, type := 25, pos := "telegram.go:88", after := #[{ on := 5, ground := Ground.data }], guard := none }) rfl (fun K hK => ?_) AllReadyH.nil)
  go_simp
  refine (tsum_any (some ⟨B, O, none⟩) m c y _ (HY.out.grown (grown_drew w none)) (HT.out _ (grown_drew w none)) (by omega)).mono ?_
  rintro e w3 ⟨A3, N3, c3, rfl, hm3⟩
  have R3 := Lib.hid hm3.rb
  have GX : Hid (w.grownBy w3 none) := grown_trans (grown_drew w none) hm3.gr
  clear hm3
  try dsimp only
  refine hK.out _ _ ?_ (fun hHeld => ?_)
  · exact GX.out
  clear hK K
  try simp only [Act.put, List.setIfInBounds_toArray, List.set_cons_zero, List.set_cons_succ]
  refine wpAnyH_ready (rs := [7]) (by kernel_rfl) (by simp) (AllReadyH.cons (o := { dst := some 17, op := Op.call { callee := Callee.value (Operand.func 49), args := #[Operand.tmp 12, Operand.tmp 16], argTypes := #[25, 25] }, type := 4, pos := "telegram.go:88", after := #[{ on := 2, ground := Ground.data }, { on := 6, ground := Ground.data }, { on := 6, ground := Ground.chain }], guard := none }) rfl (fun K hK => ?_) AllReadyH.nil)
  go_simp
  refine (equal_any _ _ _ _ _ _ z (Tm.four (Wm.crc y)) _ (HZ.out.grown GX.out) R3.out).mono ?_
  rintro e w5 ⟨rfl, rfl⟩
  rw [HE.out]
  try dsimp only
  refine hK.out _ _ ?_ (fun hHeld => ?_)
  · exact GX.out
  clear hK K
  try simp only [Act.put, List.setIfInBounds_toArray, List.set_cons_zero, List.set_cons_succ]
  refine wpAnyH_take (i := 8) (oi := { dst := some 18, op := Op.unOp UnOp.not 4 (Operand.tmp 17), type := 4, pos := "telegram.go:88", after := #[{ on := 7, ground := Ground.data }], guard := none }) (v := ?_) rfl (by kernel_rfl) (by kernel_rfl) (by kernel_rfl) (fun _ _ _ h => h) (Or.inl ⟨by rfl, ?_⟩) (by assumption) ?_
  rotate_left 1
  · intro w hSw; skip; first | (go_simp; done) | (go_simp; with_reducible rfl)
  try simp only [Act.put, List.setIfInBounds_toArray, List.set_cons_zero, List.set_cons_succ]
  refine wpAnyH_done (by kernel_rfl) ?_ _
  go_wp2
  go_ret2
  exact ⟨rfl, GX.out⟩

set_option maxHeartbeats 1000000 in
theorem checked_good (A : Option Addr) (m c : Nat) (y z : List UInt8) (w : World) (h : RB w A (m + 4) (y ++ z)) (ht : Tabled w) (hm : m ≤ 1000000) (hc : m + 4 ≤ c) (_hc2 : c ≤ 9223372036854775807) (hz : z.length = 4) (hne : z = Tm.four (Wm.crc y)) :
    Calls Tryd.prog 39 #[.slice A (m + 4) c] w (Ret (.tuple #[.slice A m c, .int .i64 0]) w) := by
  have hy : y.length = m := by have := h.1; rw [List.length_append] at this; omega
  obtain ⟨B, O, rfl, _⟩ := h.2 0 (by omega)
  have HY : Hid (RB w (some ⟨B, O, none⟩) m y) := by
    have := h.take m (by omega)
    rw [← hy, List.take_left] at this
    rw [← hy]; exact this
  have HZ : Hid (RB w (some ⟨B, O + m, none⟩) 4 z) := by
    have := h.drop m 4 rfl
    rw [← hy, List.drop_left] at this
    rw [← hy]; exact this
  have HT := Lib.hid (fun w' (g : w.grownBy w' none) => ht.grown g)
  have HE := Lib.hid (decide_eq_true hne)
  clear h ht hne
  have i0 : (m : Int) ≤ (c : Int) := by omega
  have i1 : (m : Int) ≤ (m : Int) + 4 := by omega
  have i2 : m ≤ c := by omega
  have i3 : ¬ c = m := by omega
  go_enter Tryd.func39, Tryd.ntmps39
  go_wp2_with fail
  refine wp_region_held_drew (S := (fun w' => w.grownBy w' none)) (by kernel_rfl) ?_ (fun hHeld => ?_)
  · exact grown_drew w none
  try simp only [Act.put, List.setIfInBounds_toArray, List.set_cons_zero, List.set_cons_succ]
  refine wpAnyH_take (i := 0) (oi := { dst := some 10, op := Op.move (Operand.tmp 0), type := 25, pos := "telegram.go:88", after := #[], guard := none }) (v := ?_) rfl (by kernel_rfl) (by kernel_rfl) (by kernel_rfl) (fun _ _ _ h => h) (Or.inl ⟨by rfl, ?_⟩) (by assumption) ?_
  rotate_left 1
  · intro w hSw; skip; first | (go_simp; done) | (go_simp; with_reducible rfl)
  try simp only [Act.put, List.setIfInBounds_toArray, List.set_cons_zero, List.set_cons_succ]
  refine wpAnyH_take (i := 1) (oi := { dst := some 11, op := Op.move (Operand.tmp 4), type := 3, pos := "telegram.go:88", after := #[], guard := none }) (v := ?_) rfl (by kernel_rfl) (by kernel_rfl) (by kernel_rfl) (fun _ _ _ h => h) (Or.inl ⟨by rfl, ?_⟩) (by assumption) ?_
  rotate_left 1
  · intro w hSw; skip; first | (go_simp; done) | (go_simp; with_reducible rfl)
  try simp only [Act.put, List.setIfInBounds_toArray, List.set_cons_zero, List.set_cons_succ]
  refine wpAnyH_take (i := 3) (oi := { dst := some 13, op := Op.move (Operand.tmp 0), type := 25, pos := "telegram.go:88", after := #[], guard := none }) (v := ?_) rfl (by kernel_rfl) (by kernel_rfl) (by kernel_rfl) (fun _ _ _ h => h) (Or.inl ⟨by rfl, ?_⟩) (by assumption) ?_
  rotate_left 1
  · intro w hSw; skip; first | (go_simp; done) | (go_simp; with_reducible rfl)
  try simp only [Act.put, List.setIfInBounds_toArray, List.set_cons_zero, List.set_cons_succ]
  refine wpAnyH_take (i := 4) (oi := { dst := some 14, op := Op.move (Operand.tmp 4), type := 3, pos := "telegram.go:88", after := #[], guard := none }) (v := ?_) rfl (by kernel_rfl) (by kernel_rfl) (by kernel_rfl) (fun _ _ _ h => h) (Or.inl ⟨by rfl, ?_⟩) (by assumption) ?_
  rotate_left 1
  · intro w hSw; skip; first | (go_simp; done) | (go_simp; with_reducible rfl)
  try simp only [Act.put, List.setIfInBounds_toArray, List.set_cons_zero, List.set_cons_succ]
  refine wpAnyH_take (i := 2) (oi := { dst := some 12, op := Op.slice 25 (Operand.tmp 10) (some (Operand.tmp 11)) none none, type := 25, pos := "telegram.go:88", after := #[{ on := 0, ground := Ground.data }, { on := 1, ground := Ground.data }], guard := none }) (v := ?_) rfl (by kernel_rfl) (by kernel_rfl) (by kernel_rfl) (fun _ _ _ h => h) (Or.inl ⟨by rfl, ?_⟩) (by assumption) ?_
  rotate_left 1
  · intro w hSw; skip; first | (go_simp; done) | (go_simp; with_reducible rfl)
  try simp only [Act.put, List.setIfInBounds_toArray, List.set_cons_zero, List.set_cons_succ]
  refine wpAnyH_take (i := 5) (oi := { dst := some 15, op := Op.slice 25 (Operand.tmp 13) none (some (Operand.tmp 14)) none, type := 25, pos := "telegram.go:88", after := #[{ on := 3, ground := Ground.data }, { on := 4, ground := Ground.data }], guard := none }) (v := ?_) rfl (by kernel_rfl) (by kernel_rfl) (by kernel_rfl) (fun _ _ _ h => h) (Or.inl ⟨by rfl, ?_⟩) (by assumption) ?_
  rotate_left 1
  · intro w hSw; skip; first | (go_simp; done) | (go_simp; with_reducible rfl)
  try simp only [Act.put, List.setIfInBounds_toArray, List.set_cons_zero, List.set_cons_succ]
  refine wpAnyH_ready (rs := [6]) (by kernel_rfl) (by simp) (AllReadyH.cons (o := { dst := some 16, op := Op.call { callee := Callee.value (Operand.func 30), args := #[Operand.tmp 15], argTypes := #[25] }, type := 25, pos := "telegram.go:88", after := #[{ on := 5, ground := Ground.data }], guard := none }) rfl (fun K hK => ?_) AllReadyH.nil)
  go_simp
  refine (tsum_any (some ⟨B, O, none⟩) m c y _ (HY.out.grown (grown_drew w none)) (HT.out _ (grown_drew w none)) (by omega)).mono ?_
  rintro e w3 ⟨A3, N3, c3, rfl, hm3⟩
  have R3 := Lib.hid hm3.rb
  have GX : Hid (w.grownBy w3 none) := grown_trans (grown_drew w none) hm3.gr
  clear hm3
  try dsimp only
  refine hK.out _ _ ?_ (fun hHeld => ?_)
  · exact GX.out
  clear hK K
  try simp only [Act.put, List.setIfInBounds_toArray, List.set_cons_zero, List.set_cons_succ]
  refine wpAnyH_ready (rs := [7]) (by kernel_rfl) (by simp) (AllReadyH.cons (o := { dst := some 17, op := Op.call { callee := Callee.value (Operand.func 49), args := #[Operand.tmp 12, Operand.tmp 16], argTypes := #[25, 25] }, type := 4, pos := "telegram.go:88", after := #[{ on := 2, ground := Ground.data }, { on := 6, ground := Ground.data }, { on := 6, ground := Ground.chain }], guard := none }) rfl (fun K hK => ?_) AllReadyH.nil)
  go_simp
  refine (equal_any _ _ _ _ _ _ z (Tm.four (Wm.crc y)) _ (HZ.out.grown GX.out) R3.out).mono ?_
  rintro e w5 ⟨rfl, rfl⟩
  rw [HE.out]
  try dsimp only
  refine hK.out _ _ ?_ (fun hHeld => ?_)
  · exact GX.out
  clear hK K
  try simp only [Act.put, List.setIfInBounds_toArray, List.set_cons_zero, List.set_cons_succ]
  refine wpAnyH_take (i := 8) (oi := { dst := some 18, op := Op.unOp UnOp.not 4 (Operand.tmp 17), type := 4, pos := "telegram.go:88", after := #[{ on := 7, ground := Ground.data }], guard := none }) (v := ?_) rfl (by kernel_rfl) (by kernel_rfl) (by kernel_rfl) (fun _ _ _ h => h) (Or.inl ⟨by rfl, ?_⟩) (by assumption) ?_
  rotate_left 1
  · intro w hSw; skip; first | (go_simp; done) | (go_simp; with_reducible rfl)
  try simp only [Act.put, List.setIfInBounds_toArray, List.set_cons_zero, List.set_cons_succ]
  refine wpAnyH_done (by kernel_rfl) ?_ _
  go_wp2
  go_ret2
  exact ⟨rfl, GX.out⟩
end Go.Proofs.YtcjbhkocpfkcbaaDoor.Wr
