import Derived.Test.YticmoaebegahgaaGreatDoorJ5
import Derived.Test.YticmoaebegahgaaGreatDoorT4
import Derived.Deep.DeepCutAuto
set_option linter.all false
namespace Go.Proofs.YticmoaebegahgaaGreatDoor.Iw
open Go.ChangeShapes Go.WideShapes Go.ChangeAt Go.RowKit
open Wr (IR RB iv ivs bv bvs grown_trans grown_refl grown_alloc ret_int ret_bool tv Ret ret_mk Made OwnEnd)
section
variable {P : Program} {w : World} {ops : Array Oper} {rest : List Oper} {o : Oper} {a : Act} {Q : Exit → Act → World → Prop}
theorem wpList_growN (hgd : o.guard = none) (s x : Operand) (t tn : TypeId) (ho : o.op = .call { callee := .builtin .append, args := #[s, x], argTypes := #[t, tn] })
    {e : TypeId} {i : TypeInfo} {z : Value} {k bytes : Nat} {kn : IntKind}
    (ht : P.underlying t = some (.slice e)) (htn : P.underlying tn = some (.int kn)) (hi : P.info? e = some i) (hz : i.zero = some z) (hsz : i.size = k) (hby : i.bytes = bytes) (hzs : z.cells.size = k) (hk : 0 < k)
    (m : Nat) (hs : a.eval s = .slice none 0 0) (M : Int) (hx : a.eval x = .int .i64 M) (hM : M = (m : Int)) (h0 : 0 < m) (hbig : m * bytes ≤ 140737488355328) (h63 : m ≤ 1000000000)
    (hQ : ∀ (c' : Nat) (zs : List Value) (w' : World), zs.length = m * k → OR w.heap.size w' e k ⟨some ⟨w.heap.size, 0, none⟩, m, c'⟩ zs → w.grownBy w' none → m ≤ c' → wpList P ops Q rest (a.put o.dst (.slice (some ⟨w.heap.size, 0, none⟩) m c')) w') : wpList P ops Q (o :: rest) a w := by
  refine wpList_plain hgd fun K hK => ?_
  subst hM
  have hold : (Builtin.firstCells i.size 0 (.slice none 0 0)).run P w.drew = .ok ([] : List Value).toArray w.drew := run_firstCells_none w.drew i.size 0 0 0
  have hr := Lib.run_append_grow_zeros (P := P) w t tn o.type e i z .i64 kn ht htn hi hz none 0 0 [] hold m h0 (by omega) (by omega) (by omega) (by
    rw [hby]; omega) (by
    rw [hby]
    have h2 := Nat.mul_le_mul_right bytes (nextslicecap_le (need := 0 + m) (old := 0) (by omega))
    rw [Nat.mul_assoc] at h2
    simp only [Nat.zero_add] at h2 ⊢
    omega)
  have hge := grownCap_ge w (0 + m) 0 e
  have hcm : grownCap w (0 + m) 0 e ≤ maxLen := grownCap_le_maxLen w (0 + m) 0 e (by unfold maxLen; omega)
  unfold Oper.wp execOp
  simp only [ho, resolve, invoke, builtin, Sem.run_bind, Sem.run_pure, Result.andThen_ok, List.map_toArray, List.map_cons, List.map_nil, hs, hx, hr]
  have hz1 : (Builtin.zeroCells z.cells m).toList.length = m * k := by simp [Builtin.zeroCells, hzs]
  rw [Nat.zero_add] at hge hcm ⊢
  refine hK _ _ (hQ _ (Builtin.zeroCells z.cells m).toList _ hz1 ⟨⟨hz1, .inr ⟨w.heap.size, _, _, rfl, Nat.le_refl _, heap_alloc_new w.drew _, hge, hcm, ?_, ?_⟩⟩⟩ ⟨rfl, rfl, rfl, by simp, fun i hi _ => heap_alloc_old w.drew _ hi⟩ hge)
  · simp only [Array.size_append, List.size_toArray, size_zeroCells, hzs, List.length_nil, Nat.zero_add, ← Nat.add_mul]
    congr 1
    omega
  · simp only [Array.toList_append, List.append_assoc, List.nil_append]
    have : m * k = (Builtin.zeroCells z.cells m).toList.length := hz1.symm
    show List.take (m * k) _ = _
    rw [this]
    exact List.take_left
end
theorem made_front {w0 w : World} {g n c : Nat} {us : List Value} (h : OR w0.heap.size w 5 1 ⟨some ⟨g, 0, none⟩, n, c⟩ us) (gr : w0.grownBy w none) : Made w0 w (some ⟨g, 0, none⟩) 0 c [] := by
  have := own_front h.own (Nat.zero_le n)
  simp only [Nat.zero_mul, List.take_zero] at this
  exact ⟨this, gr⟩
def GrEnd (w : World) (e : Ending) (w' : World) : Prop := ∃ A c, e = .returned (.slice A 0 c) ∧ Made w w' A 0 c []
set_option maxRecDepth 100000 in
set_option maxHeartbeats 1600000 in
theorem grow_b (m : Nat) (w : World) (hm : m ≤ 1000000) :
    Calls Tryz.prog 62 #[.slice none 0 0, .int .i64 m] w (GrEnd w) := by
  obtain ⟨I, hI, hz, hsz, hby⟩ := parts_b
  have d0 : decide ((m : Int) < 0) = false := by simp
  have d1 : IntKind.i64.wrap ((m : Int) - 0) = m := IntWalk.i64_in _ (by omega)
  go_enter Tryz.func62, Tryz.ntmps62
  by_cases h0 : m = 0
  · subst h0
    go_wp2_with fail
    go_ret
    exact ⟨none, 0, rfl, Wr.made_nil w w (grown_refl _ _)⟩
  · have d2 : decide ((0 : Int) < m) = true := by simp; omega
    go_wp2_with (first
      | (at_builtin
         refine wpList_growN rfl _ _ 22 3 rfl Tryz.underlying22 Tryz.underlying3 hI hz hsz hby (by rfl) (by omega) m rfl _ rfl (by simp) (by omega) (by omega) (by omega) ?_
         intro c' zs w1 hzl hr hg hc
         have M1 := Hi (made_front hr hg)
         clear hr hg hzl)
      | fail)
    go_ret
    exact ⟨_, _, rfl, M1.out⟩
set_option maxRecDepth 100000 in
set_option maxHeartbeats 1600000 in
theorem concat_b (q c : Nat) (A1 A2 : Option Addr) (n1 c1 n2 c2 : Nat) (l1 l2 : List UInt8) (w : World) (h0 : w.cell? ⟨q, 0, none⟩ = some (.slice A1 n1 c1)) (h1 : w.cell? ⟨q, 1, none⟩ = some (.slice A2 n2 c2)) (r1 : RB w A1 n1 l1) (r2 : RB w A2 n2 l2) (hn1 : n1 ≤ 400000) (hn2 : n2 ≤ 400000) :
    Calls Tryz.prog 40 #[.slice (some ⟨q, 0, none⟩) 2 c] w (OwnEnd (l1 ++ l2) w) := by
  have R1 := Hi r1
  have R2 := Hi r2
  have GB := Hi (grow_b (n1 + n2) w (by omega))
  have w1 : IntKind.i64.wrap ((0 : Int) + n1) = n1 := by rw [Int.zero_add]; exact IntWalk.i64_in _ (by omega)
  have w2 : IntKind.i64.wrap ((n1 : Int) + n2) = ((n1 + n2 : Nat) : Int) := by rw [IntWalk.i64_in _ (by omega)]; simp
  clear r1 r2
  go_enter Tryz.func40, Tryz.ntmps40
  go_wp2_with fail
  go_loopw [3, 11] (fun sz i wr => ∃ (k z : Nat), i = .int .i64 k ∧ sz = .int .i64 z ∧ k ≤ 2 ∧ w = wr ∧ Hid (k = 0 ∧ 0 = z ∨ k = 1 ∧ n1 = z ∨ k = 2 ∧ n1 + n2 = z)) (fun _ i _ => 2 - (intOf i).toNat)
  case atStart => exact ⟨0, 0, rfl, rfl, by omega, rfl, Hi (.inl ⟨rfl, rfl⟩)⟩
  case round =>
    obtain ⟨k, z, rfl, rfl, hk, rfl, D⟩ := hrel
    rcases D.out with ⟨rfl, rfl⟩ | ⟨rfl, rfl⟩ | ⟨rfl, rfl⟩
    · have d0 : decide ((n1 : Int) < 0) = false := by simp
      clear D
      go_wp2_with fail
      go_roundw
      case rel => exact ⟨1, n1, by first | rfl | simp, by first | rfl | simp, by omega, by trivial, Hi (.inr (.inl ⟨rfl, by simp⟩))⟩
      case measure => simp [intOf]
    · have d0 : decide (((n1 + n2 : Nat) : Int) < 0) = false := by simp; omega
      clear D
      go_wp2_with fail
      go_roundw
      case rel => exact ⟨2, n1 + n2, by first | rfl | simp, by first | rfl | simp, by omega, by trivial, Hi (.inr (.inr ⟨rfl, by simp⟩))⟩
      case measure => simp [intOf]
    · clear D
      go_wp2_with fail
      refine GB.out.mono ?_
      rintro e w3 ⟨A, cc, rfl, hm⟩
      have M := Hi hm
      clear hm GB
      go_wp2_with fail
      go_loopw [6, 27] (fun v i wr => ∃ (k N cN : Nat) (A : Option Addr) (l : List UInt8), i = .int .i64 k ∧ k ≤ 2 ∧ v = .slice A N cN ∧ Hid (Made w wr A N cN l) ∧ Hid (k = 0 ∧ 0 = N ∧ [] = l ∨ k = 1 ∧ n1 = N ∧ l1 = l ∨ k = 2 ∧ n1 + n2 = N ∧ l1 ++ l2 = l)) (fun _ i _ => 2 - (intOf i).toNat)
      case atStart => exact ⟨0, 0, cc, A, [], rfl, by omega, rfl, M, Hi (.inl ⟨rfl, rfl, rfl⟩)⟩
      case round =>
        obtain ⟨k, N, cN, A, l, rfl, hk, rfl, M, D⟩ := hrel
        have q0 := M.out.gr.cell h0 (by simp)
        have q1 := M.out.gr.cell h1 (by simp)
        have R1 := Hi (R1.out.grown M.out.gr)
        have R2 := Hi (R2.out.grown M.out.gr)
        rcases D.out with ⟨rfl, rfl, rfl⟩ | ⟨rfl, rfl, rfl⟩ | ⟨rfl, rfl, rfl⟩
        · clear D
          go_wp2_with (at_builtin; refine Wr.wpList_app rfl (.tmp 31) (.tmp 32) rfl rfl rfl M.out R1.out (by omega) n1 (by omega) ?_; intro A4 c4 w4 hm4 _; have M4 := Hi hm4; clear hm4)
          go_roundw
          case rel => exact ⟨1, n1, c4, A4, l1, by go_num, by omega, rfl, Hi (by simpa using M4.out), Hi (.inr (.inl ⟨rfl, rfl, rfl⟩))⟩
          case measure => simp [intOf]
        · clear D
          go_wp2_with (at_builtin; refine Wr.wpList_app rfl (.tmp 31) (.tmp 32) rfl rfl rfl M.out R2.out (by omega) (n1 + n2) (by omega) ?_; intro A4 c4 w4 hm4 _; have M4 := Hi hm4; clear hm4)
          go_roundw
          case rel => exact ⟨2, n1 + n2, c4, A4, l1 ++ l2, by go_num, by omega, rfl, M4, Hi (.inr (.inr ⟨rfl, rfl, rfl⟩))⟩
          case measure => simp [intOf]
        · clear D
          go_wp2_with fail
          go_ret
          exact ⟨A, n1 + n2, cN, rfl, M.out⟩
end Go.Proofs.YticmoaebegahgaaGreatDoor.Iw
