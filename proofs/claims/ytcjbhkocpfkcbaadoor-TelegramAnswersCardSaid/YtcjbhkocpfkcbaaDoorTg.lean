/- Contract of write. -/
import Derived.Test.YtcjbhkocpfkcbaaDoorTe
import Derived.Deep.Onto
namespace Go.Proofs.YtcjbhkocpfkcbaaDoor.Wr
open Go.ChangeShapes Go.WideShapes Go.ChangeAt Go.RowKit

theorem Made.base {w0 w1 w2 : World} {A : Option Addr} {n c : Nat} {l : List UInt8} (h : Made w1 w2 A n c l) (g : w0.grownBy w1 none) : Made w0 w2 A n c l := ⟨h.own.mono g.size, grown_trans g h.gr⟩
theorem take_snocI (l : List Int) (k : Nat) (h : k < l.length) : l.take (k + 1) = l.take k ++ [l.getD k 0] := by
  rw [List.take_succ_eq_append_getElem h]; simp [List.getD, h]
theorem getD_mem {l : List Int} {k : Nat} (h : k < l.length) : l.getD k 0 ∈ l := by
  rw [List.getD_eq_getElem?_getD, List.getElem?_eq_getElem h]; exact List.getElem_mem h
theorem body_next (ns : List Int) (k : Nat) (h : k < ns.length) : Tm.body (ns.take k) ++ Wm.enc (Wm.fold (ns.getD k 0)) = Tm.body (ns.take (k + 1)) := by
  rw [take_snocI ns k h, Tm.body_snoc]
theorem nums_vs (t : Tm.Tg) (i : Nat) : t.nums.getD (6 + i) 0 = t.vs.getD i 0 := by
  rw [show 6 + i = i + 1 + 1 + 1 + 1 + 1 + 1 by omega]
  simp [Tm.Tg.nums]
theorem take_fits {ns : List Int} (h : ∀ x ∈ ns, Tm.I64 x) (k : Nat) : ∀ x ∈ ns.take k, Tm.I64 x := fun x hx => h x (List.mem_of_mem_take hx)
theorem take_len10 {ns : List Int} (h : ∀ x ∈ ns, Tm.I64 x) (k : Nat) : (Tm.body (ns.take k)).length ≤ 10 * k := by
  have := Tm.body_len10 (take_fits h k)
  have h2 : (ns.take k).length ≤ k := by rw [List.length_take]; omega
  omega

/-- The pointer at index k of row R points to a number. -/
def Pts (w : World) (R : Nat) (ns : List Int) : Prop := ∀ k, k < 6 → ∃ B O, w.cell? ⟨R, k, none⟩ = some (.pointer (some ⟨B, O, none⟩)) ∧ w.cell? ⟨B, O, none⟩ = some (.int .i64 (ns.getD k 0))

set_option maxHeartbeats 1000000 in
theorem write_any (t : Tm.Tg) (V : Option Addr) (n cv : Nat) (w : World) (h : IR w V n t.vs) (hf : t.fits) (hn : n ≤ 16) :
    Calls Tryd.prog 28 #[tv t (.slice V n cv)] w (OwnEnd (Tm.body t.nums) w) := by
  have hfit : ∀ x ∈ t.nums, Tm.I64 x := Tm.Tg.nums_fit hf (by rw [h.1]; exact hn)
  have hlen : t.nums.length = 6 + n := by have := h.1; simp only [Tm.Tg.nums, List.length_cons]; omega
  have hvs : ∀ i, t.vs.getD i 0 = t.nums.getD (6 + i) 0 := fun i => (nums_vs t i).symm
  have HV : Hid (∀ i, i < n → ∃ b off, V = some ⟨b, off, none⟩ ∧ w.cell? ⟨b, off + i, none⟩ = some (.int .i64 (t.nums.getD (6 + i) 0))) := by
    intro i hi
    obtain ⟨b, off, e, hc⟩ := h.2 i hi
    exact ⟨b, off, e, by rw [← hvs]; exact hc⟩
  have h0 : t.nums.getD 0 0 = t.st := rfl
  have h1 : t.nums.getD 1 0 = t.ep := rfl
  have h2 : t.nums.getD 2 0 = t.sq := rfl
  have h3 : t.nums.getD 3 0 = t.tm := rfl
  have h4 : t.nums.getD 4 0 = t.kd := rfl
  have h5 : t.nums.getD 5 0 = (n : Int) := by rw [← h.1]; rfl
  clear h hvs hf
  generalize t.nums = ns at *
  obtain ⟨a, b, s, d, f, vs⟩ := t
  dsimp only [tv] at *
  have HFIT := Lib.hid hfit
  have HLEN := Lib.hid hlen
  have N0 := Lib.hid h0
  have N1 := Lib.hid h1
  have N2 := Lib.hid h2
  have N3 := Lib.hid h3
  have N4 := Lib.hid h4
  have N5 := Lib.hid h5
  clear hfit hlen h0 h1 h2 h3 h4 h5
  go_enter Tryd.func28, Tryd.ntmps28
  go_wp2_with fail
  refine (head_any w.heap.size (w.heap.size + 1) _).mono ?_
  rintro e W6 ⟨rfl, q, hW⟩
  have P : Hid (Pts W6 (w.heap.size + 1 + 1) ns) := by
    intro k hk
    rw [hW]
    simp only [World.cell?_drewN]
    unfold hcells
    match k, hk with
    | 0, _ => exact ⟨w.heap.size, 0, by go_simp, by rw [N0.out]; go_simp⟩
    | 1, _ => exact ⟨w.heap.size, 1, by go_simp, by rw [N1.out]; go_simp⟩
    | 2, _ => exact ⟨w.heap.size, 2, by go_simp, by rw [N2.out]; go_simp⟩
    | 3, _ => exact ⟨w.heap.size, 3, by go_simp, by rw [N3.out]; go_simp⟩
    | 4, _ => exact ⟨w.heap.size, 4, by go_simp, by rw [N4.out]; go_simp⟩
    | 5, _ => exact ⟨w.heap.size + 1, 0, by go_simp, by rw [N5.out]; go_simp⟩
  have C5 : Hid (W6.cell? ⟨w.heap.size, 5, none⟩ = some (.slice V n cv)) := by
    show _ = _
    rw [hW]
    simp only [World.cell?_drewN]
    unfold hcells
    go_simp
  have G6 : Hid (w.grownBy W6 none) := by
    rw [hW]
    exact grown_trans (grown_trans (grown_trans (World.grownBy_alloc _ _ _) (World.grownBy_alloc _ _ _)) (World.grownBy_alloc _ _ _)) (grown_drewN _ _ _)
  clear hW
  have M0 := Lib.hid (made_nil w W6 G6.out)
  go_wp2
  go_loopw [3, 14] (fun s3 s14 wr => ∃ (k N c : Nat) (A : Option Addr) (z : Int), s14 = .int .i64 z ∧ z = k ∧ k ≤ 6 ∧ s3 = .slice A N c ∧ N ≤ 10 * k ∧ Hid (Made w wr A N c (Tm.body (ns.take k))) ∧ Hid (W6.grownBy wr none)) (fun _ i _ => 6 - (intOf i).toNat)
  case atStart => exact ⟨0, 0, 0, none, 0, rfl, rfl, by omega, rfl, by omega, by simpa [Tm.body] using M0, grown_refl _ _⟩
  case round =>
    obtain ⟨k, N, c3, A3, z, rfl, hz, hk, rfl, hN, M3, G3⟩ := hrel
    by_cases hlt : k < 6
    · subst hz
      obtain ⟨B, O, c1, c2⟩ := P.out k hlt
      have c1 := G3.out.cell c1 (by simp)
      have c2 := G3.out.cell c2 (by simp)
      have hL : k < ns.length := by rw [HLEN.out]; omega
      have HE := Lib.hid (body_next ns k hL)
      have HI := HFIT.out _ (getD_mem hL)
      have HT := Lib.hid (take_len10 HFIT.out (k + 1))
      generalize ns.getD k 0 = x at *
      clear hL
      have HP := Lib.hid (put_any A3 N c3 (Tm.body (ns.take k)) x wr M3.out.rb (by omega) HI.1 HI.2)
      rw [HE.out] at HP
      clear HE HI
      go_wp2_with fail
      refine HP.out.mono ?_
      rintro e w4 ⟨A4, N4, c4, rfl, hm4⟩
      have hN4 : N4 ≤ 10 * (k + 1) := by have := hm4.len; have := HT.out; omega
      have M4 := Lib.hid (hm4.base M3.out.gr)
      have G4 := Lib.hid (grown_trans G3.out hm4.gr)
      clear hm4
      go_wp2
      go_roundw
      case rel => exact ⟨k + 1, N4, c4, A4, _, rfl, by omega, by omega, rfl, hN4, M4, G4⟩
      case measure => simp [intOf]; omega
    · obtain rfl : k = 6 := by omega
      obtain rfl : z = 6 := by omega
      clear hz
      have c5 := G3.out.cell C5.out (by simp)
      go_wp2
      go_loopw [3, 27] (fun s3 s27 wr => ∃ (k N c : Nat) (A : Option Addr), s27 = .int .i64 k ∧ k ≤ n ∧ s3 = .slice A N c ∧ N ≤ 10 * (6 + k) ∧ Hid (Made w wr A N c (Tm.body (ns.take (6 + k))))) (fun _ i _ => n - (intOf i).toNat)
      case atStart => exact ⟨0, N, c3, A3, rfl, by omega, rfl, by omega, M3⟩
      case round =>
        obtain ⟨k, N, c3, A3, rfl, hk, rfl, hN, M3⟩ := hrel
        by_cases hlt : k < n
        · obtain ⟨B, O, rfl, c2⟩ := HV.out k hlt
          have c2 := M3.out.gr.cell c2 (by simp)
          have hL : 6 + k < ns.length := by rw [HLEN.out]; omega
          have HE := Lib.hid (body_next ns (6 + k) hL)
          have HI := HFIT.out _ (getD_mem hL)
          have HT := Lib.hid (take_len10 HFIT.out (6 + k + 1))
          generalize ns.getD (6 + k) 0 = x at *
          clear hL
          have HP := Lib.hid (put_any A3 N c3 (Tm.body (ns.take (6 + k))) x wr M3.out.rb (by omega) HI.1 HI.2)
          rw [HE.out] at HP
          clear HE HI
          go_wp2_with fail
          refine HP.out.mono ?_
          rintro e w4 ⟨A4, N4, c4, rfl, hm4⟩
          have hN4 : N4 ≤ 10 * (6 + (k + 1)) := by have := hm4.len; have := HT.out; omega
          have M4 := Lib.hid (hm4.base M3.out.gr)
          clear hm4
          go_wp2
          go_roundw
          case rel => exact ⟨k + 1, N4, c4, A4, by go_num, by omega, rfl, hN4, M4⟩
          case measure => simp [intOf]; omega
        · obtain rfl : k = n := by omega
          have HZ : Hid (ns.take (6 + k) = ns) := List.take_of_length_le (by rw [HLEN.out]; exact Nat.le_refl _)
          go_wp2
          go_ret
          exact ⟨A3, N, c3, rfl, by rw [← HZ.out]; exact M3.out⟩
end Go.Proofs.YtcjbhkocpfkcbaaDoor.Wr
