/- Contracts of the reference's Inside and Encode. -/
import Derived.Test.YtcjbhkocpfkcbaaDoorTh
import Derived.Test.YtcjbhkocpfkcbaaDoorTo
namespace Go.Proofs.YtcjbhkocpfkcbaaDoor.Wr
open Go.ChangeShapes Go.WideShapes Go.ChangeAt Go.RowKit

set_option maxHeartbeats 1000000 in
theorem rinside_any (t : Tm.Tg) (V : Option Addr) (n cv : Nat) (w : World) (h : IR w V n t.vs) (hf : t.fits) (hn : n ≤ 16) :
    Calls Tryd.prog 18 #[tv t (.slice V n cv)] w (OwnEnd t.inside w) := by
  have hfit : ∀ x ∈ t.nums, Tm.I64 x := Tm.Tg.nums_fit hf (by rw [h.1]; exact hn)
  have hlen : t.nums.length = 6 + n := by have := h.1; simp only [Tm.Tg.nums, List.length_cons]; omega
  have hnums : [t.st, t.ep, t.sq, t.tm, t.kd, (n : Int)] ++ t.vs = t.nums := by rw [← h.1]; rfl
  have HI := Lib.hid h
  have E := Lib.hid (show t.inside = Tm.shut (Tm.body t.nums) from rfl)
  obtain ⟨a, b, s, d, f, vs⟩ := t
  dsimp only [tv] at *
  generalize (Tm.Tg.mk a b s d f vs).inside = IN at *
  generalize (Tm.Tg.mk a b s d f vs).nums = ns at *
  have HFIT := Lib.hid hfit
  have HLEN := Lib.hid hlen
  have HN := Lib.hid hnums
  clear hfit hlen h hf hnums
  have M1 : Hid (MadeI w ((w.alloc (Obj.cells #[.int .i64 a, .int .i64 b, .int .i64 s, .int .i64 d, .int .i64 f, .slice V n cv] 24)).alloc (Obj.cells #[.int .i64 a, .int .i64 b, .int .i64 s, .int .i64 d, .int .i64 f, .int .i64 n] 3)) (some ⟨w.heap.size + 1, 0, none⟩) 6 6 [a, b, s, d, f, (n : Int)]) := by
    have := madeI_lit w (w.alloc (Obj.cells #[.int .i64 a, .int .i64 b, .int .i64 s, .int .i64 d, .int .i64 f, .slice V n cv] 24)) #[.int .i64 a, .int .i64 b, .int .i64 s, .int .i64 d, .int .i64 f, .int .i64 n] 6 [a, b, s, d, f, (n : Int)] rfl rfl (World.grownBy_alloc _ _ _) (by omega)
    rw [show (w.alloc (Obj.cells #[.int .i64 a, .int .i64 b, .int .i64 s, .int .i64 d, .int .i64 f, .slice V n cv] 24)).heap.size = w.heap.size + 1 by go_simp] at this
    exact this
  go_enter Tryd.func18, Tryd.ntmps18
  go_wp2_with (first
    | (at_builtin; refine wpList_appI rfl (.tmp 19) (.tmp 21) rfl rfl rfl M1.out (HI.out.grown (grown_trans (World.grownBy_alloc _ _ _) (World.grownBy_alloc _ _ _))) (by omega) (6 + n) rfl ?_; intro A2 c2 w2 hm2 _; have M2 := Lib.hid (by have := hm2; rw [HN.out] at this; exact this); clear hm2)
    | fail)
  have hc2 := M2.out.shape
  go_loopw [3, 24] (fun s3 s24 wr => ∃ (k N c : Nat) (A : Option Addr), s24 = .int .i64 k ∧ k ≤ 6 + n ∧ s3 = .slice A N c ∧ N ≤ 10 * k ∧ Hid (Made w wr A N c (Tm.body (ns.take k))) ∧ Hid (w2.grownBy wr none)) (fun _ i _ => 6 + n - (intOf i).toNat)
  case atStart => exact ⟨0, 0, 0, none, rfl, by omega, rfl, by omega, (show Made _ _ _ _ _ _ by simpa [Tm.body] using made_nil _ _ M2.out.gr), grown_refl _ _⟩
  case round =>
    obtain ⟨k, N, c3, A3, rfl, hk, rfl, hN, M3, G3⟩ := hrel
    by_cases hlt : k < 6 + n
    · obtain ⟨B, hA, _, _, cc, _⟩ := M2.out.at0 k hlt
      subst hA
      have cc := G3.out.cell cc (by simp)
      have hL : k < ns.length := by rw [HLEN.out]; omega
      have HE := Lib.hid (body_next ns k hL)
      have HX := HFIT.out _ (getD_mem hL)
      have HT := Lib.hid (take_len10 HFIT.out (k + 1))
      generalize ns.getD k 0 = x at *
      clear hL
      have HP := Lib.hid (rput_any A3 N c3 (Tm.body (ns.take k)) x wr M3.out.rb (by omega) HX.1 HX.2)
      rw [HE.out] at HP
      clear HE HX
      go_wp2_with fail
      refine HP.out.mono ?_
      rintro e w4 ⟨A4, N4, c4, rfl, hm4⟩
      have hN4 : N4 ≤ 10 * (k + 1) := by have := hm4.len; have := HT.out; omega
      have M4 := Lib.hid (hm4.base M3.out.gr)
      have G4 := Lib.hid (grown_trans G3.out hm4.gr)
      clear hm4
      go_wp2
      go_roundw
      case rel => exact ⟨k + 1, N4, c4, A4, by go_num, by omega, rfl, hN4, M4, G4⟩
      case measure => simp [intOf]; omega
    · obtain rfl : k = 6 + n := by omega
      have HZ : Hid (ns.take (6 + n) = ns) := List.take_of_length_le (by rw [HLEN.out]; exact Nat.le_refl _)
      have M3 := Lib.hid (by have := M3.out; rw [HZ.out] at this; exact this)
      go_wp2_with fail
      refine (rseal_any A3 N c3 _ wr M3.out.rb (by omega)).mono ?_
      rintro e w4 ⟨A4, N4, c4, rfl, hm4⟩
      have M4 := Lib.hid (hm4.base M3.out.gr)
      rw [← E.out] at M4
      clear hm4
      go_wp2
      go_ret
      exact ⟨A4, N4, c4, rfl, M4.out⟩

theorem rvalid_at {t : Tm.Tg} {A : Option Addr} {n c : Nat} {w : World} {r : Bool} (h : IR w A n t.vs) (hn : n ≤ 4611686018427387904) (hr : t.ok = r) :
    Calls Tryd.prog 14 #[tv t (.slice A n c)] w (Ret (.bool r) w) := by
  subst hr; exact rvalid_any t A n c w h hn

set_option maxHeartbeats 1000000 in
theorem rencode_any (t : Tm.Tg) (V : Option Addr) (n cv : Nat) (w : World) (h : IR w V n t.vs) (hn : n ≤ 4611686018427387904) :
    Calls Tryd.prog 12 #[tv t (.slice V n cv)] w (UnEnd (encR t) w) := by
  have hw0 : w.grownBy (w.alloc (tcells t (.slice V n cv))) none := World.grownBy_alloc _ _ _
  have HI := Lib.hid h
  have hl := h.1
  by_cases hk : t.ok = true
  · have E := Lib.hid (encR_yes hk)
    have HF := Lib.hid (Tm.Tg.fits_of_ok hk)
    have hn16 : n ≤ 16 := by have := ((Tm.Tg.ok_iff t).1 hk).2.2.2.2.2.1; omega
    have HL := Lib.hid (show t.inside.length ≤ 149 by have := Tm.Tg.len hk; have := Tm.shut_len (Tm.body t.nums); unfold Tm.Tg.inside; omega)
    have K := Lib.hid hk
    clear h hl hk
    unfold tv tcells at *
    go_enter Tryd.func12, Tryd.ntmps12
    go_wp2_with fail
    refine (rvalid_at (t := t) (HI.out.grown hw0) hn K.out).mono ?_
    rintro e w1 ⟨rfl, g1⟩
    have G1 := Lib.hid (grown_trans hw0 g1)
    have HB := Lib.hid (HI.out.grown G1.out)
    obtain ⟨k0, k1, k2, k3, k4, k5⟩ := boxed_at (t := t) (V := .slice V n cv) g1
    clear g1 hw0
    go_wp2_with fail
    refine (rinside_any t V n cv w1 HB.out HF.out hn16).mono ?_
    rintro e w2 ⟨A2, N2, c2, rfl, hm2⟩
    have M2 := Lib.hid (hm2.base G1.out)
    clear hm2
    clear k0 k1 k2 k3 k4 k5
    go_wp2_with fail
    have hN2 : N2 ≤ 149 := by have := M2.out.len; have := HL.out; omega
    refine (rstuff_any A2 N2 c2 _ w2 M2.out.rb (by omega)).mono ?_
    rintro e w5 ⟨A5, N5, c5, rfl, hm5⟩
    have M5 := Lib.hid (hm5.base M2.out.gr)
    clear hm5
    go_wp2
    go_ret2
    exact unEnd_good E.out M5.out
  · have hk := eq_false_of_ne_true hk
    have E := Lib.hid (encR_no hk)
    have K := Lib.hid hk
    clear h hl hk
    unfold tv tcells at *
    go_enter Tryd.func12, Tryd.ntmps12
    go_wp2_with fail
    refine (rvalid_at (t := t) (HI.out.grown hw0) hn K.out).mono ?_
    rintro e w1 ⟨rfl, g1⟩
    have G1 := Lib.hid (grown_trans hw0 g1)
    clear g1 hw0
    go_wp2
    go_ret2
    exact unEnd_bad E.out G1.out
end Go.Proofs.YtcjbhkocpfkcbaaDoor.Wr
