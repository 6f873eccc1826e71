/- The walk of MeterCounts. -/
import Derived.Test.YtilchmlbihffdaaMlo
namespace Go.Proofs.Ytilchmlbihffdaa
open Go.ChangeShapes Go.WideShapes Go.ChangeAt Go.RowKit

/-- What MeterCounts has laid: its meter, and the count at hand. -/
def CW (w : World) (XM : Nat) (p f l q : Int) : Prop :=
  w.cell? ⟨XM, 0, none⟩ = some (.int .i64 p) ∧ w.cell? ⟨XM, 1, none⟩ = some (.int .i64 16) ∧ w.cell? ⟨XM, 2, none⟩ = some (.int .i64 f) ∧
  w.cell? ⟨XM + 1, 0, none⟩ = some (.int .i64 l) ∧ w.cell? ⟨XM + 1, 1, none⟩ = some (.int .i64 q) ∧
  w.frozen? ⟨XM + 1, 0, none⟩ = false ∧ w.frozen? ⟨XM + 1, 1, none⟩ = false

theorem CW.row {w w' : World} {XM : Nat} {p f l q : Int} {row : Option Nat} (h : CW w XM p f l q) (hg : w.grownBy w' row) (hr : ∀ k, row = some k → k < XM) : CW w' XM p f l q := by
  obtain ⟨h0, h1, h2, h3, h4, h5, h6⟩ := h
  have n0 : some XM ≠ row := fun e => by have := hr _ e.symm; omega
  have n1 : some (XM + 1) ≠ row := fun e => by have := hr _ e.symm; omega
  exact ⟨hg.cell h0 n0, hg.cell h1 n0, hg.cell h2 n0, hg.cell h3 n1, hg.cell h4 n1, grown_frozen hg h3 h5 n1, grown_frozen hg h4 h6 n1⟩
theorem CW.grown {w w' : World} {XM : Nat} {p f l q : Int} (h : CW w XM p f l q) (hg : w.grownBy w' none) : CW w' XM p f l q := h.row hg (fun _ e => by cases e)
theorem CW.next {w : World} {XM : Nat} {p f l q : Int} (h : CW w XM p f l q) (l2 q2 : Int) : CW ((w.setCell ⟨XM + 1, 0, none⟩ (.int .i64 l2)).setCell ⟨XM + 1, 1, none⟩ (.int .i64 q2)) XM p f l2 q2 := by
  obtain ⟨h0, h1, h2, h3, h4, h5, h6⟩ := h
  obtain ⟨a, c⟩ := stored2 w (XM + 1) (.int .i64 l2) (.int .i64 q2) h3 h4
  have g1 := grown_set w ⟨XM + 1, 0, none⟩ (.int .i64 l2)
  have g2 := grown_set (w.setCell ⟨XM + 1, 0, none⟩ (.int .i64 l2)) ⟨XM + 1, 1, none⟩ (.int .i64 q2)
  have n0 : some XM ≠ some (XM + 1) := by intro e; injection e; omega
  refine ⟨g2.cell (g1.cell h0 n0) n0, g2.cell (g1.cell h1 n0) n0, g2.cell (g1.cell h2 n0) n0, a, c, ?_, ?_⟩
  · simp [h5]
  · simp [h6]
theorem SrcOK.next {w : World} {S B : Nat} (h : SrcOK w S) (hB : S < B) (v0 v1 : Value) : SrcOK ((w.setCell ⟨B, 0, none⟩ v0).setCell ⟨B, 1, none⟩ v1) S :=
  (h.grownRow (grown_set _ ⟨B, 0, none⟩ v0) (fun k e => by cases e; exact hB)).grownRow (grown_set _ ⟨B, 1, none⟩ v1) (fun k e => by cases e; exact hB)

set_option maxRecDepth 20000 in
set_option maxHeartbeats 4000000 in
theorem counts_walk (a : Option Addr) (len cap : Nat) (zs : List Int) (F : Int) (u1 : (Lit.int .u16 F).wf = true) (w : World) (hi : InRow w a len cap zs) :
    Calls Try.prog 4 #[.slice a len cap, .int .u16 F] w fun e w' => e = .returned (.bool true) ∧ Below w.heap.size w w' := by
  have b0 := bounds_u16 u1
  clear u1
  have HI := Lib.hid hi
  clear hi
  go_enter Try.func4, Try.ntmps4
  go_wp2_with fail
  refine (new_any a len cap zs w HI.out).mono ?_
  rintro e w1 ⟨rfl, hg, hs, hlt⟩
  have G := Lib.hid hg
  have HS := Lib.hid hs
  clear hg hs
  go_wp2_with fail
  refine (meter_any w.heap.size w1 HS.out).mono ?_
  rintro e w2 ⟨p, b, f, hv, rfl, hg, hs⟩
  have V := Lib.hid (valid16 hv)
  have hlt2 : w.heap.size < w2.heap.size := src_lt hs
  have G := Lib.hid (show w.grownBy w2 none from grown_off G.out hg (Nat.le_refl _))
  have HS := Lib.hid hs
  clear hg hs hv hlt
  unfold mv
  go_wp2_with fail
  refine (n_any w.heap.size 15 _ ((HS.out.grown (World.grownBy_alloc _ _ _)).grown (World.grownBy_alloc _ _ _)) (by omega) (by omega)).mono ?_
  rintro e w4 ⟨i0, hi0, rfl, hg, hs⟩
  have W4 : Hid (CW w4 w2.heap.size p f F 0) := by
    refine CW.row (w := (w2.alloc (Obj.cells #[.int .i64 p, .int .i64 16, .int .i64 f] 23)).alloc (Obj.cells #[.int .i64 F, .int .i64 0] 25)) ?_ hg (fun k e => by cases e; omega)
    unfold CW
    refine ⟨?_, ?_, ?_, ?_, ?_, ?_, ?_⟩
    all_goals go_simp
  have G := Lib.hid (show w.grownBy w4 none from grown_off (grown_trans G.out (grown_trans (World.grownBy_alloc _ _ _) (World.grownBy_alloc _ _ _))) hg (Nat.le_refl _))
  have HS := Lib.hid hs
  obtain ⟨i1, rfl⟩ := Int.eq_ofNat_of_zero_le hi0.1
  clear hg hs
  go_wp2
  go_loopw [4, 8, 9] (fun _ s8 s9 wr => ∃ (i : Nat) (t : Int), s9 = .int .i64 i ∧ i ≤ 15 ∧ 0 ≤ t ∧ t ≤ 1000000 - 65536 * (i : Int) ∧ s8 = .int .i64 t ∧ Hid (CW wr w2.heap.size p f ((F + t) % 65536) t) ∧ Hid (SrcOK wr w.heap.size) ∧ Hid (w.grownBy wr none)) (fun _ _ s _ => (intOf s).toNat)
  case atStart => exact ⟨i1, 0, rfl, by omega, by omega, by omega, rfl, by rw [show (F + 0) % 65536 = F by omega]; exact W4, HS, G⟩
  case round =>
    obtain ⟨i, t, rfl, hi, ht1, ht2, rfl, CWr, HSr, Gr⟩ := hrel
    by_cases hlt : 0 < i
    · obtain ⟨i, rfl⟩ : ∃ j, i = j + 1 := ⟨i - 1, by omega⟩
      go_wp2_with fail
      refine Calls.mono (pick_lit w.heap.size 3 wr.heap.size [2, 100, 65536] #[.int .i64 2, .int .i64 100, .int .i64 65536] wr rfl HSr.out rfl (by omega) (by omega) ?_) ?_
      · intro i hi
        match i, hi with
        | 0, _ => rfl
        | 1, _ => rfl
        | 2, _ => rfl
      rintro e w5 ⟨m, hm, rfl, hg, hs⟩
      have hm2 : 1 ≤ m ∧ m ≤ 65536 := by simp at hm; omega
      have CW5 := Lib.hid (CWr.out.row hg (fun k e => by cases e; exact hlt2))
      have HS5 := Lib.hid hs
      have G5 := Lib.hid (show w.grownBy w5 none from grown_off Gr.out hg (Nat.le_refl _))
      clear hg hs hm
      go_wp2_with fail
      refine (n_any w.heap.size m w5 HS5.out hm2.1 (by omega)).mono ?_
      rintro e w6 ⟨k, hk, rfl, hg, hs⟩
      have CW6 := Lib.hid (CW5.out.row hg (fun k e => by cases e; exact hlt2))
      have HS6 := Lib.hid hs
      have G6 := Lib.hid (show w.grownBy w6 none from grown_off G5.out hg (Nat.le_refl _))
      clear hg hs
      obtain ⟨k0, k1, k2, c0, c1, f0, f1⟩ := CW6.out
      go_wp2_with fail
      have a1 : 0 ≤ (F + t) % 65536 ∧ (F + t) % 65536 < 65536 := by omega
      have a2 : 0 ≤ (F + (t + k)) % 65536 ∧ (F + (t + k)) % 65536 < 65536 := by omega
      have e1 : Mt.step 16 ((F + t) % 65536) ((F + (t + k)) % 65536) = k := step_mod a1.1 a1.2 hk.1 (by omega) (by omega)
      have e2 : Mt.step 16 ((F + (t + k)) % 65536) ((F + (t + k)) % 65536) = 0 := step_mod a2.1 a2.2 (by omega) (by omega) (by omega)
      generalize (F + t) % 65536 = l0 at *
      obtain ⟨N, hN⟩ : ∃ N, N = (F + (t + k)) % 65536 := ⟨_, rfl⟩
      rw [← hN] at a2 e1 e2 ⊢
      have HN := Lib.hid hN
      have h1 := fun w => read_to p f l0 t N k w V.out a1.1 a1.2 ht1 a2.1 a2.2 e1 (by omega)
      have h2 := fun w => read_to p f N (t + k) N 0 w V.out a2.1 a2.2 (by omega) a2.1 a2.2 e2 (by omega)
      rw [Int.add_zero] at h2
      unfold mv cv at h1 h2
      have H1 := Lib.hid h1
      have H2 := Lib.hid h2
      clear h1 h2 e1 e2 hN a1
      refine (H1.out _).mono ?_
      rintro e w7 ⟨rfl, hg⟩
      have CW7 := Lib.hid ((CW6.out.grown hg).next N (t + k))
      have HS7 := Lib.hid ((HS6.out.grown hg).next (show w.heap.size < w2.heap.size + 1 by omega) (.int .i64 N) (.int .i64 (t + k)))
      have G7 := Lib.hid (stored2_grown (B := w2.heap.size + 1) (.int .i64 N) (.int .i64 (t + k)) (grown_trans G6.out hg) (by omega))
      obtain ⟨q0, q1, q2, d0, d1, j0, j1⟩ := CW6.out.grown hg
      clear hg k0 k1 k2 c0 c1 f0 f1
      obtain ⟨k0, k1, k2, c0, c1, f0, f1⟩ := CW7.out
      go_wp2_with fail
      refine (H2.out _).mono ?_
      rintro e w8 ⟨rfl, hg⟩
      clear q0 q1 q2 d0 d1 j0 j1 k0 k1 k2 c0 c1 f0 f1
      have CW8 := Lib.hid ((CW7.out.grown hg).next N (t + k))
      have HS8 := Lib.hid ((HS7.out.grown hg).next (show w.heap.size < w2.heap.size + 1 by omega) (.int .i64 N) (.int .i64 (t + k)))
      have G8 := Lib.hid (stored2_grown (B := w2.heap.size + 1) (.int .i64 N) (.int .i64 (t + k)) (grown_trans G7.out hg) (by omega))
      obtain ⟨q0, q1, q2, d0, d1, j0, j1⟩ := CW7.out.grown hg
      obtain ⟨k0, k1, k2, c0, c1, f0, f1⟩ := CW8.out
      clear hg
      go_wp2
      go_roundw
      case rel => exact ⟨i, t + k, by go_num, by omega, by omega, by omega, rfl, by rw [← HN.out]; exact CW8, HS8, G8⟩
      case measure => simp [intOf]
    · obtain rfl : i = 0 := by omega
      go_wp2_with fail
      refine (awake_any _).mono ?_
      rintro e w6 ⟨rfl, hg⟩
      have GC := Lib.hid (grown_trans Gr.out hg)
      clear hg
      go_wp2
      go_ret
      exact ⟨rfl, grown_below GC.out⟩
end Go.Proofs.Ytilchmlbihffdaa
