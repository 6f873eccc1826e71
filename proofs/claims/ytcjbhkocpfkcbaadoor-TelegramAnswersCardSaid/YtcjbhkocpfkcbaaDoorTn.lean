/- Contract of Decode. -/
import Derived.Test.YtcjbhkocpfkcbaaDoorTl
import Derived.Test.YtcjbhkocpfkcbaaDoorWireUnst
namespace Go.Proofs.YtcjbhkocpfkcbaaDoor.Wr
open Go.ChangeShapes Go.WideShapes Go.ChangeAt Go.RowKit

def DecEnd (l : List UInt8) (w : World) (e : Ending) (w' : World) : Prop :=
  w.grownBy w' none ∧ ∃ t V m cv er, e = .returned (.tuple #[tv t (.slice V m cv), .int .i64 er]) ∧ IR w' V m t.vs ∧ m ≤ 16 ∧ Tm.Dc l t er
theorem decEnd_bad {l : List UInt8} {w w' : World} {er : Int} (g : w.grownBy w' none) (h : Tm.Dc l Tm.zero er) : DecEnd l w (.returned (.tuple #[tv Tm.zero nilV, .int .i64 er])) w' :=
  ⟨g, Tm.zero, none, 0, 0, er, rfl, IR.nil _ _, by omega, h⟩

theorem unst_len {l : List UInt8} (h : (Wm.unst l).2 = 0) : (Wm.unst l).1.length ≤ l.length := by
  have h1 := congrArg List.length (Wm.unst_ok h)
  have h2 := (Wm.esc_len (Wm.unst l).1).1
  rw [Wm.frame_len] at h1
  omega

theorem read_bad {y : List UInt8} {t : Tm.Tg} (h : y = Tm.body t.nums) (hf : t.fits) (hl : t.vs.length ≤ 16) (hok : t.ok = false) : ∀ u : Tm.Tg, u.ok = true → y ≠ Tm.body u.nums := by
  intro u hu e
  have := Tm.Tg.nums_inj (Tm.body_inj (Tm.Tg.nums_fit hf hl) (Tm.Tg.nums_ok hu) (h.symm.trans e))
  subst this
  rw [hok] at hu
  cases hu

set_option maxHeartbeats 1000000 in
theorem decode_any (A : Option Addr) (n c : Nat) (l : List UInt8) (w : World) (h : RB w A n l) (hc : n ≤ c) (hc2 : c ≤ 9223372036854775807) (hn : n ≤ 1000000) (ht : Tabled w) :
    Calls Tryd.prog 24 #[.slice A n c] w (DecEnd l w) := by
  have HL := Lib.hid h.1
  have HB := Lib.hid h
  have HT := Lib.hid (fun w' (g : w.grownBy w' none) => ht.grown g)
  by_cases hlim : 400 < n
  · have HD := Lib.hid (Tm.Dc.limit (l := l) (by rw [HL.out]; exact hlim))
    have hlim' : (400 : Int) < (n : Int) := by omega
    go_enter Tryd.func24, Tryd.ntmps24
    go_wp2
    refine bodyPost_ret (v := .tuple #[tv Tm.zero nilV, .int .i64 4]) (by simp [results, Tryd.results24, go_sem, tv, Tm.zero, nilV]) rfl (decEnd_bad (World.grownBy_alloc _ _ _) HD.out)
  · have hlen : l.length ≤ 400 := by rw [HL.out]; omega
    have hlim' : ¬ (400 : Int) < (n : Int) := by omega
    go_enter Tryd.func24, Tryd.ntmps24
    go_wp2_with fail
    obtain ⟨X, hX⟩ : ∃ X, w.heap.size = X := ⟨_, rfl⟩
    have X1 : Hid (Six (w.alloc (tcells Tm.zero nilV)) X Tm.zero nilV) := by rw [← hX]; exact Six.made w _ _
    have G1 : Hid (w.grownBy (w.alloc (tcells Tm.zero nilV)) none) := World.grownBy_alloc _ _ _
    rw [hX]
    unfold tcells nilV at X1 G1
    dsimp only [Tm.zero] at X1 G1
    generalize (w.alloc (Obj.cells #[.int .i64 0, .int .i64 0, .int .i64 0, .int .i64 0, .int .i64 0, .slice none 0 0] 24)) = W1 at *
    refine (unstuff_any A n c l W1 (HB.out.grown G1.out) hn hc hc2).mono ?_
    rintro e W2 ⟨A2, n2, c2, rfl, hm2⟩
    have G2 := Lib.hid (grown_trans G1.out hm2.gr)
    have X2 : Hid (Six W2 X Tm.zero nilV) := X1.out.grown hm2.gr (by simp)
    have R2 := Lib.hid hm2.rb
    obtain ⟨hc2a, hc2b, _⟩ := hm2.shape
    clear X1 G1 hm2
    obtain ⟨⟨x, er⟩, hU⟩ : ∃ r, Wm.unst l = r := ⟨_, rfl⟩
    rw [hU] at R2 ⊢
    dsimp only at R2 ⊢
    obtain ⟨⟨a0, a1, a2, a3, a4, a5⟩, b0, b1, b2, b3, b4, b5⟩ := X2.out
    by_cases her : er = 0
    · subst her
      have hx : x.length ≤ l.length := by have := unst_len (l := l) (by rw [hU]); rw [hU] at this; exact this
      have hn2 : n2 ≤ 400 := by have := R2.out.1; omega
      have hxn := R2.out.1
      by_cases h4 : n2 < 4
      · have HD := Lib.hid (Tm.Dc.short x hlen hU (by omega))
        clear hU
        go_wp2_with fail
        refine (checked_short A2 n2 c2 W2 h4).mono ?_
        rintro e W3 ⟨rfl, g3⟩
        have G3 := Lib.hid (grown_trans G2.out g3)
        have X3 := Lib.hid (X2.out.grown g3 (by simp))
        clear a0 a1 a2 a3 a4 a5 b0 b1 b2 b3 b4 b5 g3
        obtain ⟨⟨a0, a1, a2, a3, a4, a5⟩, b0, b1, b2, b3, b4, b5⟩ := X3.out
        go_wp2
        obtain ⟨⟨q0, q1, q2, q3, q4, q5⟩, _⟩ := X3.out.store Tm.zero nilV
        unfold six nilV at q0 q1 q2 q3 q4 q5
        dsimp only [Tm.zero] at q0 q1 q2 q3 q4 q5
        refine bodyPost_ret (v := .tuple #[tv Tm.zero nilV, .int .i64 2]) (by simp [results, Tryd.results24, go_sem, q0, q1, q2, q3, q4, q5, tv, Tm.zero, nilV]) rfl (decEnd_bad (grown_off G3.out (six_grown _ X Tm.zero nilV) (by omega)) HD.out)
      · obtain ⟨m, rfl⟩ : ∃ m, n2 = m + 4 := ⟨n2 - 4, by omega⟩
        obtain ⟨y, z, rfl, hz⟩ : ∃ y z, x = y ++ z ∧ z.length = 4 := ⟨x.take m, x.drop m, (List.take_append_drop m x).symm, by rw [List.length_drop]; omega⟩
        by_cases hs : z = Tm.four (Wm.crc y)
        · subst hs
          have hxy : y ++ Tm.four (Wm.crc y) = Tm.shut y := rfl
          rw [hxy] at hU
          have hy : y.length = m := by rw [List.length_append, Tm.four_len] at hxn; omega
          have HY : Hid (RB W2 A2 m y) := by
            have := R2.out.take m (by omega)
            rw [← hy, List.take_left] at this
            rw [← hy]; exact this
          go_wp2_with fail
          refine (checked_good A2 m c2 y (Tm.four (Wm.crc y)) W2 R2.out (HT.out _ G2.out) (by omega) hc2a hc2b rfl rfl).mono ?_
          rintro e W3 ⟨rfl, g3⟩
          have G3 := Lib.hid (grown_trans G2.out g3)
          have X3 := Lib.hid (X2.out.grown g3 (by simp))
          have HY := Lib.hid (HY.out.grown g3)
          clear a0 a1 a2 a3 a4 a5 b0 b1 b2 b3 b4 b5 g3 X2 R2
          go_wp2_with fail
          refine (read_any A2 m c2 y W3 HY.out (by omega) hc2b (by omega)).mono ?_
          rintro e W4 ⟨g4, hcase⟩
          have G4 := Lib.hid (grown_trans G3.out g4)
          have X4 := Lib.hid (X3.out.grown g4 (by simp))
          have hXlt : X < W4.heap.size := World.block_lt_of_cell? _ _ X4.out.1.1
          have hXlt3 : X < W3.heap.size := World.block_lt_of_cell? _ _ X3.out.1.1
          clear X3 g4
          rcases hcase with ⟨t, Y, m5, cv5, rfl, hY, hi, hm5, hf, hyt⟩ | ⟨t, V, m5, cv5, rfl, hno⟩
          · have HI := Lib.hid hi
            have hYX : Y ≠ X := by omega
            obtain ⟨V, hV⟩ : ∃ V : Option Addr, V = some ⟨Y, 0, none⟩ := ⟨_, rfl⟩
            rw [← hV] at HI hi ⊢
            have HV := Lib.hid hV
            clear hV
            have G5 := Lib.hid (grown_trans G4.out (World.grownBy_alloc W4 (tcells t (.slice V m5 cv5)) none))
            have gB : W4.grownBy (W4.alloc (tcells t (.slice V m5 cv5))) none := World.grownBy_alloc _ _ _
            by_cases hok : t.ok = true
            · have HD := Lib.hid (Tm.Dc.good t hlen (by rw [hU, hyt]; rfl) hok)
              have HO := Lib.hid hok
              clear hU hyt hf hi hok
              obtain ⟨ts, te, tq, tt, tk, vs⟩ := t
              unfold tv tcells at *
              dsimp only at *
              go_wp2_with fail
              refine (valid_at (t := ⟨ts, te, tq, tt, tk, vs⟩) (HI.out.grown gB) (by omega) HO.out).mono ?_
              rintro e W6 ⟨rfl, g6⟩
              have G6 := Lib.hid (grown_trans G5.out g6)
              obtain ⟨c0, c1, c2', c3, c4, c5⟩ := boxed_at (t := ⟨ts, te, tq, tt, tk, vs⟩) (V := .slice V m5 cv5) g6
              have X6 := Lib.hid ((X4.out.grown gB (by simp)).grown g6 (by simp))
              have I6 : Hid (IR (six W6 X ⟨ts, te, tq, tt, tk, vs⟩ (.slice V m5 cv5)) V m5 vs) := by have := HI.out.grown (grown_trans gB g6); rw [HV.out] at this ⊢; exact this.apart (six_grown _ X _ _) hYX
              clear g6 gB X4 G5 HI
              obtain ⟨⟨a0, a1, a2, a3, a4, a5⟩, b0, b1, b2, b3, b4, b5⟩ := X6.out
              go_wp2
              obtain ⟨⟨q0, q1, q2, q3, q4, q5⟩, _⟩ := X6.out.store ⟨ts, te, tq, tt, tk, vs⟩ (.slice V m5 cv5)
              unfold six at q0 q1 q2 q3 q4 q5
              try dsimp only [Tm.zero] at q0 q1 q2 q3 q4 q5
              refine bodyPost_ret (v := .tuple #[tv ⟨ts, te, tq, tt, tk, vs⟩ (.slice V m5 cv5), .int .i64 0]) (by simp [results, Tryd.results24, go_sem, q0, q1, q2, q3, q4, q5, tv]) rfl ⟨grown_off G6.out (six_grown _ X ⟨ts, te, tq, tt, tk, vs⟩ (.slice V m5 cv5)) (by omega), ⟨ts, te, tq, tt, tk, vs⟩, V, m5, cv5, 0, rfl, I6.out, hm5, HD.out⟩
            · have hok := eq_false_of_ne_true hok
              have HD := Lib.hid (Tm.Dc.form y hlen hU (read_bad hyt hf (by rw [hi.1]; exact hm5) hok))
              have HO := Lib.hid hok
              clear hU hyt hf hi hok
              obtain ⟨ts, te, tq, tt, tk, vs⟩ := t
              unfold tv tcells at *
              dsimp only at *
              go_wp2_with fail
              refine (valid_at (t := ⟨ts, te, tq, tt, tk, vs⟩) (HI.out.grown gB) (by omega) HO.out).mono ?_
              rintro e W6 ⟨rfl, g6⟩
              have G6 := Lib.hid (grown_trans G5.out g6)
              have X6 := Lib.hid ((X4.out.grown gB (by simp)).grown g6 (by simp))
              clear g6 gB X4 G5 HI
              obtain ⟨⟨a0, a1, a2, a3, a4, a5⟩, b0, b1, b2, b3, b4, b5⟩ := X6.out
              go_wp2
              obtain ⟨⟨q0, q1, q2, q3, q4, q5⟩, _⟩ := X6.out.store Tm.zero nilV
              unfold six nilV at q0 q1 q2 q3 q4 q5
              dsimp only [Tm.zero] at q0 q1 q2 q3 q4 q5
              refine bodyPost_ret (v := .tuple #[tv Tm.zero nilV, .int .i64 3]) (by simp [results, Tryd.results24, go_sem, q0, q1, q2, q3, q4, q5, tv, Tm.zero, nilV]) rfl (decEnd_bad (grown_off G6.out (six_grown _ X Tm.zero nilV) (by omega)) HD.out)
          · have HD := Lib.hid (Tm.Dc.form y hlen hU hno)
            clear hU hno
            obtain ⟨ts, te, tq, tt, tk, vs⟩ := t
            unfold tv at *
            dsimp only at *
            obtain ⟨⟨a0, a1, a2, a3, a4, a5⟩, b0, b1, b2, b3, b4, b5⟩ := X4.out
            go_wp2
            obtain ⟨⟨q0, q1, q2, q3, q4, q5⟩, _⟩ := (X4.out.store Tm.zero nilV).grown (World.grownBy_alloc _ (tcells ⟨ts, te, tq, tt, tk, vs⟩ (.slice V m5 cv5)) none) (by simp)
            unfold six nilV tcells at q0 q1 q2 q3 q4 q5
            dsimp only [Tm.zero] at q0 q1 q2 q3 q4 q5
            refine bodyPost_ret (v := .tuple #[tv Tm.zero nilV, .int .i64 3]) (by simp [results, Tryd.results24, go_sem, q0, q1, q2, q3, q4, q5, tv, Tm.zero, nilV]) rfl (decEnd_bad (grown_trans (grown_off G4.out (six_grown _ X Tm.zero nilV) (by omega)) (World.grownBy_alloc _ (tcells ⟨ts, te, tq, tt, tk, vs⟩ (.slice V m5 cv5)) none)) HD.out)
        · have HD := Lib.hid (Tm.Dc.sum y z hlen hU hz hs)
          clear hU
          go_wp2_with fail
          refine (checked_sum A2 m c2 y z W2 R2.out (HT.out _ G2.out) (by omega) hc2a hc2b hz hs).mono ?_
          rintro e W3 ⟨rfl, g3⟩
          have G3 := Lib.hid (grown_trans G2.out g3)
          have X3 := Lib.hid (X2.out.grown g3 (by simp))
          clear a0 a1 a2 a3 a4 a5 b0 b1 b2 b3 b4 b5 g3
          obtain ⟨⟨a0, a1, a2, a3, a4, a5⟩, b0, b1, b2, b3, b4, b5⟩ := X3.out
          go_wp2
          obtain ⟨⟨q0, q1, q2, q3, q4, q5⟩, _⟩ := X3.out.store Tm.zero nilV
          unfold six nilV at q0 q1 q2 q3 q4 q5
          dsimp only [Tm.zero] at q0 q1 q2 q3 q4 q5
          refine bodyPost_ret (v := .tuple #[tv Tm.zero nilV, .int .i64 5]) (by simp [results, Tryd.results24, go_sem, q0, q1, q2, q3, q4, q5, tv, Tm.zero, nilV]) rfl (decEnd_bad (grown_off G3.out (six_grown _ X Tm.zero nilV) (by omega)) HD.out)
    · have HD := Lib.hid (Tm.Dc.fr er hlen (by rw [hU]) her)
      clear hU
      go_wp2
      obtain ⟨⟨q0, q1, q2, q3, q4, q5⟩, _⟩ := X2.out.store Tm.zero nilV
      unfold six nilV at q0 q1 q2 q3 q4 q5
      dsimp only [Tm.zero] at q0 q1 q2 q3 q4 q5
      refine bodyPost_ret (v := .tuple #[tv Tm.zero nilV, .int .i64 er]) (by simp [results, Tryd.results24, go_sem, q0, q1, q2, q3, q4, q5, tv, Tm.zero, nilV]) rfl (decEnd_bad (grown_off G2.out (six_grown _ X Tm.zero nilV) (by omega)) HD.out)
end Go.Proofs.YtcjbhkocpfkcbaaDoor.Wr
