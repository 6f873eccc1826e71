/- BoundaryAnswers: the walk. -/
import Derived.Test.YtagemdgbnajobaaHj
namespace Go.Proofs.Ytagemdgbnajobaa
open Go.ChangeShapes Go.WideShapes Go.ChangeAt Go.RowKit

theorem FR.lt {w : World} {s : Sl} {f : List Fm.Pc} (h : FR w s f) (hn : 0 < s.n) : ∀ b, s.blk = some b → b < w.heap.size := by
  intro b hb
  obtain ⟨b', off, x, y, e, _, hc, _⟩ := h.at_ 0 hn
  have := World.block_lt_of_cell? _ _ hc
  rw [Sl.blk, e] at hb
  cases hb
  exact this
theorem FR.row0 {w w' : World} {s : Sl} {f : List Fm.Pc} {S : Nat} (h : FR w s f) (g : w.grownBy w' (some S)) (hn : 0 < s.n → s.blk ≠ some S) : FR w' s f := by
  by_cases h0 : 0 < s.n
  · exact h.row g (hn h0)
  · have : f = [] := List.eq_nil_of_length_eq_zero (by have := h.len; omega)
    subst this
    exact ⟨h.fit, h.len, fun j u hu => by simp [f2] at hu⟩
theorem nil_lit (W : World) : OP W.heap.size (W.alloc (.cells #[] 49)) ⟨some ⟨W.heap.size, 0, none⟩, 0, 0⟩ [] := by
  refine ⟨?_⟩
  have := World.ownsRow_lit (base := W.heap.size) (e := 49) (size := 2) W #[] 0 (Nat.le_refl _) (by unfold maxLen; omega) (by simp)
  simpa [Sl.v, f2] using this
def rowAt (rows : List Sl) (i : Nat) : Sl := rows.getD i ⟨none, 0, 0⟩
def fsAt (fs : List (List Fm.Pc)) (i : Nat) : List Fm.Pc := fs.getD i []
/-- Three rows, and the row of them. -/
structure Three (wr : World) (L : Nat) (rows : List Sl) (fs : List (List Fm.Pc)) : Prop where
  lc : ∀ i, i < 3 → wr.cell? ⟨L, i, none⟩ = some (rowAt rows i).v
  fr : ∀ i, i < 3 → FR wr (rowAt rows i) (fsAt fs i)
theorem Three.grown {w w' : World} {L : Nat} {rows : List Sl} {fs : List (List Fm.Pc)} (h : Three w L rows fs) (g : w.grownBy w' none) : Three w' L rows fs :=
  ⟨fun i hi => g.cell (h.lc i hi) (by simp), fun i hi => (h.fr i hi).grown g⟩
theorem three_new {w : World} {T : TypeId} (r0 r1 r2 : Sl) (f0 f1 f2 : List Fm.Pc) (h0 : FR w r0 f0) (h1 : FR w r1 f1) (h2 : FR w r2 f2) : Three (w.alloc (.cells #[r0.v, r1.v, r2.v] T)) w.heap.size [r0, r1, r2] [f0, f1, f2] := by
  have ga := World.grownBy_alloc w (.cells #[r0.v, r1.v, r2.v] T) none
  refine ⟨fun i hi => ?_, fun i hi => ?_⟩
  · match i, hi with
    | 0, _ => simp [rowAt]
    | 1, _ => simp [rowAt]
    | 2, _ => simp [rowAt]
  · match i, hi with
    | 0, _ => exact h0.grown ga
    | 1, _ => exact h1.grown ga
    | 2, _ => exact h2.grown ga
theorem six_ints (w : World) (p : Int) (h : IsI64 p) : ∀ j, j < 6 → ∃ v : Int, IsI64 v ∧ (w.alloc (.cells #[.int .i64 p, .int .i64 0, .int .i64 1, .int .i64 2, .int .i64 3, .int .i64 4] 3)).cell? ⟨w.heap.size, j, none⟩ = some (.int .i64 v) := by
  intro j hj
  match j, hj with
  | 0, _ => exact ⟨p, h, by simp⟩
  | 1, _ => exact ⟨0, ⟨by omega, by omega⟩, by simp⟩
  | 2, _ => exact ⟨1, ⟨by omega, by omega⟩, by simp⟩
  | 3, _ => exact ⟨2, ⟨by omega, by omega⟩, by simp⟩
  | 4, _ => exact ⟨3, ⟨by omega, by omega⟩, by simp⟩
  | 5, _ => exact ⟨4, ⟨by omega, by omega⟩, by simp⟩
theorem eight_ints (w : World) (p : Int) (h : IsI64 p) : ∀ j, j < 8 → ∃ v : Int, IsI64 v ∧ (w.alloc (.cells #[.int .i64 p, .int .i64 0, .int .i64 1, .int .i64 2, .int .i64 3, .int .i64 4, .int .i64 5, .int .i64 6] 3)).cell? ⟨w.heap.size, j, none⟩ = some (.int .i64 v) := by
  intro j hj
  match j, hj with
  | 0, _ => exact ⟨p, h, by simp⟩
  | 1, _ => exact ⟨0, ⟨by omega, by omega⟩, by simp⟩
  | 2, _ => exact ⟨1, ⟨by omega, by omega⟩, by simp⟩
  | 3, _ => exact ⟨2, ⟨by omega, by omega⟩, by simp⟩
  | 4, _ => exact ⟨3, ⟨by omega, by omega⟩, by simp⟩
  | 5, _ => exact ⟨4, ⟨by omega, by omega⟩, by simp⟩
  | 6, _ => exact ⟨5, ⟨by omega, by omega⟩, by simp⟩
  | 7, _ => exact ⟨6, ⟨by omega, by omega⟩, by simp⟩
/-- Four pairs in a row. -/
theorem four_pairs {T : TypeId} (w : World) (p q r s : Int) (hp : IsI64 p) (hq : IsI64 q) (hr : IsI64 r) (hs : IsI64 s) : ∀ j, j < 4 → ∃ x y : Int, IsI64 x ∧ IsI64 y ∧
    (w.alloc (.cells #[.int .i64 p, .int .i64 q, .int .i64 r, .int .i64 s, .int .i64 1000000, .int .i64 1099511627776, .int .i64 1000001, .int .i64 0] T)).cell? ⟨w.heap.size, j * 2, none⟩ = some (.int .i64 x) ∧
    (w.alloc (.cells #[.int .i64 p, .int .i64 q, .int .i64 r, .int .i64 s, .int .i64 1000000, .int .i64 1099511627776, .int .i64 1000001, .int .i64 0] T)).cell? ⟨w.heap.size, j * 2 + 1, none⟩ = some (.int .i64 y) := by
  intro j hj
  match j, hj with
  | 0, _ => exact ⟨p, q, hp, hq, by simp, by simp⟩
  | 1, _ => exact ⟨r, s, hr, hs, by simp, by simp⟩
  | 2, _ => exact ⟨1000000, 1099511627776, ⟨by omega, by omega⟩, ⟨by omega, by omega⟩, by simp, by simp⟩
  | 3, _ => exact ⟨1000001, 0, ⟨by omega, by omega⟩, ⟨by omega, by omega⟩, by simp, by simp⟩
theorem cutV_tuple (m r : Int) : ∃ a b c d : Int, cutV m r = .tuple #[.int .i64 a, .int .i64 b, .int .i64 c, .int .i64 d] := ⟨_, _, _, _, rfl⟩
set_option maxRecDepth 100000 in
set_option maxHeartbeats 8000000 in
theorem answers_walk (s : Sl) (f : List Fm.Pc) (batch factor travelled rule : Int) (back : Bool) (a : Option Addr) (len cap : Nat) (zs : List Int) (w : World) (hf : FR w s f) (hb : IsI64 batch) (hfa : IsI64 factor) (htr : IsI64 travelled) (hru : IsI64 rule) (hi : InRow w a len cap zs) :
    Calls Try.prog 3 #[s.v, .int .i64 batch, .int .i64 factor, .int .i64 travelled, .int .i64 rule, .bool back, .slice a len cap] w fun e w' => e = .returned (.bool true) ∧ Below w.heap.size w w' := by
  obtain ⟨i0, hi0, hz0, hz1, hz2⟩ := parts_p
  obtain ⟨sa, sn, sc⟩ := s
  have A := Lib.hid hf
  have HI := Lib.hid hi
  have HB := Lib.hid hb
  have HFA := Lib.hid hfa
  have HTR := Lib.hid htr
  have HRU := Lib.hid hru
  have fit1 := hf.fit
  dsimp only [Sl.fit] at fit1
  clear hf hi hb hfa htr hru
  unfold Sl.v
  dsimp only
  by_cases h1 : 300 < sn
  · have h1i : (300 : Int) < (sn : Int) := by omega
    go_enter Try.func3, Try.ntmps3
    go_wp2_with fail
    refine (awake15_any w).mono ?_
    rintro e w1 ⟨rfl, hg⟩
    have G := Lib.hid hg
    clear hg
    go_wp2
    go_ret
    exact ⟨rfl, grown_below G.out⟩
  have h1i : decide ((300 : Int) < (sn : Int)) = false := decide_eq_false (by omega)
  have S1 := Lib.hid (A.out.lt)
  go_enter Try.func3, Try.ntmps3
  go_wp2_with fail
  refine (new_any a len cap zs w HI.out).mono ?_
  rintro e w1 ⟨rfl, hg, hs, _⟩
  have G := Lib.hid hg
  have HS := Lib.hid hs
  replace A := Lib.hid (A.out.grown hg)
  clear hg hs HI h1i
  obtain ⟨S, hS⟩ : ∃ S, S = w.heap.size := ⟨_, rfl⟩
  have SW := Lib.hid hS
  rw [← hS] at HS ⊢
  have N1 := Lib.hid (show 0 < (⟨sa, sn, sc⟩ : Sl).n → (⟨sa, sn, sc⟩ : Sl).blk ≠ some S from fun h e => by have := S1.out h _ e; omega)
  clear hS S1
  go_wp2_with fail
  refine (n_any S 200 w1 HS.out (by omega) (by omega)).mono ?_
  rintro e w2 ⟨V1, ⟨hv1, hv2⟩, rfl, hg, hs⟩
  replace A := Lib.hid (A.out.row0 hg N1.out)
  replace G := Lib.hid (G.out.under SW.out hg)
  replace HS := Lib.hid hs
  clear hg hs
  go_wp2_with fail
  refine (fill_any S V1 4 w2 HS.out (by omega) (by omega) (by omega) (by omega)).mono ?_
  rintro e w3 ⟨⟨fa, fn, fc⟩, f3, rfl, ho, hf, hg, hs⟩
  have F := Lib.hid ho.fr
  have hfl := ho.fr.len
  have hfn12 : fn ≤ 12 := by have := hf.len; dsimp only at hfl; omega
  replace A := Lib.hid (A.out.row0 hg N1.out)
  replace G := Lib.hid (G.out.under SW.out hg)
  replace HS := Lib.hid hs
  have OF := Lib.hid ho
  clear ho hf hg hs
  dsimp only [Sl.v] at *
  have OL := Lib.hid (nil_lit w3)
  have szw := G.out.size
  go_wp2_with (first
    | (at_builtin
       refine wpList_appV rfl _ _ 22 rfl (S := ⟨some ⟨w3.heap.size, 0, none⟩, 0, 0⟩) (V := ⟨fa, fn, fc⟩) (vs := f2 f3) Try.underlying22 hi0 hz0 hz1 hz2 (by rfl) (by omega) rfl rfl OL.out ?a1 ?a2 (F.out.grown (World.grownBy_alloc _ _ _)).cr (f2_one _) ?a3 ?a4 ?_
       case a1 => simp
       case a2 => rw [f2_len]; dsimp only; omega
       case a3 => dsimp only; omega
       case a4 => dsimp only; omega
       intro r w4 hrn hr hg1 hbl
       obtain ⟨ra, rn, rc⟩ := r
       dsimp only [Sl.v] at *
       have L1 := Lib.hid (show rn = fn by omega)
       clear hrn
       have R1 := Lib.hid hr
       have G1 := Lib.hid (grown_row0 (World.grownBy_alloc _ _ _) hg1 (fun b hb => by simp [Sl.blk] at hb; omega))
       clear hr hg1 hbl)
    | (at_builtin
       refine wpList_appV rfl _ _ 22 rfl (S := ⟨ra, rn, rc⟩) (V := ⟨fa, fn, fc⟩) (vs := f2 f3) Try.underlying22 hi0 hz0 hz1 hz2 (by rfl) (by omega) rfl rfl R1.out ?b1 ?b2 (F.out.grown G1.out).cr (f2_one _) ?b3 ?b4 ?_
       case b1 => exact G1.out.size
       case b2 => rw [f2_len]; dsimp only; omega
       case b3 => have := L1.out; dsimp only; omega
       case b4 => have := L1.out; dsimp only; omega
       intro r2 w5 hrn2 hr2 hg2' hbl2
       clear hrn2
       obtain ⟨qa, qn, qc⟩ := r2
       dsimp only [Sl.v] at *
       have R2 := Lib.hid (show OP w3.heap.size w5 ⟨qa, qn, qc⟩ (f3 ++ f3) by rw [OP, f2_app]; exact hr2)
       have G2 := Lib.hid (grown_row0 G1.out hg2' (fun b hb => (R1.out.blk b hb).1))
       clear hr2 hg2' hbl2)
    | fail)
  have TH := Lib.hid (three_new (T := 22) ⟨sa, sn, sc⟩ ⟨fa, fn, fc⟩ ⟨qa, qn, qc⟩ f f3 (f3 ++ f3) (A.out.grown G2.out) (F.out.grown G2.out) R2.out.fr)
  have G6 := Lib.hid (grown_trans G2.out (World.grownBy_alloc w5 (.cells #[(⟨sa, sn, sc⟩ : Sl).v, (⟨fa, fn, fc⟩ : Sl).v, (⟨qa, qn, qc⟩ : Sl).v] 22) none))
  replace G := Lib.hid (grown_trans G.out G6.out)
  replace HS := Lib.hid (HS.out.grown G6.out)
  dsimp only [Sl.v] at TH G6 G HS
  obtain ⟨L, hL⟩ : ∃ L, L = w5.heap.size := ⟨_, rfl⟩
  rw [← hL] at TH ⊢
  obtain ⟨w6, hw6⟩ : ∃ w6, w6 = w5.alloc (.cells #[.slice sa sn sc, .slice fa fn fc, .slice qa qn qc] 22) := ⟨_, rfl⟩
  rw [← hw6] at TH G HS ⊢
  clear hL hw6 G6 A F OF OL G2 R2 R1 G1 L1 N1 hfl fit1 szw
  generalize ([⟨sa, sn, sc⟩, ⟨fa, fn, fc⟩, ⟨qa, qn, qc⟩] : List Sl) = rows at TH
  generalize ([f, f3, f3 ++ f3] : List (List Fm.Pc)) = fs at TH
  go_loopw [64] (fun s64 wr => ∃ k : Nat, s64 = .int .i64 k ∧ k ≤ 3 ∧ Hid (w6.grownBy wr none)) (fun s64 _ => 3 - (intOf s64).toNat)
  case atStart => exact ⟨0, rfl, by omega, Lib.hid (grown_refl _ _)⟩
  case round =>
    obtain ⟨k, rfl, hk, GL⟩ := hrel
    by_cases hlt : k < 3
    · obtain ⟨⟨xa, xn, xc⟩, hx⟩ : ∃ x, rowAt rows k = x := ⟨_, rfl⟩
      obtain ⟨h, hh⟩ : ∃ h, fsAt fs k = h := ⟨_, rfl⟩
      have lc := (TH.out.grown GL.out).lc k hlt
      have X := (TH.out.grown GL.out).fr k hlt
      rw [hx] at lc
      rw [hx, hh] at X
      dsimp only [Sl.v] at lc
      replace X := Lib.hid X
      obtain ⟨EI, hEI⟩ : ∃ E, E = invOf h := ⟨_, rfl⟩
      have HEI := Lib.hid hEI
      clear hx hh hEI
      go_wp2_with fail
      refine (blist_any ⟨xa, xn, xc⟩ h wr X.out).mono ?_
      rw [← HEI.out]
      rintro e w7 ⟨⟨ba, bn, bc⟩, rfl, hb, hg⟩
      have B := Lib.hid hb
      replace X := Lib.hid (X.out.grown hg)
      replace GL := Lib.hid (grown_trans GL.out hg)
      clear hb hg lc
      dsimp only [Sl.v]
      go_wp2_with fail
      refine (rlist_any ⟨xa, xn, xc⟩ h w7 X.out).mono ?_
      rw [← HEI.out]
      rintro e w8 ⟨⟨ca, cn, cc⟩, rfl, hc, hg⟩
      have C := Lib.hid hc
      replace B := Lib.hid (B.out.grown hg)
      replace X := Lib.hid (X.out.grown hg)
      replace GL := Lib.hid (grown_trans GL.out hg)
      clear hc hg
      dsimp only [Sl.v]
      go_wp2_with fail
      refine (rsameL_any ⟨ba, bn, bc⟩ ⟨ca, cn, cc⟩ _ _ w8 B.out C.out).mono ?_
      rw [sameL_refl]
      rintro e w9 ⟨rfl, hg⟩
      replace X := Lib.hid (X.out.grown hg)
      replace GL := Lib.hid (grown_trans GL.out hg)
      clear hg B C
      have SX := Lib.hid (six_ints w9 batch HB.out)
      have GA := Lib.hid (World.grownBy_alloc w9 (.cells #[.int .i64 batch, .int .i64 0, .int .i64 1, .int .i64 2, .int .i64 3, .int .i64 4] 3) none)
      replace X := Lib.hid (X.out.grown GA.out)
      replace GL := Lib.hid (grown_trans GL.out GA.out)
      go_wp2
      obtain ⟨L2, hL2⟩ : ∃ L2, L2 = w9.heap.size := ⟨_, rfl⟩
      rw [← hL2] at SX ⊢
      obtain ⟨wa, hwa⟩ : ∃ wa, wa = w9.alloc (.cells #[.int .i64 batch, .int .i64 0, .int .i64 1, .int .i64 2, .int .i64 3, .int .i64 4] 3) := ⟨_, rfl⟩
      rw [← hwa] at SX X GL ⊢
      clear hL2 hwa GA
      go_loopw [90] (fun s90 wr => ∃ j : Nat, s90 = .int .i64 j ∧ j ≤ 6 ∧ Hid (wa.grownBy wr none)) (fun s90 _ => 6 - (intOf s90).toNat)
      case atStart => exact ⟨0, rfl, by omega, Lib.hid (grown_refl _ _)⟩
      case round =>
        obtain ⟨j, rfl, hj, GI⟩ := hrel
        by_cases hlt2 : j < 6
        · obtain ⟨v, hv, cv⟩ := SX.out j hlt2
          have c0 := GI.out.cell cv (by simp)
          have HV := Lib.hid hv
          obtain ⟨VV, hVV⟩ : ∃ V, V = aheadV h v back := ⟨_, rfl⟩
          obtain ⟨EE, hEE⟩ : ∃ E, E = aheadE h v back := ⟨_, rfl⟩
          have HVV := Lib.hid hVV
          have HEE := Lib.hid hEE
          clear hv cv hVV hEE
          have X2 := Lib.hid (X.out.grown GI.out)
          go_wp2_with fail
          refine (bahead_any ⟨xa, xn, xc⟩ h v back wr X2.out HV.out).mono ?_
          rw [← HVV.out, ← HEE.out]
          rintro e w10 ⟨rfl, hg⟩
          replace X2 := Lib.hid (X2.out.grown hg)
          replace GI := Lib.hid (grown_trans GI.out hg)
          clear hg c0
          go_wp2_with fail
          refine (rahead_any ⟨xa, xn, xc⟩ h v back w10 X2.out).mono ?_
          rw [← HVV.out, ← HEE.out]
          rintro e w11 ⟨rfl, hg⟩
          replace GI := Lib.hid (grown_trans GI.out hg)
          clear hg
          go_wp2
          go_roundw
          case rel => exact ⟨j + 1, by go_num, by omega, GI⟩
          case measure => simp [intOf]; omega
        · obtain rfl : j = 6 := by omega
          replace GL := Lib.hid (grown_trans GL.out GI.out)
          go_wp2
          go_roundw
          case rel => exact ⟨k + 1, by go_num, by omega, GL⟩
          case measure => simp [intOf]; omega
    · obtain rfl : k = 3 := by omega
      replace G := Lib.hid (grown_trans G.out GL.out)
      replace HS := Lib.hid (HS.out.grown GL.out)
      clear TH GL
      go_wp2_with fail
      refine (n_any S 2000 wr HS.out (by omega) (by omega)).mono ?_
      rintro e w12 ⟨V2, ⟨hv3, hv4⟩, rfl, hg, hs⟩
      replace G := Lib.hid (G.out.under SW.out hg)
      replace HS := Lib.hid hs
      clear hg hs
      go_wp2_with fail
      refine (n_any S 100000 w12 HS.out (by omega) (by omega)).mono ?_
      rintro e w13 ⟨V3, ⟨hv5, hv6⟩, rfl, hg, hs⟩
      replace G := Lib.hid (G.out.under SW.out hg)
      clear hg hs HS
      have FP := Lib.hid (four_pairs (T := 37) w13 factor travelled V2 V3 HFA.out HTR.out ⟨by omega, by omega⟩ ⟨by omega, by omega⟩)
      replace G := Lib.hid (grown_trans G.out (World.grownBy_alloc w13 (.cells #[.int .i64 factor, .int .i64 travelled, .int .i64 V2, .int .i64 V3, .int .i64 1000000, .int .i64 1099511627776, .int .i64 1000001, .int .i64 0] 37) none))
      go_wp2
      obtain ⟨L3, hL3⟩ : ∃ L3, L3 = w13.heap.size := ⟨_, rfl⟩
      rw [← hL3] at FP ⊢
      obtain ⟨wb, hwb⟩ : ∃ wb, wb = w13.alloc (.cells #[.int .i64 factor, .int .i64 travelled, .int .i64 V2, .int .i64 V3, .int .i64 1000000, .int .i64 1099511627776, .int .i64 1000001, .int .i64 0] 37) := ⟨_, rfl⟩
      rw [← hwb] at FP G ⊢
      clear hL3 hwb
      go_loopw [130] (fun s130 wr => ∃ k : Nat, s130 = .int .i64 k ∧ k ≤ 4 ∧ Hid (wb.grownBy wr none)) (fun s130 _ => 4 - (intOf s130).toNat)
      case atStart => exact ⟨0, rfl, by omega, Lib.hid (grown_refl _ _)⟩
      case round =>
        obtain ⟨k, rfl, hk, GL⟩ := hrel
        by_cases hlt3 : k < 4
        · obtain ⟨x, y, hx, hy, cx, cy⟩ := FP.out k hlt3
          have c0 := GL.out.cell cx (by simp)
          have c1 := GL.out.cell cy (by simp)
          have HX := Lib.hid hx
          have HY := Lib.hid hy
          have GA := Lib.hid (World.grownBy_alloc wr (.cells #[.int .i64 x, .int .i64 y] 37) none)
          clear hx hy cx cy
          go_wp2_with fail
          refine (bmixture_any x y _ HX.out HY.out).mono ?_
          rintro e w14 ⟨r1, e1, rfl, m1, hg⟩
          have M1 := Lib.hid m1
          have B0 := hg.cell (show (wr.alloc (.cells #[.int .i64 x, .int .i64 y] 37)).cell? ⟨wr.heap.size, 0, none⟩ = some (.int .i64 x) by simp) (by simp)
          have B1 := hg.cell (show (wr.alloc (.cells #[.int .i64 x, .int .i64 y] 37)).cell? ⟨wr.heap.size, 1, none⟩ = some (.int .i64 y) by simp) (by simp)
          replace GL := Lib.hid (grown_trans GL.out (grown_trans GA.out hg))
          clear hg m1 c0 c1 GA
          obtain ⟨P, hP⟩ : ∃ P, P = wr.heap.size := ⟨_, rfl⟩
          rw [← hP] at B0 B1 ⊢
          clear hP
          go_wp2_with fail
          refine (rmixture_any x y w14).mono ?_
          rintro e w15 ⟨r2, e2, rfl, m2, hg⟩
          obtain ⟨rfl, rfl⟩ := mixOf_one M1.out m2
          replace B0 := hg.cell B0 (by simp)
          replace B1 := hg.cell B1 (by simp)
          replace GL := Lib.hid (grown_trans GL.out hg)
          have EX := Lib.hid (eight_ints w15 rule HRU.out)
          have GA := Lib.hid (World.grownBy_alloc w15 (.cells #[.int .i64 rule, .int .i64 0, .int .i64 1, .int .i64 2, .int .i64 3, .int .i64 4, .int .i64 5, .int .i64 6] 3) none)
          replace B0 := Lib.hid (GA.out.cell B0 (by simp))
          replace GL := Lib.hid (grown_trans GL.out GA.out)
          clear hg m2 M1 B1
          go_wp2
          obtain ⟨L4, hL4⟩ : ∃ L4, L4 = w15.heap.size := ⟨_, rfl⟩
          rw [← hL4] at EX ⊢
          obtain ⟨wc, hwc⟩ : ∃ wc, wc = w15.alloc (.cells #[.int .i64 rule, .int .i64 0, .int .i64 1, .int .i64 2, .int .i64 3, .int .i64 4, .int .i64 5, .int .i64 6] 3) := ⟨_, rfl⟩
          rw [← hwc] at EX GL B0 ⊢
          clear hL4 hwc GA
          go_loopw [161] (fun s161 wr => ∃ j : Nat, s161 = .int .i64 j ∧ j ≤ 8 ∧ Hid (wc.grownBy wr none)) (fun s161 _ => 8 - (intOf s161).toNat)
          case atStart => exact ⟨0, rfl, by omega, Lib.hid (grown_refl _ _)⟩
          case round =>
            obtain ⟨j, rfl, hj, GI⟩ := hrel
            by_cases hlt4 : j < 8
            · obtain ⟨v, hv, cv⟩ := EX.out j hlt4
              have c0 := GI.out.cell cv (by simp)
              have b0 := GI.out.cell B0.out (by simp)
              have HV := Lib.hid hv
              obtain ⟨q1, q2, q3, q4, hq⟩ := cutV_tuple x v
              have HQ := Lib.hid hq
              clear hv cv hq
              go_wp2_with fail
              refine (bcut_any x v wr HX.out HV.out).mono ?_
              rw [HQ.out]
              rintro e w16 ⟨rfl, hg⟩
              replace b0 := hg.cell b0 (by simp)
              replace GI := Lib.hid (grown_trans GI.out hg)
              clear hg c0
              go_wp2_with fail
              refine (rcut_any x v w16).mono ?_
              rw [HQ.out]
              rintro e w17 ⟨rfl, hg⟩
              replace GI := Lib.hid (grown_trans GI.out hg)
              clear hg b0
              go_wp2
              go_roundw
              case rel => exact ⟨j + 1, by go_num, by omega, GI⟩
              case measure => simp [intOf]; omega
            · obtain rfl : j = 8 := by omega
              replace GL := Lib.hid (grown_trans GL.out GI.out)
              go_wp2
              go_roundw
              case rel => exact ⟨k + 1, by go_num, by omega, GL⟩
              case measure => simp [intOf]; omega
        · obtain rfl : k = 4 := by omega
          replace G := Lib.hid (grown_trans G.out GL.out)
          go_wp2_with fail
          refine (awake15_any wr).mono ?_
          rintro e wz ⟨rfl, hg⟩
          replace G := Lib.hid (grown_trans G.out hg)
          clear hg
          go_wp2
          go_ret
          exact ⟨rfl, grown_below G.out⟩
end Go.Proofs.Ytagemdgbnajobaa
