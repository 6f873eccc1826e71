/- The walk of RoundAnswers. -/
import Derived.Test.YtkpmhgikcipedaaRes
import Derived.Test.YtkpmhgikcipedaaAwake
import Derived.Deep.RegionHeld3
namespace Go.Proofs.Ytkpmhgikcipedaa
open Go.ChangeShapes Go.WideShapes Go.ChangeAt Go.RowKit

theorem awake_long (a b t : Int) (a3 : Option Addr) (len3 cap3 : Nat) (a4 : Option Addr) (len4 cap4 : Nat) (w : World) (h : 100 < len3) (h2 : len3 ≤ 9223372036854775807) :
    Calls Try.prog 3 #[.int .i64 a, .int .i64 b, .int .i64 t, .slice a3 len3 cap3, .slice a4 len4 cap4] w fun e w' => e = .returned (.bool true) ∧ Below w.heap.size w w' := by
  go_enter Try.func3, Try.ntmps3
  go_wp2_with fail
  refine (awake_any _).mono ?_; rintro e w' ⟨rfl, hg⟩
  have G := Lib.hid (grown_below hg)
  clear hg
  go_wp2
  go_ret
  exact ⟨rfl, G.out⟩

/-- What both functions are handed: a slice whose numbers lie outside block S. -/
def Far (W : World) (S : Nat) (v : Value) : Prop := ∃ (a : Option Addr) (n cap : Nat) (x : Nat → Int), v = .slice a n cap ∧ n ≤ 9223372036854775807 ∧ (∀ p, IsI64 (x p)) ∧ ∀ i, i < n → ∃ b off, b ≠ S ∧ a = some ⟨b, off, none⟩ ∧ W.cell? ⟨b, off + i, none⟩ = some (.int .i64 (x i))

theorem Far.grown {W W' : World} {S : Nat} {v : Value} (h : Far W S v) (hg : W.grownBy W' (some S)) : Far W' S v := by
  obtain ⟨a, n, cap, x, h1, h2, h3, h4⟩ := h
  refine ⟨a, n, cap, x, h1, h2, h3, fun i hi => ?_⟩
  obtain ⟨b, off, k1, k2, k3⟩ := h4 i hi
  exact ⟨b, off, k1, k2, hg.cell k3 (by simpa using k1)⟩
theorem Far.ws {W : World} {S : Nat} {a : Option Addr} {n : Nat} {x : Nat → Int} (h4 : ∀ i, i < n → ∃ b off, b ≠ S ∧ a = some ⟨b, off, none⟩ ∧ W.cell? ⟨b, off + i, none⟩ = some (.int .i64 (x i))) : Ws W a n x :=
  fun i hi => by obtain ⟨b, off, _, k2, k3⟩ := h4 i hi; exact ⟨b, off, k2, k3⟩

theorem SlI.grown {w w' : World} {v : Value} {xs : List Int} (h : SlI w v xs) (hg : w.grownBy w' none) : SlI w' v xs := by
  obtain ⟨a, b, off, cap, h1, h2, h3⟩ := h
  exact ⟨a, b, off, cap, h1, h2, fun i hi => hg.cell (h3 i hi) (by simp)⟩

/-- The weights that are collected. -/
def WOKA (w : World) (S : Nat) (wr : World) (v : Value) (m : Nat) (x : Nat → Int) : Prop :=
  wr.ownsRow (S + 1) 3 1 v m (vals x m) ∧ (∀ p, IsI64 (x p)) ∧ SrcOK wr S ∧ w.grownBy wr none ∧ S < wr.heap.size

theorem WOKA.next {w wr w' : World} {S m : Nat} {v v' : Value} {x : Nat → Int} {c : Int} (h : WOKA w S wr v m x) (hw : w.heap.size = S) (w4 w5 : World) (h4 : wr.grownBy w4 (some S)) (hs : SrcOK w4 S) (h5 : w4.grownBy w5 none)
    (hown : w'.ownsRow (S + 1) 3 1 v' (m + 1) (vals x m ++ [.int .i64 c])) (hg : w5.grownBy w' v.ownBlock) (hc : IsI64 c) : WOKA w S w' v' (m + 1) (setF x m c) := by
  obtain ⟨a1, a2, a3, a4, a5⟩ := h
  have g5 := grown_trans (grown_off a4 h4 (by omega)) h5
  have rowlt := own_row_lt a1
  have g6 : w.grownBy w' none := by
    cases hv : v.ownBlock with
    | none => rw [hv] at hg; exact grown_trans g5 hg
    | some k => rw [hv] at hg; exact grown_off g5 hg (by have := rowlt k hv; omega)
  refine ⟨by rw [vals_snoc]; exact hown, fun p => ?_, (hs.grown h5).grownRow hg rowlt, g6, ?_⟩
  · unfold setF
    by_cases e : p = m
    · rw [if_pos e]; exact hc
    · rw [if_neg e]; exact a2 p
  · have := h4.size; have := h5.size; have := hg.size; omega

theorem pick6 (r c : Int) (h : ∃ j, j < 6 ∧ c = [0, 1, 3, 7, 1048576, r].getD j 0) (hr : 0 ≤ r ∧ r < 100) : IsI64 c := by
  obtain ⟨j, hj, rfl⟩ := h
  unfold IsI64
  match j, hj with
  | 0, _ => simp
  | 1, _ => simp
  | 2, _ => simp
  | 3, _ => simp
  | 4, _ => simp
  | 5, _ => simp; omega

theorem WOKA.far {w : World} {S : Nat} {wr : World} {v : Value} {m : Nat} {x : Nat → Int} (h : WOKA w S wr v m x) (hm : m ≤ 9223372036854775807) : Far wr S v := by
  obtain ⟨a, cap, rfl, ha⟩ := own_shape h.1
  refine ⟨a, m, cap, x, rfl, hm, h.2.1, fun i hi => ?_⟩
  obtain ⟨g, rfl, hb, _⟩ := ha (by omega)
  exact ⟨g, 0, by omega, rfl, by rw [Nat.zero_add]; exact own_cells h.1 i hi⟩
theorem InRow.far {w : World} {a : Option Addr} {len cap : Nat} {zs : List Int} (h : InRow w a len cap zs) : Far w w.heap.size (.slice a len cap) := by
  obtain ⟨b, off, h1, h2, h3, h4, h5, h6, h7⟩ := h
  exact ⟨a, len, cap, fun p => zs.getD p 0, rfl, by omega, h7, fun i hi => ⟨b, off, by have := h1 (by omega); omega, h5 (by omega), h6 i hi⟩⟩

set_option maxRecDepth 100000 in
set_option maxHeartbeats 2000000 in
theorem answersLaw (a b t : Int) (a3 : Option Addr) (len3 cap3 : Nat) (zs3 : List Int) (a4 : Option Addr) (len4 cap4 : Nat) (zs4 : List Int) (w : World) (ha : IsI64 a) (hb : IsI64 b) (ht : IsI64 t)
    (h3 : InRow w a3 len3 cap3 zs3) (h4 : InRow w a4 len4 cap4 zs4) (hl : len3 ≤ 100) :
    Calls Try.prog 3 #[.int .i64 a, .int .i64 b, .int .i64 t, .slice a3 len3 cap3, .slice a4 len4 cap4] w fun e w' => e = .returned (.bool true) ∧ Below w.heap.size w w' := by
  obtain ⟨i0, hi, hz0, hz1, hz2⟩ := info_parts3
  obtain ⟨ha1, ha2⟩ := ha
  obtain ⟨hb1, hb2⟩ := hb
  obtain ⟨ht1, ht2⟩ := ht
  have H3 := Lib.hid h3
  have H4 := Lib.hid h4
  clear h3 h4
  go_enter Try.func3, Try.ntmps3
  go_wp2_with fail
  refine (new_any a4 len4 cap4 zs4 w H4.out).mono ?_
  rintro e w1 ⟨rfl, hg1, hs1, hb1'⟩
  generalize hS : w.heap.size = S at *
  have HS := Lib.hid hS
  have G1 := Lib.hid hg1
  have S1 := Lib.hid hs1
  clear hS hg1 hs1
  go_wp2_with fail
  refine (range_any S (-60) 60 w1 S1.out (by omega) (by omega) (by omega)).mono ?_
  rintro e w2 ⟨r1, hr1, rfl, hg2, hs2⟩
  have hb2' : S < w2.heap.size := by have := hg2.size; omega
  have G2 := Lib.hid (grown_off G1.out hg2 (by rw [HS.out]; exact Nat.le_refl _))
  have S2 := Lib.hid hs2
  clear hg2 hs2 G1 S1
  go_wp2_with fail
  refine (range_any S (-2) 9 w2 S2.out (by omega) (by omega) (by omega)).mono ?_
  rintro e w3 ⟨r2, hr2, rfl, hg3, hs3⟩
  have hb3' : S < w3.heap.size := by have := hg3.size; omega
  have G3 := Lib.hid (grown_off G2.out hg3 (by rw [HS.out]; exact Nat.le_refl _))
  have S3 := Lib.hid hs3
  clear hg3 hs3 G2 S2
  go_wp2_with fail
  refine (mod_pos b 1099511627776 _ (by omega) (by omega) hb1 hb2).mono ?_
  rintro e w4 ⟨rfl, rfl⟩
  have hm0 := Int.emod_nonneg b (b := 1099511627776) (by omega)
  have hm1 := Int.emod_lt_of_pos b (b := 1099511627776) (by omega)
  have hk := Rd.tmod_range a 2305843009213693952 (by omega)
  generalize b % 1099511627776 = m at *
  generalize a.tmod 2305843009213693952 = k at *
  obtain ⟨L, hL⟩ : ∃ L, L = w3.heap.size := ⟨_, rfl⟩
  obtain ⟨W, hW⟩ : ∃ W, W = w3.alloc (.cells #[.int .i64 a, .int .i64 b, .int .i64 r1, .int .i64 r2, .int .i64 k, .int .i64 (1 + m), .int .i64 2305843009213693952, .int .i64 1, .int .i64 (-2305843009213693952), .int .i64 1099511627776] 26) := ⟨_, rfl⟩
  obtain ⟨c, hc⟩ : ∃ c : Nat → Int, c = fun j => [a, b, r1, r2, k, 1 + m, 2305843009213693952, 1, -2305843009213693952, 1099511627776].getD j 0 := ⟨_, rfl⟩
  have CC := Lib.hid (show ∀ j, j < 10 → W.cell? ⟨L, j, none⟩ = some (.int .i64 (c j)) from fun j hj => by
    rw [hW, hc, hL]
    match j, hj with
    | 0, _ => simp
    | 1, _ => simp
    | 2, _ => simp
    | 3, _ => simp
    | 4, _ => simp
    | 5, _ => simp
    | 6, _ => simp
    | 7, _ => simp
    | 8, _ => simp
    | 9, _ => simp)
  have CI := Lib.hid (show ∀ j, j < 10 → IsI64 (c j) from fun j hj => by
    rw [hc]
    unfold IsI64
    match j, hj with
    | 0, _ => simp; omega
    | 1, _ => simp; omega
    | 2, _ => simp; omega
    | 3, _ => simp; omega
    | 4, _ => simp; omega
    | 5, _ => simp; omega
    | 6, _ => simp
    | 7, _ => simp
    | 8, _ => simp
    | 9, _ => simp)
  have G4 := Lib.hid (show w.grownBy W none from by rw [hW]; exact grown_trans G3.out (World.grownBy_alloc _ _ _))
  have S4 := Lib.hid (show SrcOK W S from by rw [hW]; exact S3.out.grown (World.grownBy_alloc _ _ _))
  have LT := Lib.hid (show S < L ∧ L < W.heap.size from by rw [hW, hL]; simp; omega)
  have HL := Lib.hid hL
  have HW := Lib.hid hW
  clear hc hL hW
  go_wp2
  go_loopw [13, 48] (fun _ s48 wr => ∃ i : Nat, s48 = .int .i64 i ∧ i ≤ 5 ∧ Hid (W.grownBy wr none)) (fun _ s _ => 5 - (intOf s).toNat)
  case atStart => exact ⟨0, rfl, by omega, by rw [← HW.out]; exact grown_refl _ _⟩
  case round =>
    obtain ⟨i, rfl, hi5, G⟩ := hrel
    by_cases hlt : i < 5
    · have c1 := G.out.cell (CC.out (i * 2) (by omega)) (by simp)
      have c2 := G.out.cell (CC.out (i * 2 + 1) (by omega)) (by simp)
      rw [HL.out] at c1 c2
      have j1 := CI.out (i * 2) (by omega)
      have j2 := CI.out (i * 2 + 1) (by omega)
      generalize c (i * 2) = p at *
      generalize c (i * 2 + 1) = q at *
      have k0 : (wr.alloc (.cells #[.int .i64 p, .int .i64 q] 26)).cell? ⟨wr.heap.size, 0, none⟩ = some (.int .i64 p) := by simp
      have k1 : (wr.alloc (.cells #[.int .i64 p, .int .i64 q] 26)).cell? ⟨wr.heap.size, 1, none⟩ = some (.int .i64 q) := by simp
      have gX := Lib.hid (show W.grownBy (wr.alloc (.cells #[.int .i64 p, .int .i64 q] 26)) none from grown_trans G.out (World.grownBy_alloc _ _ _))
      go_wp2
      obtain ⟨X, hX⟩ : ∃ X, X = wr.heap.size := ⟨_, rfl⟩
      rw [← hX] at k0 k1 ⊢
      generalize wr.alloc (.cells #[.int .i64 p, .int .i64 q] 26) = WX at *
      clear hX c1 c2
      have kk : Hid (WX.cell? ⟨X, 0, none⟩ = some (.int .i64 p) ∧ WX.cell? ⟨X, 1, none⟩ = some (.int .i64 q)) := ⟨k0, k1⟩
      go_region_held3 (fun w' => w'.cell? ⟨X, 0, none⟩ = some (.int .i64 p) ∧ w'.cell? ⟨X, 1, none⟩ = some (.int .i64 q))
        (first | go_keep | exact ⟨k0a, k1a⟩ | exact ⟨k0b, k1b⟩)
        (first
          | (go_at_call 13; refine (down_any _ _ _).mono ?_; rintro e w' ⟨rfl, rfl⟩)
          | (go_at_call 14; refine (rdown_any _ _ _).mono ?_; rintro e w' ⟨rfl, rfl⟩)
          | (go_at_call 15; refine (up_any _ _ _).mono ?_; rintro e w' ⟨rfl, rfl⟩)
          | (go_at_call 16; refine (rup_any _ _ _).mono ?_; rintro e w' ⟨rfl, rfl⟩)
          | (go_at_call 17; refine (half_any _ _ _).mono ?_; rintro e w' ⟨rfl, rfl⟩)
          | (go_at_call 18; refine (rhalf_any _ _ _).mono ?_; rintro e w' ⟨rfl, rfl⟩)
          | (go_at_call 19; refine (root_all _ _).mono ?_; rintro e wa ⟨ra, hra, rfl, hba⟩; have k0a := (below_grown hba).cell (show _ = some (Value.int .i64 p) from k0) (by simp); have k1a := (below_grown hba).cell (show _ = some (Value.int .i64 q) from k1) (by simp))
          | (go_at_call 20; refine (rroot_all _ _).mono ?_; rintro e w' ⟨rb, hrb, rfl, rfl⟩; obtain rfl := RootS.one hra hrb)
          | (go_at_call 21; refine (rootUp_all _ _).mono ?_; rintro e wb ⟨rc, hrc, rfl, hbb⟩; have k0b := (below_grown hbb).cell (show _ = some (Value.int .i64 p) from k0a) (by simp); have k1b := (below_grown hbb).cell (show _ = some (Value.int .i64 q) from k1a) (by simp))
          | (go_at_call 22; refine (rrootUp_all _ _).mono ?_; rintro e w' ⟨rd, hrd, rfl, rfl⟩; obtain rfl := RootUpS.one hrc hrd))
      have GE := Lib.hid (show W.grownBy wb none from grown_trans gX.out (grown_trans (show WX.grownBy WX.drew none from grown_drew' (grown_refl _ _)) (grown_trans (below_grown hba) (below_grown hbb))))
      clear hba hbb k0 k1 k0a k1a k0b k1b hra hrc
      go_wp2
      go_roundw
      case rel => exact ⟨i + 1, by go_num, by omega, GE⟩
      case measure => simp [intOf]; omega
    · obtain rfl : i = 5 := by omega
      have SR := Lib.hid (S4.out.grown G.out)
      have GR := Lib.hid (grown_trans G4.out G.out)
      have hSr : S < wr.heap.size := by have := LT.out; have := G.out.size; omega
      obtain ⟨wo, rfl⟩ : ∃ wo : World, wo = wr := ⟨_, rfl⟩
      clear hi5 hlt
      go_wp2_with fail
      refine (n_any S 8 _ SR.out (by omega) (by omega)).mono ?_
      rintro e w5 ⟨N, hN, rfl, hg5, hs5⟩
      have G5 := Lib.hid (grown_off GR.out hg5 (by rw [HS.out]; exact Nat.le_refl _))
      have S5 := Lib.hid hs5
      have hS5 : S < w5.heap.size := by have := hg5.size; omega
      clear hg5 hs5
      go_wp2
      go_loopw [14, 15] (fun s14 s15 wq => ∃ (i : Int) (m : Nat) (x : Nat → Int), s15 = .int .i64 i ∧ 0 ≤ i ∧ i ≤ 8 ∧ m + i ≤ 8 ∧ Hid (WOKA w S wq s14 m x)) (fun _ s _ => (intOf s).toNat)
      case atStart => exact ⟨N, 0, fun _ => 0, rfl, by omega, by omega, by omega, World.ownsRow_nil _ _ _ _, fun p => ⟨by simp, by simp⟩, S5.out, G5.out, hS5⟩
      case round =>
        obtain ⟨wp, rfl⟩ : ∃ wp : World, wp = wr := ⟨_, rfl⟩
        obtain ⟨i, m', x, rfl, hi0, hi8, hm8, WO⟩ := hrel
        by_cases hlt : 0 < i
        · go_wp2_with fail
          refine (n_any S 100 _ WO.out.2.2.1 (by omega) (by omega)).mono ?_
          rintro e w6 ⟨r, hr, rfl, hg6, hs6⟩
          have G6 := Lib.hid hg6
          have S6 := Lib.hid hs6
          have hb6 : S < w6.heap.size := by have := hg6.size; have := WO.out.2.2.2.2; omega
          clear hg6 hs6
          go_wp2_with fail
          refine (pick_any S w6.heap.size 0 6 6 [0, 1, 3, 7, 1048576, r] (w6.alloc (.cells #[.int .i64 0, .int .i64 1, .int .i64 3, .int .i64 7, .int .i64 1048576, .int .i64 r] 3)) (S6.out.grown (World.grownBy_alloc _ _ _)) (by omega) rfl (by omega) (by omega) ?_).mono ?_
          · intro j hj
            match j, hj with
            | 0, _ => simp
            | 1, _ => simp
            | 2, _ => simp
            | 3, _ => simp
            | 4, _ => simp
            | 5, _ => simp
          · rintro e w7 ⟨cc, hcc, rfl, hg7, hs7⟩
            have hc6 := pick6 r cc hcc hr
            have G7 := Lib.hid (grown_trans (grown_trans G6.out (World.grownBy_alloc w6 _ (some S))) hg7)
            have S7 := Lib.hid hs7
            have O7 := Lib.hid (own_kept WO.out.1 G7.out)
            clear hg7 hs7 hcc
            go_wp2_with (at_builtin; refine wpList_append_own _ rfl _ _ 22 rfl (S + 1) 3 i0 (.int .i64 0) 1 8 Try.underlying22 hi hz0 hz1 hz2 rfl (by decide) _ _ _ rfl (O7.out.alloc _) ⟨w7.heap.size, 0, none⟩ 1 1 [.int .i64 cc] rfl rfl ?c1 ?c2 ?c3 ?c4 ?c5 ?_)
            case c1 => exact cell_one_new _ _ _
            case c2 => intro u hu; simp at hu; subst hu; rfl
            case c3 => unfold maxLen; omega
            case c4 => omega
            case c5 => simp; have := G7.out.size; have := WO.out.2.2.2.2; omega
            intro v' w8 hown hg8 _
            have W8 := Lib.hid (WO.out.next HS.out w7 _ G7.out S7.out (World.grownBy_alloc w7 _ none) hown hg8 hc6)
            clear hown hg8
            go_wp2
            go_roundw
            case rel => exact ⟨i - 1, m' + 1, setF x m' cc, rfl, by omega, by omega, by omega, W8⟩
            case measure => simp [intOf]; omega
        · obtain rfl : i = 0 := by omega
          obtain ⟨aS, capS, rfl, _⟩ := own_shape WO.out.1
          have F1 := Lib.hid (WO.out.far (by omega))
          have F0 := Lib.hid (show Far wp S (.slice a3 len3 cap3) from by
            have := H3.out.far; rw [HS.out] at this; exact this.grown (grown_weak _ WO.out.2.2.2.1))
          have SW := Lib.hid WO.out.2.2.1
          have GW := Lib.hid WO.out.2.2.2.1
          have hbW := WO.out.2.2.2.2
          clear hi8 hm8 hi0 hlt
          go_wp2
          obtain ⟨M, hM⟩ : ∃ M, M = wp.heap.size := ⟨_, rfl⟩
          obtain ⟨WM, hWM⟩ : ∃ WM, WM = wp.alloc (.cells #[.slice a3 len3 cap3, .slice aS m' capS] 22) := ⟨_, rfl⟩
          have CM := Lib.hid (show ∀ j, j < 2 → ∃ v, WM.cell? ⟨M, j, none⟩ = some v ∧ Far WM S v from fun j hj => by
            have gM : wp.grownBy WM (some S) := by rw [hWM]; exact World.grownBy_alloc _ _ _
            match j, hj with
            | 0, _ => exact ⟨_, by rw [hWM, hM]; simp, F0.out.grown gM⟩
            | 1, _ => exact ⟨_, by rw [hWM, hM]; simp, F1.out.grown gM⟩)
          have SM := Lib.hid (show SrcOK WM S from by rw [hWM]; exact SW.out.grown (World.grownBy_alloc _ _ _))
          have GM := Lib.hid (show w.grownBy WM none from by rw [hWM]; exact grown_trans GW.out (World.grownBy_alloc _ _ _))
          have LM := Lib.hid (show S < M ∧ M < WM.heap.size from by rw [hWM, hM]; simp; omega)
          rw [← hM, ← hWM]
          clear hM hWM F0 F1 WO
          go_loopw [17, 19, 20, 21, 22, 23, 126] (fun _ _ _ _ _ _ s126 wq => ∃ i : Nat, s126 = .int .i64 i ∧ i ≤ 2 ∧ Hid (WM.grownBy wq (some S)) ∧ Hid (SrcOK wq S) ∧ Hid (w.grownBy wq none)) (fun _ _ _ _ _ _ s _ => 2 - (intOf s).toNat)
          case atStart => exact ⟨0, rfl, by omega, grown_refl _ _, SM, GM⟩
          case round =>
            obtain ⟨wx, rfl⟩ : ∃ wx : World, wx = wr := ⟨_, rfl⟩
            obtain ⟨i, rfl, hi2, GX, SX, GWX⟩ := hrel
            by_cases hlt : i < 2
            · obtain ⟨v, hv, hf⟩ := CM.out i hlt
              have cv := GX.out.cell hv (by simp; have := LM.out; omega)
              have hf := hf.grown GX.out
              obtain ⟨aV, nV, capV, xV, rfl, hnV, hxV, hfV⟩ := hf
              have HX := Lib.hid hxV
              have HF := Lib.hid hfV
              clear hxV hfV hv
              go_wp2_with fail
              refine (n_any S 1000 _ SX.out (by omega) (by omega)).mono ?_
              rintro e w9 ⟨r, hr, rfl, hg9, hs9⟩
              have G9 := Lib.hid (grown_trans GX.out hg9)
              have GW9 := Lib.hid (grown_off GWX.out hg9 (by rw [HS.out]; exact Nat.le_refl _))
              have S9 := Lib.hid hs9
              have F9 := Lib.hid (show ∀ j, j < nV → ∃ b off, b ≠ S ∧ aV = some ⟨b, off, none⟩ ∧ w9.cell? ⟨b, off + j, none⟩ = some (.int .i64 (xV j)) from fun j hj => by
                obtain ⟨b, off, k1, k2, k3⟩ := HF.out j hj
                exact ⟨b, off, k1, k2, hg9.cell k3 (by simpa using k1)⟩)
              have hb9 : S < w9.heap.size := by have := hg9.size; have := GX.out.size; have := LM.out; omega
              clear hg9 hs9 HF cv
              go_wp2
              obtain ⟨T, hT⟩ : ∃ T, T = w9.heap.size := ⟨_, rfl⟩
              obtain ⟨WT, hWT⟩ : ∃ WT, WT = w9.alloc (.cells #[.int .i64 t, .int .i64 r, .int .i64 1099511627776] 3) := ⟨_, rfl⟩
              have g9T : w9.grownBy WT none := by rw [hWT]; exact World.grownBy_alloc _ _ _
              have CT := Lib.hid (show ∀ j, j < 3 → ∃ τ, WT.cell? ⟨T, j, none⟩ = some (.int .i64 τ) from fun j hj => by
                match j, hj with
                | 0, _ => exact ⟨_, by rw [hWT, hT]; simp; rfl⟩
                | 1, _ => exact ⟨_, by rw [hWT, hT]; simp; rfl⟩
                | 2, _ => exact ⟨_, by rw [hWT, hT]; simp; rfl⟩)
              have FT := Lib.hid (show Ws WT aV nV xV from fun j hj => by
                obtain ⟨b, off, _, k2, k3⟩ := F9.out j hj
                exact ⟨b, off, k2, g9T.cell k3 (by simp)⟩)
              have GT := Lib.hid (grown_trans GW9.out g9T)
              have GX9 := Lib.hid (grown_trans G9.out (grown_weak _ g9T))
              have ST := Lib.hid (S9.out.grown g9T)
              rw [← hT, ← hWT]
              clear hT hWT g9T F9 S9 G9 GW9
              go_loopw [19, 20, 21, 22, 23, 135] (fun _ _ _ _ _ s135 wq => ∃ j : Nat, s135 = .int .i64 j ∧ j ≤ 3 ∧ Hid (WT.grownBy wq none)) (fun _ _ _ _ _ s _ => 3 - (intOf s).toNat)
              case atStart => exact ⟨0, rfl, by omega, grown_refl _ _⟩
              case round =>
                obtain ⟨wy, rfl⟩ : ∃ wy : World, wy = wr := ⟨_, rfl⟩
                obtain ⟨j, rfl, hj3, GY⟩ := hrel
                by_cases hlj : j < 3
                · obtain ⟨τ, hτ⟩ := CT.out j hlj
                  have cτ := GY.out.cell hτ (by simp)
                  have WY := Lib.hid (show Ws wy aV nV xV from fun p hp => by
                    obtain ⟨b, off, k2, k3⟩ := FT.out p hp
                    exact ⟨b, off, k2, GY.out.cell k3 (by simp)⟩)
                  clear hτ
                  go_wp2_with fail
                  refine (shares_res τ aV nV capV xV _ hnV WY.out HX.out).mono ?_
                  rintro e wz ⟨v1, xs, e1, rfl, hr1', hv1, hgz, hlx⟩
                  have R1 := Lib.hid hr1'
                  have V1 := Lib.hid hv1
                  have GZ := Lib.hid (grown_trans GY.out hgz)
                  have WZ := Lib.hid (show Ws wz aV nV xV from fun p hp => by
                    obtain ⟨b, off, k2, k3⟩ := WY.out p hp
                    exact ⟨b, off, k2, hgz.cell k3 (by simp)⟩)
                  clear hr1' hv1 hgz
                  go_wp2_with fail
                  refine (rshares_res τ aV nV capV xV _ hnV WZ.out HX.out).mono ?_
                  rintro e wu ⟨v2, ys, e2, rfl, hr2', hv2, hgu, _⟩
                  obtain ⟨rfl, rfl⟩ := R1.out.one hr2'
                  have V2 := Lib.hid hv2
                  have V1u := Lib.hid (V1.out.grown hgu)
                  have GU := Lib.hid (grown_trans GZ.out hgu)
                  clear hr2' hv2 hgu
                  go_wp2_with fail
                  refine (ints_any v1 v2 xs xs _ V1u.out V2.out (by omega) (by omega)).mono ?_
                  rintro e w' ⟨rfl, q, rfl⟩
                  rw [show eqB xs xs = true from by unfold eqB; simp]
                  have GV := Lib.hid (grown_trans GU.out (grown_drewN _ q none))
                  go_wp2
                  go_roundw
                  case rel => exact ⟨j + 1, by go_num, by omega, GV⟩
                  case measure => simp [intOf]; omega
                · obtain rfl : j = 3 := by omega
                  have GXF := Lib.hid (grown_trans GX9.out (grown_weak _ GY.out))
                  have SXF := Lib.hid (ST.out.grown GY.out)
                  have GWF := Lib.hid (grown_trans GT.out GY.out)
                  go_wp2
                  go_roundw
                  case rel => exact ⟨i + 1, by go_num, by omega, GXF, SXF, GWF⟩
                  case measure => simp [intOf]; omega
            · obtain rfl : i = 2 := by omega
              go_wp2_with fail
              refine (awake_any _).mono ?_; rintro e w' ⟨rfl, hg⟩
              have GF := Lib.hid (grown_below (grown_trans GWX.out hg))
              clear hg
              go_wp2
              go_ret
              exact ⟨rfl, GF.out⟩

theorem answers_walk (a b t : Int) (a3 : Option Addr) (len3 cap3 : Nat) (zs3 : List Int) (a4 : Option Addr) (len4 cap4 : Nat) (zs4 : List Int) (w : World) (ha : IsI64 a) (hb : IsI64 b) (ht : IsI64 t)
    (h3 : InRow w a3 len3 cap3 zs3) (h4 : InRow w a4 len4 cap4 zs4) :
    Calls Try.prog 3 #[.int .i64 a, .int .i64 b, .int .i64 t, .slice a3 len3 cap3, .slice a4 len4 cap4] w fun e w' => e = .returned (.bool true) ∧ Below w.heap.size w w' := by
  by_cases h : len3 ≤ 100
  · exact answersLaw a b t a3 len3 cap3 zs3 a4 len4 cap4 zs4 w ha hb ht h3 h4 h
  · obtain ⟨_, _, _, _, k1, k2, _⟩ := h3
    exact awake_long a b t a3 len3 cap3 a4 len4 cap4 w (by omega) (by omega)
end Go.Proofs.Ytkpmhgikcipedaa
