/- PieceAnswers: the walk. -/
import Derived.Test.YtaghcdelnjjncaaFz
namespace Go.Proofs.Ytaghcdelnjjncaa
open Go.ChangeShapes Go.WideShapes Go.ChangeAt Go.RowKit

theorem FR.lt {w : World} {s : Sl} {f : List Fm.Pc} (h : FR w s f) (hn : 0 < s.n) : ∀ b, s.blk = some b → b < w.heap.size := by
  intro b hb
  obtain ⟨b', off, x, y, e, _, hc, _⟩ := h.at_ 0 hn
  have := World.block_lt_of_cell? _ _ hc
  rw [Sl.blk, e] at hb
  cases hb
  exact this
theorem FR.row0 {w w' : World} {s : Sl} {f : List Fm.Pc} {S : Nat} (h : FR w s f) (g : w.grownBy w' (some S)) (hn : 0 < s.n → s.blk ≠ some S) : FR w' s f := by
  by_cases h0 : 0 < s.n
  · exact h.row g (hn h0)
  · have : f = [] := List.eq_nil_of_length_eq_zero (by have := h.len; omega)
    subst this
    exact ⟨h.fit, h.len, fun j u hu => by simp [f2] at hu⟩
/-- Six rows, the row of them, and the reader. -/
structure Six (w : World) (S L : Nat) (rows : Nat → Sl) (fs : Nat → List Fm.Pc) (wr : World) : Prop where
  src : SrcOK wr S
  gr : w.grownBy wr none
  lo : w.heap.size ≤ S
  ls : L ≠ S
  lc : ∀ i, i < 6 → wr.cell? ⟨L, i, none⟩ = some (rows i).v
  fr : ∀ i, i < 6 → FR wr (rows i) (fs i)
  ne : ∀ i, i < 6 → 0 < (rows i).n → (rows i).blk ≠ some S
theorem Six.grown {w wr wd : World} {S L : Nat} {rows : Nat → Sl} {fs : Nat → List Fm.Pc} (h : Six w S L rows fs wr) (g : wr.grownBy wd none) : Six w S L rows fs wd :=
  ⟨h.src.grown g, grown_trans h.gr g, h.lo, h.ls, fun i hi => g.cell (h.lc i hi) (by simp), fun i hi => (h.fr i hi).grown g, h.ne⟩
theorem Six.read {w wr wd : World} {S L : Nat} {rows : Nat → Sl} {fs : Nat → List Fm.Pc} (h : Six w S L rows fs wr) (g : wr.grownBy wd (some S)) (hs : SrcOK wd S) : Six w S L rows fs wd :=
  ⟨hs, grown_row0 h.gr g (fun b hb => by cases hb; exact h.lo), h.lo, h.ls, fun i hi => g.cell (h.lc i hi) (fun e => h.ls (by injection e)), fun i hi => (h.fr i hi).row0 g (h.ne i hi), h.ne⟩

def rw6 (rows : List Sl) (i : Nat) : Sl := rows.getD i ⟨none, 0, 0⟩
def fs6 (fs : List (List Fm.Pc)) (i : Nat) : List Fm.Pc := fs.getD i []
theorem four_new (w : World) (p q r1 r2 : Int) (h1 : p ≤ 9223372036854775807) (h2 : q ≤ 9223372036854775807) (h3 : r1 ≤ 9223372036854775807) (h4 : r2 ≤ 9223372036854775807) :
    ∀ j, j < 4 → ∃ v : Int, v ≤ 9223372036854775807 ∧ (w.alloc (.cells #[.int .i64 p, .int .i64 q, .int .i64 r1, .int .i64 r2] 3)).cell? ⟨w.heap.size, j, none⟩ = some (.int .i64 v) := by
  intro j hj
  match j, hj with
  | 0, _ => exact ⟨p, h1, by simp⟩
  | 1, _ => exact ⟨q, h2, by simp⟩
  | 2, _ => exact ⟨r1, h3, by simp⟩
  | 3, _ => exact ⟨r2, h4, by simp⟩
theorem six_new {w wr : World} {S : Nat} {T : TypeId} (hs : SrcOK wr S) (hg : w.grownBy wr none) (hS : S = w.heap.size) (rows : List Sl) (fs : List (List Fm.Pc)) (cs : Array Value) (hcs : (rows.map Sl.v).toArray = cs) (hl : rows.length = 6)
    (h : ∀ i, i < 6 → FR wr (rw6 rows i) (fs6 fs i) ∧ (0 < (rw6 rows i).n → (rw6 rows i).blk ≠ some S)) : Six w S wr.heap.size (rw6 rows) (fs6 fs) (wr.alloc (.cells cs T)) := by
  subst hcs
  have ga := World.grownBy_alloc wr (.cells (rows.map Sl.v).toArray T) none
  have hlt := src_lt hs
  refine ⟨hs.grown ga, grown_trans hg ga, by omega, by omega, fun i hi => ?_, fun i hi => (h i hi).1.grown ga, fun i hi => (h i hi).2⟩
  have e : rows[i]? = some (rw6 rows i) := by unfold rw6; simp [List.getD_eq_getElem?_getD, List.getElem?_eq_getElem (show i < rows.length by omega)]
  have e2 : (rows.map Sl.v).toArray[i]? = some (rw6 rows i).v := by simp [e]
  simp [e2]

set_option maxRecDepth 100000 in
set_option maxHeartbeats 8000000 in
theorem answers_walk (s t : Sl) (f g : List Fm.Pc) (p q : Int) (back : Bool) (a : Option Addr) (len cap : Nat) (zs : List Int) (w : World) (hf : FR w s f) (hg : FR w t g) (hp : IsI64 p) (hq : IsI64 q) (hi : InRow w a len cap zs) :
    Calls Try.prog 3 #[s.v, t.v, .int .i64 p, .int .i64 q, .bool back, .slice a len cap] w fun e w' => e = .returned (.bool true) ∧ Below w.heap.size w w' := by
  obtain ⟨i0, hi0, hz0, hz1, hz2⟩ := parts_p
  obtain ⟨sa, sn, sc⟩ := s
  obtain ⟨ta, tn, tc⟩ := t
  have A := Lib.hid hf
  have B := Lib.hid hg
  have HI := Lib.hid hi
  have HP := Lib.hid hp
  have HQ := Lib.hid hq
  have fit1 := hf.fit
  have fit2 := hg.fit
  dsimp only [Sl.fit] at fit1 fit2
  clear hf hg hi hp hq
  unfold Sl.v
  dsimp only
  have big : ∀ (hb : 500 < sn ∨ 500 < tn), Calls Try.prog 3 #[.slice sa sn sc, .slice ta tn tc, .int .i64 p, .int .i64 q, .bool back, .slice a len cap] w fun e w' => e = .returned (.bool true) ∧ Below w.heap.size w w' := by
    intro hb
    by_cases h1 : 500 < sn
    · have h1i : (500 : Int) < (sn : Int) := by omega
      go_enter Try.func3, Try.ntmps3
      go_wp2_with fail
      refine (awake_any w).mono ?_
      rintro e w1 ⟨rfl, hg⟩
      have G := Lib.hid hg
      clear hg
      go_wp2
      go_ret
      exact ⟨rfl, grown_below G.out⟩
    · have h1i : decide ((500 : Int) < (sn : Int)) = false := decide_eq_false (by omega)
      have h2i : (500 : Int) < (tn : Int) := by omega
      go_enter Try.func3, Try.ntmps3
      go_wp2_with fail
      refine (awake_any w).mono ?_
      rintro e w1 ⟨rfl, hg⟩
      have G := Lib.hid hg
      clear hg
      go_wp2
      go_ret
      exact ⟨rfl, grown_below G.out⟩
  by_cases h1 : 500 < sn
  · exact big (.inl h1)
  by_cases h2 : 500 < tn
  · exact big (.inr h2)
  clear big
  have h1i : decide ((500 : Int) < (sn : Int)) = false := decide_eq_false (by omega)
  have h2i : decide ((500 : Int) < (tn : Int)) = false := decide_eq_false (by omega)
  have S1 := Lib.hid (A.out.lt)
  have S2 := Lib.hid (B.out.lt)
  go_enter Try.func3, Try.ntmps3
  go_wp2_with fail
  refine (new_any a len cap zs w HI.out).mono ?_
  rintro e w1 ⟨rfl, hg, hs, _⟩
  have G := Lib.hid hg
  have HS := Lib.hid hs
  replace A := Lib.hid (A.out.grown hg)
  replace B := Lib.hid (B.out.grown hg)
  clear hg hs HI h1i h2i fit1 fit2
  obtain ⟨S, hS⟩ : ∃ S, S = w.heap.size := ⟨_, rfl⟩
  have SW := Lib.hid hS
  rw [← hS] at HS ⊢
  have N1 := Lib.hid (show 0 < (⟨sa, sn, sc⟩ : Sl).n → (⟨sa, sn, sc⟩ : Sl).blk ≠ some S from fun h e => by have := S1.out h _ e; omega)
  have N2 := Lib.hid (show 0 < (⟨ta, tn, tc⟩ : Sl).n → (⟨ta, tn, tc⟩ : Sl).blk ≠ some S from fun h e => by have := S2.out h _ e; omega)
  clear hS S1 S2
  go_wp2_with fail
  refine (n_any S 200 w1 HS.out (by omega) (by omega)).mono ?_
  rintro e w2 ⟨V1, ⟨hv1, hv2⟩, rfl, hg, hs⟩
  replace A := Lib.hid (A.out.row0 hg N1.out)
  replace B := Lib.hid (B.out.row0 hg N2.out)
  replace G := Lib.hid (G.out.under SW.out hg)
  replace HS := Lib.hid hs
  clear hg hs
  go_wp2_with fail
  refine (fill_any S V1 3 w2 HS.out (by omega) (by omega) (by omega) (by omega)).mono ?_
  rintro e w3 ⟨⟨fa, fn, fc⟩, f3, rfl, ho, hf, hg, hs⟩
  have F := Lib.hid ho.fr
  have FN := Lib.hid (show 0 < (⟨fa, fn, fc⟩ : Sl).n → (⟨fa, fn, fc⟩ : Sl).blk ≠ some S from fun _ => off_of ho HS.out)
  have FL := Lib.hid hf.len
  replace A := Lib.hid (A.out.row0 hg N1.out)
  replace B := Lib.hid (B.out.row0 hg N2.out)
  replace G := Lib.hid (G.out.under SW.out hg)
  replace HS := Lib.hid hs
  clear ho hf hg hs
  dsimp only [Sl.v]
  go_wp2_with fail
  refine (n_any S 100 w3 HS.out (by omega) (by omega)).mono ?_
  rintro e w4 ⟨V2, ⟨hv3, hv4⟩, rfl, hg, hs⟩
  replace A := Lib.hid (A.out.row0 hg N1.out)
  replace B := Lib.hid (B.out.row0 hg N2.out)
  replace F := Lib.hid (F.out.row0 hg FN.out)
  replace G := Lib.hid (G.out.under SW.out hg)
  replace HS := Lib.hid hs
  clear hg hs
  go_wp2_with fail
  refine (fill_any S V2 4 w4 HS.out (by omega) (by omega) (by omega) (by omega)).mono ?_
  rintro e w5 ⟨⟨ga, gn, gc⟩, g3, rfl, ho, hf, hg, hs⟩
  have K := Lib.hid ho.fr
  have KN := Lib.hid (show 0 < (⟨ga, gn, gc⟩ : Sl).n → (⟨ga, gn, gc⟩ : Sl).blk ≠ some S from fun _ => off_of ho HS.out)
  replace A := Lib.hid (A.out.row0 hg N1.out)
  replace B := Lib.hid (B.out.row0 hg N2.out)
  replace F := Lib.hid (F.out.row0 hg FN.out)
  replace G := Lib.hid (G.out.under SW.out hg)
  have W0 := Lib.hid (show Fw w5 S ⟨none, 0, 0⟩ [] w5 from ⟨or_nil _ _ _ _, hs, grown_refl _ _, src_lt hs⟩)
  clear ho hf hg hs HS
  dsimp only [Sl.v]
  go_wp2
  go_loopw [16, 17] (fun s16 s17 wr => ∃ (i : Nat) (o : Sl) (m : List Fm.Pc), s16 = .slice o.a o.n o.c ∧ s17 = .int .i64 i ∧ i ≤ 201 ∧ Hid (o.n = i) ∧ Hid (Fw w5 S o m wr)) (fun _ s17 _ => 202 - (intOf s17).toNat)
  case atStart => exact ⟨0, ⟨none, 0, 0⟩, [], rfl, rfl, by omega, Lib.hid rfl, W0⟩
  case round =>
    obtain ⟨i, ⟨oa, on, oc⟩, m, rfl, rfl, hi, HN, W⟩ := hrel
    dsimp only at *
    go_wp2_with fail
    refine (n_any S 3 wr W.out.src (by omega) (by omega)).mono ?_
    rintro e w6 ⟨x, ⟨hx0, hx1⟩, rfl, hg, hs⟩
    have W6 := Lib.hid (W.out.grown hg hs)
    clear hg hs W
    have hw1 : IntKind.i64.wrap (199 + x) = 199 + x := IntWalk.i64_in _ (by omega)
    by_cases hlt : (i : Int) < 199 + x
    · have hon2 : on ≤ 300 := by have := HN.out; omega
      obtain ⟨y, hy⟩ : ∃ y, (i : Int).tmod 2 = y := ⟨_, rfl⟩
      have O := Lib.hid (W6.out.own.grown (World.grownBy_alloc w6 (.cells #[.int .i64 y, .int .i64 1] 30) none))
      have szw := W6.out.gr.size
      go_wp2_with (first
        | (at_builtin
           refine wpList_appV rfl _ _ 22 rfl (S := ⟨oa, on, oc⟩) (V := ⟨some ⟨w6.heap.size, 0, none⟩, 1, 1⟩) (vs := pcs (y, 1)) Try.underlying22 hi0 hz0 hz1 hz2 (by rfl) (by omega) rfl rfl O.out ?a1 (by rfl) (cr_new _ _ _ rfl) (pcs_one _) ?a2 ?a3 ?_
           case a1 => simp; omega
           case a2 => dsimp only; omega
           case a3 => dsimp only; omega
           intro r5 w7 hrn hr hg5 hbl)
        | fail)
      obtain ⟨ra, rn, rc⟩ := r5
      rw [f2_snoc2] at hr
      have RR := Lib.hid ((W6.out.grown0 (World.grownBy_alloc w6 (.cells #[.int .i64 y, .int .i64 1] 30) none)).put hr hg5)
      have hrn2 : rn = on + 1 := hrn
      have RN := Lib.hid hrn2
      clear hr hg5 hbl hrn hrn2 hy hw1
      dsimp only [Sl.v]
      go_wp2
      go_roundw
      case rel => exact ⟨i + 1, ⟨ra, rn, rc⟩, _, rfl, by go_num, by omega, Lib.hid (by have := RN.out; have := HN.out; dsimp only; omega), RR⟩
      case measure => simp [intOf]; omega
    · have hlt2 : decide ((i : Int) < 199 + x) = false := decide_eq_false hlt
      have gw := W6.out.gr
      replace A := Lib.hid (A.out.row0 gw N1.out)
      replace B := Lib.hid (B.out.row0 gw N2.out)
      replace F := Lib.hid (F.out.row0 gw FN.out)
      replace K := Lib.hid (K.out.row0 gw KN.out)
      replace G := Lib.hid (G.out.under SW.out gw)
      have M := Lib.hid W6.out.own.fr
      have MN := Lib.hid (show 0 < (⟨oa, on, oc⟩ : Sl).n → (⟨oa, on, oc⟩ : Sl).blk ≠ some S from fun _ e => by have h1 := (W6.out.own.blk _ e).1; have h2 := W6.out.lt; omega)
      have HS := Lib.hid W6.out.src
      clear gw W6 hlt W0
      go_wp2_with fail
      refine (odd_any S ⟨fa, fn, fc⟩ f3 w6 HS.out F.out (by have := FL.out; omega)).mono ?_
      rintro e w8 ⟨⟨da, dn, dc⟩, d3, rfl, hd, hdn, hg, hs⟩
      replace A := Lib.hid (A.out.row0 hg N1.out)
      replace B := Lib.hid (B.out.row0 hg N2.out)
      replace F := Lib.hid (F.out.row0 hg FN.out)
      replace K := Lib.hid (K.out.row0 hg KN.out)
      replace M := Lib.hid (M.out.row0 hg MN.out)
      have D := Lib.hid hd
      have DN := Lib.hid (show 0 < (⟨da, dn, dc⟩ : Sl).n → (⟨da, dn, dc⟩ : Sl).blk ≠ some S from fun _ => hdn)
      replace G := Lib.hid (G.out.under SW.out hg)
      replace HS := Lib.hid hs
      clear hd hdn hg hs hw1 hlt2
      dsimp only [Sl.v]
      have SX := Lib.hid (six_new (w := w) (S := S) (wr := w8) (T := 22) HS.out G.out SW.out [⟨sa, sn, sc⟩, ⟨ta, tn, tc⟩, ⟨fa, fn, fc⟩, ⟨ga, gn, gc⟩, ⟨da, dn, dc⟩, ⟨oa, on, oc⟩] [f, g, f3, g3, d3, m] #[.slice sa sn sc, .slice ta tn tc, .slice fa fn fc, .slice ga gn gc, .slice da dn dc, .slice oa on oc] rfl rfl
        (fun i hi => by
          match i, hi with
          | 0, _ => exact ⟨A.out, N1.out⟩
          | 1, _ => exact ⟨B.out, N2.out⟩
          | 2, _ => exact ⟨F.out, FN.out⟩
          | 3, _ => exact ⟨K.out, KN.out⟩
          | 4, _ => exact ⟨D.out, DN.out⟩
          | 5, _ => exact ⟨M.out, MN.out⟩))
      clear A B F K D M N1 N2 FN KN DN MN G HS FL
      go_wp2
      obtain ⟨L, hL⟩ : ∃ L, L = w8.heap.size := ⟨_, rfl⟩
      rw [← hL] at SX ⊢
      clear hL
      generalize ([⟨sa, sn, sc⟩, ⟨ta, tn, tc⟩, ⟨fa, fn, fc⟩, ⟨ga, gn, gc⟩, ⟨da, dn, dc⟩, ⟨oa, on, oc⟩] : List Sl) = rows at SX
      generalize ([f, g, f3, g3, d3, m] : List (List Fm.Pc)) = fs at SX
      go_loopw [74] (fun s74 wr => ∃ k : Nat, s74 = .int .i64 k ∧ k ≤ 6 ∧ Hid (Six w S L (rw6 rows) (fs6 fs) wr)) (fun s74 _ => 6 - (intOf s74).toNat)
      case atStart => exact ⟨0, rfl, by omega, SX⟩
      case round =>
        obtain ⟨k, rfl, hk, X⟩ := hrel
        by_cases hlt : k < 6
        · obtain ⟨⟨xa, xn, xc⟩, hx⟩ : ∃ x, rw6 rows k = x := ⟨_, rfl⟩
          have lc := X.out.lc k hlt
          rw [hx] at lc
          have HX := Lib.hid hx
          obtain ⟨h, hh⟩ : ∃ h, fs6 fs k = h := ⟨_, rfl⟩
          have C := X.out.fr k hlt
          rw [hx, hh] at C
          have C := Lib.hid C
          have HH := Lib.hid hh
          clear hx hh
          dsimp only [Sl.v] at lc
          have XN := Lib.hid (show 0 < (⟨xa, xn, xc⟩ : Sl).n → (⟨xa, xn, xc⟩ : Sl).blk ≠ some S from by have := X.out.ne k hlt; rw [HX.out] at this; exact this)
          obtain ⟨vb, hvb⟩ : ∃ zz : Bool, Fm.valid h = zz := ⟨_, rfl⟩
          have Hvb := Lib.hid hvb
          clear hvb
          go_wp2_with fail
          refine (pvalid_any ⟨xa, xn, xc⟩ h wr C.out).mono ?_
          rw [Hvb.out]
          rintro e w1 ⟨rfl, hg⟩
          replace C := Lib.hid (C.out.grown hg)
          replace X := Lib.hid (X.out.grown hg)
          clear hg
          go_wp2_with fail
          refine (rvalid_any ⟨xa, xn, xc⟩ h w1 C.out).mono ?_
          rw [Hvb.out]
          rintro e w2 ⟨rfl, hg⟩
          replace C := Lib.hid (C.out.grown hg)
          replace X := Lib.hid (X.out.grown hg)
          clear hg
          clear Hvb
          obtain ⟨vv, hvv⟩ : ∃ zz : Int, volume h = zz := ⟨_, rfl⟩
          have Hvv := Lib.hid hvv
          clear hvv
          go_wp2_with fail
          refine (pvolume_any ⟨xa, xn, xc⟩ h w2 C.out).mono ?_
          rw [Hvv.out]
          rintro e w3 ⟨rfl, hg⟩
          replace C := Lib.hid (C.out.grown hg)
          replace X := Lib.hid (X.out.grown hg)
          clear hg
          go_wp2_with fail
          refine (rvolume_any ⟨xa, xn, xc⟩ h w3 C.out).mono ?_
          rw [Hvv.out]
          rintro e w4 ⟨rfl, hg⟩
          replace C := Lib.hid (C.out.grown hg)
          replace X := Lib.hid (X.out.grown hg)
          clear hg
          clear Hvv
          go_wp2_with fail
          refine (pmerge_any ⟨xa, xn, xc⟩ h w4 C.out).mono ?_
          rintro e wm1 ⟨⟨ya, yn, yc⟩, rfl, hr, hg⟩
          have Y := Lib.hid hr
          replace C := Lib.hid (C.out.grown hg)
          replace X := Lib.hid (X.out.grown hg)
          clear hr hg
          dsimp only [Sl.v]
          go_wp2_with fail
          refine (rmerge_any ⟨xa, xn, xc⟩ h wm1 C.out).mono ?_
          rintro e wm2 ⟨⟨za, zn, zc⟩, rfl, hr, hg⟩
          have Z := Lib.hid hr.fr
          replace C := Lib.hid (C.out.grown hg)
          replace X := Lib.hid (X.out.grown hg)
          replace Y := Lib.hid (Y.out.grown hg)
          clear hr hg
          dsimp only [Sl.v]
          go_wp2_with fail
          refine (rsame_any ⟨ya, yn, yc⟩ ⟨za, zn, zc⟩ _ _ wm2 Y.out Z.out).mono ?_
          rw [sameB_refl]
          rintro e w5 ⟨rfl, hg⟩
          replace C := Lib.hid (C.out.grown hg)
          replace X := Lib.hid (X.out.grown hg)
          replace Y := Lib.hid (Y.out.grown hg)
          replace Z := Lib.hid (Z.out.grown hg)
          clear hg
          clear Y Z
          go_wp2_with fail
          refine (n_any S 200 w5 X.out.src (by omega) (by omega)).mono ?_
          rintro e wn1 ⟨r1, ⟨hr1, hr2⟩, rfl, hg, hs⟩
          replace C := Lib.hid (C.out.row0 hg XN.out)
          replace X := Lib.hid (X.out.read hg hs)
          clear hg hs
          go_wp2_with fail
          refine (n_any S 4 wn1 X.out.src (by omega) (by omega)).mono ?_
          rintro e wn2 ⟨r2, ⟨hr3, hr4⟩, rfl, hg, hs⟩
          replace C := Lib.hid (C.out.row0 hg XN.out)
          replace X := Lib.hid (X.out.read hg hs)
          clear hg hs
          have KS := Lib.hid (four_new wn2 p q r1 r2 HP.out.2 HQ.out.2 (by omega) (by omega))
          replace C := Lib.hid (C.out.grown (World.grownBy_alloc wn2 (.cells #[.int .i64 p, .int .i64 q, .int .i64 r1, .int .i64 r2] 3) none))
          replace X := Lib.hid (X.out.grown (World.grownBy_alloc wn2 (.cells #[.int .i64 p, .int .i64 q, .int .i64 r1, .int .i64 r2] 3) none))
          go_wp2
          obtain ⟨B4, hB4⟩ : ∃ B4, B4 = wn2.heap.size := ⟨_, rfl⟩
          rw [← hB4] at KS ⊢
          clear hB4
          obtain ⟨wk, hwk⟩ : ∃ wk, wk = wn2.alloc (.cells #[.int .i64 p, .int .i64 q, .int .i64 r1, .int .i64 r2] 3) := ⟨_, rfl⟩
          rw [← hwk] at KS C X ⊢
          clear hwk hr1 hr2 hr3 hr4
          go_loopw [106] (fun s106 wq => ∃ j : Nat, s106 = .int .i64 j ∧ j ≤ 4 ∧ Hid (wk.grownBy wq none)) (fun s106 _ => 4 - (intOf s106).toNat)
          case atStart => exact ⟨0, rfl, by omega, Lib.hid (grown_refl _ _)⟩
          case round =>
            obtain ⟨j, rfl, hj, GJ⟩ := hrel
            by_cases hj4 : j < 4
            · obtain ⟨v, hv, hcv⟩ := KS.out j hj4
              replace hcv := GJ.out.cell hcv (by simp)
              replace C := Lib.hid (C.out.grown GJ.out)
              have GR := GJ
              obtain ⟨va, hva⟩ : ∃ zz : Int, atOf h v = zz := ⟨_, rfl⟩
              have Hva := Lib.hid hva
              clear hva
              go_wp2_with fail
              refine (pat_any ⟨xa, xn, xc⟩ h v wr C.out hv).mono ?_
              rw [Hva.out]
              rintro e w41 ⟨rfl, hg⟩
              replace C := Lib.hid (C.out.grown hg)
              replace GR := Lib.hid (grown_trans GR.out hg)
              clear hg
              go_wp2_with fail
              refine (rat_any ⟨xa, xn, xc⟩ h v w41 C.out hv).mono ?_
              rw [Hva.out]
              rintro e w42 ⟨rfl, hg⟩
              replace C := Lib.hid (C.out.grown hg)
              replace GR := Lib.hid (grown_trans GR.out hg)
              clear hg
              clear Hva
              obtain ⟨vc, hvc⟩ : ∃ zz : Int, batchOf h v = zz := ⟨_, rfl⟩
              have Hvc := Lib.hid hvc
              clear hvc
              go_wp2_with fail
              refine (pbatch_any ⟨xa, xn, xc⟩ h v w42 C.out).mono ?_
              rw [Hvc.out]
              rintro e w43 ⟨rfl, hg⟩
              replace C := Lib.hid (C.out.grown hg)
              replace GR := Lib.hid (grown_trans GR.out hg)
              clear hg
              go_wp2_with fail
              refine (rbatch_any ⟨xa, xn, xc⟩ h v w43 C.out).mono ?_
              rw [Hvc.out]
              rintro e w44 ⟨rfl, hg⟩
              replace C := Lib.hid (C.out.grown hg)
              replace GR := Lib.hid (grown_trans GR.out hg)
              clear hg
              clear Hvc
              go_wp2
              go_roundw
              case rel => exact ⟨j + 1, by go_num, by omega, GR⟩
              case measure => simp [intOf]; omega
            · have hje : ¬ (j : Int) < 4 := by omega
              clear hj4 hj
              replace C := Lib.hid (C.out.grown GJ.out)
              replace X := Lib.hid (X.out.grown GJ.out)
              clear KS GJ
              go_wp2
              obtain ⟨wk2, hwk2⟩ : ∃ wk2, wk2 = wr := ⟨_, rfl⟩
              rw [← hwk2] at C X ⊢
              clear hwk2
              go_loopw [129] (fun s129 wq => ∃ j : Nat, s129 = .int .i64 j ∧ j ≤ 6 ∧ Hid (wk2.grownBy wq none)) (fun s129 _ => 6 - (intOf s129).toNat)
              case atStart => exact ⟨0, rfl, by omega, Lib.hid (grown_refl _ _)⟩
              case round =>
                obtain ⟨j2, rfl, hj2, GJ⟩ := hrel
                by_cases hj6 : j2 < 6
                · obtain ⟨⟨ya, yn, yc⟩, hy⟩ : ∃ y, rw6 rows j2 = y := ⟨_, rfl⟩
                  obtain ⟨hy3, hhy⟩ : ∃ h, fs6 fs j2 = h := ⟨_, rfl⟩
                  have lc2 := GJ.out.cell (X.out.lc j2 hj6) (by simp)
                  have E := X.out.fr j2 hj6
                  rw [hy] at lc2
                  rw [hy, hhy] at E
                  have E := Lib.hid (E.grown GJ.out)
                  replace C := Lib.hid (C.out.grown GJ.out)
                  have GR := GJ
                  clear hy hhy
                  dsimp only [Sl.v] at lc2
                  obtain ⟨pn1, po1, pe1, hP⟩ := pushed_any h hy3 back
                  have P := Lib.hid hP
                  clear hP
                  go_wp2_with fail
                  refine (ppush_any ⟨xa, xn, xc⟩ ⟨ya, yn, yc⟩ h hy3 back wr C.out E.out P.out).mono ?_
                  rintro e w61 ⟨⟨pa, pn, pc⟩, ⟨qa, qn, qc⟩, rfl, hU1, hU2, hg⟩
                  replace C := Lib.hid (C.out.grown hg)
                  replace E := Lib.hid (E.out.grown hg)
                  replace GR := Lib.hid (grown_trans GR.out hg)
                  have U1 := Lib.hid hU1
                  have U2 := Lib.hid hU2
                  clear hU1 hU2 hg
                  dsimp only [Sl.v]
                  go_wp2_with fail
                  refine (rpush_any ⟨xa, xn, xc⟩ ⟨ya, yn, yc⟩ h hy3 back w61 C.out E.out P.out).mono ?_
                  rintro e w62 ⟨⟨ua, un, uc⟩, ⟨va, vn, vc⟩, rfl, hU3, hU4, hg⟩
                  replace C := Lib.hid (C.out.grown hg)
                  replace E := Lib.hid (E.out.grown hg)
                  replace U1 := Lib.hid (U1.out.grown hg)
                  replace U2 := Lib.hid (U2.out.grown hg)
                  replace GR := Lib.hid (grown_trans GR.out hg)
                  have U3 := Lib.hid hU3
                  have U4 := Lib.hid hU4
                  clear hU3 hU4 hg
                  dsimp only [Sl.v]
                  go_wp2_with fail
                  refine (rsame_any ⟨pa, pn, pc⟩ ⟨ua, un, uc⟩ _ _ w62 U1.out U3.out).mono ?_
                  rw [sameB_refl]
                  rintro e w63 ⟨rfl, hg⟩
                  replace C := Lib.hid (C.out.grown hg)
                  replace E := Lib.hid (E.out.grown hg)
                  replace U1 := Lib.hid (U1.out.grown hg)
                  replace U2 := Lib.hid (U2.out.grown hg)
                  replace U3 := Lib.hid (U3.out.grown hg)
                  replace U4 := Lib.hid (U4.out.grown hg)
                  replace GR := Lib.hid (grown_trans GR.out hg)
                  clear hg
                  go_wp2_with fail
                  refine (rsame_any ⟨qa, qn, qc⟩ ⟨va, vn, vc⟩ _ _ w63 U2.out U4.out).mono ?_
                  rw [sameB_refl]
                  rintro e w64 ⟨rfl, hg⟩
                  replace C := Lib.hid (C.out.grown hg)
                  replace E := Lib.hid (E.out.grown hg)
                  replace U1 := Lib.hid (U1.out.grown hg)
                  replace U2 := Lib.hid (U2.out.grown hg)
                  replace U3 := Lib.hid (U3.out.grown hg)
                  replace U4 := Lib.hid (U4.out.grown hg)
                  replace GR := Lib.hid (grown_trans GR.out hg)
                  clear hg
                  go_wp2
                  go_roundw
                  case rel => exact ⟨j2 + 1, by go_num, by omega, GR⟩
                  case measure => simp [intOf]; omega
                · have hje2 : ¬ (j2 : Int) < 6 := by omega
                  clear hj6 hj2
                  replace X := Lib.hid (X.out.grown GJ.out)
                  go_wp2
                  go_roundw
                  case rel => exact ⟨k + 1, by go_num, by omega, X⟩
                  case measure => simp [intOf]; omega
        · have hke : ¬ (k : Int) < 6 := by omega
          have G := Lib.hid X.out.gr
          clear X
          go_wp2_with fail
          refine (awake_any wr).mono ?_
          rintro e wz ⟨rfl, hg⟩
          replace G := Lib.hid (grown_trans G.out hg)
          clear hg
          go_wp2
          go_ret
          exact ⟨rfl, grown_below G.out⟩
end Go.Proofs.Ytaghcdelnjjncaa
