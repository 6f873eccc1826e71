/- The walk of DealAnswers. -/
import Derived.Test.YtafkagaakjfkoaaDq
namespace Go.Proofs.Ytafkagaakjfkoaa
open Go.ChangeShapes Go.WideShapes Go.ChangeAt Go.RowKit

theorem NR.keep {w w' : World} {s : Sl} {l : List Int} {S : Nat} (h : NR w s l) (g : w.grownBy w' (some S)) (hn : 0 < s.n → s.blk ≠ some S) : NR w' s l :=
  ⟨h.fit, h.len, fun j u hu => by
    obtain ⟨b, off, e, hc⟩ := h.cr j u hu
    have h0 : 0 < s.n := by
      have := h.len
      have h1 : j < (ni l).length := (List.getElem?_eq_some_iff.1 hu).1
      rw [ni_len] at h1
      omega
    exact ⟨b, off, e, g.cell hc (fun e2 => hn h0 (by rw [Sl.blk, e]; exact e2))⟩⟩
theorem FR.keep {w w' : World} {s : Sl} {f : List Fm.Pc} {S : Nat} (h : FR w s f) (g : w.grownBy w' (some S)) (hn : 0 < s.n → s.blk ≠ some S) : FR w' s f :=
  ⟨h.fit, h.len, fun j u hu => by
    obtain ⟨b, off, e, hc⟩ := h.cr j u hu
    have h0 : 0 < s.n := by
      have := h.len
      have h1 : j < (f2 f).length := (List.getElem?_eq_some_iff.1 hu).1
      rw [f2_len] at h1
      omega
    exact ⟨b, off, e, g.cell hc (fun e2 => hn h0 (by rw [Sl.blk, e]; exact e2))⟩⟩
theorem NR.off {w : World} {s : Sl} {l : List Int} {S : Nat} (h : NR w s l) (hS : w.heap.size ≤ S) : 0 < s.n → s.blk ≠ some S := fun h0 e => by
  obtain ⟨b, off, e1, hc⟩ := h.at_ 0 h0
  have hb := World.block_lt_of_cell? _ _ hc
  rw [Sl.blk, e1] at e
  injection e with e
  have e : b = S := e
  dsimp only at hb
  omega
theorem FR.off {w : World} {s : Sl} {f : List Fm.Pc} {S : Nat} (h : FR w s f) (hS : w.heap.size ≤ S) : 0 < s.n → s.blk ≠ some S := fun h0 e => by
  obtain ⟨b, off, x, y, e1, _, hc, _⟩ := h.at_ 0 h0
  have hb := World.block_lt_of_cell? _ _ hc
  rw [Sl.blk, e1] at e
  injection e with e
  have e : b = S := e
  dsimp only at hb
  omega
theorem nr_in {w : World} {a : Option Addr} {len cap : Nat} {zs : List Int} (h : InRow w a len cap zs) : NR w ⟨a, len, cap⟩ zs ∧ ∀ i, IsI64 (zs.getD i 0) := by
  obtain ⟨b, off, hb, hl, hlc, hcap, ha, hc, hr⟩ := h
  refine ⟨⟨⟨hlc, hcap⟩, hl, fun j u hu => ?_⟩, hr⟩
  have hj : j < (ni zs).length := (List.getElem?_eq_some_iff.1 hu).1
  rw [ni_len] at hj
  rw [ni_get zs j hj] at hu
  injection hu with hu
  subst hu
  exact ⟨b, off, ha (by omega), hc j (by omega)⟩
/-- What lay in an elder world lies off newer rows. -/
theorem NR.old {w2 w6 w7 : World} {s : Sl} {l : List Int} {row : Option Nat} (h2 : NR w2 s l) (h6 : NR w6 s l) (g : w6.grownBy w7 row) (hr : ∀ b, row = some b → w2.heap.size ≤ b) : NR w7 s l := by
  cases row with
  | none => exact h6.grown g
  | some b => exact h6.keep g (h2.off (hr b rfl))
theorem FR.old {w2 w6 w7 : World} {s : Sl} {f : List Fm.Pc} {row : Option Nat} (h2 : FR w2 s f) (h6 : FR w6 s f) (g : w6.grownBy w7 row) (hr : ∀ b, row = some b → w2.heap.size ≤ b) : FR w7 s f := by
  cases row with
  | none => exact h6.grown g
  | some b => exact h6.keep g (h2.off (hr b rfl))
/-- Rows of numbers that lie off the reader. -/
structure NN (w : World) (S : Nat) (s : Sl) (ls : List (List Int)) : Prop where
  fit : s.fit
  len : ls.length = s.n
  ok : ∀ i j, IsI64 ((ls.getD i []).getD j 0)
  at_ : ∀ i, i < s.n → ∃ (b off : Nat) (v : Sl), s.a = some ⟨b, off, none⟩ ∧ b ≠ S ∧ w.cell? ⟨b, off + i, none⟩ = some v.v ∧ NR w v (ls.getD i []) ∧ (0 < v.n → v.blk ≠ some S)
theorem NN.step {w w' : World} {S : Nat} {s : Sl} {ls : List (List Int)} (h : NN w S s ls) (g : w.grownBy w' (some S)) : NN w' S s ls :=
  ⟨h.fit, h.len, h.ok, fun i hi => by
    obtain ⟨b, off, v, e, hb, hc, hv, ho⟩ := h.at_ i hi
    exact ⟨b, off, v, e, hb, g.cell hc (fun e => hb (by injection e)), hv.keep g ho, ho⟩⟩
theorem NN.grown {w w' : World} {S : Nat} {s : Sl} {ls : List (List Int)} (h : NN w S s ls) (g : w.grownBy w' none) : NN w' S s ls := h.step (grown_weak _ g)
theorem i64_small {l : List Int} (h : ∀ x ∈ l, -9223372036854775808 ≤ x ∧ x ≤ 9223372036854775807) (i : Nat) : IsI64 (l.getD i 0) := by
  by_cases hi : i < l.length
  · exact h _ (by rw [List.getD_eq_getElem?_getD, List.getElem?_eq_getElem hi]; exact List.getElem_mem hi)
  · rw [show l.getD i 0 = 0 by rw [List.getD_eq_getElem?_getD, List.getElem?_eq_none (by omega)]; rfl]
    exact ⟨by omega, by omega⟩
theorem i64_all {l : List Int} (h : ∀ i, IsI64 (l.getD i 0)) : ∀ x ∈ l, -9223372036854775808 ≤ x ∧ x ≤ 9223372036854775807 := fun x hx => by
  obtain ⟨i, hi, rfl⟩ := List.getElem_of_mem hx
  have := h i
  rwa [List.getD_eq_getElem?_getD, List.getElem?_eq_getElem hi] at this
theorem nn_four {w : World} {S A : Nat} {v0 v1 v2 v3 : Sl} {l0 l1 l2 l3 : List Int} (hA : A = w.heap.size) (hS : S < w.heap.size) (h0 : NR w v0 l0) (h1 : NR w v1 l1) (h2 : NR w v2 l2) (h3 : NR w v3 l3)
    (o0 : 0 < v0.n → v0.blk ≠ some S) (o1 : 0 < v1.n → v1.blk ≠ some S) (o2 : 0 < v2.n → v2.blk ≠ some S) (o3 : 0 < v3.n → v3.blk ≠ some S)
    (i0 : ∀ i, IsI64 (l0.getD i 0)) (i1 : ∀ i, IsI64 (l1.getD i 0)) (i2 : ∀ i, IsI64 (l2.getD i 0)) (i3 : ∀ i, IsI64 (l3.getD i 0)) :
    NN (w.alloc (.cells #[v0.v, v1.v, v2.v, v3.v] 22)) S ⟨some ⟨A, 0, none⟩, 4, 4⟩ [l0, l1, l2, l3] := by
  subst hA
  have ga := World.grownBy_alloc w (.cells #[v0.v, v1.v, v2.v, v3.v] 22) none
  refine ⟨⟨Nat.le_refl _, by dsimp only; omega⟩, rfl, fun i j => ?_, fun i hi => ?_⟩
  · match i with
    | 0 => exact i0 j
    | 1 => exact i1 j
    | 2 => exact i2 j
    | 3 => exact i3 j
    | i + 4 => exact ⟨by simp, by simp⟩
  · match i, hi with
    | 0, _ => exact ⟨w.heap.size, 0, v0, rfl, by omega, by simp, h0.grown ga, o0⟩
    | 1, _ => exact ⟨w.heap.size, 0, v1, rfl, by omega, by simp, h1.grown ga, o1⟩
    | 2, _ => exact ⟨w.heap.size, 0, v2, rfl, by omega, by simp, h2.grown ga, o2⟩
    | 3, _ => exact ⟨w.heap.size, 0, v3, rfl, by omega, by simp, h3.grown ga, o3⟩
theorem rr_five {w : World} {A : Nat} {v0 v1 v2 v3 v4 : Sl} {l0 l1 l2 l3 l4 : List Fm.Pc} (hA : A = w.heap.size) (h0 : FR w v0 l0) (h1 : FR w v1 l1) (h2 : FR w v2 l2) (h3 : FR w v3 l3) (h4 : FR w v4 l4) :
    RR (w.alloc (.cells #[v0.v, v1.v, v2.v, v3.v, v4.v] 23)) ⟨some ⟨A, 0, none⟩, 5, 5⟩ [l0, l1, l2, l3, l4] := by
  subst hA
  have ga := World.grownBy_alloc w (.cells #[v0.v, v1.v, v2.v, v3.v, v4.v] 23) none
  refine ⟨⟨Nat.le_refl _, by dsimp only; omega⟩, rfl, fun i hi => ?_⟩
  match i, hi with
  | 0, _ => exact ⟨w.heap.size, 0, v0, rfl, by simp, h0.grown ga⟩
  | 1, _ => exact ⟨w.heap.size, 0, v1, rfl, by simp, h1.grown ga⟩
  | 2, _ => exact ⟨w.heap.size, 0, v2, rfl, by simp, h2.grown ga⟩
  | 3, _ => exact ⟨w.heap.size, 0, v3, rfl, by simp, h3.grown ga⟩
  | 4, _ => exact ⟨w.heap.size, 0, v4, rfl, by simp, h4.grown ga⟩
theorem cntF_len (r : List Int) (k : Int) : (cntF r k).length ≤ 64 := by
  unfold cntF
  split
  · rename_i h
    rw [Dm.cnt_len]
    exact (chk_ok.1 h).len
  · simp
theorem or_lit0n (W : World) : ON W.heap.size (W.alloc (.cells #[] 3)) ⟨some ⟨W.heap.size, 0, none⟩, 0, 0⟩ [] := by
  have := World.ownsRow_lit (base := W.heap.size) (e := 3) (size := 1) W #[] 0 (Nat.le_refl _) (by unfold maxLen; omega) (by simp)
  exact ⟨by show World.ownsRow _ _ _ _ (.slice (some ⟨W.heap.size, 0, none⟩) 0 0) 0 []; simpa using this⟩
/-- What the loop over the lists of rates keeps. -/
structure St (w wr : World) (S : Nat) (X T : Sl) (ls : List (List Int)) (f : List Fm.Pc) : Prop where
  nn : NN wr S X ls
  raw : FR wr T f
  off : 0 < T.n → T.blk ≠ some S
  src : SrcOK wr S
  gr : w.grownBy wr none
  hs : S = w.heap.size
theorem St.step {w wr wd : World} {S : Nat} {X T : Sl} {ls : List (List Int)} {f : List Fm.Pc} (h : St w wr S X T ls f) (g : wr.grownBy wd (some S)) (hs : SrcOK wd S) : St w wd S X T ls f :=
  ⟨h.nn.step g, h.raw.keep g h.off, h.off, hs, h.gr.under h.hs g, h.hs⟩
theorem St.grown {w wr wd : World} {S : Nat} {X T : Sl} {ls : List (List Int)} {f : List Fm.Pc} (h : St w wr S X T ls f) (g : wr.grownBy wd none) : St w wd S X T ls f := h.step (grown_weak _ g) (h.src.grown g)

set_option maxRecDepth 100000 in
set_option maxHeartbeats 4000000 in
theorem answers_walk (a0 : Option Addr) (len0 cap0 : Nat) (z0 : List Int) (T1 : Sl) (f1 : List Fm.Pc) (x2 : Int) (a3 : Option Addr) (len3 cap3 : Nat) (z3 : List Int) (w : World) (w0 : InRow w a0 len0 cap0 z0) (w1 : FR w T1 f1) (w2 : IsI64 x2) (w3 : InRow w a3 len3 cap3 z3) :
    Calls Try.prog 3 #[.slice a0 len0 cap0, T1.v, .int .i64 x2, .slice a3 len3 cap3] w fun e w' => e = .returned (.bool true) ∧ Below w.heap.size w w' := by
  obtain ⟨i0, hi0, hz0, hz1, hz2⟩ := parts_n
  obtain ⟨n0, q0⟩ := nr_in w0
  have N0 := Lib.hid n0
  have Q0 := Lib.hid q0
  have F1 := Lib.hid w1
  have HX := Lib.hid w2
  clear w0 n0 q0 w1
  obtain ⟨ta, tn, tc⟩ := T1
  unfold Sl.v
  dsimp only
  by_cases hbig : 100 < len0 ∨ 300 < tn
  · by_cases h1 : 100 < len0
    · have h1i : (100 : Int) < (len0 : Int) := by omega
      go_enter Try.func3, Try.ntmps3
      go_wp2_with fail
      refine (awake17_any w).mono ?_
      rintro e w5 ⟨rfl, hg⟩
      have G := Lib.hid hg
      clear hg
      go_wp2
      go_ret
      exact ⟨rfl, grown_below G.out⟩
    · have e1 : decide ((100 : Int) < (len0 : Int)) = false := decide_eq_false (by omega)
      have h2i : (300 : Int) < (tn : Int) := by omega
      go_enter Try.func3, Try.ntmps3
      go_wp2_with fail
      refine (awake17_any w).mono ?_
      rintro e w5 ⟨rfl, hg⟩
      have G := Lib.hid hg
      clear hg
      go_wp2
      go_ret
      exact ⟨rfl, grown_below G.out⟩
  have e1 : decide ((100 : Int) < (len0 : Int)) = false := decide_eq_false (by omega)
  have e2 : decide ((300 : Int) < (tn : Int)) = false := decide_eq_false (by omega)
  clear hbig
  go_enter Try.func3, Try.ntmps3
  go_wp2_with fail
  refine (new_any a3 len3 cap3 z3 w w3).mono ?_
  rintro e w1 ⟨rfl, hg, hs, _⟩
  have G := Lib.hid hg
  have HS := Lib.hid hs
  have NO := Lib.hid (N0.out.off (S := w.heap.size) (Nat.le_refl _))
  have FO := Lib.hid (F1.out.off (S := w.heap.size) (Nat.le_refl _))
  replace N0 := Lib.hid (N0.out.grown hg)
  replace F1 := Lib.hid (F1.out.grown hg)
  clear w3 hg hs
  obtain ⟨S, hS⟩ : ∃ S, S = w.heap.size := ⟨_, rfl⟩
  have SW := Lib.hid hS
  rw [← hS] at HS NO FO ⊢
  clear hS
  go_wp2_with fail
  refine (rates_any S w1 HS.out).mono ?_
  rintro e w2 ⟨⟨oa, on, oc⟩, r, rfl, ho, hr, hg, hs⟩
  replace G := Lib.hid (G.out.under SW.out hg)
  have R := Lib.hid ho
  have S1 := Lib.hid (src_lt HS.out)
  have W12 := Lib.hid hg.size
  replace N0 := Lib.hid (N0.out.keep hg NO.out)
  replace F1 := Lib.hid (F1.out.keep hg FO.out)
  replace HS := Lib.hid hs
  have HR := Lib.hid hr
  have rm := hr.max
  have rp := hr.pos
  clear ho hr hg hs
  have RO := Lib.hid (show ∀ b, (⟨oa, on, oc⟩ : Sl).blk = some b → b ≠ S from fun b hb => by have := (R.out.blk b hb).1; have := S1.out; omega)
  obtain ⟨V, hV⟩ : ∃ V, V = r.sum := ⟨_, rfl⟩
  rw [← hV] at rm rp ⊢
  have HV := Lib.hid hV
  clear hV
  dsimp only [Sl.v]
  have rl : r.length = on := R.out.nr.len
  have on5 : on ≤ 5 := by have := HR.out.len5; omega
  have N2 := Lib.hid N0.out
  have F2 := Lib.hid F1.out
  have RN2 := Lib.hid R.out.nr
  have OL := Lib.hid (or_lit0n w2)
  have GA := Lib.hid (World.grownBy_alloc w2 (.cells #[] 3) none)
  go_wp2_with (first
    | (at_builtin
       refine wpList_appV rfl _ _ 22 rfl (S := ⟨some ⟨w2.heap.size, 0, none⟩, 0, 0⟩) (V := ⟨oa, on, oc⟩) (vs := ni r) Try.underlying22 hi0 hz0 hz1 hz2 (by rfl) (by omega) rfl rfl OL.out (by simp) (by rw [ni_len, rl, Nat.mul_one]) (R.out.nr.cr.grown GA.out) (ni_one _) (by dsimp only; omega) (by dsimp only; omega) ?_
       intro r1 w5 hrn hr hg5 hbl
       have R5 := Lib.hid (show ON w2.heap.size w5 r1 r from hr)
       have G5 := Lib.hid (grown_row0 GA.out hg5 (fun b hb => by injection hb with hb; have hb : w2.heap.size = b := hb; omega))
       obtain ⟨ra, rn, rc⟩ := r1
       dsimp only [Sl.v] at hrn ⊢
       have hrn2 : rn ≤ 5 := by omega
       clear hrn hr hg5 hbl)
    | fail)
  refine Calls.mono (pick_lit S 3 w5.heap.size [-1, 1000, 1001] #[.int .i64 (-1), .int .i64 1000, .int .i64 1001] w5 rfl (HS.out.grown G5.out) rfl (by omega) (by omega) ?_) ?_
  · intro i hi
    match i, hi with
    | 0, _ => rfl
    | 1, _ => rfl
    | 2, _ => rfl
  rintro e w6 ⟨v, hv, rfl, hg, hs⟩
  have VB := Lib.hid (show -1 ≤ v ∧ v ≤ 1001 by simp at hv; omega)
  have SZ := Lib.hid (show S < w2.heap.size by have := S1.out; have := W12.out; omega)
  have R6 := Lib.hid (show ON w2.heap.size w6 ⟨ra, rn, rc⟩ r from R5.out.chg (Chg.of (L := [S]) hg (fun b hb => by injection hb with hb; simp [hb])) (fun b hb hm => by rw [List.mem_singleton] at hm; have := (R5.out.blk b hb).1; have := SZ.out; omega))
  replace G := Lib.hid ((grown_trans G.out G5.out).under SW.out hg)
  replace N0 := Lib.hid ((N0.out.grown G5.out).keep hg NO.out)
  replace F1 := Lib.hid ((F1.out.grown G5.out).keep hg FO.out)
  have RN := Lib.hid ((R.out.nr.grown G5.out).keep hg (fun _ e => RO.out S e rfl))
  have W26 := Lib.hid (Nat.le_trans G5.out.size hg.size)
  replace HS := Lib.hid hs
  clear hv hg hs OL GA R5 G5 R
  go_wp2_with (first
    | (at_builtin
       refine wpList_appV rfl _ _ 22 rfl (S := ⟨ra, rn, rc⟩) (V := ⟨some ⟨w6.heap.size, 0, none⟩, 1, 1⟩) (vs := ni [v]) Try.underlying22 hi0 hz0 hz1 hz2 (by rfl) (by omega) rfl rfl (R6.out.grown (World.grownBy_alloc _ _ _)) (by simp; have := W26.out; omega) (by rfl) (cr_n _ _ rfl) (ni_one _) (by dsimp only; omega) (by dsimp only; omega) ?_
       intro r2 w7 hrn hr hg7 hbl
       rw [ni_app] at hr
       have B7 := Lib.hid hr
       have X7 := Lib.hid (grown_trans (grown_weak _ (World.grownBy_alloc w6 (.cells #[.int .i64 v] 3) none)) hg7)
       have HB := Lib.hid (show ∀ b, (⟨ra, rn, rc⟩ : Sl).blk = some b → w2.heap.size ≤ b from fun b hb => (R6.out.blk b hb).1)
       replace N0 := Lib.hid (N2.out.old N0.out X7.out HB.out)
       replace F1 := Lib.hid (F2.out.old F1.out X7.out HB.out)
       replace RN := Lib.hid (RN2.out.old RN.out X7.out HB.out)
       replace HS := Lib.hid (HS.out.grownRow X7.out (fun k hk => by have := HB.out k hk; have := SZ.out; omega))
       replace G := Lib.hid (grown_row0 G.out X7.out (fun b hb => by have := HB.out b hb; have := SZ.out; have := SW.out; omega))
       have BO := Lib.hid (show 0 < r2.n → r2.blk ≠ some S from fun _ e => by have := (B7.out.blk S e).1; have := SZ.out; omega)
       have B7n := Lib.hid B7.out.nr
       obtain ⟨ba, bn, bc⟩ := r2
       dsimp only [Sl.v]
       clear hrn hr hg7 hbl R6 N2 F2 RN2 X7 HB)
    | fail)
  have BI := Lib.hid (i64_small (l := r ++ [v]) (fun x hx => by
    rcases List.mem_append.1 hx with hx | hx
    · exact i64_all HR.out.i64 x hx
    · rw [List.mem_singleton] at hx; subst hx; have := VB.out; omega))
  have g8 := World.grownBy_alloc w7 (.cells #[.int .i64 0, .int .i64 0] 3) none
  have Z8 := nr_new w7 [0, 0] (A := w7.heap.size) (cs := #[.int .i64 0, .int .i64 0]) rfl rfl (by decide)
  have hSw := src_lt HS.out
  have L9 := Lib.hid (nn_four (w := w7.alloc (.cells #[.int .i64 0, .int .i64 0] 3)) (S := S) (A := w7.heap.size + 1) (by simp) (by simp; omega) (N0.out.grown g8) (RN.out.grown g8) (B7n.out.grown g8) Z8
    NO.out (fun _ e => RO.out S e rfl) BO.out (fun _ e => by injection e with e; have e : w7.heap.size = S := e; omega) Q0.out HR.out.i64 BI.out (fun i => i64_small (l := [0, 0]) (fun x hx => by simp at hx; omega) i))
  have g9 := grown_trans g8 (World.grownBy_alloc (w7.alloc (.cells #[.int .i64 0, .int .i64 0] 3)) (.cells #[(⟨a0, len0, cap0⟩ : Sl).v, (⟨oa, on, oc⟩ : Sl).v, (⟨ba, bn, bc⟩ : Sl).v, (⟨some ⟨w7.heap.size, 0, none⟩, 2, 2⟩ : Sl).v] 22) none)
  have X9 := Lib.hid (show St w _ S ⟨some ⟨w7.heap.size + 1, 0, none⟩, 4, 4⟩ ⟨ta, tn, tc⟩ [z0, r, r ++ [v], [0, 0]] f1 from ⟨L9.out, F1.out.grown g9, FO.out, HS.out.grown g9, grown_trans G.out g9, SW.out⟩)
  clear L9 g8 Z8 hSw g9 N0 F1 RN B7n B7 G HS
  obtain ⟨wb, hwb⟩ : ∃ wb, wb = (w7.alloc (.cells #[.int .i64 0, .int .i64 0] 3)).alloc (.cells #[.slice a0 len0 cap0, .slice oa on oc, .slice ba bn bc, .slice (some ⟨w7.heap.size, 0, none⟩) 2 2] 22) := ⟨_, rfl⟩
  obtain ⟨X, hX⟩ : ∃ X, X = w7.heap.size + 1 := ⟨_, rfl⟩
  have XS := Lib.hid (show St w wb S ⟨some ⟨X, 0, none⟩, 4, 4⟩ ⟨ta, tn, tc⟩ [z0, r, r ++ [v], [0, 0]] f1 by rw [hwb, hX]; exact X9.out)
  rw [← hwb]
  simp only [← hX]
  obtain ⟨LS, hLS⟩ : ∃ LS, LS = [z0, r, r ++ [v], [0, 0]] := ⟨_, rfl⟩
  rw [← hLS] at XS
  clear X9 hwb hX hLS NO FO BO BI Q0 RO
  go_loopw [57] (fun i wr => ∃ k : Nat, i = .int .i64 k ∧ k ≤ 4 ∧ Hid (St w wr S ⟨some ⟨X, 0, none⟩, 4, 4⟩ ⟨ta, tn, tc⟩ LS f1)) (fun i _ => 4 - (intOf i).toNat)
  case atStart => exact ⟨0, rfl, by omega, XS⟩
  case round =>
    obtain ⟨k, rfl, hk, H⟩ := hrel
    by_cases hlt : k < 4
    · have hki : (k : Int) < 4 := by omega
      obtain ⟨b, off, V1, e, hb, c0, hv, ho⟩ := H.out.nn.at_ k hlt
      cases e
      rw [Nat.zero_add] at c0
      have XI := Lib.hid (H.out.nn.ok k)
      obtain ⟨xs, hxs⟩ : ∃ xs, xs = LS.getD k [] := ⟨_, rfl⟩
      rw [← hxs] at hv XI
      clear hxs hb
      have XN := Lib.hid hv
      have XO := Lib.hid ho
      clear hv ho
      obtain ⟨xa, xn, xc⟩ := V1
      dsimp only [Sl.v] at c0
      go_wp2_with fail
      refine (n_any S (V + 2) wr H.out.src (by omega) (by omega)).mono ?_
      rintro e w8 ⟨y, hy, rfl, hg, hs⟩
      have H8 := Lib.hid (H.out.step hg hs)
      have X8 := Lib.hid (XN.out.keep hg XO.out)
      clear hg hs c0 H XN
      have NS := Lib.hid (nr_new w8 [x2, y, V] (A := w8.heap.size) (cs := #[.int .i64 x2, .int .i64 y, .int .i64 V]) rfl rfl (by simp))
      have ga := World.grownBy_alloc w8 (.cells #[.int .i64 x2, .int .i64 y, .int .i64 V] 3) none
      obtain ⟨wl, hwl⟩ : ∃ wl, wl = w8.alloc (.cells #[.int .i64 x2, .int .i64 y, .int .i64 V] 3) := ⟨_, rfl⟩
      obtain ⟨L, hL⟩ : ∃ L, L = w8.heap.size := ⟨_, rfl⟩
      rw [← hwl, ← hL] at NS
      rw [← hwl] at ga
      have HL := Lib.hid (H8.out.grown ga)
      have XL := Lib.hid (X8.out.grown ga)
      have YI := Lib.hid (i64_small (l := [x2, y, V]) (fun z hz => by
        simp at hz
        rcases hz with rfl | rfl | rfl
        · exact HX.out
        · omega
        · omega))
      obtain ⟨ns, hns⟩ : ∃ ns, ns = [x2, y, V] := ⟨_, rfl⟩
      have nl : ns.length = 3 := by rw [hns]; rfl
      rw [← hns] at NS YI
      clear ga H8 X8 hns
      go_wp2
      rw [← hwl]
      simp only [← hL]
      clear hwl hL
      go_loopw [69] (fun i wr => ∃ j : Nat, i = .int .i64 j ∧ j ≤ 3 ∧ Hid (wl.grownBy wr none)) (fun i _ => 3 - (intOf i).toNat)
      case atStart => exact ⟨0, rfl, by omega, grown_refl _ _⟩
      case round =>
        obtain ⟨j, rfl, hj, GJ⟩ := hrel
        by_cases hlt2 : j < 3
        · have hji : (j : Int) < 3 := by omega
          have c1 := (NS.out.grown GJ.out).got j (by rw [nl]; omega)
          rw [Nat.zero_add] at c1
          have nI := YI.out j
          obtain ⟨n, hn⟩ : ∃ n, n = ns.getD j 0 := ⟨_, rfl⟩
          rw [← hn] at c1 nI
          clear hn
          have DC := Lib.hid (dcounts_any ⟨xa, xn, xc⟩ xs n wr (XL.out.grown GJ.out) XI.out nI)
          have RC := Lib.hid (fun (W : World) (hW : wr.grownBy W none) => rcounts_any ⟨xa, xn, xc⟩ xs n W (XL.out.grown (grown_trans GJ.out hW)))
          have CL := Lib.hid (cntF_len xs n)
          obtain ⟨CV, hCV⟩ : ∃ c, c = cntF xs n := ⟨_, rfl⟩
          obtain ⟨E, hE⟩ : ∃ c, c = chk xs n := ⟨_, rfl⟩
          rw [← hCV, ← hE] at DC RC
          rw [← hCV] at CL
          clear hCV hE nI
          dsimp only [Sl.v] at DC RC
          go_wp2_with fail
          refine DC.out.mono ?_
          rintro e w10 ⟨⟨aa, an, ac⟩, rfl, hq, hg⟩
          have A := Lib.hid hq
          have G1 := Lib.hid hg
          clear hq hg DC c1
          dsimp only [Sl.v]
          go_wp2_with fail
          refine (RC.out w10 G1.out).mono ?_
          rintro e w11 ⟨⟨da, dn, dc⟩, rfl, hq, hg⟩
          have B := Lib.hid hq
          replace A := Lib.hid (A.out.grown hg)
          replace G1 := Lib.hid (grown_trans G1.out hg)
          clear hq hg RC
          dsimp only [Sl.v]
          go_wp2_with fail
          refine (ints_any _ _ _ _ _ A.out.sl B.out.sl (by have := CL.out; omega) (by have := CL.out; omega)).mono ?_
          rw [eqB_refl]
          rintro e w12 ⟨rfl, q12, rfl⟩
          have GN := Lib.hid (grown_trans GJ.out (grown_trans G1.out (grown_drewN w11 q12 none)))
          have eE : (E != E) = false := by simp
          clear A B G1
          go_wp2
          go_roundw
          case rel => exact ⟨j + 1, by go_num, by omega, GN⟩
          case measure => simp [intOf]; omega
        · have e3 : decide ((j : Int) < 3) = false := decide_eq_false (by omega)
          obtain ⟨wc, hwc⟩ : ∃ wc, wc = wr := ⟨_, rfl⟩
          rw [← hwc] at GJ ⊢
          replace HL := Lib.hid (HL.out.grown GJ.out)
          replace XL := Lib.hid (XL.out.grown GJ.out)
          clear GJ NS YI hwc
          go_wp2_with fail
          refine (fill_any S V 3 wc HL.out.src (by omega) (by omega) (by omega) (by omega)).mono ?_
          rintro e w13 ⟨⟨ga, gn, gc⟩, g1, rfl, ho1, _, hg, hs⟩
          have S2 := Lib.hid (src_lt HL.out.src)
          have P1 := Lib.hid ho1
          replace HL := Lib.hid (HL.out.step hg hs)
          replace XL := Lib.hid (XL.out.keep hg XO.out)
          clear ho1 hg hs
          dsimp only [Sl.v]
          have PO := Lib.hid (show 0 < gn → (⟨ga, gn, gc⟩ : Sl).blk ≠ some S from fun _ e => by have := (P1.out.blk S e).1; have := S2.out; omega)
          have P1f := Lib.hid P1.out.fr
          clear P1
          go_wp2_with fail
          refine (n_any S (V + 2) w13 HL.out.src (by omega) (by omega)).mono ?_
          rintro e w14 ⟨y2, hy2, rfl, hg, hs⟩
          replace HL := Lib.hid (HL.out.step hg hs)
          replace XL := Lib.hid (XL.out.keep hg XO.out)
          replace P1f := Lib.hid (P1f.out.keep hg PO.out)
          clear hg hs
          go_wp2_with fail
          refine (fill_any S y2 2 w14 HL.out.src (by omega) (by omega) (by omega) (by omega)).mono ?_
          rintro e w15 ⟨⟨ka, kn, kc⟩, g2, rfl, ho2, _, hg, hs⟩
          have P2f := Lib.hid ho2.fr
          replace HL := Lib.hid (HL.out.step hg hs)
          replace XL := Lib.hid (XL.out.keep hg XO.out)
          replace P1f := Lib.hid (P1f.out.keep hg PO.out)
          clear ho2 hg hs PO S2
          dsimp only [Sl.v]
          have ga1 := World.grownBy_alloc w15 (.cells #[.int .i64 1, .int .i64 0] 38) none
          have L1 := fr_lit w15 [(1, 0)] (A := w15.heap.size) (cs := #[.int .i64 1, .int .i64 0]) rfl rfl (by decide)
          have ga2 := World.grownBy_alloc (w15.alloc (.cells #[.int .i64 1, .int .i64 0] 38)) (.cells #[.int .i64 (-1), .int .i64 1] 38) none
          have L2 := fr_lit (w15.alloc (.cells #[.int .i64 1, .int .i64 0] 38)) [(-1, 1)] (A := w15.heap.size + 1) (cs := #[.int .i64 (-1), .int .i64 1]) (by simp) rfl (by decide)
          have g12 := grown_trans ga1 ga2
          obtain ⟨w17, hw17⟩ : ∃ w17, w17 = (w15.alloc (.cells #[.int .i64 1, .int .i64 0] 38)).alloc (.cells #[.int .i64 (-1), .int .i64 1] 38) := ⟨_, rfl⟩
          have sz17 : w17.heap.size = w15.heap.size + 1 + 1 := by rw [hw17]; simp
          have L5 := rr_five (A := w15.heap.size + 1 + 1) sz17.symm (by rw [hw17]; exact HL.out.raw.grown g12) (by rw [hw17]; exact P1f.out.grown g12) (by rw [hw17]; exact P2f.out.grown g12) (by rw [hw17]; exact L1.grown ga2) (by rw [hw17]; exact L2)
          have ga3 := World.grownBy_alloc w17 (.cells #[.slice ta tn tc, .slice ga gn gc, .slice ka kn kc, .slice (some ⟨w15.heap.size, 0, none⟩) 1 1, .slice (some ⟨w15.heap.size + 1, 0, none⟩) 1 1] 23) none
          obtain ⟨w18, hw18⟩ : ∃ w18, w18 = w17.alloc (.cells #[.slice ta tn tc, .slice ga gn gc, .slice ka kn kc, .slice (some ⟨w15.heap.size, 0, none⟩) 1 1, .slice (some ⟨w15.heap.size + 1, 0, none⟩) 1 1] 23) := ⟨_, rfl⟩
          rw [← hw18] at ga3
          have g18 : w15.grownBy w18 none := grown_trans (by rw [hw17]; exact g12) ga3
          obtain ⟨PL, hPL⟩ : ∃ PL, PL = [f1, g1, g2, [(1, 0)], [(-1, 1)]] := ⟨_, rfl⟩
          obtain ⟨Y, hY⟩ : ∃ Y, Y = w15.heap.size + 1 + 1 := ⟨_, rfl⟩
          have R5 := Lib.hid (show RR w18 ⟨some ⟨Y, 0, none⟩, 5, 5⟩ PL by rw [hw18, hPL, hY]; exact L5)
          replace HL := Lib.hid (HL.out.grown g18)
          replace XL := Lib.hid (XL.out.grown g18)
          clear ga1 L1 ga2 L2 g12 L5 ga3 g18 sz17 P1f P2f hPL
          go_wp2
          rw [← hw17, ← hw18]
          simp only [← hY]
          clear hw17 hw18 hY
          go_loopw [111] (fun i wr => ∃ q : Nat, i = .int .i64 q ∧ q ≤ 5 ∧ Hid (w18.grownBy wr none)) (fun i _ => 5 - (intOf i).toNat)
          case atStart => exact ⟨0, rfl, by omega, grown_refl _ _⟩
          case round =>
            obtain ⟨q, rfl, hq, GJ⟩ := hrel
            by_cases hlt3 : q < 5
            · have hqi : (q : Int) < 5 := by omega
              obtain ⟨P, c1, hp⟩ := (R5.out.grown GJ.out).got q hlt3
              rw [Nat.zero_add] at c1
              have PF := Lib.hid hp
              obtain ⟨pl, hpl⟩ : ∃ pl, pl = PL.getD q [] := ⟨_, rfl⟩
              rw [← hpl] at PF
              clear hp hpl
              have DD := Lib.hid (ddeal_any P ⟨xa, xn, xc⟩ pl xs wr PF.out (XL.out.grown GJ.out) XI.out)
              have RD := Lib.hid (fun (W : World) (hW : wr.grownBy W none) => rdeal_any P ⟨xa, xn, xc⟩ pl xs W (PF.out.grown hW) (XL.out.grown (grown_trans GJ.out hW)))
              obtain ⟨DV, hDV⟩ : ∃ c, c = dealF pl xs := ⟨_, rfl⟩
              obtain ⟨E, hE⟩ : ∃ c, c = dchk pl xs := ⟨_, rfl⟩
              rw [← hDV, ← hE] at DD RD
              clear hDV hE
              obtain ⟨pa, pn, pc⟩ := P
              dsimp only [Sl.v] at DD RD c1
              go_wp2_with fail
              refine DD.out.mono ?_
              rintro e w20 ⟨⟨aa, an, ac⟩, rfl, hq2, hg⟩
              have A := Lib.hid hq2
              have G1 := Lib.hid hg
              clear hq2 hg DD c1
              dsimp only [Sl.v]
              go_wp2_with fail
              refine (RD.out w20 G1.out).mono ?_
              rintro e w21 ⟨⟨da, dn, dc⟩, rfl, hq2, hg⟩
              have B := Lib.hid hq2
              replace A := Lib.hid (A.out.grown hg)
              replace G1 := Lib.hid (grown_trans G1.out hg)
              clear hq2 hg RD
              dsimp only [Sl.v]
              go_wp2_with fail
              refine (rsameR_any ⟨aa, an, ac⟩ ⟨da, dn, dc⟩ _ _ w21 A.out B.out).mono ?_
              rw [sameRB_refl]
              rintro e w22 ⟨rfl, hg⟩
              have GN := Lib.hid (grown_trans GJ.out (grown_trans G1.out hg))
              have eE : (E != E) = false := by simp
              clear A B G1 hg
              go_wp2
              go_roundw
              case rel => exact ⟨q + 1, by go_num, by omega, GN⟩
              case measure => simp [intOf]; omega
            · have e5 : decide ((q : Int) < 5) = false := decide_eq_false (by omega)
              have HN := Lib.hid (HL.out.grown GJ.out)
              go_wp2
              go_roundw
              case rel => exact ⟨k + 1, by go_num, by omega, HN⟩
              case measure => simp [intOf]; omega
    · have e4 : decide ((k : Int) < 4) = false := decide_eq_false (by omega)
      go_wp2_with fail
      refine (awake17_any wr).mono ?_
      rintro e w8 ⟨rfl, hg⟩
      have GG := Lib.hid (grown_trans H.out.gr hg)
      clear hg
      go_wp2
      go_ret
      exact ⟨rfl, grown_below GG.out⟩
end Go.Proofs.Ytafkagaakjfkoaa
