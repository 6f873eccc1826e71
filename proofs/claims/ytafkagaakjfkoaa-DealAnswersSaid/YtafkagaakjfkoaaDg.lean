/- Contract of the reference's Hand. -/
import Derived.Test.YtafkagaakjfkoaaDf
import Derived.Deep.RegionLaw
namespace Go.Proofs.Ytafkagaakjfkoaa
open Go.ChangeShapes Go.WideShapes Go.ChangeAt Go.RowKit

/-- The litres of the first k pieces, as a number. -/
def lk (f : List Fm.Pc) (k : Nat) : Nat := (Fm.lit (f.take k)).length
theorem lk_vol {f : List Fm.Pc} (hp : Fm.Pos f) (k : Nat) : (lk f k : Int) = Fm.vol (f.take k) := Fm.lit_len (hp.take k)
theorem lk_next {f : List Fm.Pc} (hp : Fm.Pos f) {k : Nat} (hk : k < f.length) : lk f (k + 1) = lk f k + (f.getD k Fm.zp).2.toNat := by
  have h1 := lk_vol hp k
  have h2 := lk_vol hp (k + 1)
  rw [Fm.vol_next hk] at h2
  have := hp _ (Fm.getD_mem hk)
  omega
/-- What the pieces of i are behind k pieces. -/
def hk (r : List Int) (f : List Fm.Pc) (k i : Nat) : List Fm.Pc := Dm.handP r i (Dm.zeros r.length) (f.take k)
theorem hk_zero (r : List Int) (f : List Fm.Pc) (i : Nat) : hk r f 0 i = [] := rfl
theorem hk_next {r : List Int} {f : List Fm.Pc} (hp : Fm.Pos f) {k : Nat} (hl : k < f.length) (i : Nat) : hk r f (k + 1) i = hk r f k i ++ [((f.getD k Fm.zp).1, (Dm.cnt r (lk f (k + 1))).getD i 0 - (Dm.cnt r (lk f k)).getD i 0)] := by
  unfold hk
  rw [Fm.take_next hl, Dm.handP_app _ _ _ _ _ (hp.take k), Dm.handP, Dm.handP]
  rw [lk_next hp hl, Dm.cnt_add]
  rfl
theorem hk_len (r : List Int) (f : List Fm.Pc) (k i : Nat) : (hk r f k i).length = min k f.length := by
  have := congrArg List.length (Dm.handP_fst r i (f.take k) (Dm.zeros r.length))
  simpa [hk] using this
/-- No row of pieces lies in block b. -/
def Off (vs : Nat → Sl) (n b : Nat) : Prop := ∀ i, i < n → (vs i).blk ≠ some b
/-- What Hand's loops keep: the rows of pieces, and the counts. -/
structure HS (w wr : World) (O G n : Nat) (vs : Nat → Sl) (fs : Nat → List Fm.Pc) (g : List Int) : Prop where
  ro : RO w.heap.size wr O n vs fs
  on : ON w.heap.size wr ⟨some ⟨G, 0, none⟩, n, n⟩ g
  off : Off vs n G
  og : O ≠ G
  gr : w.grownBy wr none
section
variable {w wr wd : World} {O G n : Nat} {vs : Nat → Sl} {fs : Nat → List Fm.Pc} {g : List Int}
theorem HS.grown (h : HS w wr O G n vs fs g) (k : wr.grownBy wd none) : HS w wd O G n vs fs g := ⟨h.ro.grown k, h.on.grown k, h.off, h.og, grown_trans h.gr k⟩
theorem HS.lt (h : HS w wr O G n vs fs g) : w.heap.size ≤ G ∧ G < wr.heap.size := h.on.blk G rfl
/-- A count is written. -/
theorem HS.count (h : HS w wr O G n vs fs g) (i : Nat) (x : Int) : HS w (wr.setCell ⟨G, i, none⟩ (.int .i64 x)) O G n vs fs (g.set i x) ∧ Chg [G] wr (wr.setCell ⟨G, i, none⟩ (.int .i64 x)) := by
  have c : Chg [G] wr (wr.setCell ⟨G, i, none⟩ (.int .i64 x)) := (Chg.refl [G] wr).set ⟨G, i, none⟩ _ (by simp)
  have ST := h.on.stored i (.int .i64 x)
  rw [ni_set] at ST
  exact ⟨⟨h.ro.chg c (by simp; exact h.og) (fun j hj b hb hm => by rw [List.mem_singleton] at hm; subst hm; exact h.off j hj hb), ST.1, h.off, h.og, c.grown h.gr (fun b hb => by rw [List.mem_singleton] at hb; subst hb; exact h.lt.1)⟩, c⟩
end

/-- What the loop that appends keeps. -/
structure HT (w wr : World) (O G n B : Nat) (q : Sl) (vs : Nat → Sl) (fs : Nat → List Fm.Pc) (g gk : List Int) (x0 : Int) : Prop where
  hs : HS w wr O G n vs fs g
  was : NR wr q gk
  p0 : wr.cell? ⟨B, 0, none⟩ = some (.int .i64 x0)
  offB : Off vs n B
  ob : O ≠ B
  offq : ∀ b, q.blk = some b → Off vs n b ∧ O ≠ b ∧ b < wr.heap.size
theorem RO.congr {base : Nat} {w : World} {O n : Nat} {vs : Nat → Sl} {fs fs' : Nat → List Fm.Pc} (h : RO base w O n vs fs) (e : ∀ i, i < n → fs i = fs' i) : RO base w O n vs fs' :=
  ⟨h.row, fun i hi => by rw [← e i hi]; exact h.each i hi, h.off, h.apart⟩
theorem HS.congr {w wr : World} {O G n : Nat} {vs : Nat → Sl} {fs fs' : Nat → List Fm.Pc} {g : List Int} (h : HS w wr O G n vs fs g) (e : ∀ i, i < n → fs i = fs' i) : HS w wr O G n vs fs' g := ⟨h.ro.congr e, h.on, h.off, h.og, h.gr⟩
theorem HT.put {w wa wb : World} {O G n B : Nat} {q : Sl} {vs : Nat → Sl} {fs : Nat → List Fm.Pc} {g gk : List Int} {x0 : Int} (h : HT w wa O G n B q vs fs g gk x0) {i : Nat} (hi : i < n) {r : Sl} {l : List Fm.Pc} (hr : OP w.heap.size wb r l) (hg : wa.grownBy wb (vs i).blk) (hb : ∀ b, r.blk = some b → (vs i).blk = some b ∨ wa.heap.size ≤ b) :
    HT w (wb.setCell ⟨O, i, none⟩ r.v) O G n B q (upd vs i r) (upd fs i l) g gk x0 := by
  have hro := (h.hs.ro.put hi hr hg (.inr rfl) hb).1
  have c1 : Chg (O :: (vs i).blk.toList) wa wb := Chg.of hg (fun b hb => by simp [hb])
  have c : Chg (O :: (vs i).blk.toList) wa (wb.setCell ⟨O, i, none⟩ r.v) := c1.set ⟨O, i, none⟩ r.v (by simp)
  have nin : ∀ b, O ≠ b → (vs i).blk ≠ some b → b ∉ O :: (vs i).blk.toList := fun b h1 h2 hm => by
    rcases List.mem_cons.1 hm with e | e
    · exact h1 e.symm
    · exact h2 (by simpa using e)
  have off' : ∀ b, Off vs n b → b < wa.heap.size → Off (upd vs i r) n b := fun b ho hl j hj e => by
    by_cases e2 : j = i
    · subst e2
      rw [upd_same] at e
      rcases hb b e with e3 | e3
      · exact ho j hj e3
      · omega
    · rw [upd_other _ _ e2] at e
      exact ho j hj e
  refine ⟨⟨hro, h.hs.on.chg c (fun b hb => ?_), off' G h.hs.off h.hs.lt.2, h.hs.og, c.grown h.hs.gr (fun b hm => ?_)⟩, h.was.chg c (fun b hb => nin b (h.offq b hb).2.1 ((h.offq b hb).1 i hi)), c.cell h.p0 (nin B h.ob (h.offB i hi)), off' B h.offB (World.block_lt_of_cell? _ _ h.p0), h.ob, fun b hb => ⟨off' b (h.offq b hb).1 (h.offq b hb).2.2, (h.offq b hb).2.1, Nat.lt_of_lt_of_le (h.offq b hb).2.2 c.size⟩⟩
  · injection hb with hb
    subst hb
    exact nin G h.hs.og (h.hs.off i hi)
  · rcases List.mem_cons.1 hm with e | e
    · subst e; exact h.hs.ro.lt.1
    · exact ((h.hs.ro.each i hi).blk b (by simpa using e)).1
/-- Some of them have had the piece already. -/
def mix (f f' : Nat → List Fm.Pc) (j i : Nat) : List Fm.Pc := if i < j then f' i else f i
theorem mix_zero (f f' : Nat → List Fm.Pc) : mix f f' 0 = f := by funext i; unfold mix; rw [if_neg (by omega)]
theorem mix_next (f f' : Nat → List Fm.Pc) (j : Nat) : upd (mix f f' j) j (f' j) = mix f f' (j + 1) := by
  funext i
  unfold upd mix
  by_cases e : i = j
  · subst e; rw [if_pos rfl, if_pos (by omega)]
  · rw [if_neg e]
    by_cases e2 : i < j
    · rw [if_pos e2, if_pos (by omega)]
    · rw [if_neg e2, if_neg (by omega)]
theorem mix_here (f f' : Nat → List Fm.Pc) (j : Nat) : mix f f' j j = f j := if_neg (by omega)

set_option maxHeartbeats 3200000 in
theorem rhand_any (s t : Sl) (f : List Fm.Pc) (r : List Int) (w : World) (h : FR w s f) (k : NR w t r) (hp : Fm.Pos f) (hok : Rok r (Fm.vol f)) (hf : f.length ≤ 400) :
    Calls Try.prog 38 #[s.v, t.v] w (fun e w' => ∃ q : Sl, e = .returned q.v ∧ RR w' q (Dm.dealt r (Fm.lit f)) ∧ w.grownBy w' none) := by
  obtain ⟨ir, hir, hzr0, hzr1, hzr2⟩ := parts_n
  obtain ⟨ip, hip, hzp0, hzp1, hzp2⟩ := parts_p
  obtain ⟨a, m, c⟩ := s
  obtain ⟨a', n, c'⟩ := t
  have hlen := h.len
  have klen := k.len
  have fit := h.fit
  have fit' := k.fit
  dsimp only [Sl.fit] at hlen klen fit fit'
  have HF := Lib.hid h
  have HR := Lib.hid k
  have HP := Lib.hid hp
  have OK := Lib.hid hok
  have n64 : n ≤ 64 := by have := hok.len; omega
  have m400 : m ≤ 400 := by omega
  have LK := Lib.hid (fun j => lk_vol hp j)
  have VT := Lib.hid (fun j => Fm.vol_take_le hp j)
  clear h k hp hok
  unfold Sl.v
  dsimp only
  go_enter Try.func38, Try.ntmps38
  go_wp2_with (first
    | (at_make; refine wpList_mkr rfl _ _ rfl n rfl rfl (by omega) ?_; intro wa hoa hga; have OA := Lib.hid hoa; have GA := Lib.hid hga; clear hoa hga)
    | (at_make; refine wpList_mkn rfl _ _ rfl n rfl rfl (by omega) ?_; intro wb hob hgb; have OB := Lib.hid hob; have GB := Lib.hid hgb; clear hob hgb)
    | fail)
  have H0 := Lib.hid (show HS w wb w.heap.size wa.heap.size n (fun _ => ⟨none, 0, 0⟩) (hk r f 0) (Dm.cnt r (lk f 0)) from ⟨OA.out.grown GB.out, by have := OB.out.base_ GA.out.size; rw [← klen] at this ⊢; exact this, fun _ _ e => (by cases e), by have := OA.out.lt; intro e; omega, grown_trans GA.out GB.out⟩)
  obtain ⟨O, hO⟩ : ∃ O, O = w.heap.size := ⟨_, rfl⟩
  obtain ⟨G, hG⟩ : ∃ G, G = wa.heap.size := ⟨_, rfl⟩
  have H1 := Lib.hid (show HS w wb O G n (fun _ => ⟨none, 0, 0⟩) (hk r f 0) (Dm.cnt r (lk f 0)) by rw [hO, hG]; exact H0.out)
  simp only [← hO, ← hG]
  clear H0 OA OB GA GB hO hG
  go_loopw [21] (fun i wr => ∃ (k : Nat) (vs : Nat → Sl), i = .int .i64 k ∧ k ≤ m ∧ Hid (HS w wr O G n vs (hk r f k) (Dm.cnt r (lk f k)))) (fun i _ => m - (intOf i).toNat)
  case atStart => exact ⟨0, _, rfl, by omega, H1⟩
  case round =>
    obtain ⟨k, vs, rfl, hkm, H⟩ := hrel
    by_cases hlt : k < m
    · obtain ⟨b, off, x0, y0, rfl, hp0, c0, c1⟩ := (HF.out.grown H.out.gr).at_ k hlt
      have hy := HP.out _ (Fm.getD_mem (f := f) (i := k) (by omega))
      rw [hp0] at hy
      dsimp only at hy
      have hlk := lk_next HP.out (k := k) (by omega)
      rw [hp0] at hlk
      dsimp only at hlk
      have LN := Lib.hid hlk
      have PN := Lib.hid hp0
      have tot := Lib.hid (show (lk f (k + 1) : Int) ≤ r.sum by have := LK.out (k + 1); have := (VT.out (k + 1)).2; have := OK.out.k1; omega)
      have hg := H.out.on.nr
      have hsl := H.out.lt
      have hci : (n : Int) ≤ 64 := by omega
      clear hp0 hlk
      obtain ⟨Y, rfl⟩ : ∃ Y : Nat, y0 = Y := ⟨y0.toNat, by omega⟩
      rw [Int.toNat_natCast] at LN
      have Yb : Y ≤ 64000 := by have h1 := LN.out; have h2 := tot.out; have h3 := OK.out.max; omega
      go_wp2_with (first
        | (at_builtin
           have L := Lib.hid (show ∀ (W : World), wr.grownBy W none → CR W ⟨some ⟨G, 0, none⟩, n, n⟩ (ni (Dm.cnt r (lk f k))) from fun W hW => (hg.grown hW).cr)
           refine wpList_fresh rfl _ _ 22 rfl (us := ni (Dm.cnt r (lk f k))) Try.underlying22 hir hzr0 hzr1 hzr2 (by rfl) (by omega) rfl rfl rfl (by simp) (by rw [ni_len, Nat.mul_one]; exact hg.len) (fun j u hu => ?b1) (ni_one _) (by omega) (by omega) ?_
           case b1 => exact (L.out _ (grown_trans (World.grownBy_alloc _ _ _) (World.grownBy_alloc _ _ _))).news j u hu
           intro q w5 hqn hq hg5
           have Q5 := Lib.hid hq
           have G5 := Lib.hid hg5
           obtain ⟨qa, qn, qc⟩ := q
           dsimp only [Sl.v] at hqn ⊢
           have hqn2 := hqn.symm
           clear hqn
           subst hqn2
           clear hq hg5 L)
        | fail)
      have ga := World.grownBy_alloc wr (.cells #[.int .i64 x0, .int .i64 (Y : Int)] 38) none
      have H5 := Lib.hid (H.out.grown (grown_trans ga G5.out))
      have p0 : w5.cell? ⟨wr.heap.size, 0, none⟩ = some (.int .i64 x0) := G5.out.cell (by simp) (by simp)
      have p1 : w5.cell? ⟨wr.heap.size, 1, none⟩ = some (.int .i64 (Y : Int)) := G5.out.cell (by simp) (by simp)
      have QB := Lib.hid (show ∀ b, (⟨qa, n, qc⟩ : Sl).blk = some b → wr.heap.size < b ∧ b < w5.heap.size from fun b hb => by have := Q5.out.blk b hb; rw [World.size_alloc] at this; omega)
      obtain ⟨B, hB⟩ : ∃ B, B = wr.heap.size := ⟨_, rfl⟩
      simp only [← hB] at p0 p1 QB hsl ⊢
      have PB := Lib.hid (And.intro p0 p1)
      have BW := Lib.hid (World.block_lt_of_cell? _ _ p0)
      have BH := Lib.hid hB
      clear p0 p1 hB ga c0 c1
      go_loopw [10] (fun i wi => ∃ d : Nat, i = .int .i64 d ∧ d ≤ Y ∧ Hid (HS w wi O G n vs (hk r f k) (Dm.cnt r (lk f k + d))) ∧ Hid (Chg [G] w5 wi)) (fun i _ => Y - (intOf i).toNat)
      case atStart => exact ⟨0, rfl, by omega, H5, Chg.refl _ _⟩
      case round =>
        obtain ⟨d, rfl, hd, HI, CI⟩ := hrel
        have BG := Lib.hid (show B ∉ [G] by have := hsl; simp; omega)
        have p1 := CI.out.cell PB.out.2 BG.out
        by_cases hlt2 : d < Y
        · have hdi : (d : Int) < (Y : Int) := by omega
          obtain ⟨q, hq⟩ := Dm.next_is (g := Dm.cnt r (lk f k + d)) OK.out.pos
          have hqn := (Dm.next_some hq).1
          have NQ := Lib.hid hq
          have dv := Lib.hid (show ((lk f k + d : Nat) : Int) ≤ Fm.vol f by have h1 := LN.out; have h2 := LK.out (k + 1); have h3 := (VT.out (k + 1)).2; omega)
          have NX := Lib.hid (rnext_any ⟨a', n, c'⟩ ⟨some ⟨G, 0, none⟩, n, n⟩ r (Dm.cnt r (lk f k + d)) wr (HR.out.grown HI.out.gr) HI.out.on.nr OK.out.ok (cnt_okg OK.out dv.out) (Dm.cnt_len r _) (by omega))
          unfold Sl.v at NX
          dsimp only at NX
          rw [hq] at NX
          clear hq
          go_wp2_with fail
          refine NX.out.mono ?_
          rintro e w6 ⟨rfl, hg6⟩
          have H6 := Lib.hid (HI.out.grown hg6)
          have C6 := Lib.hid (CI.out.trans (Chg.of0 hg6))
          clear hg6 NX
          have d0 := H6.out.on.nr.got q (by omega)
          rw [Nat.zero_add] at d0
          have fz := H6.out.on.own.frozenAt q
          have bd := cnt_okg OK.out dv.out q (by rw [Dm.cnt_len]; exact hqn)
          have hqn2 : (q : Int) < (n : Int) := by omega
          have ST := Lib.hid (H6.out.count q ((Dm.cnt r (lk f k + d)).getD q 0 + 1))
          rw [← Dm.step_some NQ.out, ← Dm.cnt_succ] at ST
          obtain ⟨y, hyy⟩ : ∃ y, y = (Dm.cnt r (lk f k + d)).getD q 0 := ⟨_, rfl⟩
          rw [← hyy] at d0 bd ST
          clear hyy
          unfold nb
          dsimp only
          go_wp2
          have C7 := Lib.hid (C6.out.trans ST.out.2)
          go_roundw
          case rel => exact ⟨d + 1, by go_num, by omega, Lib.hid ST.out.1, C7⟩
          case measure => simp [intOf]; omega
        · obtain rfl : d = Y := by omega
          have HI2 := Lib.hid (show HS w wr O G n vs (hk r f k) (Dm.cnt r (lk f (k + 1))) by rw [LN.out]; exact HI.out)
          clear HI
          go_wp2
          obtain ⟨wd, hwd⟩ : ∃ wd, wd = wr := ⟨_, rfl⟩
          rw [← hwd] at HI2 CI p1 ⊢
          have PQ := Lib.hid (show wd.cell? ⟨B, 0, none⟩ = some (.int .i64 x0) from CI.out.cell PB.out.1 BG.out)
          have T0 := Lib.hid (show HT w wd O G n B ⟨qa, n, qc⟩ vs (mix (hk r f k) (hk r f (k + 1)) 0) (Dm.cnt r (lk f (k + 1))) (Dm.cnt r (lk f k)) x0 from
            ⟨by rw [mix_zero]; exact HI2.out, Q5.out.nr.chg CI.out (fun b hb hm => by rw [List.mem_singleton] at hm; have := (QB.out b hb).1; omega), PQ.out,
              fun i hi e => by have h1 := (H.out.ro.each i hi).blk B e; have h2 := BH.out; omega, by have h1 := H.out.ro.lt; have h2 := BH.out; omega,
              fun b hb => ⟨fun i hi e => by have h1 := (H.out.ro.each i hi).blk b e; have h2 := BH.out; have h3 := (QB.out b hb).1; omega, by have h1 := H.out.ro.lt; have h2 := BH.out; have h3 := (QB.out b hb).1; omega, Nat.lt_of_lt_of_le (QB.out b hb).2 CI.out.size⟩⟩)
          clear HI2 CI p1 hwd PQ H
          go_loopw [44] (fun i wj => ∃ (j : Nat) (us : Nat → Sl), i = .int .i64 j ∧ j ≤ n ∧ Hid (HT w wj O G n B ⟨qa, n, qc⟩ us (mix (hk r f k) (hk r f (k + 1)) j) (Dm.cnt r (lk f (k + 1))) (Dm.cnt r (lk f k)) x0)) (fun i _ => n - (intOf i).toNat)
          case atStart => exact ⟨0, vs, rfl, by omega, T0⟩
          case round =>
            obtain ⟨j, us, rfl, hj, T⟩ := hrel
            by_cases hlt3 : j < n
            · have hji : (j : Int) < (n : Int) := by omega
              obtain ⟨V, hV⟩ : ∃ V, V = us j := ⟨_, rfl⟩
              have co := T.out.hs.ro.cell hlt3
              have fo := T.out.hs.ro.frozen j
              have own := T.out.hs.ro.each j hlt3
              rw [mix_here] at own
              have nO := T.out.hs.ro.off j hlt3
              have nG := T.out.hs.off j hlt3
              have nB := T.out.offB j hlt3
              rw [← hV] at co own nO nG nB
              obtain ⟨bq, oq, hqa, cq⟩ := T.out.was.at_ j hlt3
              dsimp only at hqa
              subst hqa
              have nq := (T.out.offq bq rfl).1 j hlt3
              rw [← hV] at nq
              have HV := Lib.hid hV
              clear hV
              obtain ⟨ua, un, uc⟩ := V
              dsimp only [Sl.v] at co
              have cg := T.out.hs.on.nr.got j hlt3
              rw [Nat.zero_add] at cg
              have d1 := cnt_okg OK.out (d := lk f (k + 1)) (by have h2 := LK.out (k + 1); have h3 := (VT.out (k + 1)).2; omega) j (by rw [Dm.cnt_len]; omega)
              have d0 := cnt_okg OK.out (d := lk f k) (by have h2 := LK.out k; have h3 := (VT.out k).2; omega) j (by rw [Dm.cnt_len]; omega)
              have HN := Lib.hid (hk_next (r := r) HP.out (k := k) (by omega) j)
              rw [PN.out] at HN
              obtain ⟨g1, hg1⟩ : ∃ g, g = (Dm.cnt r (lk f (k + 1))).getD j 0 := ⟨_, rfl⟩
              obtain ⟨g0, hg0⟩ : ∃ g, g = (Dm.cnt r (lk f k)).getD j 0 := ⟨_, rfl⟩
              rw [← hg1, ← hg0] at HN
              rw [← hg1] at cg d1
              rw [← hg0] at cq d0
              dsimp only at HN
              clear hg1 hg0
              have hun : un ≤ 400 := by have h1 := own.fr.len; rw [hk_len] at h1; dsimp only at h1; omega
              have OWN := Lib.hid own
              have szw := T.out.hs.gr.size
              have hsub : IntKind.i64.wrap (g1 - g0) = g1 - g0 := IntWalk.i64_in _ (by omega)
              have O5 := Lib.hid (show ∀ (W w5 : World), W.grownBy w5 (⟨ua, un, uc⟩ : Sl).blk → wr.grownBy W none → w5.cell? ⟨O, j, none⟩ = some (.slice ua un uc) ∧ w5.frozen? ⟨O, j, none⟩ = false from fun W w5 h5 hW => by
                have cW := hW.cell co (by simp)
                have fW : W.frozen? ⟨O, j, none⟩ = false := by rw [World.frozen?_of_block (a := ⟨O, j, none⟩) (hW.block O (World.block_lt_of_cell? _ _ co) (by simp))]; exact fo
                exact ⟨h5.cell cW (fun e => nO e.symm), by rw [World.frozen?_of_block (a := ⟨O, j, none⟩) (h5.block O (World.block_lt_of_cell? _ _ cW) (fun e => nO e.symm))]; exact fW⟩)
              have lB := World.block_lt_of_cell? _ _ T.out.p0
              have lO := World.block_lt_of_cell? _ _ co
              have lG := World.block_lt_of_cell? _ _ cg
              have lq := World.block_lt_of_cell? _ _ cq
              have cp := T.out.p0
              dsimp only at lB lO lG lq
              clear own nO nG nB nq
              go_wp2
              go_region_law
                (first
                  | (refine step_appV rfl (.tmp 52) (.tmp 65) 23 rfl (S := ⟨ua, un, uc⟩) (V := ⟨some ⟨_, 0, none⟩, 1, 1⟩) (vs := pcs (x0, g1 - g0)) Try.underlying23 hip hzp0 hzp1 hzp2 (by rfl) (by omega) (by rfl) (by rfl) (OWN.out.grown (grown_trans (grown_drewN wr 1 none) (World.grownBy_alloc _ _ _))) ?a1 (by rfl) (cr_new _ _ _ rfl) (pcs_one _) ?a2 ?a3 ?_
                     case a1 => simp; omega
                     case a2 => dsimp only; omega
                     case a3 => dsimp only; omega
                     intro rr w5 hrn hr hg5 hbl
                     obtain ⟨ra, rn, rc⟩ := rr
                     dsimp only [Sl.v] at hrn ⊢
                     obtain ⟨k5a, k5b⟩ := O5.out _ _ hg5 (grown_trans (grown_drewN wr 1 none) (World.grownBy_alloc _ _ _)))
                  | fail)
              all_goals
                rw [f2_snoc2, ← HN.out] at hr
                have T2 := T.out.put hlt3 hr (by rw [← HV.out]; exact grown_trans (grown_weak _ (grown_trans (grown_drewN wr 1 none) (World.grownBy_alloc _ _ _))) hg5) (fun b hb => by
                  rw [← HV.out]
                  rcases hbl b hb with e | e
                  · exact .inl e
                  · right; rw [e]; simp)
                rw [mix_next] at T2
                subst hrn
                dsimp only [Sl.v] at T2
                have TN := Lib.hid T2
                clear T2 hr hg5 hbl k5a k5b
                go_wp2
                go_roundw
                case rel => exact ⟨j + 1, _, by go_num, by omega, TN⟩
                case measure => simp [intOf]; omega
            · obtain rfl : j = n := by omega
              have HN := Lib.hid (show HS w wr O G j us (hk r f (k + 1)) (Dm.cnt r (lk f (k + 1))) from T.out.hs.congr (fun i hi => by unfold mix; rw [if_pos hi]))
              go_wp2
              go_roundw
              case rel => exact ⟨k + 1, us, by go_num, by omega, HN⟩
              case measure => simp [intOf]; omega
    · obtain rfl : k = m := by omega
      have FK := Lib.hid (show f.take k = f by rw [List.take_of_length_le (by omega)])
      have HM := Lib.hid (show ∀ i, Fm.Pos (hk r f k i) ∧ (hk r f k i).length ≤ 400 ∧ Fm.vol (hk r f k i) ≤ 64000 ∧ Fm.mer (Fm.lit (hk r f k i)) = Fm.mer (Dm.hand r i (Dm.zeros r.length) (Fm.lit f)) from fun i => by
        have hz : (Dm.zeros r.length).length = r.length := by simp [Dm.zeros]
        have hpos := Dm.handP_pos (r := r) i (f.take k) (Dm.zeros r.length) hz
        have hlit := Dm.handP_lit (r := r) i (f.take k) (Dm.zeros r.length) hz
        have hl := hk_len r f k i
        have hv := Fm.lit_len hpos
        rw [FK.out] at hlit hpos hv
        have hs := (Dm.hand_sub r i (Fm.lit f) (Dm.zeros r.length)).length_le
        have hlf := Fm.lit_len HP.out
        have hm := OK.out.max
        have hk1 := OK.out.k1
        unfold hk at hl ⊢
        rw [FK.out] at hl ⊢
        rw [hlit] at hv
        exact ⟨hpos, by omega, by omega, by rw [hlit]⟩)
      have H0 := Lib.hid (show HS w wr O G n vs (mix (hk r f k) (fun i => Fm.mer (Fm.lit (hk r f k i))) 0) (Dm.cnt r (lk f k)) by rw [mix_zero]; exact H.out)
      clear H
      obtain ⟨wd, hwd⟩ : ∃ wd, wd = wr := ⟨_, rfl⟩
      rw [← hwd] at H0 ⊢
      clear hwd
      go_wp2
      go_loopw [72] (fun i wj => ∃ (j : Nat) (us : Nat → Sl), i = .int .i64 j ∧ j ≤ n ∧ Hid (HS w wj O G n us (mix (hk r f k) (fun i => Fm.mer (Fm.lit (hk r f k i))) j) (Dm.cnt r (lk f k)))) (fun i _ => n - (intOf i).toNat)
      case atStart => exact ⟨0, vs, rfl, by omega, H0⟩
      case round =>
        obtain ⟨j, us, rfl, hj, T⟩ := hrel
        by_cases hlt3 : j < n
        · have hji : (j : Int) < (n : Int) := by omega
          obtain ⟨V, hV⟩ : ∃ V, V = us j := ⟨_, rfl⟩
          have co := T.out.ro.cell hlt3
          have fo := T.out.ro.frozen j
          have own := T.out.ro.each j hlt3
          rw [mix_here] at own
          rw [← hV] at co own
          have HV := Lib.hid hV
          clear hV
          have JN := Lib.hid (rjoined_any V (hk r f k j) wr own.fr (HM.out j).1 (by have := (HM.out j).2.1; omega) (by have := (HM.out j).2.2.1; omega))
          obtain ⟨ua, un, uc⟩ := V
          dsimp only [Sl.v] at co JN
          have lO := World.block_lt_of_cell? _ _ co
          clear own
          go_wp2_with fail
          refine JN.out.mono ?_
          rintro e w6 ⟨rr, rfl, hrr, hg6⟩
          have c6 := hg6.cell co (by simp)
          have f6 : w6.frozen? ⟨O, j, none⟩ = false := by rw [World.frozen?_of_block (a := ⟨O, j, none⟩) (hg6.block O lO (by simp))]; exact fo
          have hro := (T.out.ro.put hlt3 (hrr.base_ T.out.gr.size) hg6 (.inl rfl) (fun b hb => .inr (hrr.blk b hb).1)).1
          rw [mix_next (hk r f k) (fun i => Fm.mer (Fm.lit (hk r f k i))) j] at hro
          have cs : Chg [O] w6 (w6.setCell ⟨O, j, none⟩ rr.v) := (Chg.refl [O] w6).set ⟨O, j, none⟩ rr.v (by simp)
          have TN := Lib.hid (show HS w (w6.setCell ⟨O, j, none⟩ rr.v) O G n (upd us j rr) (mix (hk r f k) (fun i => Fm.mer (Fm.lit (hk r f k i))) (j + 1)) (Dm.cnt r (lk f k)) from
            ⟨hro, (T.out.on.grown hg6).chg cs (fun b hb hm => by injection hb with hb; subst hb; rw [List.mem_singleton] at hm; exact T.out.og hm.symm), fun i hi e => by
              by_cases e2 : i = j
              · subst e2; rw [upd_same] at e; have h1 := (hrr.blk G e).1; have h2 := T.out.lt.2; omega
              · rw [upd_other _ _ e2] at e; exact T.out.off i hi e, T.out.og, cs.grown (grown_trans T.out.gr hg6) (fun b hb => by rw [List.mem_singleton] at hb; subst hb; exact T.out.ro.lt.1)⟩)
          clear hro cs hrr hg6 JN
          obtain ⟨ra, rn, rc⟩ := rr
          dsimp only [Sl.v] at TN ⊢
          go_wp2
          go_roundw
          case rel => exact ⟨j + 1, _, by go_num, by omega, TN⟩
          case measure => simp [intOf]; omega
        · obtain rfl : j = n := by omega
          go_wp2
          go_ret
          refine ⟨⟨some ⟨O, 0, none⟩, j, j⟩, rfl, ?_, T.out.gr⟩
          have hR := T.out.ro.rr
          have e : (List.range j).map (mix (hk r f k) (fun i => Fm.mer (Fm.lit (hk r f k i))) j) = Dm.dealt r (Fm.lit f) := by
            unfold Dm.dealt
            rw [klen]
            apply List.map_congr_left
            intro i hi
            have hi := List.mem_range.1 hi
            unfold mix
            rw [if_pos hi]
            dsimp only
            rw [(HM.out i).2.2.2, klen]
          rw [e] at hR
          exact hR
end Go.Proofs.Ytafkagaakjfkoaa
