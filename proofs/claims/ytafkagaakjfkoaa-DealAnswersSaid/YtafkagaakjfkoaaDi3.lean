/- Package deal's dealing of some litres. -/
import Derived.Test.YtafkagaakjfkoaaDi2
namespace Go.Proofs.Ytafkagaakjfkoaa
open Go.ChangeShapes Go.WideShapes Go.ChangeAt Go.RowKit

namespace Dm
/-- What each one gets of j litres behind the first d. -/
def dif (r : List Int) (d j : Nat) : List Int := (List.range r.length).map fun i => (cnt r (d + j)).getD i 0 - (cnt r d).getD i 0
theorem dif_len (r : List Int) (d j : Nat) : (dif r d j).length = r.length := by simp [dif]
theorem dif_get (r : List Int) (d j i : Nat) (hi : i < r.length) : (dif r d j).getD i 0 = (cnt r (d + j)).getD i 0 - (cnt r d).getD i 0 := by
  simp [dif, List.getD_eq_getElem?_getD, hi]
theorem dif_zero (r : List Int) (d : Nat) : dif r d 0 = zeros r.length := by
  refine ext_getD (by simp [dif, zeros]) (fun i hi => ?_)
  rw [dif_len] at hi
  rw [dif_get _ _ _ _ hi, Nat.add_zero, zeros_get]
  omega
theorem dif_next {r : List Int} {d j b : Nat} (h : next r (cnt r (d + j)) = some b) : (dif r d j).set b ((dif r d j).getD b 0 + 1) = dif r d (j + 1) := by
  have hb := (next_some h).1
  refine ext_getD (by simp [dif]) (fun i hi => ?_)
  rw [List.length_set, dif_len] at hi
  rw [getD_set, dif_get _ _ _ _ hi, dif_get _ _ _ _ hi, dif_get _ _ _ _ hb, dif_len, ← Nat.add_assoc, cnt_succ, step_some h, getD_set, cnt_len]
  by_cases e : b = i
  · subst e
    rw [if_pos ⟨rfl, hb⟩, if_pos ⟨rfl, hb⟩]
    omega
  · rw [if_neg (fun h => e h.1), if_neg (fun h => e h.1)]
theorem pad_zeros {n m : Nat} (h : n ≤ m) : pad m (zeros n) = zeros m := by
  unfold pad zeros
  rw [List.length_replicate, List.replicate_append_replicate]
  congr 1; omega
end Dm
/-- Amounts that are noughts, as the walk writes them. -/
def z64 : Array Value := #[.int .i64 0, .int .i64 0, .int .i64 0, .int .i64 0, .int .i64 0, .int .i64 0, .int .i64 0, .int .i64 0, .int .i64 0, .int .i64 0, .int .i64 0, .int .i64 0, .int .i64 0, .int .i64 0, .int .i64 0, .int .i64 0, .int .i64 0, .int .i64 0, .int .i64 0, .int .i64 0, .int .i64 0, .int .i64 0, .int .i64 0, .int .i64 0, .int .i64 0, .int .i64 0, .int .i64 0, .int .i64 0, .int .i64 0, .int .i64 0, .int .i64 0, .int .i64 0, .int .i64 0, .int .i64 0, .int .i64 0, .int .i64 0, .int .i64 0, .int .i64 0, .int .i64 0, .int .i64 0, .int .i64 0, .int .i64 0, .int .i64 0, .int .i64 0, .int .i64 0, .int .i64 0, .int .i64 0, .int .i64 0, .int .i64 0, .int .i64 0, .int .i64 0, .int .i64 0, .int .i64 0, .int .i64 0, .int .i64 0, .int .i64 0, .int .i64 0, .int .i64 0, .int .i64 0, .int .i64 0, .int .i64 0, .int .i64 0, .int .i64 0, .int .i64 0]
theorem z64_list : z64.toList = ni (Dm.zeros 64) := by rfl
/-- An object that was just made, as a row of one element. -/
theorem alloc_one (w : World) (T : TypeId) (k : Nat) {C : Array Value} {us : List Value} (hC : C.toList = us) (hk : us.length = k) {A : Nat} (hA : A = w.heap.size) : OR A (w.alloc (.cells C T)) T k ⟨some ⟨A, 0, none⟩, 1, 1⟩ us := by
  subst hA
  subst hC
  subst hk
  exact ⟨World.ownsRow_lit (base := w.heap.size) (e := T) w C 1 (Nat.le_refl _) (by unfold maxLen; omega) (by simp)⟩
/-- All its cells. -/
theorem OR.range {base k : Nat} {w : World} {D : Nat} {T : TypeId} {us : List Value} (h : OR base w T k ⟨some ⟨D, 0, none⟩, 1, 1⟩ us) : w.rangeAt D 0 us := fun j v hv => by
  obtain ⟨b, off, e, hc⟩ := h.cr _ _ hv
  cases e
  exact hc
theorem OR.there {base k : Nat} {w : World} {D : Nat} {T : TypeId} {us : List Value} (h : OR base w T k ⟨some ⟨D, 0, none⟩, 1, 1⟩ us) : w.there D 0 us.length := fun j hj => by
  refine ⟨?_, h.own.frozenAt _⟩
  have := h.range j _ (List.getElem?_eq_getElem hj)
  rw [this]; rfl
theorem results_cell_mid {P : Program} {fn : Func} {p : Tmp} {ty : TypeId} (h : fn.results = #[.cell p ty]) (tmps : Array Value) (w : World) (g : Nat) (cs : List Value) (d : TypeDesc)
    (hp : tmps.getD p undef = .pointer (some ⟨g, 0, none⟩)) (hc : w.rangeAt g 0 cs) (hu : P.underlying ty = some d) (hd : d.isRow = true) (hi : (P.info? ty).map (·.size) = some cs.length) :
    (results fn tmps).run P w = .ok (.agg cs.toArray) w := by
  have hp' : tmps[p]?.getD undef = .pointer (some ⟨g, 0, none⟩) := by simpa using hp
  simp [results, h, hp', asAddr, run_loadVar_mid w g 0 ty cs d hc hu hd hi]
theorem info_am : (Try.prog.info? 60).map (·.size) = some 64 := by kernel_rfl
theorem info_dl : (Try.prog.info? 62).map (·.size) = some 129 := by kernel_rfl
/-- What the loop of deal keeps: the dealer, the amounts, the place of the result. -/
structure DLp (base D G R : Nat) (r : List Int) (d j : Nat) (w wr : World) : Prop where
  db : DB base wr D r (Dm.cnt r (d + j))
  ab : AB w.heap.size wr G (Dm.dif r d j)
  rb : OR w.heap.size wr 60 64 ⟨some ⟨R, 0, none⟩, 1, 1⟩ (ni (Dm.zeros 64))
  chg : Chg [D] w wr
  dg : D ≠ G
  dr : D ≠ R
  gr : G ≠ R
section
variable {base D G R : Nat} {r : List Int} {d j : Nat} {w wr wd : World}
theorem DLp.grown (h : DLp base D G R r d j w wr) (g : wr.grownBy wd none) : DLp base D G R r d j w wd :=
  ⟨h.db.grown g, h.ab.grown g, h.rb.grown g, h.chg.trans (Chg.of0 g), h.dg, h.dr, h.gr⟩
/-- One more litre is dealt. -/
theorem DLp.step (h : DLp base D G R r d j w wr) {b : Nat} (hb : Dm.next r (Dm.cnt r (d + j)) = some b) (hr : r.length ≤ 64) :
    DLp base D G R r d (j + 1) w ((wr.setCell ⟨G, b, none⟩ (.int .i64 ((Dm.dif r d j).getD b 0 + 1))).setCell ⟨D, 64 + b, none⟩ (.int .i64 ((Dm.cnt r (d + j)).getD b 0 + 1))) := by
  have bl := (Dm.next_some hb).1
  have s1 := h.ab.stored b (.int .i64 ((Dm.dif r d j).getD b 0 + 1))
  rw [ni_set, Dm.pad_set (by rw [Dm.dif_len]; exact bl), Dm.dif_next hb] at s1
  have c1 : Chg [G] wr (wr.setCell ⟨G, b, none⟩ (.int .i64 ((Dm.dif r d j).getD b 0 + 1))) := (Chg.refl [G] wr).set ⟨G, b, none⟩ _ (by simp)
  have db1 := h.db.chg c1 (fun x hx hm => by injection hx with hx; subst hx; rw [List.mem_singleton] at hm; exact h.dg hm)
  have rb1 := h.rb.chg c1 (fun x hx hm => by injection hx with hx; subst hx; rw [List.mem_singleton] at hm; exact h.gr hm.symm)
  generalize wr.setCell ⟨G, b, none⟩ (.int .i64 ((Dm.dif r d j).getD b 0 + 1)) = w1 at *
  have s2 := db1.stored (64 + b) (.int .i64 ((Dm.cnt r (d + j)).getD b 0 + 1))
  rw [ni_set, Dm.dl_set hr (by rw [Dm.cnt_len]; exact hr) (by rw [Dm.cnt_len]; exact bl), ← Dm.step_some hb, ← Dm.cnt_succ] at s2
  have c2 : Chg [D] w1 (w1.setCell ⟨D, 64 + b, none⟩ (.int .i64 ((Dm.cnt r (d + j)).getD b 0 + 1))) := (Chg.refl [D] w1).set ⟨D, 64 + b, none⟩ _ (by simp)
  refine ⟨s2.1, s1.1.chg c2 (fun x hx hm => by injection hx with hx; subst hx; rw [List.mem_singleton] at hm; exact h.dg hm.symm), rb1.chg c2 (fun x hx hm => by injection hx with hx; subst hx; rw [List.mem_singleton] at hm; exact h.dr hm.symm), ?_, h.dg, h.dr, h.gr⟩
  exact (h.chg.then c1 (fun x hx => by rw [List.mem_singleton] at hx; subst hx; exact .inr (h.ab.blk x rfl).1)).trans c2
end

set_option maxHeartbeats 1000000 in
theorem ddl_any (base D : Nat) (r : List Int) (d L : Nat) (K : Int) (w : World) (h : DB base w D r (Dm.cnt r d)) (ok : Rok r K) (hL : ((d + L : Nat) : Int) ≤ K) :
    Calls Try.prog 31 #[.pointer (some ⟨D, 0, none⟩), .int .i64 L] w
      (fun e w' => e = .returned (.agg (ni (Dm.pad 64 (Dm.dif r d L))).toArray) ∧ DB base w' D r (Dm.cnt r (d + L)) ∧ Chg [D] w w') := by
  have H := Lib.hid h
  have OK := Lib.hid ok
  have DL := h.blk D rfl
  have n64 := ok.len
  have kmax := ok.max
  have k1 := ok.k1
  have hLb : L ≤ 64000 := by omega
  clear h ok
  go_enter Try.func31, Try.ntmps31
  go_wp2
  change Code.wp _ _ _ _ ((w.alloc (.cells z64 60)).alloc (.cells z64 60))
  have A1 := alloc_one w 60 64 z64_list (by simp [ni, Dm.zeros]) rfl
  have A2 := alloc_one (w.alloc (.cells z64 60)) 60 64 z64_list (by simp [ni, Dm.zeros]) (A := w.heap.size + 1) (by simp)
  have g1 := World.grownBy_alloc w (.cells z64 60) none
  have g2 := World.grownBy_alloc (w.alloc (.cells z64 60)) (.cells z64 60) none
  have P0 := Lib.hid (show DLp base D (w.heap.size + 1) w.heap.size r d 0 w ((w.alloc (.cells z64 60)).alloc (.cells z64 60)) from
    ⟨by rw [Nat.add_zero]; exact H.out.grown (grown_trans g1 g2), by have := A2.base_ (Nat.le_succ w.heap.size); show OR _ _ _ _ _ (ni (Dm.pad 64 (Dm.dif r d 0))); rw [Dm.dif_zero, Dm.pad_zeros n64]; exact this, A1.grown g2, Chg.of0 (grown_trans g1 g2), by omega, by omega, by omega⟩)
  clear A1 A2 g1 g2
  generalize (w.alloc (.cells z64 60)).alloc (.cells z64 60) = W at *
  generalize w.heap.size + 1 = G at *
  obtain ⟨R, hR⟩ : ∃ R, R = w.heap.size := ⟨_, rfl⟩
  rw [← hR] at P0 ⊢
  clear hR
  go_loopw [6, 8] (fun s6 i wr => ∃ j : Nat, i = .int .i64 j ∧ j ≤ L ∧ Hid (DLp base D G R r d j w wr)) (fun _ i _ => L - (intOf i).toNat)
  case atStart => exact ⟨0, rfl, by omega, P0⟩
  case round =>
    obtain ⟨j, rfl, hj, P⟩ := hrel
    by_cases hlt : j < L
    · have hji : (j : Int) < (L : Int) := by omega
      obtain ⟨b, hb⟩ := Dm.next_is (g := Dm.cnt r (d + j)) OK.out.pos
      have hbn := (Dm.next_some hb).1
      have B := Lib.hid hb
      have og := cnt_okg OK.out (d := d + j) (by omega)
      have ogn := cnt_okg OK.out (d := d + (j + 1)) (by omega)
      have dr := P.out.db.dr n64 (by rw [Dm.cnt_len]; exact n64)
      have NX := Lib.hid (dnext_any D r (Dm.cnt r (d + j)) wr dr OK.out.ok og n64 (by omega))
      rw [Dm.nxt_next (fun i => (okr_all OK.out.ok i).1) (fun i => (okg_all og i).1) hb] at NX
      clear hb dr
      go_wp2_with fail
      refine NX.out.mono ?_
      rintro e w3 ⟨rfl, hg⟩
      have P3 := Lib.hid (P.out.grown hg)
      clear hg NX
      have c0 := P3.out.db.dr n64 (by rw [Dm.cnt_len]; exact n64)
      have c1 := c0.got b (by omega)
      clear c0
      have d1 := P3.out.ab.one b (by rw [Dm.pad_len (by rw [Dm.dif_len]; exact n64)]; omega)
      rw [Dm.pad_get] at d1
      have fz := P3.out.ab.own.frozenAt b
      have fy := P3.out.db.own.frozenAt (64 + b)
      have bd := okg_all og b
      have bd2 := okg_all ogn b
      have bm := Dm.cnt_mono (r := r) (show d ≤ d + j by omega) b
      have bd0 := okg_all (cnt_okg OK.out (d := d) (by omega)) b
      have be := Dm.dif_get r d j b hbn
      have hb64 : (b : Int) < 64 := by omega
      have ne : ¬ G = D := fun e => P3.out.dg e.symm
      have ST := Lib.hid (P3.out.step B.out n64)
      obtain ⟨y, hy⟩ : ∃ y, y = (Dm.cnt r (d + j)).getD b 0 := ⟨_, rfl⟩
      obtain ⟨x, hx⟩ : ∃ x, x = (Dm.dif r d j).getD b 0 := ⟨_, rfl⟩
      rw [← hy] at c1 bd bm be ST
      rw [← hx] at d1 be ST
      have bx : 0 ≤ x ∧ x ≤ 1000000 := by omega
      clear hy hx og ogn bd2 be bm bd0
      go_wp2
      go_region
      go_wp2
      go_roundw
      case rel => exact ⟨j + 1, by go_num, by omega, Lib.hid (ST.out.grown (grown_drewN _ 1 none))⟩
      case measure => simp [intOf]; omega
    · obtain rfl : j = L := by omega
      have hlen := Lib.hid (show (ni (Dm.pad 64 (Dm.dif r d j))).length = 64 by rw [ni_len, Dm.pad_len (by rw [Dm.dif_len]; exact n64)])
      obtain ⟨X, hX⟩ : ∃ X, X = ni (Dm.pad 64 (Dm.dif r d j)) := ⟨_, rfl⟩
      have h1 := Lib.hid (show ∀ v ∈ X, v.oneCell' = true by rw [hX]; exact ni_one _)
      have rg := Lib.hid (show wr.rangeAt G 0 X by rw [hX]; exact P.out.ab.range)
      have th := Lib.hid (show wr.there R 0 X.toArray.size by have := P.out.rb.there; rw [ni_len] at this; simpa [Dm.zeros, hX, hlen.out] using this)
      rw [← hX] at hlen
      have HX := Lib.hid hX
      clear hX
      go_wp2_with (first
        | (refine wpList_load_mid rfl 60 _ rfl G 0 rfl X _ rg.out Try.underlying60 rfl (by rw [hlen.out]; exact info_am) ?_)
        | (refine wpList_store_mid rfl 60 _ _ rfl R 0 X.toArray rfl rfl th.out (by rw [List.size_toArray, hlen.out]; exact info_am) (all_oneCell_toArray h1.out) ?_)
        | fail)
      have gs := (own_set X 0 (show wr.ownsRow w.heap.size 60 64 (.slice (some ⟨R, 0, none⟩) 1 1) 1 (ni (Dm.zeros 64)) from P.out.rb.own) (by rw [hlen.out]; omega)).2
      have cs : Chg [R] wr (wr.setCells R 0 X) := Chg.of gs (fun b hb => by injection hb with hb; simp [hb])
      have th' := th.out
      rw [List.size_toArray] at th'
      refine bodyPost_ret (v := .agg X.toArray) ?hr rfl ?hE
      case hr => exact results_cell_mid rfl _ _ R X _ rfl (World.rangeAt_setCells_same wr R 0 X th') Try.underlying60 rfl (by rw [hlen.out]; exact info_am)
      case hE => exact ⟨by rw [HX.out], P.out.db.chg cs (fun x hx hm => by injection hx with hx; subst hx; rw [List.mem_singleton] at hm; exact P.out.dr hm), P.out.chg.then cs (fun x hx => by rw [List.mem_singleton] at hx; subst hx; exact .inr (P.out.rb.blk x rfl).1)⟩
end Go.Proofs.Ytafkagaakjfkoaa
