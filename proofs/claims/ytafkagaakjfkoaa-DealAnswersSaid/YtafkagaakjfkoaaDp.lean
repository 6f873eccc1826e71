/- The walk of DealKeeps. -/
import Derived.Test.YtafkagaakjfkoaaDo
import Derived.Test.YtafkagaakjfkoaaFh
namespace Go.Proofs.Ytafkagaakjfkoaa
open Go.ChangeShapes Go.WideShapes Go.ChangeAt Go.RowKit

theorem merged_val {f : List Fm.Pc} (h : Fm.Val f) : merged f = f := by
  rw [merged_yes ⟨by have := h.len; omega, fun p hp => by have := h.ok p hp; unfold Fm.okp at this; unfold okm; omega⟩, Fm.mer_lit h.mgd]
theorem deal_of {f : List Fm.Pc} {r : List Int} (h : Fm.Val f) (hr : Rates r) (hv : Fm.vol f ≤ r.sum) : dchk f r = 0 ∧ dealF f r = Dm.dealt r (Fm.lit f) := by
  have hc : dchk f r = 0 := by
    unfold dchk
    rw [merged_val h, if_neg (by
      rintro (⟨h1, h2⟩ | h1)
      · exact h2 h1
      · have := h.len; omega)]
    exact hr.chk (Fm.vol_pos h.pos) hv
  exact ⟨hc, by unfold dealF; rw [if_pos hc, merged_val h]⟩
/-- The pieces that i gets. -/
def og (r : List Int) (f : List Fm.Pc) (i : Nat) : List Fm.Pc := Fm.mer (Dm.hand r i (Dm.zeros r.length) (Fm.lit f))
theorem og_pos (r : List Int) (f : List Fm.Pc) (i : Nat) : Fm.Pos (og r f i) := (Fm.mer_mgd _).pos
theorem og_vol {r : List Int} {f : List Fm.Pc} (hp : Fm.Pos f) (i : Nat) : Fm.vol (og r f i) ≤ Fm.vol f := by
  have h1 := Fm.lit_len (og_pos r f i)
  unfold og at h1 ⊢
  rw [Fm.lit_mer] at h1
  have h2 := (Dm.hand_sub r i (Fm.lit f) (Dm.zeros r.length)).length_le
  have h3 := Fm.lit_len hp
  omega
/-- Litres of a batch in the first j. -/
def tot (r : List Int) (f : List Fm.Pc) (b : Int) (j : Nat) : Int := ((List.range j).map fun i => Fm.of b (og r f i)).sum
theorem tot_next (r : List Int) (f : List Fm.Pc) (b : Int) (j : Nat) : tot r f b (j + 1) = tot r f b j + Fm.of b (og r f j) := by
  unfold tot
  rw [List.range_succ, List.map_append, List.sum_append]
  simp
theorem tot_all {r : List Int} {f : List Fm.Pc} (hs : 0 < r.sum) (hp : Fm.Pos f) (b : Int) : tot r f b r.length = Fm.of b f := Dm.dealt_of hs b hp
theorem fst_get {f : List Fm.Pc} {i : Nat} (hi : i < f.length) : (f.map Prod.fst).getD i 0 = (f.getD i Fm.zp).1 := by
  simp [List.getD_eq_getElem?_getD, List.getElem?_eq_getElem hi]
theorem drop_get {l : List Int} (a k : Nat) : (l.drop a).getD k 0 = l.getD (a + k) 0 := by
  simp [List.getD_eq_getElem?_getD, List.getElem?_drop]
theorem drop_cons {l : List Int} {q : Nat} (hq : q < l.length) : l.drop q = l.getD q 0 :: l.drop (q + 1) := by
  rw [List.drop_eq_getElem_cons hq]
  simp [List.getD_eq_getElem?_getD, List.getElem?_eq_getElem hq]

theorem og_sum {r : List Int} {f : List Fm.Pc} (hr : Rates r) (hp : Fm.Pos f) (hv : Fm.vol f = r.sum) (i : Nat) : Fm.vol (og r f i) = r.getD i 0 := by
  unfold og
  have h := Fm.lit_len hp
  rw [Dm.dealt_vol, Dm.cnt_all hr.nn hr.pos (by omega)]
set_option maxRecDepth 100000 in
set_option maxHeartbeats 2000000 in
theorem keeps_walk (a : Option Addr) (len cap : Nat) (zs : List Int) (w : World) (hi : InRow w a len cap zs) :
    Calls Try.prog 6 #[.slice a len cap] w fun e w' => e = .returned (.bool true) ∧ Below w.heap.size w w' := by
  go_enter Try.func6, Try.ntmps6
  go_wp2_with fail
  refine (new_any a len cap zs w hi).mono ?_
  rintro e w1 ⟨rfl, hg, hs, _⟩
  have G := Lib.hid hg
  have HS := Lib.hid hs
  clear hi hg hs
  obtain ⟨S, hS⟩ : ∃ S, S = w.heap.size := ⟨_, rfl⟩
  have SW := Lib.hid hS
  rw [← hS] at HS ⊢
  clear hS
  go_wp2_with fail
  refine (rates_any S w1 HS.out).mono ?_
  rintro e w2 ⟨⟨oa, on, oc⟩, r, rfl, ho, hr, hg, hs⟩
  replace G := Lib.hid (G.out.under SW.out hg)
  have R := Lib.hid ho
  have S1 := Lib.hid (src_lt HS.out)
  replace HS := Lib.hid hs
  have HR := Lib.hid hr
  have rm := hr.max
  have rp := hr.pos
  clear ho hr hg hs
  obtain ⟨V, hV⟩ : ∃ V, V = r.sum := ⟨_, rfl⟩
  rw [← hV] at rm rp ⊢
  have HV := Lib.hid hV
  clear hV
  dsimp only [Sl.v]
  go_wp2_with fail
  refine (fill_any S V 4 w2 HS.out (by omega) (by omega) (by omega) (by omega)).mono ?_
  rintro e w3 ⟨⟨fa, fn, fc⟩, f, rfl, ho, hf, hg, hs⟩
  have F := Lib.hid ho.fr
  have FF := Lib.hid hf
  have R2 := Lib.hid (show NR w3 ⟨oa, on, oc⟩ r from (R.out.chg (Chg.of (L := [S]) hg (fun b hb => by injection hb with hb; simp [hb])) (fun b hb hm => by rw [List.mem_singleton] at hm; have := (R.out.blk b hb).1; have := S1.out; omega)).nr)
  replace G := Lib.hid (G.out.under SW.out hg)
  clear ho hf hg hs HS R S1
  dsimp only [Sl.v]
  have D := Lib.hid (deal_of FF.out.val HR.out (by rw [FF.out.vol, HV.out]; omega))
  have vf := FF.out.vol
  go_wp2_with fail
  refine (ddeal_any ⟨fa, fn, fc⟩ ⟨oa, on, oc⟩ f r w3 F.out R2.out HR.out.i64).mono ?_
  rw [D.out.1, D.out.2]
  rintro e w4 ⟨⟨qa, qn, qc⟩, rfl, hq, hg⟩
  have Q := Lib.hid hq
  replace R2 := Lib.hid (R2.out.grown hg)
  replace F := Lib.hid (F.out.grown hg)
  replace G := Lib.hid (grown_trans G.out hg)
  clear hq hg D
  dsimp only [Sl.v]
  have rl := R2.out.len
  have ql := Q.out.len
  have fl := F.out.len
  rw [Dm.dealt_len] at ql
  dsimp only at rl ql fl
  obtain rfl : qn = on := by omega
  clear ql
  have l5 := HR.out.len5
  have f12 := FF.out.len
  have qfit := Q.out.fit
  have ffit := F.out.fit
  dsimp only [Sl.fit] at qfit ffit
  have OGB := Lib.hid (fun (i : Nat) => show Fm.vol (og r f i) ≤ V by have := og_vol (r := r) FF.out.val.pos i; omega)
  go_wp2
  go_loopw [9] (fun i wr => ∃ b : Nat, i = .int .i64 b ∧ b ≤ 4 ∧ Hid (w4.grownBy wr none)) (fun i _ => 4 - (intOf i).toNat)
  case atStart => exact ⟨0, rfl, by omega, grown_refl _ _⟩
  case round =>
    obtain ⟨b, rfl, hb, GR⟩ := hrel
    by_cases hlt : b < 4
    · have hbi : (b : Int) < 4 := by omega
      obtain ⟨wk, hwk⟩ : ∃ wk, wk = wr := ⟨_, rfl⟩
      rw [← hwk] at GR ⊢
      clear hwk
      go_wp2
      go_loopw [10, 47] (fun st i wr => ∃ (j : Nat) (y : Int), st = .int .i64 y ∧ i = .int .i64 j ∧ j ≤ qn ∧ Hid (y = tot r f b j) ∧ 0 ≤ y ∧ y ≤ 195 * j ∧ Hid (wk.grownBy wr none)) (fun _ i _ => qn - (intOf i).toNat)
      case atStart => exact ⟨0, 0, rfl, rfl, by omega, Lib.hid rfl, by omega, by omega, grown_refl _ _⟩
      case round =>
        obtain ⟨j, y, rfl, rfl, hj, Y, y0, y1, GJ⟩ := hrel
        by_cases hlt2 : j < qn
        · obtain ⟨b1, o1, V1, rfl, c0, hf⟩ := (Q.out.grown (grown_trans GR.out GJ.out)).at_ j hlt2
          rw [Dm.dealt_get (by omega)] at hf
          have OF := Lib.hid (rof_any V1 (og r f j) b wr hf (og_pos r f j) (by have := OGB.out j; omega))
          have br := Fm.of_range (b : Int) (og_pos r f j)
          have bv := OGB.out j
          obtain ⟨z, hz⟩ : ∃ z, z = Fm.of (b : Int) (og r f j) := ⟨_, rfl⟩
          rw [← hz] at OF br
          have TN := Lib.hid (show y + z = tot r f b (j + 1) by rw [tot_next, ← hz, Y.out])
          clear hz hf
          obtain ⟨va, vn, vc⟩ := V1
          dsimp only [Sl.v] at c0 OF
          go_wp2_with fail
          refine OF.out.mono ?_
          rintro e w5 ⟨rfl, hg⟩
          have GN := Lib.hid (grown_trans GJ.out hg)
          clear hg OF
          go_wp2
          go_roundw
          case rel => exact ⟨j + 1, _, rfl, by go_num, by omega, TN, by omega, by omega, GN⟩
          case measure => simp [intOf]; omega
        · obtain rfl : j = qn := by omega
          have YA := Lib.hid (show y = Fm.of (b : Int) f by rw [Y.out, ← rl]; exact tot_all HR.out.pos FF.out.val.pos b)
          have OF := Lib.hid (rof_any ⟨fa, fn, fc⟩ f b wr (F.out.grown (grown_trans GR.out GJ.out)) FF.out.val.pos (by omega))
          rw [← YA.out] at OF
          unfold Sl.v at OF
          dsimp only at OF
          go_wp2_with fail
          refine OF.out.mono ?_
          rintro e w5 ⟨rfl, hg⟩
          have GN := Lib.hid (grown_trans GR.out (grown_trans GJ.out hg))
          clear hg OF
          go_wp2
          go_roundw
          case rel => exact ⟨b + 1, by go_num, by omega, GN⟩
          case measure => simp [intOf]; omega
    · have e4 : decide ((b : Int) < 4) = false := decide_eq_false (by omega)
      obtain ⟨wk, hwk⟩ : ∃ wk, wk = wr := ⟨_, rfl⟩
      rw [← hwk] at GR ⊢
      replace Q := Lib.hid (Q.out.grown GR.out)
      replace R2 := Lib.hid (R2.out.grown GR.out)
      replace F := Lib.hid (F.out.grown GR.out)
      replace G := Lib.hid (grown_trans G.out GR.out)
      clear GR hwk
      have VS := Lib.hid (show Fm.vol f = r.sum by rw [vf, HV.out])
      go_wp2
      go_loopw [66] (fun i wr => ∃ j : Nat, i = .int .i64 j ∧ j ≤ qn ∧ Hid (wk.grownBy wr none)) (fun i _ => qn - (intOf i).toNat)
      case atStart => exact ⟨0, rfl, by omega, grown_refl _ _⟩
      case round =>
        obtain ⟨j, rfl, hj, GR⟩ := hrel
        by_cases hlt2 : j < qn
        · obtain ⟨b1, o1, V1, rfl, c0, hf⟩ := (Q.out.grown GR.out).at_ j hlt2
          rw [Dm.dealt_get (by omega)] at hf
          obtain ⟨b3, o3, rfl, c2⟩ := (R2.out.grown GR.out).at_ j hlt2
          have OV := og_sum HR.out FF.out.val.pos VS.out j
          have bu := HR.out.ok j (by omega)
          obtain ⟨u, hu⟩ : ∃ u, u = r.getD j 0 := ⟨_, rfl⟩
          rw [← hu] at c2 OV bu
          clear hu
          have HFv := Lib.hid (show FR wr V1 (og r f j) from hf)
          have VL := Lib.hid (Fm.valid_yes (show Fm.Val (og r f j) from Dm.dealt_val FF.out.val j))
          have FD := Lib.hid (show Dm.finds (f.map Prod.fst) ((og r f j).map Prod.fst) from Dm.dealt_finds j)
          have OVH := Lib.hid OV
          clear hf OV
          obtain ⟨va, vn, vc⟩ := V1
          dsimp only [Sl.v] at c0
          have K0 := Lib.hid (fun (W : World) (hW : wr.grownBy W none) => (⟨hW.cell c0 (by simp), hW.cell c2 (by simp)⟩ : W.cell? ⟨b1, o1 + j, none⟩ = some (.slice va vn vc) ∧ W.cell? ⟨b3, o3 + j, none⟩ = some (.int .i64 u)))
          go_wp2
          go_region_held3 (fun w' => w'.cell? ⟨b1, o1 + j, none⟩ = some (.slice va vn vc) ∧ w'.cell? ⟨b3, o3 + j, none⟩ = some (.int .i64 u))
            (first | exact K0.out _ (grown_drewN wr 1 none) | exact K0.out _ GV.out | exact K0.out _ GS.out | go_keep | fail)
            (first
              | (go_at_call 23; refine (rvalid_any ⟨va, vn, vc⟩ (og r f j) _ (HFv.out.grown GS.out)).mono ?_; rw [VL.out]; rintro e wv ⟨rfl, hg⟩; have GV := Lib.hid (grown_trans GS.out hg); clear hg)
              | (go_at_call 22; refine (rsum_any ⟨va, vn, vc⟩ (og r f j) _ (HFv.out.grown (grown_drewN wr 1 none)) (og_pos r f j) (by rw [OVH.out]; omega)).mono ?_; rw [OVH.out]; rintro e ws ⟨rfl, hg⟩; have GS := Lib.hid (grown_trans (show wr.grownBy wr.drew none from grown_drewN wr 1 none) hg); clear hg)
              | fail)
          have cv := (K0.out _ GV.out).1
          have FV := Lib.hid (HFv.out.grown GV.out)
          have GN := Lib.hid (grown_trans GR.out GV.out)
          have vl := HFv.out.len
          have vfit := HFv.out.fit
          dsimp only [Sl.fit] at vl vfit
          clear c0 c2 K0 GS GV HFv GR
          obtain ⟨we, hwe⟩ : ∃ we, we = wv := ⟨_, rfl⟩
          rw [← hwe] at cv FV GN ⊢
          clear hwe
          go_wp2
          go_loopw [13, 92] (fun sa i wr => ∃ (q A : Nat), sa = .int .i64 A ∧ i = .int .i64 q ∧ q ≤ vn ∧ Hid (A ≤ f.length ∧ Dm.finds ((f.map Prod.fst).drop A) (((og r f j).map Prod.fst).drop q)) ∧ Hid (we.grownBy wr none)) (fun _ i _ => vn - (intOf i).toNat)
          case atStart => exact ⟨0, 0, rfl, rfl, by omega, Lib.hid ⟨by omega, by rw [List.drop_zero, List.drop_zero]; exact FD.out⟩, grown_refl _ _⟩
          case round =>
            obtain ⟨q, A, rfl, rfl, hq, FA, GR⟩ := hrel
            by_cases hlt3 : q < vn
            · obtain ⟨bp, op, x0, y0, rfl, hp0, d0, d1⟩ := (FV.out.grown GR.out).at_ q hlt3
              have fa1 := FA.out.2
              rw [drop_cons (l := (og r f j).map Prod.fst) (q := q) (by rw [List.length_map]; omega), fst_get (f := og r f j) (i := q) (by omega), hp0] at fa1
              dsimp only at fa1
              obtain ⟨t, t1, t2, t3, t4⟩ := fa1
              rw [List.length_drop, List.length_map] at t1
              rw [drop_get] at t2
              have T3 := Lib.hid (show ∀ m, A ≤ m → m < A + t → (f.map Prod.fst).getD m 0 ≠ x0 from fun m h1 h2 => by
                have := t3 (m - A) (by omega)
                rwa [drop_get, show A + (m - A) = m by omega] at this)
              have T2 := Lib.hid t2
              have T4 := Lib.hid (show Dm.finds ((f.map Prod.fst).drop (A + t)) (((og r f j).map Prod.fst).drop (q + 1)) by rw [List.drop_drop] at t4; exact t4)
              have AL := FA.out.1
              have TB : A + t < fn := by omega
              clear t1 t2 t3 t4 hp0
              obtain ⟨wp, hwp⟩ : ∃ wp, wp = wr := ⟨_, rfl⟩
              rw [← hwp] at d0 d1 GR ⊢
              clear hwp
              have GA := Lib.hid (grown_trans GR.out (World.grownBy_alloc wp (.cells #[.int .i64 x0, .int .i64 y0] 38) none))
              obtain ⟨wa, hwa⟩ : ∃ wa, wa = wp.alloc (.cells #[.int .i64 x0, .int .i64 y0] 38) := ⟨_, rfl⟩
              obtain ⟨B, hB⟩ : ∃ B, B = wp.heap.size := ⟨_, rfl⟩
              have PB := Lib.hid (show wa.cell? ⟨B, 0, none⟩ = some (.int .i64 x0) by subst hwa; subst hB; simp)
              rw [← hwa] at GA
              go_wp2
              rw [← hwa]
              simp only [← hB]
              clear hwa hB d0 d1
              go_loopw [13] (fun sa wr => ∃ m : Nat, sa = .int .i64 m ∧ A ≤ m ∧ m ≤ A + t ∧ Hid (wa.grownBy wr none)) (fun sa _ => A + t - (intOf sa).toNat)
              case atStart => exact ⟨A, rfl, by omega, by omega, grown_refl _ _⟩
              case round =>
                obtain ⟨m, rfl, m1, m2, GM⟩ := hrel
                obtain ⟨bf, of_, xm, ym, rfl, hpm, e0, e1⟩ := (F.out.grown (grown_trans GN.out (grown_trans GA.out GM.out))).at_ m (show m < fn by omega)
                have p0 := GM.out.cell PB.out (by simp)
                have hmn : (m : Int) < (fn : Int) := by omega
                have hxm : (f.map Prod.fst).getD m 0 = xm := by rw [fst_get (by omega), hpm]
                by_cases hm : m < A + t
                · have ne : (xm != x0) = true := by
                    have := T3.out m m1 hm
                    rw [hxm] at this
                    simp [this]
                  clear hpm hxm
                  go_wp2
                  go_quiet (fail)
                  go_wp2
                  go_roundw
                  case rel => exact ⟨m + 1, by go_num, by omega, by omega, Lib.hid (grown_trans GM.out (grown_drewN _ _ _))⟩
                  case measure => simp [intOf]; omega
                · obtain rfl : m = A + t := by omega
                  have eq : (xm != x0) = false := by
                    have := T2.out
                    rw [hxm] at this
                    simp [this]
                  obtain ⟨M, hM⟩ : ∃ M, M = A + t := ⟨_, rfl⟩
                  rw [← hM] at T4 e0 e1 hmn m1 m2 TB ⊢
                  have nM : ((M : Int) == (fn : Int)) = false := by rw [beq_eq_false_iff_ne]; omega
                  clear hpm hxm hM
                  go_wp2
                  go_quiet (fail)
                  go_wp2
                  exact ⟨⟨q + 1, M, rfl, by go_num, by omega, Lib.hid ⟨by omega, T4.out⟩, Lib.hid (grown_trans GA.out (grown_trans GM.out (grown_drewN _ _ _)))⟩, by simp [intOf]; omega⟩
            · obtain rfl : q = vn := by omega
              go_wp2
              go_roundw
              case rel => exact ⟨j + 1, by go_num, by omega, Lib.hid (grown_trans GN.out GR.out)⟩
              case measure => simp [intOf]; omega
        · obtain rfl : j = qn := by omega
          go_wp2_with fail
          refine (awake17_any _).mono ?_
          rintro e w8 ⟨rfl, hg⟩
          replace G := Lib.hid (grown_trans G.out (grown_trans GR.out hg))
          clear hg
          go_wp2
          go_ret
          exact ⟨rfl, grown_below G.out⟩
end Go.Proofs.Ytafkagaakjfkoaa
