/- The walk of DealFair. -/
import Derived.Test.YtafkagaakjfkoaaDl
namespace Go.Proofs.Ytafkagaakjfkoaa
open Go.ChangeShapes Go.WideShapes Go.ChangeAt Go.RowKit

theorem mul_le3 {n u : Int} (n0 : 0 ≤ n) (n1 : n ≤ 195) (u0 : 0 ≤ u) (u1 : u ≤ 39) : 0 ≤ n * u ∧ n * u ≤ 7605 :=
  ⟨Int.mul_nonneg n0 u0, Int.le_trans (Int.mul_le_mul n1 u1 u0 (by omega)) (by omega)⟩
theorem quo_bd {p v : Int} (p0 : 0 ≤ p) (v1 : 1 ≤ v) : 0 ≤ p / v ∧ p / v ≤ p := ⟨Int.ediv_nonneg p0 (by omega), Int.ediv_le_self _ p0⟩
/-- Who is found among the first j. -/
def who (W j : Nat) : Int := if W < j then W else -1

set_option maxRecDepth 100000 in
set_option maxHeartbeats 2000000 in
theorem fair_walk (a : Option Addr) (len cap : Nat) (zs : List Int) (x : Int) (wx : (Lit.int .u16 x).wf = true) (w : World) (hi : InRow w a len cap zs) :
    Calls Try.prog 5 #[.slice a len cap, .int .u16 x] w fun e w' => e = .returned (.bool true) ∧ Below w.heap.size w w' := by
  have hx : 0 ≤ x ∧ x ≤ 65535 := by simp [Lit.wf, IntKind.min, IntKind.max, IntKind.signed, IntKind.bits] at wx; omega
  clear wx
  go_enter Try.func5, Try.ntmps5
  go_wp2_with fail
  refine (new_any a len cap zs w hi).mono ?_
  rintro e w1 ⟨rfl, hg, hs, _⟩
  have G := Lib.hid hg
  have HS := Lib.hid hs
  clear hi hg hs
  obtain ⟨S, hS⟩ : ∃ S, S = w.heap.size := ⟨_, rfl⟩
  have SW := Lib.hid hS
  rw [← hS] at HS ⊢
  clear hS
  go_wp2_with fail
  refine (rates_any S w1 HS.out).mono ?_
  rintro e w2 ⟨⟨oa, on, oc⟩, r, rfl, ho, hr, hg, hs⟩
  replace G := Lib.hid (G.out.under SW.out hg)
  have R := Lib.hid ho.nr
  have HR := Lib.hid hr
  have rm := hr.max
  have rp := hr.pos
  clear ho hr hg hs HS
  obtain ⟨V, hV⟩ : ∃ V, V = r.sum := ⟨_, rfl⟩
  rw [← hV] at rm rp ⊢
  have HV := Lib.hid hV
  clear hV
  have r1 := Rd.tmod_range x V (by omega)
  have r2 : 0 ≤ x.tmod V := Int.tmod_nonneg _ hx.1
  obtain ⟨N, hN⟩ : ∃ N : Nat, (N : Int) = x.tmod V := ⟨(x.tmod V).toNat, by omega⟩
  rw [← hN] at r1 r2
  have hn2 := hN.symm
  clear hN
  dsimp only [Sl.v]
  go_wp2_with fail
  refine (dcounts_any ⟨oa, on, oc⟩ r N w2 R.out HR.out.i64 ⟨by omega, by omega⟩).mono ?_
  rw [HR.out.chk (by omega) (by rw [← HV.out]; omega), HR.out.cnt (by omega) (by rw [← HV.out]; omega), Int.toNat_natCast]
  rintro e w3 ⟨⟨aa, an, ac⟩, rfl, hq, hg⟩
  have A := Lib.hid hq
  replace R := Lib.hid (R.out.grown hg)
  replace G := Lib.hid (grown_trans G.out hg)
  clear hq hg hn2
  dsimp only [Sl.v]
  go_wp2_with fail
  refine (dcounts_any ⟨oa, on, oc⟩ r (N + 1) w3 R.out HR.out.i64 ⟨by omega, by omega⟩).mono ?_
  rw [HR.out.chk (by omega) (by rw [← HV.out]; omega), HR.out.cnt (by omega) (by rw [← HV.out]; omega), show ((N : Int) + 1).toNat = N + 1 by omega]
  rintro e w4 ⟨⟨ba, bn, bc⟩, rfl, hq, hg⟩
  have B := Lib.hid hq
  replace A := Lib.hid (A.out.grown hg)
  replace R := Lib.hid (R.out.grown hg)
  replace G := Lib.hid (grown_trans G.out hg)
  clear hq hg
  dsimp only [Sl.v]
  have rl := R.out.len
  have la := A.out.len
  have lb := B.out.len
  have l5 := HR.out.len5
  rw [Dm.cnt_len] at la lb
  dsimp only at la lb rl
  obtain rfl : an = on := by omega
  obtain rfl : bn = an := by omega
  clear la lb
  have ONE := Lib.hid (Dm.cnt_one (k := N) HR.out.pos)
  obtain ⟨W, w0, w1', w2', w3'⟩ := ONE.out
  have WN := Lib.hid w0
  have WP := Lib.hid w1'
  have WM := Lib.hid w2'
  have WO := Lib.hid w3'
  have INV := Lib.hid (Dm.inv_cnt HR.out.pos N)
  have nV : (N : Int) < V := r1.2
  clear ONE w0 w1' w2' w3' r1 r2
  obtain ⟨wb, hwb⟩ : ∃ wb, wb = w4 := ⟨_, rfl⟩
  rw [← hwb] at A B R G ⊢
  clear hwb
  go_wp2
  go_loopw [12, 13, 61] (fun sa sw i wr => ∃ (j : Nat) (y : Int), sa = .int .i64 y ∧ sw = .int .i64 (who W j) ∧ i = .int .i64 j ∧ j ≤ bn ∧ Hid (y = ((Dm.cnt r N).take j).sum) ∧ 0 ≤ y ∧ y ≤ 39 * j ∧ Hid (wb.grownBy wr none)) (fun _ _ i _ => bn - (intOf i).toNat)
  case atStart => exact ⟨0, 0, rfl, by unfold who; rw [if_neg (by omega)], rfl, by omega, Lib.hid (by simp), by omega, by omega, grown_refl _ _⟩
  case round =>
    obtain ⟨j, y, rfl, rfl, rfl, hj, Y, y0, y1, GR⟩ := hrel
    by_cases hlt : j < bn
    · obtain ⟨b1, o1, rfl, c0⟩ := (A.out.grown GR.out).at_ j hlt
      obtain ⟨b2, o2, rfl, c1⟩ := (B.out.grown GR.out).at_ j hlt
      obtain ⟨b3, o3, rfl, c2⟩ := (R.out.grown GR.out).at_ j hlt
      have TS := take_sum (r := Dm.cnt r N) (k := j) (by rw [Dm.cnt_len]; omega)
      have bu := HR.out.ok j (by omega)
      have fl := Dm.cnt_floor HR.out.nn HR.out.pos N j (by omega)
      have cp := Dm.cnt_cap HR.out.nn HR.out.pos (k := N) (by rw [← HV.out]; omega) j (by omega)
      have nn := INV.out.nn j
      have two := fun (h2 : r.length = 2) => Dm.cnt_two HR.out.nn HR.out.pos N h2 j (by omega)
      have wo := WO.out j
      rw [← HV.out] at fl two
      obtain ⟨u, hu⟩ : ∃ u, u = r.getD j 0 := ⟨_, rfl⟩
      obtain ⟨v, hv⟩ : ∃ v, v = (Dm.cnt r N).getD j 0 := ⟨_, rfl⟩
      obtain ⟨v', hv'⟩ : ∃ v', v' = (Dm.cnt r (N + 1)).getD j 0 := ⟨_, rfl⟩
      rw [← hu] at c2 bu fl cp two
      rw [← hv] at c0 fl cp nn two wo TS
      rw [← hv'] at c1 wo
      clear hu hv hv'
      have TT := Lib.hid (show y + v = ((Dm.cnt r N).take (j + 1)).sum by rw [TS, Y.out])
      clear TS
      have p1 := mul_le3 (n := (N : Int)) (u := u) (by omega) (by omega) bu.1 bu.2
      have hw1 : IntKind.i64.wrap ((N : Int) * u) = (N : Int) * u := IntWalk.i64_in _ (by omega)
      obtain ⟨P1, hP1⟩ : ∃ P, P = (N : Int) * u := ⟨_, rfl⟩
      rw [← hP1] at p1 fl two hw1
      rw [hP1] at hw1
      have q1 := quo_bd (p := P1) (v := V) p1.1 (by omega)
      have hd1 : P1.tdiv V = P1 / V := Int.tdiv_eq_ediv_of_nonneg p1.1
      have q2 := quo_bd (p := P1 + V - 1) (v := V) (by omega) (by omega)
      have hd2 : (P1 + V - 1).tdiv V = (P1 + V - 1) / V := Int.tdiv_eq_ediv_of_nonneg (by omega)
      obtain ⟨D1, hD1⟩ : ∃ D, D = P1 / V := ⟨_, rfl⟩
      obtain ⟨D2, hD2⟩ : ∃ D, D = (P1 + V - 1) / V := ⟨_, rfl⟩
      rw [← hD1] at q1 hd1 fl
      rw [← hD2] at q2 hd2 two
      have hw2 : IntKind.i64.wrap ((N : Int) * u) = P1 := by rw [hP1]; exact hw1
      have n1 : decide (v < D1) = false := decide_eq_false (by omega)
      have n2 : decide (u < v) = false := decide_eq_false (by omega)
      clear hw1 hP1 hD1 hD2
      have hvb : v' = v + (if W = j then 1 else 0) := wo
      clear wo fl
      by_cases h2 : r.length = 2
      · by_cases hW : W = j
        · have e2 : ((bn : Int) == 2) = true := by rw [beq_iff_eq]; omega
          have n3 : decide (D2 < v) = false := decide_eq_false (by have := two (by omega); omega)
          clear two
          have hvv : v' = v + 1 := by rw [hvb, if_pos hW]
          subst hvv
          have hz : who W j = -1 := by unfold who; rw [if_neg (by omega)]
          have hz2 : who W (j + 1) = (j : Int) := by unfold who; rw [if_pos (by omega), hW]
          rw [hz]
          clear hvb hz
          go_wp2
          go_quiet (fail)
          go_wp2
          go_quiet (fail)
          go_wp2
          go_roundw
          case rel => exact ⟨j + 1, _, rfl, by rw [hz2], by go_num, by omega, TT, by omega, by omega, Lib.hid (grown_trans GR.out (grown_drewN _ _ _))⟩
          case measure => simp [intOf]; omega
        · have e2 : ((bn : Int) == 2) = true := by rw [beq_iff_eq]; omega
          have n3 : decide (D2 < v) = false := decide_eq_false (by have := two (by omega); omega)
          clear two
          have hvv : v' = v := by rw [hvb, if_neg hW]; omega
          subst hvv
          have nv : (v' == v' + 1) = false := by rw [beq_eq_false_iff_ne]; omega
          have hz2 : who W (j + 1) = who W j := by
            unfold who
            by_cases hl : W < j
            · rw [if_pos hl, if_pos (by omega)]
            · rw [if_neg hl, if_neg (by omega)]
          rw [← hz2]
          clear hvb
          go_wp2
          go_quiet (fail)
          go_wp2
          go_quiet (fail)
          go_wp2
          go_quiet (fail)
          go_wp2
          go_roundw
          case rel => exact ⟨j + 1, _, rfl, rfl, by go_num, by omega, TT, by omega, by omega, Lib.hid (grown_trans GR.out (grown_drewN _ _ _))⟩
          case measure => simp [intOf]; omega
      · by_cases hW : W = j
        · have e2 : ((bn : Int) == 2) = false := by rw [beq_eq_false_iff_ne]; omega
          clear two
          have hvv : v' = v + 1 := by rw [hvb, if_pos hW]
          subst hvv
          have hz : who W j = -1 := by unfold who; rw [if_neg (by omega)]
          have hz2 : who W (j + 1) = (j : Int) := by unfold who; rw [if_pos (by omega), hW]
          rw [hz]
          clear hvb hz
          go_wp2
          go_quiet (fail)
          go_wp2
          go_quiet (fail)
          go_wp2
          go_roundw
          case rel => exact ⟨j + 1, _, rfl, by rw [hz2], by go_num, by omega, TT, by omega, by omega, Lib.hid (grown_trans GR.out (grown_drewN _ _ _))⟩
          case measure => simp [intOf]; omega
        · have e2 : ((bn : Int) == 2) = false := by rw [beq_eq_false_iff_ne]; omega
          clear two
          have hvv : v' = v := by rw [hvb, if_neg hW]; omega
          subst hvv
          have nv : (v' == v' + 1) = false := by rw [beq_eq_false_iff_ne]; omega
          have hz2 : who W (j + 1) = who W j := by
            unfold who
            by_cases hl : W < j
            · rw [if_pos hl, if_pos (by omega)]
            · rw [if_neg hl, if_neg (by omega)]
          rw [← hz2]
          clear hvb
          go_wp2
          go_quiet (fail)
          go_wp2
          go_quiet (fail)
          go_wp2
          go_quiet (fail)
          go_wp2
          go_roundw
          case rel => exact ⟨j + 1, _, rfl, rfl, by go_num, by omega, TT, by omega, by omega, Lib.hid (grown_trans GR.out (grown_drewN _ _ _))⟩
          case measure => simp [intOf]; omega
    · obtain rfl : j = bn := by omega
      have YN := Lib.hid (show y = (N : Int) by have := Y.out; rw [List.take_of_length_le (by rw [Dm.cnt_len]; omega)] at this; rw [this, INV.out.sum])
      obtain rfl := YN.out
      have hz : who W j = (W : Int) := by unfold who; rw [if_pos (by have := WN.out; omega)]
      rw [hz]
      clear hz
      obtain ⟨wd, hwd⟩ : ∃ wd, wd = wr := ⟨_, rfl⟩
      rw [← hwd] at GR ⊢
      replace A := Lib.hid (A.out.grown GR.out)
      replace R := Lib.hid (R.out.grown GR.out)
      replace G := Lib.hid (grown_trans G.out GR.out)
      clear GR hwd B
      have eW : decide ((W : Int) < 0) = false := decide_eq_false (by omega)
      go_wp2
      go_loopw [151] (fun i wr => ∃ i' : Nat, i = .int .i64 i' ∧ i' ≤ j ∧ Hid (wd.grownBy wr none)) (fun i _ => j - (intOf i).toNat)
      case atStart => exact ⟨0, rfl, by omega, grown_refl _ _⟩
      case round =>
        obtain ⟨i, rfl, hi, GR⟩ := hrel
        by_cases hlt2 : i < j
        · obtain ⟨b1, o1, rfl, c0⟩ := (A.out.grown GR.out).at_ i hlt2
          obtain ⟨b3, o3, rfl, c2⟩ := (R.out.grown GR.out).at_ i hlt2
          have hWj : W < j := by have := WN.out; omega
          have c4 := (A.out.grown GR.out).got W hWj
          have c5 := (R.out.grown GR.out).got W hWj
          have bu := HR.out.ok i (by omega)
          have bW := HR.out.ok W (by omega)
          have ca := cnt_okg (HR.out.rok (k := (N : Int)) (by omega) (by rw [← HV.out]; omega)) (d := N) (Int.le_refl _) i (by rw [Dm.cnt_len]; omega)
          have cW := cnt_okg (HR.out.rok (k := (N : Int)) (by omega) (by rw [← HV.out]; omega)) (d := N) (Int.le_refl _) W (by rw [Dm.cnt_len]; omega)
          have mn := WM.out i (by omega)
          obtain ⟨u, hu⟩ : ∃ u, u = r.getD i 0 := ⟨_, rfl⟩
          obtain ⟨uW, huW⟩ : ∃ u, u = r.getD W 0 := ⟨_, rfl⟩
          obtain ⟨v, hv⟩ : ∃ v, v = (Dm.cnt r N).getD i 0 := ⟨_, rfl⟩
          obtain ⟨vW, hvW⟩ : ∃ v, v = (Dm.cnt r N).getD W 0 := ⟨_, rfl⟩
          rw [← hu] at c2 bu mn
          rw [← huW] at c5 bW mn
          rw [← hv] at c0 ca mn
          rw [← hvW] at c4 cW mn
          clear hu huW hv hvW
          have b1 := mul_bd (a := v + 1) (b := uW) (by omega) (by omega) (by omega) (by omega)
          have b2 := mul_bd (a := vW + 1) (b := u) (by omega) (by omega) (by omega) (by omega)
          have x0 : IntKind.i64.wrap (v + 1) = v + 1 := IntWalk.i64_in _ (by omega)
          have x1 : IntKind.i64.wrap (vW + 1) = vW + 1 := IntWalk.i64_in _ (by omega)
          have x2 : IntKind.i64.wrap ((v + 1) * uW) = (v + 1) * uW := IntWalk.i64_in _ (by omega)
          have x3 : IntKind.i64.wrap ((vW + 1) * u) = (vW + 1) * u := IntWalk.i64_in _ (by omega)
          have hWi : (W : Int) < (j : Int) := by omega
          clear b1 b2
          by_cases hu0 : 0 < u
          · have e3 : decide ((v + 1) * uW < (vW + 1) * u) = false := decide_eq_false (by have := mn hu0; omega)
            clear mn
            go_wp2
            go_quiet (fail)
            go_wp2
            go_roundw
            case rel => exact ⟨i + 1, by go_num, by omega, Lib.hid (grown_trans GR.out (grown_drewN _ _ _))⟩
            case measure => simp [intOf]; omega
          · have e3 : decide (0 < u) = false := decide_eq_false hu0
            clear mn
            go_wp2
            go_quiet (fail)
            go_wp2
            go_roundw
            case rel => exact ⟨i + 1, by go_num, by omega, Lib.hid (grown_trans GR.out (grown_drewN _ _ _))⟩
            case measure => simp [intOf]; omega
        · obtain rfl : i = j := by omega
          go_wp2_with fail
          refine (awake17_any _).mono ?_
          rintro e w8 ⟨rfl, hg⟩
          replace G := Lib.hid (grown_trans G.out (grown_trans GR.out hg))
          clear hg
          go_wp2
          go_ret
          exact ⟨rfl, grown_below G.out⟩
end Go.Proofs.Ytafkagaakjfkoaa
