/- The walk of ProverParts, as far as its last statement. -/
import Derived.Test.YtjeejdoahhkjbaaPk
namespace Go.Proofs.Ytjeejdoahhkjbaa
open Go.ChangeShapes Go.WideShapes Go.ChangeAt Go.RowKit

theorem vals_next (x : Nat → Int) (k : Nat) (c : Int) (h : c = x k) : vals x k ++ [.int .i64 c] = vals x (k + 1) := by
  unfold vals; rw [List.range_succ, List.map_append, h]; rfl

theorem own_grow {w wr w4 w' : World} {v : Value} {n : Nat} {xs : List Value} (h : wr.ownsRow w.heap.size 3 1 v n xs) (hg : w.grownBy wr none) (h4 : wr.grownBy w4 none) (h5 : w4.grownBy w' v.ownBlock) : w.grownBy w' none := by
  have lt := h.lt
  cases hv : v.ownBlock with
  | none => rw [hv] at h5; exact grown_trans (grown_trans hg h4) h5
  | some q => rw [hv] at h5; exact grown_off (grown_trans hg h4) h5 (lt q hv).1

theorem slice_part (b off n cap i k : Nat) (h : i + k ≤ cap) (hk : 1 ≤ k) (hc : cap ≤ 9223372036854775807) (w : World) :
    (Instr.slice 26 (.slice (some ⟨b, off, none⟩) n cap) (some (.int .i64 i)) (some (.int .i64 ((i : Int) + k))) none).run Try.prog w = .ok (.slice (some ⟨b, off + i, none⟩) k (cap - i)) w := by
  have e1 : (cap = i) = False := by simp; omega
  have e2 : ((i : Int) + k).toNat - i = k := by omega
  rw [run_slice_lh (P := Try.prog) (w := w) 26 (some ⟨b, off, none⟩) n cap Try.underlying26 .i64 .i64 i (i + k) (by omega) (by omega) (by omega)]
  simp [go_sem, e1, e2, sliced]

/-- The cells that the last statement reads. -/
def PS (X Y : Nat) (v t u : Int) (w' : World) : Prop :=
  w'.cell? ⟨X, 0, none⟩ = some (.int .i64 v) ∧ w'.cell? ⟨X, 1, none⟩ = some (.int .i64 t) ∧ w'.cell? ⟨Y, 0, none⟩ = some (.int .i64 v) ∧ w'.cell? ⟨Y, 1, none⟩ = some (.int .i64 u)
theorem PS.grown {X Y : Nat} {v t u : Int} {w w' : World} (h : PS X Y v t u w) (hg : w.grownBy w' none) : PS X Y v t u w' :=
  ⟨hg.cell h.1 (by simp), hg.cell h.2.1 (by simp), hg.cell h.2.2.1 (by simp), hg.cell h.2.2.2 (by simp)⟩

set_option maxRecDepth 100000 in
set_option maxHeartbeats 4000000 in
theorem parts_walk (a : Option Addr) (len cap : Nat) (zs : List Int) (fr ct mo : Int) (wf : (Lit.int .u8 fr).wf = true) (wc : (Lit.int .u8 ct).wf = true) (wm : (Lit.int .u16 mo).wf = true) (w : World) (hi : InRow w a len cap zs) :
    Calls Try.prog 5 #[.slice a len cap, .int .u8 fr, .int .u8 ct, .int .u16 mo] w fun e w' => e = .returned (.bool true) ∧ Below w.heap.size w w' := by
  obtain ⟨i0, hi0, hz0, hz1, hz2⟩ := info_parts3
  have b1 := bounds_u8 wf
  have b2 := bounds_u8 wc
  have b3 := bounds_u16 wm
  have HI := Lib.hid hi
  clear hi wf wc wm
  go_enter Try.func5, Try.ntmps5
  go_wp2_with fail
  refine (new_any a len cap zs w HI.out).mono ?_
  rintro e w1 ⟨rfl, hg, hs, hlt⟩
  have G := Lib.hid hg
  have HS := Lib.hid hs
  clear hg hs
  go_wp2_with fail
  refine (made_any w.heap.size w1 HS.out).mono ?_
  rintro e w2 ⟨v, t, hv, rfl, hg, hs⟩
  have V := Lib.hid hv
  have G := Lib.hid (show w.grownBy w2 none from grown_off G.out hg (Nat.le_refl _))
  have HS := Lib.hid hs
  clear hg hs hv
  unfold pv
  go_wp2_with fail
  refine (meter_any w.heap.size w2 HS.out).mono ?_
  rintro e w3 ⟨p, b, f, hm, rfl, hg, hs⟩
  have M := Lib.hid hm
  have G := Lib.hid (show w.grownBy w3 none from grown_off G.out hg (Nat.le_refl _))
  have HS := Lib.hid hs
  clear hg hs hm
  unfold mv
  go_wp2_with fail
  have hS3 := src_lt HS.out
  have G0 := Lib.hid G.out
  have HR := Lib.hid (runs_any w.heap.size v t p b f _ (HS.out.grown (two_grown w3 (Obj.cells #[.int .i64 v, .int .i64 t] 23) (Obj.cells #[.int .i64 p, .int .i64 b, .int .i64 f] 25))) V.out M.out)
  unfold pv mv at HR
  refine (HR.out).mono ?_
  rintro e w5 ⟨vs, m, x, rfl, hown, hx, hm11, hg, hs⟩
  have k0 := hg.cell (a := ⟨w3.heap.size, 0, none⟩) (v := .int .i64 v) (by go_simp) (by simp; omega)
  have k1 := hg.cell (a := ⟨w3.heap.size, 1, none⟩) (v := .int .i64 t) (by go_simp) (by simp; omega)
  have G := Lib.hid (show w.grownBy w5 none from grown_off (grown_trans G.out (two_grown w3 (Obj.cells #[.int .i64 v, .int .i64 t] 23) (Obj.cells #[.int .i64 p, .int .i64 b, .int .i64 f] 25))) hg (Nat.le_refl _))
  obtain ⟨a', cap', g, rfl, hcap, hcap2, ha', hrow, _⟩ := own_sl hown
  have HX := Lib.hid hx
  have HA := Lib.hid (fun h => (ha' h).1)
  have HB := Lib.hid hrow
  clear hg hs hown HR hrow ha' hx G0 HS HI M
  generalize hX : w3.heap.size = X at *
  clear hX
  by_cases hm0 : m = 0
  · subst hm0
    have hr := fun w' => repeats_any v t g 0 0 cap' a' x false w' (by omega) (fun h => absurd h (by omega)) (fun i hi => absurd hi (by omega)) (.empty V.out rfl)
    unfold pv at hr
    have HR := Lib.hid hr
    clear hr
    go_wp2_with fail
    refine (HR.out _).mono ?_
    rintro e w6 ⟨rfl, hg⟩
    have G := Lib.hid (grown_trans G.out hg)
    clear hg k0 k1
    go_wp2_with fail
    refine (awake_any _).mono ?_
    rintro e w7 ⟨rfl, hg⟩
    have G := Lib.hid (grown_trans G.out hg)
    clear hg
    go_wp2
    go_ret
    exact ⟨rfl, grown_below G.out⟩
  · have hm1 : 1 ≤ m := by omega
    have hmz : ((m : Int) == 0) = false := by rw [beq_eq_false_iff_ne]; omega
    obtain rfl := HA.out (by omega)
    clear hm0 HA
    have q1 := Int.emod_nonneg fr (b := (m : Int)) (by omega)
    have q2 := Int.emod_lt_of_pos fr (b := (m : Int)) (by omega)
    have q3 := Int.emod_nonneg ct (b := (m : Int) - fr % m) (by omega)
    have q4 := Int.emod_lt_of_pos ct (b := (m : Int) - fr % m) (by omega)
    go_wp2_with fail
    generalize fr % (m : Int) = fi at *
    generalize ct % ((m : Int) - fi) = ck at *
    obtain ⟨I, rfl⟩ := Int.eq_ofNat_of_zero_le q1
    obtain ⟨K, hK⟩ : ∃ K : Nat, 1 + ck = (K : Int) := ⟨(1 + ck).toNat, by omega⟩
    rw [hK]
    have hK1 : 1 ≤ K := by omega
    have hIK : I + K ≤ m := by omega
    clear q1 q2 q3 q4 hK b1 b2
    go_loopw [15, 16] (fun s15 s16 wr => ∃ (i : Int) (n : Nat), s16 = .int .i64 i ∧ -1 ≤ i ∧ i + 1 + n = m ∧ Hid (wr.ownsRow w5.heap.size 3 1 s15 n (vals (fun q => x (m - 1 - q)) n)) ∧ Hid (w5.grownBy wr none)) (fun _ i _ => ((intOf i) + 1).toNat)
    case atStart => exact ⟨(m : Int) - 1, 0, rfl, by omega, by omega, World.ownsRow_nil _ _ _ _, grown_refl _ _⟩
    case round =>
      obtain ⟨wp, rfl⟩ : ∃ wp : World, wp = wr := ⟨_, rfl⟩
      obtain ⟨i, n, rfl, hi1, hin, OW, GW⟩ := hrel
      by_cases hlt : 0 ≤ i
      · obtain ⟨k, rfl⟩ := Int.eq_ofNat_of_zero_le hlt
        have hkm : k < m := by omega
        have c1 := (HB.out.grown GW.out (by simp)) k hkm
        rw [Nat.zero_add] at c1
        have hxk := Lib.hid (show x k = x (m - 1 - n) by congr 1; omega)
        have hn11 : n ≤ 10 := by omega
        generalize x k = y at *
        go_wp2_with (at_builtin; refine wpList_append_own _ rfl _ _ 26 rfl w5.heap.size 3 i0 (.int .i64 0) 1 8 Try.underlying26 hi0 hz0 hz1 hz2 rfl (by decide) _ _ _ rfl (OW.out.alloc _) ⟨wp.heap.size, 0, none⟩ 1 1 _ rfl rfl (cell_one_new _ _ _) (by intro u hu; simp at hu; subst hu; rfl) (by unfold maxLen; omega) (by omega) (by simp; have := GW.out.size; omega) ?_; intro v' w6 hown hg6 _)
        rw [vals_next (fun q => x (m - 1 - q)) n y hxk.out] at hown
        have G6 := Lib.hid (own_grow OW.out GW.out (World.grownBy_alloc _ _ _) hg6)
        have O6 := Lib.hid hown
        obtain ⟨a6, cap6, g6, rfl, _⟩ := own_sl hown
        clear hown hg6
        go_wp2
        go_roundw
        case rel => exact ⟨(k : Int) - 1, n + 1, rfl, by omega, by omega, O6, G6⟩
        case measure => simp [intOf]
      · obtain rfl : i = -1 := by omega
        obtain rfl : n = m := by omega
        obtain ⟨ab, capb, gb, rfl, hcb, hcb2, hab, hrb, _⟩ := own_sl OW.out
        obtain ⟨rfl, hgb, _⟩ := hab (by omega)
        have RB := Lib.hid hrb
        have k0 := GW.out.cell k0 (by simp)
        have k1 := GW.out.cell k1 (by simp)
        have HB := Lib.hid (HB.out.grown GW.out (by simp))
        have G := Lib.hid (grown_trans G.out GW.out)
        have hXw : X < wp.heap.size := World.block_lt_of_cell? wp ⟨X, 0, none⟩ k0
        clear hrb OW GW hin hi1 hlt hab
        have tv := (Pm.pvalid_true V.out).2.2
        go_upto_region 15 with fail
        obtain ⟨u, hu⟩ : ∃ u, (if t + mo < 10000 then t + mo else 10000) = u := ⟨_, rfl⟩
        have hu1 : t ≤ u ∧ u ≤ 10000 := by rw [← hu]; split <;> omega
        rw [hu]
        have hps : PS X wp.heap.size v t u (wp.alloc (Obj.cells #[.int .i64 v, .int .i64 u] 23)) := by
          refine ⟨?_, ?_, ?_, ?_⟩
          all_goals go_simp
        have HPS := Lib.hid hps
        have G1 := Lib.hid (World.grownBy_alloc wp (Obj.cells #[.int .i64 v, .int .i64 u] 23) none)
        have HB := Lib.hid (HB.out.grown G1.out (by simp))
        have RB := Lib.hid (RB.out.grown G1.out (by simp))
        have G := Lib.hid (grown_trans G.out G1.out)
        clear hu hps G1
        generalize hY : wp.heap.size = Y at *
        clear hY
        generalize wp.alloc (Obj.cells #[.int .i64 v, .int .i64 u] 23) = wz at *
        have V2 : Hid (Pm.pvalid v u = true) := Pm.pvalid_mk (Pm.pvalid_true V.out).1 (Pm.pvalid_true V.out).2.1 (by omega) hu1.2
        have hyx : ∀ i, i < n → (fun q => x (n - 1 - q)) i = x (n - 1 - i) := fun i _ => rfl
        have RY := Lib.hid (show Pm.Runs n (fun q => x (n - 1 - q)) from fun i hi => HX.out _ (by omega))
        have HR1 := Lib.hid (fun w' (hg : wz.grownBy w' none) => repeats_any v t g 0 n cap' _ x _ w' (by omega) (fun _ => rfl) (HB.out.grown hg (by simp)) (.said V.out hm1 (by omega) HX.out))
        have HR2 := Lib.hid (fun w' (hg : wz.grownBy w' none) => repeats_any v t g (0 + I) K (cap' - I) _ (Pm.at' x I) _ w' (by omega) (fun _ => rfl) ((HB.out.grown hg (by simp)).at' I K hIK) (.said V.out hK1 (by omega) (HX.out.at' I K hIK)))
        have HR3 := Lib.hid (fun w' (hg : wz.grownBy w' none) => repeats_any v u g 0 n cap' _ x _ w' (by omega) (fun _ => rfl) (HB.out.grown hg (by simp)) (.said V2.out hm1 (by omega) HX.out))
        have HR4 := Lib.hid (fun w' (hg : wz.grownBy w' none) => repeats_any v t gb 0 n capb _ (fun q => x (n - 1 - q)) _ w' (by omega) (fun _ => rfl) (RB.out.grown hg (by simp)) (.said V.out hm1 (by omega) RY.out))
        rw [Pm.rep_turn hm1 tv.1 HX.out hyx] at HR4
        rw [Nat.zero_add] at HR2
        unfold pv at HR1 HR2 HR3 HR4
        have hsl := slice_part g 0 n cap' I K (by omega) hK1 hcap2
        rw [Nat.zero_add] at hsl
        have b4 : IntKind.i64.wrap ((I : Int) + K) = (I : Int) + K := IntWalk.i64_in _ (by omega)
        obtain ⟨s0, s1, s2, s3⟩ := HPS.out
        cases hrep : Pm.rep t n x
        · rw [hrep] at HR1 HR4
          clear hrep HR2 HR3 RB HB hyx k0 k1
          go_wp2_with fail
          refine (HR1.out _ (grown_refl _ _)).mono ?_
          rintro e wy ⟨rfl, hg⟩
          have S1 := Lib.hid (HPS.out.grown hg)
          have GY := Lib.hid hg
          clear hg s0 s1 s2 s3 HR1
          go_wp2_with fail
          refine wp_region_held_drew (S := (PS X Y v t u)) (by kernel_rfl) ?_ (fun hHeld => ?_)
          · exact S1.out.grown (grown_drewN _ 1 _)
          try simp only [Act.put, List.setIfInBounds_toArray, List.set_cons_zero, List.set_cons_succ]
          refine wpAnyH_take (i := 0) (oi := { dst := some 77, op := Op.move (Operand.tmp 18), type := 4, pos := "law.go:98", after := #[], guard := none }) (v := ?_) rfl (by kernel_rfl) (by kernel_rfl) (by kernel_rfl) (fun _ _ _ h => h) (Or.inl ⟨by rfl, ?_⟩) (by assumption) ?_
          rotate_left 1
          · intro w hSw; obtain ⟨s0, s1, s2, s3⟩ := hSw; first | (go_simp; done) | (go_simp; with_reducible rfl)
          try simp only [Act.put, List.setIfInBounds_toArray, List.set_cons_zero, List.set_cons_succ]
          refine wpAnyH_take (i := 1) (oi := { dst := some 78, op := Op.unOp UnOp.not 4 (Operand.tmp 77), type := 4, pos := "law.go:98", after := #[{ on := 0, ground := Ground.data }], guard := none }) (v := ?_) rfl (by kernel_rfl) (by kernel_rfl) (by kernel_rfl) (fun _ _ _ h => h) (Or.inl ⟨by rfl, ?_⟩) (by assumption) ?_
          rotate_left 1
          · intro w hSw; obtain ⟨s0, s1, s2, s3⟩ := hSw; first | (go_simp; done) | (go_simp; with_reducible rfl)
          try simp only [Act.put, List.setIfInBounds_toArray, List.set_cons_zero, List.set_cons_succ]
          refine wpAnyH_take (i := 2) (oi := { dst := some 79, op := Op.move (Operand.tmp 78), type := 4, pos := "law.go:98", after := #[{ on := 1, ground := Ground.data }], guard := none }) (v := ?_) rfl (by kernel_rfl) (by kernel_rfl) (by kernel_rfl) (fun _ _ _ h => h) (Or.inl ⟨by rfl, ?_⟩) (by assumption) ?_
          rotate_left 1
          · intro w hSw; obtain ⟨s0, s1, s2, s3⟩ := hSw; first | (go_simp; done) | (go_simp; with_reducible rfl)
          try simp only [Act.put, List.setIfInBounds_toArray, List.set_cons_zero, List.set_cons_succ]
          refine wpAnyH_take (i := 3) (oi := { dst := some 80, op := Op.load 23 (Operand.tmp 10), type := 23, pos := "law.go:98", after := #[{ on := 2, ground := Ground.guard }], guard := some (2, false) }) (v := undef) rfl (by kernel_rfl) (by kernel_rfl) (by kernel_rfl) (fun _ _ _ h => h) (Or.inr ⟨by rfl, rfl⟩) (by assumption) ?_
          try simp only [Act.put, List.setIfInBounds_toArray, List.set_cons_zero, List.set_cons_succ]
          refine wpAnyH_take (i := 4) (oi := { dst := some 81, op := Op.move (Operand.tmp 12), type := 26, pos := "law.go:98", after := #[{ on := 2, ground := Ground.guard }], guard := some (2, false) }) (v := undef) rfl (by kernel_rfl) (by kernel_rfl) (by kernel_rfl) (fun _ _ _ h => h) (Or.inr ⟨by rfl, rfl⟩) (by assumption) ?_
          try simp only [Act.put, List.setIfInBounds_toArray, List.set_cons_zero, List.set_cons_succ]
          refine wpAnyH_take (i := 5) (oi := { dst := some 82, op := Op.move (Operand.tmp 13), type := 3, pos := "law.go:98", after := #[{ on := 2, ground := Ground.guard }], guard := some (2, false) }) (v := undef) rfl (by kernel_rfl) (by kernel_rfl) (by kernel_rfl) (fun _ _ _ h => h) (Or.inr ⟨by rfl, rfl⟩) (by assumption) ?_
          try simp only [Act.put, List.setIfInBounds_toArray, List.set_cons_zero, List.set_cons_succ]
          refine wpAnyH_take (i := 6) (oi := { dst := some 83, op := Op.move (Operand.tmp 13), type := 3, pos := "law.go:98", after := #[{ on := 2, ground := Ground.guard }], guard := some (2, false) }) (v := undef) rfl (by kernel_rfl) (by kernel_rfl) (by kernel_rfl) (fun _ _ _ h => h) (Or.inr ⟨by rfl, rfl⟩) (by assumption) ?_
          try simp only [Act.put, List.setIfInBounds_toArray, List.set_cons_zero, List.set_cons_succ]
          refine wpAnyH_take (i := 7) (oi := { dst := some 84, op := Op.move (Operand.tmp 14), type := 3, pos := "law.go:98", after := #[{ on := 2, ground := Ground.guard }], guard := some (2, false) }) (v := undef) rfl (by kernel_rfl) (by kernel_rfl) (by kernel_rfl) (fun _ _ _ h => h) (Or.inr ⟨by rfl, rfl⟩) (by assumption) ?_
          try simp only [Act.put, List.setIfInBounds_toArray, List.set_cons_zero, List.set_cons_succ]
          refine wpAnyH_take (i := 8) (oi := { dst := some 85, op := Op.binOp BinOp.add 3 (Operand.tmp 83) (Operand.tmp 84) 3, type := 3, pos := "law.go:98", after := #[{ on := 6, ground := Ground.data }, { on := 7, ground := Ground.data }, { on := 2, ground := Ground.guard }], guard := some (2, false) }) (v := undef) rfl (by kernel_rfl) (by kernel_rfl) (by kernel_rfl) (fun _ _ _ h => h) (Or.inr ⟨by rfl, rfl⟩) (by assumption) ?_
          try simp only [Act.put, List.setIfInBounds_toArray, List.set_cons_zero, List.set_cons_succ]
          refine wpAnyH_take (i := 9) (oi := { dst := some 86, op := Op.slice 26 (Operand.tmp 81) (some (Operand.tmp 82)) (some (Operand.tmp 85)) none, type := 26, pos := "law.go:98", after := #[{ on := 4, ground := Ground.data }, { on := 5, ground := Ground.data }, { on := 8, ground := Ground.data }, { on := 2, ground := Ground.guard }], guard := some (2, false) }) (v := undef) rfl (by kernel_rfl) (by kernel_rfl) (by kernel_rfl) (fun _ _ _ h => h) (Or.inr ⟨by rfl, rfl⟩) (by assumption) ?_
          try simp only [Act.put, List.setIfInBounds_toArray, List.set_cons_zero, List.set_cons_succ]
          refine wpAnyH_take (i := 10) (oi := { dst := some 87, op := Op.call { callee := Callee.value (Operand.func 16), args := #[Operand.tmp 80, Operand.tmp 86], argTypes := #[23, 26] }, type := 4, pos := "law.go:98", after := #[{ on := 3, ground := Ground.data }, { on := 9, ground := Ground.data }, { on := 2, ground := Ground.chain }, { on := 2, ground := Ground.guard }], guard := some (2, false) }) (v := undef) rfl (by kernel_rfl) (by kernel_rfl) (by kernel_rfl) (fun _ _ _ h => h) (Or.inr ⟨by rfl, rfl⟩) (by assumption) ?_
          try simp only [Act.put, List.setIfInBounds_toArray, List.set_cons_zero, List.set_cons_succ]
          refine wpAnyH_take (i := 11) (oi := { dst := some 88, op := Op.move (Operand.tmp 87), type := 4, pos := "law.go:98", after := #[{ on := 10, ground := Ground.data }, { on := 10, ground := Ground.chain }, { on := 2, ground := Ground.guard }], guard := some (2, false) }) (v := undef) rfl (by kernel_rfl) (by kernel_rfl) (by kernel_rfl) (fun _ _ _ h => h) (Or.inr ⟨by rfl, rfl⟩) (by assumption) ?_
          try simp only [Act.put, List.setIfInBounds_toArray, List.set_cons_zero, List.set_cons_succ]
          refine wpAnyH_take (i := 12) (oi := { dst := some 89, op := Op.load 23 (Operand.tmp 17), type := 23, pos := "law.go:98", after := #[{ on := 11, ground := Ground.guard }], guard := some (11, true) }) (v := undef) rfl (by kernel_rfl) (by kernel_rfl) (by kernel_rfl) (fun _ _ _ h => h) (Or.inr ⟨by rfl, rfl⟩) (by assumption) ?_
          try simp only [Act.put, List.setIfInBounds_toArray, List.set_cons_zero, List.set_cons_succ]
          refine wpAnyH_take (i := 13) (oi := { dst := some 90, op := Op.move (Operand.tmp 12), type := 26, pos := "law.go:98", after := #[{ on := 11, ground := Ground.guard }], guard := some (11, true) }) (v := undef) rfl (by kernel_rfl) (by kernel_rfl) (by kernel_rfl) (fun _ _ _ h => h) (Or.inr ⟨by rfl, rfl⟩) (by assumption) ?_
          try simp only [Act.put, List.setIfInBounds_toArray, List.set_cons_zero, List.set_cons_succ]
          refine wpAnyH_take (i := 14) (oi := { dst := some 91, op := Op.call { callee := Callee.value (Operand.func 16), args := #[Operand.tmp 89, Operand.tmp 90], argTypes := #[23, 26] }, type := 4, pos := "law.go:98", after := #[{ on := 12, ground := Ground.data }, { on := 13, ground := Ground.data }, { on := 11, ground := Ground.chain }, { on := 11, ground := Ground.guard }], guard := some (11, true) }) (v := undef) rfl (by kernel_rfl) (by kernel_rfl) (by kernel_rfl) (fun _ _ _ h => h) (Or.inr ⟨by rfl, rfl⟩) (by assumption) ?_
          try simp only [Act.put, List.setIfInBounds_toArray, List.set_cons_zero, List.set_cons_succ]
          refine wpAnyH_take (i := 15) (oi := { dst := some 92, op := Op.pick (Operand.tmp 88) (Operand.tmp 91) (Operand.const (Value.bool false)), type := 4, pos := "law.go:98", after := #[{ on := 11, ground := Ground.data }, { on := 14, ground := Ground.data }, { on := 2, ground := Ground.guard }], guard := some (2, false) }) (v := undef) rfl (by kernel_rfl) (by kernel_rfl) (by kernel_rfl) (fun _ _ _ h => h) (Or.inr ⟨by rfl, rfl⟩) (by assumption) ?_
          try simp only [Act.put, List.setIfInBounds_toArray, List.set_cons_zero, List.set_cons_succ]
          refine wpAnyH_take (i := 16) (oi := { dst := some 93, op := Op.pick (Operand.tmp 79) (Operand.const (Value.bool true)) (Operand.tmp 92), type := 4, pos := "law.go:98", after := #[{ on := 2, ground := Ground.data }, { on := 15, ground := Ground.data }], guard := none }) (v := ?_) rfl (by kernel_rfl) (by kernel_rfl) (by kernel_rfl) (fun _ _ _ h => h) (Or.inl ⟨by rfl, ?_⟩) (by assumption) ?_
          rotate_left 1
          · intro w hSw; obtain ⟨s0, s1, s2, s3⟩ := hSw; first | (go_simp; done) | (go_simp; with_reducible rfl)
          try simp only [Act.put, List.setIfInBounds_toArray, List.set_cons_zero, List.set_cons_succ]
          refine wpAnyH_take (i := 17) (oi := { dst := some 94, op := Op.move (Operand.tmp 93), type := 4, pos := "law.go:98", after := #[{ on := 16, ground := Ground.data }, { on := 14, ground := Ground.chain }], guard := none }) (v := ?_) rfl (by kernel_rfl) (by kernel_rfl) (by kernel_rfl) (fun _ _ _ h => h) (Or.inl ⟨by rfl, ?_⟩) (by assumption) ?_
          rotate_left 1
          · intro w hSw; obtain ⟨s0, s1, s2, s3⟩ := hSw; first | (go_simp; done) | (go_simp; with_reducible rfl)
          try simp only [Act.put, List.setIfInBounds_toArray, List.set_cons_zero, List.set_cons_succ]
          refine wpAnyH_take (i := 18) (oi := { dst := some 95, op := Op.move (Operand.tmp 18), type := 4, pos := "law.go:98", after := #[{ on := 17, ground := Ground.guard }], guard := some (17, true) }) (v := ?_) rfl (by kernel_rfl) (by kernel_rfl) (by kernel_rfl) (fun _ _ _ h => h) (Or.inl ⟨by rfl, ?_⟩) (by assumption) ?_
          rotate_left 1
          · intro w hSw; obtain ⟨s0, s1, s2, s3⟩ := hSw; first | (go_simp; done) | (go_simp; with_reducible rfl)
          try simp only [Act.put, List.setIfInBounds_toArray, List.set_cons_zero, List.set_cons_succ]
          refine wpAnyH_take (i := 19) (oi := { dst := some 96, op := Op.load 23 (Operand.tmp 10), type := 23, pos := "law.go:98", after := #[{ on := 17, ground := Ground.guard }], guard := some (17, true) }) (v := ?_) rfl (by kernel_rfl) (by kernel_rfl) (by kernel_rfl) (fun _ _ _ h => h) (Or.inl ⟨by rfl, ?_⟩) (by assumption) ?_
          rotate_left 1
          · intro w hSw; obtain ⟨s0, s1, s2, s3⟩ := hSw; first | (go_simp; done) | (go_simp; with_reducible rfl)
          try simp only [Act.put, List.setIfInBounds_toArray, List.set_cons_zero, List.set_cons_succ]
          refine wpAnyH_take (i := 20) (oi := { dst := some 97, op := Op.move (Operand.tmp 15), type := 26, pos := "law.go:98", after := #[{ on := 17, ground := Ground.guard }], guard := some (17, true) }) (v := ?_) rfl (by kernel_rfl) (by kernel_rfl) (by kernel_rfl) (fun _ _ _ h => h) (Or.inl ⟨by rfl, ?_⟩) (by assumption) ?_
          rotate_left 1
          · intro w hSw; obtain ⟨s0, s1, s2, s3⟩ := hSw; first | (go_simp; done) | (go_simp; with_reducible rfl)
          try simp only [Act.put, List.setIfInBounds_toArray, List.set_cons_zero, List.set_cons_succ]
          refine wpAnyH_ready (rs := [21]) (by kernel_rfl) (by simp) (AllReadyH.cons (o := { dst := some 98, op := Op.call { callee := Callee.value (Operand.func 16), args := #[Operand.tmp 96, Operand.tmp 97], argTypes := #[23, 26] }, type := 4, pos := "law.go:98", after := #[{ on := 19, ground := Ground.data }, { on := 20, ground := Ground.data }, { on := 17, ground := Ground.chain }, { on := 17, ground := Ground.guard }], guard := some (17, true) }) rfl (fun K hK => ?_) AllReadyH.nil)
          go_simp
          refine (HR4.out _ (grown_trans GY.out (grown_drewN _ 1 _))).mono ?_
          rintro e wa ⟨rfl, hga⟩
          have GA := Lib.hid (grown_trans (grown_trans GY.out (grown_drewN _ 1 _)) hga)
          clear hga
          try dsimp only
          refine hK.out _ _ ?_ (fun hHeld => ?_)
          · exact HPS.out.grown GA.out
          clear hK K
          try simp only [Act.put, List.setIfInBounds_toArray, List.set_cons_zero, List.set_cons_succ]
          refine wpAnyH_take (i := 22) (oi := { dst := some 99, op := Op.binOp BinOp.eql 4 (Operand.tmp 95) (Operand.tmp 98) 4, type := 4, pos := "law.go:98", after := #[{ on := 18, ground := Ground.data }, { on := 21, ground := Ground.data }, { on := 17, ground := Ground.guard }], guard := some (17, true) }) (v := ?_) rfl (by kernel_rfl) (by kernel_rfl) (by kernel_rfl) (fun _ _ _ h => h) (Or.inl ⟨by rfl, ?_⟩) (by assumption) ?_
          rotate_left 1
          · intro w hSw; obtain ⟨s0, s1, s2, s3⟩ := hSw; first | (go_simp; done) | (go_simp; with_reducible rfl)
          try simp only [Act.put, List.setIfInBounds_toArray, List.set_cons_zero, List.set_cons_succ]
          refine wpAnyH_take (i := 23) (oi := { dst := some 100, op := Op.pick (Operand.tmp 94) (Operand.tmp 99) (Operand.const (Value.bool false)), type := 4, pos := "law.go:98", after := #[{ on := 17, ground := Ground.data }, { on := 22, ground := Ground.data }], guard := none }) (v := ?_) rfl (by kernel_rfl) (by kernel_rfl) (by kernel_rfl) (fun _ _ _ h => h) (Or.inl ⟨by rfl, ?_⟩) (by assumption) ?_
          rotate_left 1
          · intro w hSw; obtain ⟨s0, s1, s2, s3⟩ := hSw; first | (go_simp; done) | (go_simp; with_reducible rfl)
          try simp only [Act.put, List.setIfInBounds_toArray, List.set_cons_zero, List.set_cons_succ]
          refine wpAnyH_take (i := 24) (oi := { dst := some 101, op := Op.move (Operand.tmp 100), type := 4, pos := "law.go:98", after := #[{ on := 23, ground := Ground.data }, { on := 21, ground := Ground.chain }], guard := none }) (v := ?_) rfl (by kernel_rfl) (by kernel_rfl) (by kernel_rfl) (fun _ _ _ h => h) (Or.inl ⟨by rfl, ?_⟩) (by assumption) ?_
          rotate_left 1
          · intro w hSw; obtain ⟨s0, s1, s2, s3⟩ := hSw; first | (go_simp; done) | (go_simp; with_reducible rfl)
          try simp only [Act.put, List.setIfInBounds_toArray, List.set_cons_zero, List.set_cons_succ]
          refine wpAnyH_ready (rs := [25]) (by kernel_rfl) (by simp) (AllReadyH.cons (o := { dst := some 102, op := Op.call { callee := Callee.value (Operand.func 8), args := #[], argTypes := #[] }, type := 4, pos := "law.go:98", after := #[{ on := 24, ground := Ground.chain }, { on := 24, ground := Ground.guard }], guard := some (24, true) }) rfl (fun K hK => ?_) AllReadyH.nil)
          go_simp
          refine (awake_any _).mono ?_
          rintro e wb ⟨rfl, hgb'⟩
          have GB := Lib.hid (grown_trans GA.out hgb')
          clear hgb'
          try dsimp only
          refine hK.out _ _ ?_ (fun hHeld => ?_)
          · exact HPS.out.grown GB.out
          clear hK K
          try simp only [Act.put, List.setIfInBounds_toArray, List.set_cons_zero, List.set_cons_succ]
          refine wpAnyH_take (i := 26) (oi := { dst := some 103, op := Op.pick (Operand.tmp 101) (Operand.tmp 102) (Operand.const (Value.bool false)), type := 4, pos := "law.go:98", after := #[{ on := 24, ground := Ground.data }, { on := 25, ground := Ground.data }], guard := none }) (v := ?_) rfl (by kernel_rfl) (by kernel_rfl) (by kernel_rfl) (fun _ _ _ h => h) (Or.inl ⟨by rfl, ?_⟩) (by assumption) ?_
          rotate_left 1
          · intro w hSw; obtain ⟨s0, s1, s2, s3⟩ := hSw; first | (go_simp; done) | (go_simp; with_reducible rfl)
          try simp only [Act.put, List.setIfInBounds_toArray, List.set_cons_zero, List.set_cons_succ]
          refine wpAnyH_take (i := 27) (oi := { dst := some 8, op := Op.assign (Operand.tmp 103), type := 4, pos := "law.go:98", after := #[{ on := 26, ground := Ground.data }, { on := 25, ground := Ground.chain }, { on := 0, ground := Ground.phase }, { on := 1, ground := Ground.phase }, { on := 2, ground := Ground.phase }, { on := 3, ground := Ground.phase }, { on := 4, ground := Ground.phase }, { on := 5, ground := Ground.phase }, { on := 6, ground := Ground.phase }, { on := 7, ground := Ground.phase }, { on := 8, ground := Ground.phase }, { on := 9, ground := Ground.phase }, { on := 10, ground := Ground.phase }, { on := 11, ground := Ground.phase }, { on := 12, ground := Ground.phase }, { on := 13, ground := Ground.phase }, { on := 14, ground := Ground.phase }, { on := 15, ground := Ground.phase }, { on := 16, ground := Ground.phase }, { on := 17, ground := Ground.phase }, { on := 18, ground := Ground.phase }, { on := 19, ground := Ground.phase }, { on := 20, ground := Ground.phase }, { on := 21, ground := Ground.phase }, { on := 22, ground := Ground.phase }, { on := 23, ground := Ground.phase }, { on := 24, ground := Ground.phase }, { on := 25, ground := Ground.phase }, { on := 26, ground := Ground.phase }], guard := none }) (v := ?_) rfl (by kernel_rfl) (by kernel_rfl) (by kernel_rfl) (fun _ _ _ h => h) (Or.inl ⟨by rfl, ?_⟩) (by assumption) ?_
          rotate_left 1
          · intro w hSw; obtain ⟨s0, s1, s2, s3⟩ := hSw; first | (go_simp; done) | (go_simp; with_reducible rfl)
          try simp only [Act.put, List.setIfInBounds_toArray, List.set_cons_zero, List.set_cons_succ]
          refine wpAnyH_done (by kernel_rfl) ?_ _
          have GF := Lib.hid (grown_below (grown_trans G.out GB.out))
          go_wp2
          go_ret
          exact ⟨rfl, GF.out⟩
        · have h2 : Pm.rep t K (Pm.at' x I) = true := Pm.rep_some hm1 hK1 tv.1 (Int.le_refl _) HX.out (fun i hi => ⟨I + i, by omega, rfl⟩) hrep
          have h3 : Pm.rep u n x = true := Pm.rep_some hm1 hm1 tv.1 hu1.1 HX.out (fun i hi => ⟨i, hi, rfl⟩) hrep
          rw [hrep] at HR1 HR4
          rw [h2] at HR2
          rw [h3] at HR3
          clear hrep h2 h3 RB HB hyx k0 k1
          go_wp2_with fail
          refine (HR1.out _ (grown_refl _ _)).mono ?_
          rintro e wy ⟨rfl, hg⟩
          have S1 := Lib.hid (HPS.out.grown hg)
          have GY := Lib.hid hg
          clear hg s0 s1 s2 s3 HR1
          go_wp2_with fail
          refine wp_region_held_drew (S := (PS X Y v t u)) (by kernel_rfl) ?_ (fun hHeld => ?_)
          · exact S1.out.grown (grown_drewN _ 1 _)
          try simp only [Act.put, List.setIfInBounds_toArray, List.set_cons_zero, List.set_cons_succ]
          refine wpAnyH_take (i := 0) (oi := { dst := some 77, op := Op.move (Operand.tmp 18), type := 4, pos := "law.go:98", after := #[], guard := none }) (v := ?_) rfl (by kernel_rfl) (by kernel_rfl) (by kernel_rfl) (fun _ _ _ h => h) (Or.inl ⟨by rfl, ?_⟩) (by assumption) ?_
          rotate_left 1
          · intro w hSw; obtain ⟨s0, s1, s2, s3⟩ := hSw; first | (go_simp; done) | (go_simp; with_reducible rfl)
          try simp only [Act.put, List.setIfInBounds_toArray, List.set_cons_zero, List.set_cons_succ]
          refine wpAnyH_take (i := 1) (oi := { dst := some 78, op := Op.unOp UnOp.not 4 (Operand.tmp 77), type := 4, pos := "law.go:98", after := #[{ on := 0, ground := Ground.data }], guard := none }) (v := ?_) rfl (by kernel_rfl) (by kernel_rfl) (by kernel_rfl) (fun _ _ _ h => h) (Or.inl ⟨by rfl, ?_⟩) (by assumption) ?_
          rotate_left 1
          · intro w hSw; obtain ⟨s0, s1, s2, s3⟩ := hSw; first | (go_simp; done) | (go_simp; with_reducible rfl)
          try simp only [Act.put, List.setIfInBounds_toArray, List.set_cons_zero, List.set_cons_succ]
          refine wpAnyH_take (i := 2) (oi := { dst := some 79, op := Op.move (Operand.tmp 78), type := 4, pos := "law.go:98", after := #[{ on := 1, ground := Ground.data }], guard := none }) (v := ?_) rfl (by kernel_rfl) (by kernel_rfl) (by kernel_rfl) (fun _ _ _ h => h) (Or.inl ⟨by rfl, ?_⟩) (by assumption) ?_
          rotate_left 1
          · intro w hSw; obtain ⟨s0, s1, s2, s3⟩ := hSw; first | (go_simp; done) | (go_simp; with_reducible rfl)
          try simp only [Act.put, List.setIfInBounds_toArray, List.set_cons_zero, List.set_cons_succ]
          refine wpAnyH_take (i := 3) (oi := { dst := some 80, op := Op.load 23 (Operand.tmp 10), type := 23, pos := "law.go:98", after := #[{ on := 2, ground := Ground.guard }], guard := some (2, false) }) (v := ?_) rfl (by kernel_rfl) (by kernel_rfl) (by kernel_rfl) (fun _ _ _ h => h) (Or.inl ⟨by rfl, ?_⟩) (by assumption) ?_
          rotate_left 1
          · intro w hSw; obtain ⟨s0, s1, s2, s3⟩ := hSw; first | (go_simp; done) | (go_simp; with_reducible rfl)
          try simp only [Act.put, List.setIfInBounds_toArray, List.set_cons_zero, List.set_cons_succ]
          refine wpAnyH_take (i := 4) (oi := { dst := some 81, op := Op.move (Operand.tmp 12), type := 26, pos := "law.go:98", after := #[{ on := 2, ground := Ground.guard }], guard := some (2, false) }) (v := ?_) rfl (by kernel_rfl) (by kernel_rfl) (by kernel_rfl) (fun _ _ _ h => h) (Or.inl ⟨by rfl, ?_⟩) (by assumption) ?_
          rotate_left 1
          · intro w hSw; obtain ⟨s0, s1, s2, s3⟩ := hSw; first | (go_simp; done) | (go_simp; with_reducible rfl)
          try simp only [Act.put, List.setIfInBounds_toArray, List.set_cons_zero, List.set_cons_succ]
          refine wpAnyH_take (i := 5) (oi := { dst := some 82, op := Op.move (Operand.tmp 13), type := 3, pos := "law.go:98", after := #[{ on := 2, ground := Ground.guard }], guard := some (2, false) }) (v := ?_) rfl (by kernel_rfl) (by kernel_rfl) (by kernel_rfl) (fun _ _ _ h => h) (Or.inl ⟨by rfl, ?_⟩) (by assumption) ?_
          rotate_left 1
          · intro w hSw; obtain ⟨s0, s1, s2, s3⟩ := hSw; first | (go_simp; done) | (go_simp; with_reducible rfl)
          try simp only [Act.put, List.setIfInBounds_toArray, List.set_cons_zero, List.set_cons_succ]
          refine wpAnyH_take (i := 6) (oi := { dst := some 83, op := Op.move (Operand.tmp 13), type := 3, pos := "law.go:98", after := #[{ on := 2, ground := Ground.guard }], guard := some (2, false) }) (v := ?_) rfl (by kernel_rfl) (by kernel_rfl) (by kernel_rfl) (fun _ _ _ h => h) (Or.inl ⟨by rfl, ?_⟩) (by assumption) ?_
          rotate_left 1
          · intro w hSw; obtain ⟨s0, s1, s2, s3⟩ := hSw; first | (go_simp; done) | (go_simp; with_reducible rfl)
          try simp only [Act.put, List.setIfInBounds_toArray, List.set_cons_zero, List.set_cons_succ]
          refine wpAnyH_take (i := 7) (oi := { dst := some 84, op := Op.move (Operand.tmp 14), type := 3, pos := "law.go:98", after := #[{ on := 2, ground := Ground.guard }], guard := some (2, false) }) (v := ?_) rfl (by kernel_rfl) (by kernel_rfl) (by kernel_rfl) (fun _ _ _ h => h) (Or.inl ⟨by rfl, ?_⟩) (by assumption) ?_
          rotate_left 1
          · intro w hSw; obtain ⟨s0, s1, s2, s3⟩ := hSw; first | (go_simp; done) | (go_simp; with_reducible rfl)
          try simp only [Act.put, List.setIfInBounds_toArray, List.set_cons_zero, List.set_cons_succ]
          refine wpAnyH_take (i := 8) (oi := { dst := some 85, op := Op.binOp BinOp.add 3 (Operand.tmp 83) (Operand.tmp 84) 3, type := 3, pos := "law.go:98", after := #[{ on := 6, ground := Ground.data }, { on := 7, ground := Ground.data }, { on := 2, ground := Ground.guard }], guard := some (2, false) }) (v := ?_) rfl (by kernel_rfl) (by kernel_rfl) (by kernel_rfl) (fun _ _ _ h => h) (Or.inl ⟨by rfl, ?_⟩) (by assumption) ?_
          rotate_left 1
          · intro w hSw; obtain ⟨s0, s1, s2, s3⟩ := hSw; first | (go_simp; done) | (go_simp; with_reducible rfl)
          try simp only [Act.put, List.setIfInBounds_toArray, List.set_cons_zero, List.set_cons_succ]
          refine wpAnyH_take (i := 9) (oi := { dst := some 86, op := Op.slice 26 (Operand.tmp 81) (some (Operand.tmp 82)) (some (Operand.tmp 85)) none, type := 26, pos := "law.go:98", after := #[{ on := 4, ground := Ground.data }, { on := 5, ground := Ground.data }, { on := 8, ground := Ground.data }, { on := 2, ground := Ground.guard }], guard := some (2, false) }) (v := ?_) rfl (by kernel_rfl) (by kernel_rfl) (by kernel_rfl) (fun _ _ _ h => h) (Or.inl ⟨by rfl, ?_⟩) (by assumption) ?_
          rotate_left 1
          · intro w hSw; obtain ⟨s0, s1, s2, s3⟩ := hSw; first | (go_simp; done) | (go_simp; with_reducible rfl)
          try simp only [Act.put, List.setIfInBounds_toArray, List.set_cons_zero, List.set_cons_succ]
          refine wpAnyH_ready (rs := [10]) (by kernel_rfl) (by simp) (AllReadyH.cons (o := { dst := some 87, op := Op.call { callee := Callee.value (Operand.func 16), args := #[Operand.tmp 80, Operand.tmp 86], argTypes := #[23, 26] }, type := 4, pos := "law.go:98", after := #[{ on := 3, ground := Ground.data }, { on := 9, ground := Ground.data }, { on := 2, ground := Ground.chain }, { on := 2, ground := Ground.guard }], guard := some (2, false) }) rfl (fun K hK => ?_) AllReadyH.nil)
          go_simp
          refine (HR2.out _ (grown_trans GY.out (grown_drewN _ 1 _))).mono ?_
          rintro e wa ⟨rfl, hga⟩
          have GA := Lib.hid (grown_trans (grown_trans GY.out (grown_drewN _ 1 _)) hga)
          clear hga
          try dsimp only
          refine hK.out _ _ ?_ (fun hHeld => ?_)
          · exact HPS.out.grown GA.out
          clear hK K
          try simp only [Act.put, List.setIfInBounds_toArray, List.set_cons_zero, List.set_cons_succ]
          refine wpAnyH_take (i := 11) (oi := { dst := some 88, op := Op.move (Operand.tmp 87), type := 4, pos := "law.go:98", after := #[{ on := 10, ground := Ground.data }, { on := 10, ground := Ground.chain }, { on := 2, ground := Ground.guard }], guard := some (2, false) }) (v := ?_) rfl (by kernel_rfl) (by kernel_rfl) (by kernel_rfl) (fun _ _ _ h => h) (Or.inl ⟨by rfl, ?_⟩) (by assumption) ?_
          rotate_left 1
          · intro w hSw; obtain ⟨s0, s1, s2, s3⟩ := hSw; first | (go_simp; done) | (go_simp; with_reducible rfl)
          try simp only [Act.put, List.setIfInBounds_toArray, List.set_cons_zero, List.set_cons_succ]
          refine wpAnyH_take (i := 12) (oi := { dst := some 89, op := Op.load 23 (Operand.tmp 17), type := 23, pos := "law.go:98", after := #[{ on := 11, ground := Ground.guard }], guard := some (11, true) }) (v := ?_) rfl (by kernel_rfl) (by kernel_rfl) (by kernel_rfl) (fun _ _ _ h => h) (Or.inl ⟨by rfl, ?_⟩) (by assumption) ?_
          rotate_left 1
          · intro w hSw; obtain ⟨s0, s1, s2, s3⟩ := hSw; first | (go_simp; done) | (go_simp; with_reducible rfl)
          try simp only [Act.put, List.setIfInBounds_toArray, List.set_cons_zero, List.set_cons_succ]
          refine wpAnyH_take (i := 13) (oi := { dst := some 90, op := Op.move (Operand.tmp 12), type := 26, pos := "law.go:98", after := #[{ on := 11, ground := Ground.guard }], guard := some (11, true) }) (v := ?_) rfl (by kernel_rfl) (by kernel_rfl) (by kernel_rfl) (fun _ _ _ h => h) (Or.inl ⟨by rfl, ?_⟩) (by assumption) ?_
          rotate_left 1
          · intro w hSw; obtain ⟨s0, s1, s2, s3⟩ := hSw; first | (go_simp; done) | (go_simp; with_reducible rfl)
          try simp only [Act.put, List.setIfInBounds_toArray, List.set_cons_zero, List.set_cons_succ]
          refine wpAnyH_ready (rs := [14]) (by kernel_rfl) (by simp) (AllReadyH.cons (o := { dst := some 91, op := Op.call { callee := Callee.value (Operand.func 16), args := #[Operand.tmp 89, Operand.tmp 90], argTypes := #[23, 26] }, type := 4, pos := "law.go:98", after := #[{ on := 12, ground := Ground.data }, { on := 13, ground := Ground.data }, { on := 11, ground := Ground.chain }, { on := 11, ground := Ground.guard }], guard := some (11, true) }) rfl (fun K hK => ?_) AllReadyH.nil)
          go_simp
          refine (HR3.out _ GA.out).mono ?_
          rintro e wb ⟨rfl, hga⟩
          have GB := Lib.hid (grown_trans GA.out hga)
          clear hga
          try dsimp only
          refine hK.out _ _ ?_ (fun hHeld => ?_)
          · exact HPS.out.grown GB.out
          clear hK K
          try simp only [Act.put, List.setIfInBounds_toArray, List.set_cons_zero, List.set_cons_succ]
          refine wpAnyH_take (i := 15) (oi := { dst := some 92, op := Op.pick (Operand.tmp 88) (Operand.tmp 91) (Operand.const (Value.bool false)), type := 4, pos := "law.go:98", after := #[{ on := 11, ground := Ground.data }, { on := 14, ground := Ground.data }, { on := 2, ground := Ground.guard }], guard := some (2, false) }) (v := ?_) rfl (by kernel_rfl) (by kernel_rfl) (by kernel_rfl) (fun _ _ _ h => h) (Or.inl ⟨by rfl, ?_⟩) (by assumption) ?_
          rotate_left 1
          · intro w hSw; obtain ⟨s0, s1, s2, s3⟩ := hSw; first | (go_simp; done) | (go_simp; with_reducible rfl)
          try simp only [Act.put, List.setIfInBounds_toArray, List.set_cons_zero, List.set_cons_succ]
          refine wpAnyH_take (i := 16) (oi := { dst := some 93, op := Op.pick (Operand.tmp 79) (Operand.const (Value.bool true)) (Operand.tmp 92), type := 4, pos := "law.go:98", after := #[{ on := 2, ground := Ground.data }, { on := 15, ground := Ground.data }], guard := none }) (v := ?_) rfl (by kernel_rfl) (by kernel_rfl) (by kernel_rfl) (fun _ _ _ h => h) (Or.inl ⟨by rfl, ?_⟩) (by assumption) ?_
          rotate_left 1
          · intro w hSw; obtain ⟨s0, s1, s2, s3⟩ := hSw; first | (go_simp; done) | (go_simp; with_reducible rfl)
          try simp only [Act.put, List.setIfInBounds_toArray, List.set_cons_zero, List.set_cons_succ]
          refine wpAnyH_take (i := 17) (oi := { dst := some 94, op := Op.move (Operand.tmp 93), type := 4, pos := "law.go:98", after := #[{ on := 16, ground := Ground.data }, { on := 14, ground := Ground.chain }], guard := none }) (v := ?_) rfl (by kernel_rfl) (by kernel_rfl) (by kernel_rfl) (fun _ _ _ h => h) (Or.inl ⟨by rfl, ?_⟩) (by assumption) ?_
          rotate_left 1
          · intro w hSw; obtain ⟨s0, s1, s2, s3⟩ := hSw; first | (go_simp; done) | (go_simp; with_reducible rfl)
          try simp only [Act.put, List.setIfInBounds_toArray, List.set_cons_zero, List.set_cons_succ]
          refine wpAnyH_take (i := 18) (oi := { dst := some 95, op := Op.move (Operand.tmp 18), type := 4, pos := "law.go:98", after := #[{ on := 17, ground := Ground.guard }], guard := some (17, true) }) (v := ?_) rfl (by kernel_rfl) (by kernel_rfl) (by kernel_rfl) (fun _ _ _ h => h) (Or.inl ⟨by rfl, ?_⟩) (by assumption) ?_
          rotate_left 1
          · intro w hSw; obtain ⟨s0, s1, s2, s3⟩ := hSw; first | (go_simp; done) | (go_simp; with_reducible rfl)
          try simp only [Act.put, List.setIfInBounds_toArray, List.set_cons_zero, List.set_cons_succ]
          refine wpAnyH_take (i := 19) (oi := { dst := some 96, op := Op.load 23 (Operand.tmp 10), type := 23, pos := "law.go:98", after := #[{ on := 17, ground := Ground.guard }], guard := some (17, true) }) (v := ?_) rfl (by kernel_rfl) (by kernel_rfl) (by kernel_rfl) (fun _ _ _ h => h) (Or.inl ⟨by rfl, ?_⟩) (by assumption) ?_
          rotate_left 1
          · intro w hSw; obtain ⟨s0, s1, s2, s3⟩ := hSw; first | (go_simp; done) | (go_simp; with_reducible rfl)
          try simp only [Act.put, List.setIfInBounds_toArray, List.set_cons_zero, List.set_cons_succ]
          refine wpAnyH_take (i := 20) (oi := { dst := some 97, op := Op.move (Operand.tmp 15), type := 26, pos := "law.go:98", after := #[{ on := 17, ground := Ground.guard }], guard := some (17, true) }) (v := ?_) rfl (by kernel_rfl) (by kernel_rfl) (by kernel_rfl) (fun _ _ _ h => h) (Or.inl ⟨by rfl, ?_⟩) (by assumption) ?_
          rotate_left 1
          · intro w hSw; obtain ⟨s0, s1, s2, s3⟩ := hSw; first | (go_simp; done) | (go_simp; with_reducible rfl)
          try simp only [Act.put, List.setIfInBounds_toArray, List.set_cons_zero, List.set_cons_succ]
          refine wpAnyH_ready (rs := [21]) (by kernel_rfl) (by simp) (AllReadyH.cons (o := { dst := some 98, op := Op.call { callee := Callee.value (Operand.func 16), args := #[Operand.tmp 96, Operand.tmp 97], argTypes := #[23, 26] }, type := 4, pos := "law.go:98", after := #[{ on := 19, ground := Ground.data }, { on := 20, ground := Ground.data }, { on := 17, ground := Ground.chain }, { on := 17, ground := Ground.guard }], guard := some (17, true) }) rfl (fun K hK => ?_) AllReadyH.nil)
          go_simp
          refine (HR4.out _ GB.out).mono ?_
          rintro e wc ⟨rfl, hga⟩
          have GC := Lib.hid (grown_trans GB.out hga)
          clear hga
          try dsimp only
          refine hK.out _ _ ?_ (fun hHeld => ?_)
          · exact HPS.out.grown GC.out
          clear hK K
          try simp only [Act.put, List.setIfInBounds_toArray, List.set_cons_zero, List.set_cons_succ]
          refine wpAnyH_take (i := 22) (oi := { dst := some 99, op := Op.binOp BinOp.eql 4 (Operand.tmp 95) (Operand.tmp 98) 4, type := 4, pos := "law.go:98", after := #[{ on := 18, ground := Ground.data }, { on := 21, ground := Ground.data }, { on := 17, ground := Ground.guard }], guard := some (17, true) }) (v := ?_) rfl (by kernel_rfl) (by kernel_rfl) (by kernel_rfl) (fun _ _ _ h => h) (Or.inl ⟨by rfl, ?_⟩) (by assumption) ?_
          rotate_left 1
          · intro w hSw; obtain ⟨s0, s1, s2, s3⟩ := hSw; first | (go_simp; done) | (go_simp; with_reducible rfl)
          try simp only [Act.put, List.setIfInBounds_toArray, List.set_cons_zero, List.set_cons_succ]
          refine wpAnyH_take (i := 23) (oi := { dst := some 100, op := Op.pick (Operand.tmp 94) (Operand.tmp 99) (Operand.const (Value.bool false)), type := 4, pos := "law.go:98", after := #[{ on := 17, ground := Ground.data }, { on := 22, ground := Ground.data }], guard := none }) (v := ?_) rfl (by kernel_rfl) (by kernel_rfl) (by kernel_rfl) (fun _ _ _ h => h) (Or.inl ⟨by rfl, ?_⟩) (by assumption) ?_
          rotate_left 1
          · intro w hSw; obtain ⟨s0, s1, s2, s3⟩ := hSw; first | (go_simp; done) | (go_simp; with_reducible rfl)
          try simp only [Act.put, List.setIfInBounds_toArray, List.set_cons_zero, List.set_cons_succ]
          refine wpAnyH_take (i := 24) (oi := { dst := some 101, op := Op.move (Operand.tmp 100), type := 4, pos := "law.go:98", after := #[{ on := 23, ground := Ground.data }, { on := 21, ground := Ground.chain }], guard := none }) (v := ?_) rfl (by kernel_rfl) (by kernel_rfl) (by kernel_rfl) (fun _ _ _ h => h) (Or.inl ⟨by rfl, ?_⟩) (by assumption) ?_
          rotate_left 1
          · intro w hSw; obtain ⟨s0, s1, s2, s3⟩ := hSw; first | (go_simp; done) | (go_simp; with_reducible rfl)
          try simp only [Act.put, List.setIfInBounds_toArray, List.set_cons_zero, List.set_cons_succ]
          refine wpAnyH_ready (rs := [25]) (by kernel_rfl) (by simp) (AllReadyH.cons (o := { dst := some 102, op := Op.call { callee := Callee.value (Operand.func 8), args := #[], argTypes := #[] }, type := 4, pos := "law.go:98", after := #[{ on := 24, ground := Ground.chain }, { on := 24, ground := Ground.guard }], guard := some (24, true) }) rfl (fun K hK => ?_) AllReadyH.nil)
          go_simp
          refine (awake_any _).mono ?_
          rintro e wd ⟨rfl, hga⟩
          have GD := Lib.hid (grown_trans GC.out hga)
          clear hga
          try dsimp only
          refine hK.out _ _ ?_ (fun hHeld => ?_)
          · exact HPS.out.grown GD.out
          clear hK K
          try simp only [Act.put, List.setIfInBounds_toArray, List.set_cons_zero, List.set_cons_succ]
          refine wpAnyH_take (i := 26) (oi := { dst := some 103, op := Op.pick (Operand.tmp 101) (Operand.tmp 102) (Operand.const (Value.bool false)), type := 4, pos := "law.go:98", after := #[{ on := 24, ground := Ground.data }, { on := 25, ground := Ground.data }], guard := none }) (v := ?_) rfl (by kernel_rfl) (by kernel_rfl) (by kernel_rfl) (fun _ _ _ h => h) (Or.inl ⟨by rfl, ?_⟩) (by assumption) ?_
          rotate_left 1
          · intro w hSw; obtain ⟨s0, s1, s2, s3⟩ := hSw; first | (go_simp; done) | (go_simp; with_reducible rfl)
          try simp only [Act.put, List.setIfInBounds_toArray, List.set_cons_zero, List.set_cons_succ]
          refine wpAnyH_take (i := 27) (oi := { dst := some 8, op := Op.assign (Operand.tmp 103), type := 4, pos := "law.go:98", after := #[{ on := 26, ground := Ground.data }, { on := 25, ground := Ground.chain }, { on := 0, ground := Ground.phase }, { on := 1, ground := Ground.phase }, { on := 2, ground := Ground.phase }, { on := 3, ground := Ground.phase }, { on := 4, ground := Ground.phase }, { on := 5, ground := Ground.phase }, { on := 6, ground := Ground.phase }, { on := 7, ground := Ground.phase }, { on := 8, ground := Ground.phase }, { on := 9, ground := Ground.phase }, { on := 10, ground := Ground.phase }, { on := 11, ground := Ground.phase }, { on := 12, ground := Ground.phase }, { on := 13, ground := Ground.phase }, { on := 14, ground := Ground.phase }, { on := 15, ground := Ground.phase }, { on := 16, ground := Ground.phase }, { on := 17, ground := Ground.phase }, { on := 18, ground := Ground.phase }, { on := 19, ground := Ground.phase }, { on := 20, ground := Ground.phase }, { on := 21, ground := Ground.phase }, { on := 22, ground := Ground.phase }, { on := 23, ground := Ground.phase }, { on := 24, ground := Ground.phase }, { on := 25, ground := Ground.phase }, { on := 26, ground := Ground.phase }], guard := none }) (v := ?_) rfl (by kernel_rfl) (by kernel_rfl) (by kernel_rfl) (fun _ _ _ h => h) (Or.inl ⟨by rfl, ?_⟩) (by assumption) ?_
          rotate_left 1
          · intro w hSw; obtain ⟨s0, s1, s2, s3⟩ := hSw; first | (go_simp; done) | (go_simp; with_reducible rfl)
          try simp only [Act.put, List.setIfInBounds_toArray, List.set_cons_zero, List.set_cons_succ]
          refine wpAnyH_done (by kernel_rfl) ?_ _
          have GF := Lib.hid (grown_below (grown_trans G.out GD.out))
          go_wp2
          go_ret
          exact ⟨rfl, GF.out⟩
end Go.Proofs.Ytjeejdoahhkjbaa
