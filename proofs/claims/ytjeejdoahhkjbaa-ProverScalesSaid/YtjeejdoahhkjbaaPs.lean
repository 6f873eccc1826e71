/- The walk of ProverScales. -/
import Derived.Test.YtjeejdoahhkjbaaPr
namespace Go.Proofs.Ytjeejdoahhkjbaa
open Go.ChangeShapes Go.WideShapes Go.ChangeAt Go.RowKit

set_option maxRecDepth 100000 in
set_option maxHeartbeats 4000000 in
theorem scales_walk (a : Option Addr) (len cap : Nat) (zs : List Int) (w : World) (hi : InRow w a len cap zs) :
    Calls Try.prog 7 #[.slice a len cap] w fun e w' => e = .returned (.bool true) ∧ Below w.heap.size w w' := by
  obtain ⟨i0, hi0, hz0, hz1, hz2⟩ := info_parts3
  have HI := Lib.hid hi
  clear hi
  go_enter Try.func7, Try.ntmps7
  go_wp2_with fail
  refine (new_any a len cap zs w HI.out).mono ?_
  rintro e w1 ⟨rfl, hg, hs, hlt⟩
  generalize hS : w.heap.size = S at *
  have HW := Lib.hid hS
  have G := Lib.hid hg
  have HS := Lib.hid hs
  clear hg hs hS HI
  go_wp2_with fail
  refine (range_any S 1 100 w1 HS.out (by omega) (by omega) (by omega)).mono ?_
  rintro e w2 ⟨n0, ⟨hn1, hn2⟩, rfl, hg, hs⟩
  have G := Lib.hid (show w.grownBy w2 none from grown_off G.out hg (by rw [HW.out]; exact Nat.le_refl _))
  have HS := Lib.hid hs
  clear hg hs
  go_wp2_with fail
  refine Calls.mono (pick_lit S 3 w2.heap.size [0, 200, 10000] #[.int .i64 0, .int .i64 200, .int .i64 10000] w2 rfl HS.out rfl (by omega) (by omega) ?_) ?_
  · intro i hi
    match i, hi with
    | 0, _ => rfl
    | 1, _ => rfl
    | 2, _ => rfl
  rintro e w3 ⟨t, ht, rfl, hg, hs⟩
  have ht : 0 ≤ t ∧ t ≤ 10000 := by simp at ht; omega
  have G := Lib.hid (show w.grownBy w3 none from grown_off G.out hg (by rw [HW.out]; exact Nat.le_refl _))
  have HS := Lib.hid hs
  clear hg hs
  go_wp2_with fail
  refine (meter_any S w3 HS.out).mono ?_
  rintro e w4 ⟨p, b, f, hm, rfl, hg, hs⟩
  have M := Lib.hid hm
  have ⟨hp1, hp2, hb, hf1, hf2⟩ := Mt.valid_true hm
  have G := Lib.hid (show w.grownBy w4 none from grown_off G.out hg (by rw [HW.out]; exact Nat.le_refl _))
  have HS := Lib.hid hs
  have hS4 := src_lt hs
  clear hg hs hm
  unfold mv
  obtain ⟨v, hv⟩ : ∃ v, n0 * 500 = v := ⟨_, rfl⟩
  have hv1 : 500 ≤ v ∧ v ≤ 50000 := by omega
  rw [hv]
  clear hv hn1 hn2
  have V := Lib.hid (Pm.pvalid_mk (v := v) (t := t) (by omega) (by omega) ht.1 ht.2)
  by_cases hbig : 262144 < p
  · go_wp2_with fail
    refine (awake_any _).mono ?_
    rintro e w6 ⟨rfl, hg⟩
    have G := Lib.hid (grown_trans G.out (grown_trans (two_grown w4 (Obj.cells #[.int .i64 v, .int .i64 t] 23) (Obj.cells #[.int .i64 p, .int .i64 b, .int .i64 f] 25)) hg))
    clear hg
    go_wp2
    go_ret
    exact ⟨rfl, grown_below G.out⟩
  · have np1 : 500 ≤ v * p := by have := Int.mul_le_mul hv1.1 hp1 (by omega) (by omega); omega
    have np2 : v * p ≤ 13107200000 := by have := Int.mul_le_mul hv1.2 (show p ≤ 262144 by omega) (by omega) (by omega); omega
    have e2 : IntKind.i64.wrap (v * p) = v * p := IntWalk.i64_in _ (by omega)
    have hd : (v * p).tdiv 1000 = v * p / 1000 := Rd.tdiv_same _ _ (by omega) (by rw [Int.tmod_eq_emod_of_nonneg (by omega)]; omega)
    have G5 := Lib.hid (two_grown w4 (Obj.cells #[.int .i64 v, .int .i64 t] 23) (Obj.cells #[.int .i64 p, .int .i64 b, .int .i64 f] 25))
    have k0 : ((w4.alloc (Obj.cells #[.int .i64 v, .int .i64 t] 23)).alloc (Obj.cells #[.int .i64 p, .int .i64 b, .int .i64 f] 25)).cell? ⟨w4.heap.size, 0, none⟩ = some (.int .i64 v) := by go_simp
    have k1 : ((w4.alloc (Obj.cells #[.int .i64 v, .int .i64 t] 23)).alloc (Obj.cells #[.int .i64 p, .int .i64 b, .int .i64 f] 25)).cell? ⟨w4.heap.size, 1, none⟩ = some (.int .i64 t) := by go_simp
    have m0 : ((w4.alloc (Obj.cells #[.int .i64 v, .int .i64 t] 23)).alloc (Obj.cells #[.int .i64 p, .int .i64 b, .int .i64 f] 25)).cell? ⟨w4.heap.size + 1, 0, none⟩ = some (.int .i64 p) := by go_simp
    have m1 : ((w4.alloc (Obj.cells #[.int .i64 v, .int .i64 t] 23)).alloc (Obj.cells #[.int .i64 p, .int .i64 b, .int .i64 f] 25)).cell? ⟨w4.heap.size + 1, 1, none⟩ = some (.int .i64 b) := by go_simp
    have m2 : ((w4.alloc (Obj.cells #[.int .i64 v, .int .i64 t] 23)).alloc (Obj.cells #[.int .i64 p, .int .i64 b, .int .i64 f] 25)).cell? ⟨w4.heap.size + 1, 2, none⟩ = some (.int .i64 f) := by go_simp
    have hB : ((w4.alloc (Obj.cells #[.int .i64 v, .int .i64 t] 23)).alloc (Obj.cells #[.int .i64 p, .int .i64 b, .int .i64 f] 25)).heap.size = w4.heap.size + 1 + 1 := by simp
    go_upto_region 6 with fail
    have HS := Lib.hid (HS.out.grown G5.out)
    have G := Lib.hid (grown_trans G.out G5.out)
    clear G5
    generalize (w4.alloc (Obj.cells #[.int .i64 v, .int .i64 t] 23)).alloc (Obj.cells #[.int .i64 p, .int .i64 b, .int .i64 f] 25) = W5 at *
    generalize w4.heap.size = X at *
    have hS5 : S < W5.heap.size := by omega
    have HC := Lib.hid (show ∀ w', W5.grownBy w' (some S) → (w'.cell? ⟨X, 0, none⟩ = some (.int .i64 v) ∧ w'.cell? ⟨X, 1, none⟩ = some (.int .i64 t)) ∧ w'.cell? ⟨X + 1, 0, none⟩ = some (.int .i64 p) ∧ w'.cell? ⟨X + 1, 1, none⟩ = some (.int .i64 b) ∧ w'.cell? ⟨X + 1, 2, none⟩ = some (.int .i64 f) from
      fun w' hg => ⟨⟨hg.cell k0 (by simp; omega), hg.cell k1 (by simp; omega)⟩, hg.cell m0 (by simp; omega), hg.cell m1 (by simp; omega), hg.cell m2 (by simp; omega)⟩)
    obtain ⟨E0, hE0⟩ : ∃ E0, v * p / 1000 = E0 := ⟨_, rfl⟩
    have hE1 : 0 ≤ E0 ∧ E0 ≤ 13107200 := by omega
    rw [hE0] at hd
    clear k1 m1 m2 hE0 np1 np2
    have HSD : Hid (SrcOK W5.drew S) := HS.out.grown (show W5.grownBy W5.drew none from grown_drewN W5 1 none)
    go_cut [8, 9] (fun s8 s9 wc => ∃ N E : Int, s8 = .int .i64 N ∧ s9 = .int .i64 E ∧ 5 ≤ N ∧ N ≤ 9 ∧ 4 ≤ E ∧ E ≤ 13107200 ∧ Hid (W5.grownBy wc (some S)) ∧ Hid (SrcOK wc S))
    case first =>
        have w0 : IntKind.i64.wrap E0 = E0 := IntWalk.i64_in _ (by omega)
        go_wp2_with fail
        refine wp_region_held_drew (S := (fun w' => w'.cell? ⟨X, 0, none⟩ = some (.int .i64 v) ∧ w'.cell? ⟨X + 1, 0, none⟩ = some (.int .i64 p))) (by kernel_rfl) ?_ (fun hHeld => ?_)
        · first | exact ⟨(HC.out _ (show W5.grownBy W5.drew (some S) from grown_drewN W5 1 _)).1.1, (HC.out _ (show W5.grownBy W5.drew (some S) from grown_drewN W5 1 _)).2.1⟩
        try simp only [Act.put, List.setIfInBounds_toArray, List.set_cons_zero, List.set_cons_succ]
        refine wpAnyH_take (i := 0) (oi := { dst := some 32, op := Op.move (Operand.tmp 3), type := 28, pos := "law.go:124", after := #[], guard := none }) (v := ?_) rfl (by kernel_rfl) (by kernel_rfl) (by kernel_rfl) (fun _ _ _ h => h) (Or.inl ⟨by rfl, ?_⟩) (by assumption) ?_
        rotate_left 1
        · intro w hSw; obtain ⟨s0, s1⟩ := hSw; first | (go_simp; done) | (go_simp; with_reducible rfl)
        try simp only [Act.put, List.setIfInBounds_toArray, List.set_cons_zero, List.set_cons_succ]
        refine wpAnyH_take (i := 2) (oi := { dst := some 34, op := Op.fieldAddr 23 (Operand.tmp 4) 0, type := 0, pos := "law.go:124", after := #[], guard := none }) (v := ?_) rfl (by kernel_rfl) (by kernel_rfl) (by kernel_rfl) (fun _ _ _ h => h) (Or.inl ⟨by rfl, ?_⟩) (by assumption) ?_
        rotate_left 1
        · intro w hSw; obtain ⟨s0, s1⟩ := hSw; first | (go_simp; done) | (go_simp; with_reducible rfl)
        try simp only [Act.put, List.setIfInBounds_toArray, List.set_cons_zero, List.set_cons_succ]
        refine wpAnyH_take (i := 3) (oi := { dst := some 35, op := Op.load 3 (Operand.tmp 34), type := 3, pos := "law.go:124", after := #[{ on := 2, ground := Ground.data }], guard := none }) (v := ?_) rfl (by kernel_rfl) (by kernel_rfl) (by kernel_rfl) (fun _ _ _ h => h) (Or.inl ⟨by rfl, ?_⟩) (by assumption) ?_
        rotate_left 1
        · intro w hSw; obtain ⟨s0, s1⟩ := hSw; first | (go_simp; done) | (go_simp; with_reducible rfl)
        try simp only [Act.put, List.setIfInBounds_toArray, List.set_cons_zero, List.set_cons_succ]
        refine wpAnyH_take (i := 4) (oi := { dst := some 36, op := Op.fieldAddr 25 (Operand.tmp 5) 0, type := 0, pos := "law.go:124", after := #[], guard := none }) (v := ?_) rfl (by kernel_rfl) (by kernel_rfl) (by kernel_rfl) (fun _ _ _ h => h) (Or.inl ⟨by rfl, ?_⟩) (by assumption) ?_
        rotate_left 1
        · intro w hSw; obtain ⟨s0, s1⟩ := hSw; first | (go_simp; done) | (go_simp; with_reducible rfl)
        try simp only [Act.put, List.setIfInBounds_toArray, List.set_cons_zero, List.set_cons_succ]
        refine wpAnyH_take (i := 5) (oi := { dst := some 37, op := Op.load 3 (Operand.tmp 36), type := 3, pos := "law.go:124", after := #[{ on := 4, ground := Ground.data }], guard := none }) (v := ?_) rfl (by kernel_rfl) (by kernel_rfl) (by kernel_rfl) (fun _ _ _ h => h) (Or.inl ⟨by rfl, ?_⟩) (by assumption) ?_
        rotate_left 1
        · intro w hSw; obtain ⟨s0, s1⟩ := hSw; first | (go_simp; done) | (go_simp; with_reducible rfl)
        try simp only [Act.put, List.setIfInBounds_toArray, List.set_cons_zero, List.set_cons_succ]
        refine wpAnyH_take (i := 6) (oi := { dst := some 38, op := Op.binOp BinOp.mul 3 (Operand.tmp 35) (Operand.tmp 37) 3, type := 3, pos := "law.go:124", after := #[{ on := 3, ground := Ground.data }, { on := 5, ground := Ground.data }], guard := none }) (v := ?_) rfl (by kernel_rfl) (by kernel_rfl) (by kernel_rfl) (fun _ _ _ h => h) (Or.inl ⟨by rfl, ?_⟩) (by assumption) ?_
        rotate_left 1
        · intro w hSw; obtain ⟨s0, s1⟩ := hSw; first | (go_simp; done) | (go_simp; with_reducible rfl)
        try simp only [Act.put, List.setIfInBounds_toArray, List.set_cons_zero, List.set_cons_succ]
        refine wpAnyH_take (i := 7) (oi := { dst := some 39, op := Op.binOp BinOp.quo 3 (Operand.tmp 38) (Operand.const (Value.int IntKind.i64 1000)) 3, type := 3, pos := "law.go:124", after := #[{ on := 6, ground := Ground.data }], guard := none }) (v := ?_) rfl (by kernel_rfl) (by kernel_rfl) (by kernel_rfl) (fun _ _ _ h => h) (Or.inl ⟨by rfl, ?_⟩) (by assumption) ?_
        rotate_left 1
        · intro w hSw; obtain ⟨s0, s1⟩ := hSw; first | (go_simp; done) | (go_simp; with_reducible rfl)
        try simp only [Act.put, List.setIfInBounds_toArray, List.set_cons_zero, List.set_cons_succ]
        refine wpAnyH_take (i := 8) (oi := { dst := some 40, op := Op.call { callee := Callee.builtin Builtin.max, args := #[Operand.const (Value.int IntKind.i64 4), Operand.tmp 39], argTypes := #[3, 3] }, type := 3, pos := "law.go:124", after := #[{ on := 7, ground := Ground.data }], guard := none }) (v := ?_) rfl (by kernel_rfl) (by kernel_rfl) (by kernel_rfl) (fun _ _ _ h => h) (Or.inl ⟨by rfl, ?_⟩) (by assumption) ?_
        rotate_left 1
        · intro w hSw; obtain ⟨s0, s1⟩ := hSw; first | (go_simp; done) | (go_simp; with_reducible rfl)
        try simp only [Act.put, List.setIfInBounds_toArray, List.set_cons_zero, List.set_cons_succ]
        refine wpAnyH_ready (rs := [1]) (by kernel_rfl) (by simp) (AllReadyH.cons (o := { dst := some 33, op := Op.call { callee := Callee.value (Operand.func 20), args := #[Operand.tmp 32, Operand.const (Value.int IntKind.i64 5), Operand.const (Value.int IntKind.i64 9)], argTypes := #[28, 3, 3] }, type := 3, pos := "law.go:124", after := #[{ on := 0, ground := Ground.data }], guard := none }) rfl (fun K hK => ?_) AllReadyH.nil)
        go_simp
        refine (range_any S 5 9 W5.drew HSD.out (by omega) (by omega) (by omega)).mono ?_
        rintro e wa ⟨N, ⟨hN1, hN2⟩, rfl, hg, hs⟩
        have hga : Hid (W5.grownBy wa (some S)) := grown_trans (show W5.grownBy W5.drew (some S) from grown_drewN W5 1 _) hg
        have hsa : Hid (SrcOK wa S) := hs
        clear hg hs
        try dsimp only
        refine hK.out _ _ ?_ (fun hHeld => ?_)
        · exact ⟨(HC.out _ hga.out).1.1, (HC.out _ hga.out).2.1⟩
        clear hK K
        try simp only [Act.put, List.setIfInBounds_toArray, List.set_cons_zero, List.set_cons_succ]
        refine wpAnyH_take (i := 9) (oi := { dst := some 8, op := Op.assign (Operand.tmp 33), type := 3, pos := "law.go:124", after := #[{ on := 1, ground := Ground.data }, { on := 1, ground := Ground.chain }, { on := 0, ground := Ground.phase }, { on := 1, ground := Ground.phase }, { on := 2, ground := Ground.textOnly Departure.lateStores }, { on := 3, ground := Ground.textOnly Departure.lateStores }, { on := 4, ground := Ground.textOnly Departure.lateStores }, { on := 5, ground := Ground.textOnly Departure.lateStores }, { on := 6, ground := Ground.textOnly Departure.lateStores }, { on := 7, ground := Ground.textOnly Departure.lateStores }, { on := 8, ground := Ground.textOnly Departure.lateStoresUnsure }], guard := none }) (v := ?_) rfl (by kernel_rfl) (by kernel_rfl) (by kernel_rfl) (fun _ _ _ h => h) (Or.inl ⟨by rfl, ?_⟩) (by assumption) ?_
        rotate_left 1
        · intro w hSw; obtain ⟨s0, s1⟩ := hSw; first | (go_simp; done) | (go_simp; with_reducible rfl)
        try simp only [Act.put, List.setIfInBounds_toArray, List.set_cons_zero, List.set_cons_succ]
        refine wpAnyH_take (i := 10) (oi := { dst := some 9, op := Op.assign (Operand.tmp 40), type := 3, pos := "law.go:124", after := #[{ on := 8, ground := Ground.data }, { on := 9, ground := Ground.chain }, { on := 0, ground := Ground.phase }, { on := 1, ground := Ground.phase }, { on := 2, ground := Ground.phase }, { on := 3, ground := Ground.phase }, { on := 4, ground := Ground.phase }, { on := 5, ground := Ground.phase }, { on := 6, ground := Ground.phase }, { on := 7, ground := Ground.phase }, { on := 8, ground := Ground.phase }, { on := 9, ground := Ground.phase }], guard := none }) (v := ?_) rfl (by kernel_rfl) (by kernel_rfl) (by kernel_rfl) (fun _ _ _ h => h) (Or.inl ⟨by rfl, ?_⟩) (by assumption) ?_
        rotate_left 1
        · intro w hSw; obtain ⟨s0, s1⟩ := hSw; first | (go_simp; done) | (go_simp; with_reducible rfl)
        try simp only [Act.put, List.setIfInBounds_toArray, List.set_cons_zero, List.set_cons_succ]
        refine wpAnyH_done (by kernel_rfl) ?_ _
        obtain ⟨E, hE⟩ : ∃ E, (if 4 < E0 then E0 else 4) = E := ⟨_, rfl⟩
        have hE2 : 4 ≤ E ∧ E ≤ 13107200 := by rw [← hE]; split <;> omega
        rw [hE]
        clear hE
        go_wp2_with fail
        go_meet
        case rel => exact ⟨_, _, rfl, rfl, hN1, hN2, by omega, by omega, hga, hsa⟩
    case rest =>
      obtain ⟨N, E, rfl, rfl, hN1, hN2, hE2, hE3, G5, HS⟩ := hcut
      clear hd hE1 e2
      go_wp2
      go_loopw [6, 7, 8] (fun s6 s7 s8 wr => ∃ (i : Int) (n : Nat) (x : Nat → Int), s8 = .int .i64 i ∧ 0 ≤ i ∧ i + n = N ∧ Hid (SP W5.heap.size S W5 wr s6 s7 n x) ∧ Hid (∀ j, j < n → E ≤ x j ∧ x j ≤ E + 1)) (fun _ _ s8 _ => (intOf s8).toNat)
      case atStart => exact ⟨N, 0, fun _ => 0, rfl, by omega, by omega, ⟨World.ownsRow_nil _ _ _ _, World.ownsRow_nil _ _ _ _, .inl rfl, HS.out, G5.out⟩, fun j hj => absurd hj (by omega)⟩
      case round =>
        obtain ⟨i, n, x, rfl, hi0', hin, P, RX⟩ := hrel
        by_cases hlt : 0 < i
        · have hn8 : n ≤ 8 := by omega
          have hi9 : i ≤ 9 := by omega
          have HN := Lib.hid hin
          clear hin
          go_wp2_with fail
          refine (n_any S 2 wr P.out.sr (by omega) (by omega)).mono ?_
          rintro e w6 ⟨r, ⟨hr1, hr2⟩, rfl, hg, hs⟩
          have G6 := Lib.hid hg
          have S6 := Lib.hid hs
          have SZ := Lib.hid (show W5.heap.size ≤ w6.heap.size from Nat.le_trans P.out.gr.size hg.size)
          clear hg hs
          go_wp2_with (first
            | (at_builtin; refine wpList_append_lies _ rfl (.tmp 45) (.tmp 50) 26 rfl W5.heap.size 3 i0 (.int .i64 0) 1 8 Try.underlying26 hi0 hz0 hz1 hz2 rfl (by decide) _ n _ rfl (own_grown (own_kept P.out.o6 hS5 G6.out) (World.grownBy_alloc _ _ _)) ⟨w6.heap.size, 0, none⟩ 1 1 [.int .i64 (E + r)] rfl rfl (cell_one_new _ _ _) (by intro u hu; simp at hu; subst hu; rfl) (by omega) (by unfold maxLen; omega) (by omega) (by simp; have := SZ.out; omega) _ rfl ?_; intro g cap7 w7 hown hg7 hat _; have H7 := Lib.hid (P.out.first rfl hS5 G6.out S6.out (World.grownBy_alloc _ _ _) hown hg7 hat); have c7 := own_cells H7.out.o6 n (by omega); rw [show setF x n (E + r) n = E + r from by unfold setF; rw [if_pos rfl]] at c7; clear hown hg7 hat)
            | (at_builtin; refine wpList_append_lies _ rfl (.tmp 52) (.tmp 60) 26 rfl W5.heap.size 3 i0 (.int .i64 0) 1 8 Try.underlying26 hi0 hz0 hz1 hz2 rfl (by decide) _ n _ rfl (own_grown H7.out.o7 (World.grownBy_alloc _ _ _)) ⟨w7.heap.size, 0, none⟩ 1 1 [.int .i64 (2 * (E + r))] rfl rfl (cell_one_new _ _ _) (by intro u hu; simp at hu; subst hu; rfl) (by omega) (by unfold maxLen; omega) (by omega) (by simp; have := H7.out.gr.size; omega) _ rfl ?_; intro g2 cap8 w8 hown hg8 hat _; have H8 := Lib.hid (H7.out.second rfl hS5 (World.grownBy_alloc _ _ _) hown (show 2 * (E + r) = 2 * setF x n (E + r) n by unfold setF; rw [if_pos rfl]) hg8 hat); clear hown hg8 hat c7)
            | fail)
          go_roundw
          case rel => exact ⟨i - 1, n + 1, setF x n (E + r), rfl, by omega, by have := HN.out; omega, H8, fun j hj => by
            unfold setF
            by_cases e : j = n
            · rw [if_pos e]; omega
            · rw [if_neg e]; exact RX.out j (by omega)⟩
          case measure => simp [intOf]; omega
        · obtain rfl : i = 0 := by omega
          obtain ⟨⟨k0, k1⟩, m0, m1, m2⟩ := HC.out wr P.out.gr
          have hXr : X + 1 < wr.heap.size := World.block_lt_of_cell? wr ⟨X + 1, 0, none⟩ m0
          have hXr2 : X < wr.heap.size := by omega
          obtain ⟨a6, cap6, g6, rfl, hc6, hc6b, ha6, hr6, _⟩ := own_sl P.out.o6
          obtain ⟨a7, cap7, g7, rfl, hc7, hc7b, ha7, hr7, _⟩ := own_sl P.out.o7
          obtain ⟨rfl, _, _⟩ := ha6 (by omega)
          obtain ⟨rfl, _, _⟩ := ha7 (by omega)
          have R6 := Lib.hid hr6
          have R7 := Lib.hid hr7
          have X6 := Lib.hid (show Pm.Runs n x from fun j hj => by have := RX.out j hj; omega)
          have X7 := Lib.hid (show Pm.Runs n (dbl x) from fun j hj => by have := RX.out j hj; unfold dbl; omega)
          have GR := Lib.hid (show w.grownBy wr none from grown_off G.out P.out.gr (by rw [HW.out]; exact Nat.le_refl _))
          have hn9 : n ≤ 9 := by omega
          obtain ⟨F, K, e, hpr⟩ := Pm.pr_any v t p b f n x
          have M2 := Lib.hid (Mt.valid_mk (p := 2 * p) (b := b) (f := f) (by omega) (by omega) hb hf1 hf2)
          have PR2 := Lib.hid (pr_twice V.out M.out M2.out (by omega) X6.out X7.out hpr)
          have PR1 := Lib.hid hpr
          have FD := Lib.hid (pr_found hpr)
          have HP1 := Lib.hid (fun w' (hg : wr.grownBy w' none) => prove_any v t p b f F e g6 0 n cap6 K _ x w' hc6 hc6b (fun _ => rfl) (R6.out.grown hg (by simp)) PR1.out)
          have HP2 := Lib.hid (fun w' (hg : wr.grownBy w' none) => prove_any v t (2 * p) b f F e g7 0 n cap7 K _ (dbl x) w' hc7 hc7b (fun _ => rfl) (R7.out.grown hg (by simp)) PR2.out)
          unfold pv mv errv at HP1 HP2
          rw [Int.mul_comm 2 p] at HP2
          clear ha6 ha7 hr6 hr7 hpr P RX HC
          go_wp2_with fail
          refine (HP1.out _ (by first | exact World.grownBy_alloc _ _ _ | exact grown_refl _ _)).mono ?_
          rintro e' w9 ⟨rfl, hg⟩
          have GA := Lib.hid (grown_trans (World.grownBy_alloc wr (Obj.cells #[.int .i64 (p * 2), .int .i64 b, .int .i64 f] 25) none) hg)
          have k0 := GA.out.cell k0 (by simp)
          have k1 := GA.out.cell k1 (by simp)
          have m0 := hg.cell (a := ⟨wr.heap.size, 0, none⟩) (v := .int .i64 (p * 2)) (by go_simp) (by simp)
          have m1 := hg.cell (a := ⟨wr.heap.size, 1, none⟩) (v := .int .i64 b) (by go_simp) (by simp)
          have m2 := hg.cell (a := ⟨wr.heap.size, 2, none⟩) (v := .int .i64 f) (by go_simp) (by simp)
          clear hg
          go_wp2_with fail
          refine (HP2.out _ GA.out).mono ?_
          rintro e' w10 ⟨rfl, hg⟩
          have GA := Lib.hid (grown_trans GA.out hg)
          have k0 := hg.cell k0 (by simp)
          have k1 := hg.cell k1 (by simp)
          have HK := Lib.hid (show ∀ w', w10.grownBy w' none → w'.cell? ⟨X, 0, none⟩ = some (.int .i64 v) ∧ w'.cell? ⟨X, 1, none⟩ = some (.int .i64 t) from fun w' hg => ⟨hg.cell k0 (by simp), hg.cell k1 (by simp)⟩)
          clear hg m0 m1 m2
          rcases FD.out with e0 | ⟨rfl, q, rfl, hq, hrep⟩
          · have e1 : (e != 0) = true := by simp at e0; simp [e0]
            clear PR1 PR2
            go_wp2_with fail
            refine wp_region_held_drew (S := (fun w' => w'.cell? ⟨X, 0, none⟩ = some (.int .i64 v) ∧ w'.cell? ⟨X, 1, none⟩ = some (.int .i64 t))) (by kernel_rfl) ?_ (fun hHeld => ?_)
            · exact HK.out _ (grown_drewN _ 1 _)
            try simp only [Act.put, List.setIfInBounds_toArray, List.set_cons_zero, List.set_cons_succ]
            refine wpAnyH_take (i := 0) (oi := { dst := some 83, op := Op.move (Operand.tmp 13), type := 39, pos := "law.go:132", after := #[], guard := none }) (v := ?_) rfl (by kernel_rfl) (by kernel_rfl) (by kernel_rfl) (fun _ _ _ h => h) (Or.inl ⟨by rfl, ?_⟩) (by assumption) ?_
            rotate_left 1
            · intro w hSw; obtain ⟨s0, s1⟩ := hSw; first | (go_simp; done) | (go_simp; with_reducible rfl)
            try simp only [Act.put, List.setIfInBounds_toArray, List.set_cons_zero, List.set_cons_succ]
            refine wpAnyH_take (i := 1) (oi := { dst := some 84, op := Op.move (Operand.tmp 16), type := 39, pos := "law.go:132", after := #[], guard := none }) (v := ?_) rfl (by kernel_rfl) (by kernel_rfl) (by kernel_rfl) (fun _ _ _ h => h) (Or.inl ⟨by rfl, ?_⟩) (by assumption) ?_
            rotate_left 1
            · intro w hSw; obtain ⟨s0, s1⟩ := hSw; first | (go_simp; done) | (go_simp; with_reducible rfl)
            try simp only [Act.put, List.setIfInBounds_toArray, List.set_cons_zero, List.set_cons_succ]
            refine wpAnyH_take (i := 2) (oi := { dst := some 85, op := Op.binOp BinOp.eql 39 (Operand.tmp 83) (Operand.tmp 84) 39, type := 4, pos := "law.go:132", after := #[{ on := 0, ground := Ground.data }, { on := 1, ground := Ground.data }], guard := none }) (v := ?_) rfl (by kernel_rfl) (by kernel_rfl) (by kernel_rfl) (fun _ _ _ h => h) (Or.inl ⟨by rfl, ?_⟩) (by assumption) ?_
            rotate_left 1
            · intro w hSw; obtain ⟨s0, s1⟩ := hSw; first | (go_simp; done) | (go_simp; with_reducible rfl)
            try simp only [Act.put, List.setIfInBounds_toArray, List.set_cons_zero, List.set_cons_succ]
            refine wpAnyH_take (i := 3) (oi := { dst := some 86, op := Op.move (Operand.tmp 85), type := 4, pos := "law.go:132", after := #[{ on := 2, ground := Ground.data }], guard := none }) (v := ?_) rfl (by kernel_rfl) (by kernel_rfl) (by kernel_rfl) (fun _ _ _ h => h) (Or.inl ⟨by rfl, ?_⟩) (by assumption) ?_
            rotate_left 1
            · intro w hSw; obtain ⟨s0, s1⟩ := hSw; first | (go_simp; done) | (go_simp; with_reducible rfl)
            try simp only [Act.put, List.setIfInBounds_toArray, List.set_cons_zero, List.set_cons_succ]
            refine wpAnyH_take (i := 4) (oi := { dst := some 87, op := Op.move (Operand.tmp 11), type := 3, pos := "law.go:132", after := #[{ on := 3, ground := Ground.guard }], guard := some (3, true) }) (v := ?_) rfl (by kernel_rfl) (by kernel_rfl) (by kernel_rfl) (fun _ _ _ h => h) (Or.inl ⟨by rfl, ?_⟩) (by assumption) ?_
            rotate_left 1
            · intro w hSw; obtain ⟨s0, s1⟩ := hSw; first | (go_simp; done) | (go_simp; with_reducible rfl)
            try simp only [Act.put, List.setIfInBounds_toArray, List.set_cons_zero, List.set_cons_succ]
            refine wpAnyH_take (i := 5) (oi := { dst := some 88, op := Op.move (Operand.tmp 14), type := 3, pos := "law.go:132", after := #[{ on := 3, ground := Ground.guard }], guard := some (3, true) }) (v := ?_) rfl (by kernel_rfl) (by kernel_rfl) (by kernel_rfl) (fun _ _ _ h => h) (Or.inl ⟨by rfl, ?_⟩) (by assumption) ?_
            rotate_left 1
            · intro w hSw; obtain ⟨s0, s1⟩ := hSw; first | (go_simp; done) | (go_simp; with_reducible rfl)
            try simp only [Act.put, List.setIfInBounds_toArray, List.set_cons_zero, List.set_cons_succ]
            refine wpAnyH_take (i := 6) (oi := { dst := some 89, op := Op.binOp BinOp.eql 3 (Operand.tmp 87) (Operand.tmp 88) 3, type := 4, pos := "law.go:132", after := #[{ on := 4, ground := Ground.data }, { on := 5, ground := Ground.data }, { on := 3, ground := Ground.guard }], guard := some (3, true) }) (v := ?_) rfl (by kernel_rfl) (by kernel_rfl) (by kernel_rfl) (fun _ _ _ h => h) (Or.inl ⟨by rfl, ?_⟩) (by assumption) ?_
            rotate_left 1
            · intro w hSw; obtain ⟨s0, s1⟩ := hSw; first | (go_simp; done) | (go_simp; with_reducible rfl)
            try simp only [Act.put, List.setIfInBounds_toArray, List.set_cons_zero, List.set_cons_succ]
            refine wpAnyH_take (i := 7) (oi := { dst := some 90, op := Op.pick (Operand.tmp 86) (Operand.tmp 89) (Operand.const (Value.bool false)), type := 4, pos := "law.go:132", after := #[{ on := 3, ground := Ground.data }, { on := 6, ground := Ground.data }], guard := none }) (v := ?_) rfl (by kernel_rfl) (by kernel_rfl) (by kernel_rfl) (fun _ _ _ h => h) (Or.inl ⟨by rfl, ?_⟩) (by assumption) ?_
            rotate_left 1
            · intro w hSw; obtain ⟨s0, s1⟩ := hSw; first | (go_simp; done) | (go_simp; with_reducible rfl)
            try simp only [Act.put, List.setIfInBounds_toArray, List.set_cons_zero, List.set_cons_succ]
            refine wpAnyH_take (i := 8) (oi := { dst := some 91, op := Op.move (Operand.tmp 90), type := 4, pos := "law.go:132", after := #[{ on := 7, ground := Ground.data }, { on := 3, ground := Ground.chain }], guard := none }) (v := ?_) rfl (by kernel_rfl) (by kernel_rfl) (by kernel_rfl) (fun _ _ _ h => h) (Or.inl ⟨by rfl, ?_⟩) (by assumption) ?_
            rotate_left 1
            · intro w hSw; obtain ⟨s0, s1⟩ := hSw; first | (go_simp; done) | (go_simp; with_reducible rfl)
            try simp only [Act.put, List.setIfInBounds_toArray, List.set_cons_zero, List.set_cons_succ]
            refine wpAnyH_take (i := 9) (oi := { dst := some 92, op := Op.move (Operand.tmp 12), type := 3, pos := "law.go:132", after := #[{ on := 8, ground := Ground.guard }], guard := some (8, true) }) (v := ?_) rfl (by kernel_rfl) (by kernel_rfl) (by kernel_rfl) (fun _ _ _ h => h) (Or.inl ⟨by rfl, ?_⟩) (by assumption) ?_
            rotate_left 1
            · intro w hSw; obtain ⟨s0, s1⟩ := hSw; first | (go_simp; done) | (go_simp; with_reducible rfl)
            try simp only [Act.put, List.setIfInBounds_toArray, List.set_cons_zero, List.set_cons_succ]
            refine wpAnyH_take (i := 10) (oi := { dst := some 93, op := Op.move (Operand.tmp 15), type := 3, pos := "law.go:132", after := #[{ on := 8, ground := Ground.guard }], guard := some (8, true) }) (v := ?_) rfl (by kernel_rfl) (by kernel_rfl) (by kernel_rfl) (fun _ _ _ h => h) (Or.inl ⟨by rfl, ?_⟩) (by assumption) ?_
            rotate_left 1
            · intro w hSw; obtain ⟨s0, s1⟩ := hSw; first | (go_simp; done) | (go_simp; with_reducible rfl)
            try simp only [Act.put, List.setIfInBounds_toArray, List.set_cons_zero, List.set_cons_succ]
            refine wpAnyH_take (i := 11) (oi := { dst := some 94, op := Op.binOp BinOp.eql 3 (Operand.tmp 92) (Operand.tmp 93) 3, type := 4, pos := "law.go:132", after := #[{ on := 9, ground := Ground.data }, { on := 10, ground := Ground.data }, { on := 8, ground := Ground.guard }], guard := some (8, true) }) (v := ?_) rfl (by kernel_rfl) (by kernel_rfl) (by kernel_rfl) (fun _ _ _ h => h) (Or.inl ⟨by rfl, ?_⟩) (by assumption) ?_
            rotate_left 1
            · intro w hSw; obtain ⟨s0, s1⟩ := hSw; first | (go_simp; done) | (go_simp; with_reducible rfl)
            try simp only [Act.put, List.setIfInBounds_toArray, List.set_cons_zero, List.set_cons_succ]
            refine wpAnyH_take (i := 12) (oi := { dst := some 95, op := Op.pick (Operand.tmp 91) (Operand.tmp 94) (Operand.const (Value.bool false)), type := 4, pos := "law.go:132", after := #[{ on := 8, ground := Ground.data }, { on := 11, ground := Ground.data }], guard := none }) (v := ?_) rfl (by kernel_rfl) (by kernel_rfl) (by kernel_rfl) (fun _ _ _ h => h) (Or.inl ⟨by rfl, ?_⟩) (by assumption) ?_
            rotate_left 1
            · intro w hSw; obtain ⟨s0, s1⟩ := hSw; first | (go_simp; done) | (go_simp; with_reducible rfl)
            try simp only [Act.put, List.setIfInBounds_toArray, List.set_cons_zero, List.set_cons_succ]
            refine wpAnyH_take (i := 13) (oi := { dst := some 96, op := Op.move (Operand.tmp 95), type := 4, pos := "law.go:132", after := #[{ on := 12, ground := Ground.data }, { on := 8, ground := Ground.chain }], guard := none }) (v := ?_) rfl (by kernel_rfl) (by kernel_rfl) (by kernel_rfl) (fun _ _ _ h => h) (Or.inl ⟨by rfl, ?_⟩) (by assumption) ?_
            rotate_left 1
            · intro w hSw; obtain ⟨s0, s1⟩ := hSw; first | (go_simp; done) | (go_simp; with_reducible rfl)
            try simp only [Act.put, List.setIfInBounds_toArray, List.set_cons_zero, List.set_cons_succ]
            refine wpAnyH_take (i := 14) (oi := { dst := some 97, op := Op.move (Operand.tmp 13), type := 39, pos := "law.go:132", after := #[{ on := 13, ground := Ground.guard }], guard := some (13, true) }) (v := ?_) rfl (by kernel_rfl) (by kernel_rfl) (by kernel_rfl) (fun _ _ _ h => h) (Or.inl ⟨by rfl, ?_⟩) (by assumption) ?_
            rotate_left 1
            · intro w hSw; obtain ⟨s0, s1⟩ := hSw; first | (go_simp; done) | (go_simp; with_reducible rfl)
            try simp only [Act.put, List.setIfInBounds_toArray, List.set_cons_zero, List.set_cons_succ]
            refine wpAnyH_take (i := 15) (oi := { dst := some 98, op := Op.binOp BinOp.neq 39 (Operand.tmp 97) (Operand.const (Value.int IntKind.i64 0)) 39, type := 4, pos := "law.go:132", after := #[{ on := 14, ground := Ground.data }, { on := 13, ground := Ground.guard }], guard := some (13, true) }) (v := ?_) rfl (by kernel_rfl) (by kernel_rfl) (by kernel_rfl) (fun _ _ _ h => h) (Or.inl ⟨by rfl, ?_⟩) (by assumption) ?_
            rotate_left 1
            · intro w hSw; obtain ⟨s0, s1⟩ := hSw; first | (go_simp; done) | (go_simp; with_reducible rfl)
            try simp only [Act.put, List.setIfInBounds_toArray, List.set_cons_zero, List.set_cons_succ]
            refine wpAnyH_take (i := 16) (oi := { dst := some 99, op := Op.move (Operand.tmp 98), type := 4, pos := "law.go:132", after := #[{ on := 15, ground := Ground.data }, { on := 13, ground := Ground.chain }, { on := 13, ground := Ground.guard }], guard := some (13, true) }) (v := ?_) rfl (by kernel_rfl) (by kernel_rfl) (by kernel_rfl) (fun _ _ _ h => h) (Or.inl ⟨by rfl, ?_⟩) (by assumption) ?_
            rotate_left 1
            · intro w hSw; obtain ⟨s0, s1⟩ := hSw; first | (go_simp; done) | (go_simp; with_reducible rfl)
            try simp only [Act.put, List.setIfInBounds_toArray, List.set_cons_zero, List.set_cons_succ]
            refine wpAnyH_take (i := 17) (oi := { dst := some 100, op := Op.load 23 (Operand.tmp 4), type := 23, pos := "law.go:132", after := #[{ on := 16, ground := Ground.guard }], guard := some (16, false) }) (v := undef) rfl (by kernel_rfl) (by kernel_rfl) (by kernel_rfl) (fun _ _ _ h => h) (Or.inr ⟨by rfl, rfl⟩) (by assumption) ?_
            try simp only [Act.put, List.setIfInBounds_toArray, List.set_cons_zero, List.set_cons_succ]
            refine wpAnyH_take (i := 18) (oi := { dst := some 101, op := Op.move (Operand.tmp 6), type := 26, pos := "law.go:132", after := #[{ on := 16, ground := Ground.guard }], guard := some (16, false) }) (v := undef) rfl (by kernel_rfl) (by kernel_rfl) (by kernel_rfl) (fun _ _ _ h => h) (Or.inr ⟨by rfl, rfl⟩) (by assumption) ?_
            try simp only [Act.put, List.setIfInBounds_toArray, List.set_cons_zero, List.set_cons_succ]
            refine wpAnyH_take (i := 19) (oi := { dst := some 102, op := Op.move (Operand.tmp 12), type := 3, pos := "law.go:132", after := #[{ on := 16, ground := Ground.guard }], guard := some (16, false) }) (v := undef) rfl (by kernel_rfl) (by kernel_rfl) (by kernel_rfl) (fun _ _ _ h => h) (Or.inr ⟨by rfl, rfl⟩) (by assumption) ?_
            try simp only [Act.put, List.setIfInBounds_toArray, List.set_cons_zero, List.set_cons_succ]
            refine wpAnyH_take (i := 20) (oi := { dst := some 103, op := Op.move (Operand.tmp 12), type := 3, pos := "law.go:132", after := #[{ on := 16, ground := Ground.guard }], guard := some (16, false) }) (v := undef) rfl (by kernel_rfl) (by kernel_rfl) (by kernel_rfl) (fun _ _ _ h => h) (Or.inr ⟨by rfl, rfl⟩) (by assumption) ?_
            try simp only [Act.put, List.setIfInBounds_toArray, List.set_cons_zero, List.set_cons_succ]
            refine wpAnyH_take (i := 21) (oi := { dst := some 104, op := Op.binOp BinOp.add 3 (Operand.tmp 103) (Operand.const (Value.int IntKind.i64 5)) 3, type := 3, pos := "law.go:132", after := #[{ on := 20, ground := Ground.data }, { on := 16, ground := Ground.guard }], guard := some (16, false) }) (v := undef) rfl (by kernel_rfl) (by kernel_rfl) (by kernel_rfl) (fun _ _ _ h => h) (Or.inr ⟨by rfl, rfl⟩) (by assumption) ?_
            try simp only [Act.put, List.setIfInBounds_toArray, List.set_cons_zero, List.set_cons_succ]
            refine wpAnyH_take (i := 22) (oi := { dst := some 105, op := Op.slice 26 (Operand.tmp 101) (some (Operand.tmp 102)) (some (Operand.tmp 104)) none, type := 26, pos := "law.go:132", after := #[{ on := 18, ground := Ground.data }, { on := 19, ground := Ground.data }, { on := 21, ground := Ground.data }, { on := 16, ground := Ground.guard }], guard := some (16, false) }) (v := undef) rfl (by kernel_rfl) (by kernel_rfl) (by kernel_rfl) (fun _ _ _ h => h) (Or.inr ⟨by rfl, rfl⟩) (by assumption) ?_
            try simp only [Act.put, List.setIfInBounds_toArray, List.set_cons_zero, List.set_cons_succ]
            refine wpAnyH_take (i := 23) (oi := { dst := some 106, op := Op.call { callee := Callee.value (Operand.func 16), args := #[Operand.tmp 100, Operand.tmp 105], argTypes := #[23, 26] }, type := 4, pos := "law.go:132", after := #[{ on := 17, ground := Ground.data }, { on := 22, ground := Ground.data }, { on := 16, ground := Ground.chain }, { on := 16, ground := Ground.guard }], guard := some (16, false) }) (v := undef) rfl (by kernel_rfl) (by kernel_rfl) (by kernel_rfl) (fun _ _ _ h => h) (Or.inr ⟨by rfl, rfl⟩) (by assumption) ?_
            try simp only [Act.put, List.setIfInBounds_toArray, List.set_cons_zero, List.set_cons_succ]
            refine wpAnyH_take (i := 24) (oi := { dst := some 107, op := Op.pick (Operand.tmp 99) (Operand.const (Value.bool true)) (Operand.tmp 106), type := 4, pos := "law.go:132", after := #[{ on := 16, ground := Ground.data }, { on := 23, ground := Ground.data }, { on := 13, ground := Ground.guard }], guard := some (13, true) }) (v := ?_) rfl (by kernel_rfl) (by kernel_rfl) (by kernel_rfl) (fun _ _ _ h => h) (Or.inl ⟨by rfl, ?_⟩) (by assumption) ?_
            rotate_left 1
            · intro w hSw; obtain ⟨s0, s1⟩ := hSw; first | (go_simp; done) | (go_simp; with_reducible rfl)
            try simp only [Act.put, List.setIfInBounds_toArray, List.set_cons_zero, List.set_cons_succ]
            refine wpAnyH_take (i := 25) (oi := { dst := some 108, op := Op.pick (Operand.tmp 96) (Operand.tmp 107) (Operand.const (Value.bool false)), type := 4, pos := "law.go:132", after := #[{ on := 13, ground := Ground.data }, { on := 24, ground := Ground.data }], guard := none }) (v := ?_) rfl (by kernel_rfl) (by kernel_rfl) (by kernel_rfl) (fun _ _ _ h => h) (Or.inl ⟨by rfl, ?_⟩) (by assumption) ?_
            rotate_left 1
            · intro w hSw; obtain ⟨s0, s1⟩ := hSw; first | (go_simp; done) | (go_simp; with_reducible rfl)
            try simp only [Act.put, List.setIfInBounds_toArray, List.set_cons_zero, List.set_cons_succ]
            refine wpAnyH_take (i := 26) (oi := { dst := some 109, op := Op.move (Operand.tmp 108), type := 4, pos := "law.go:132", after := #[{ on := 25, ground := Ground.data }, { on := 23, ground := Ground.chain }], guard := none }) (v := ?_) rfl (by kernel_rfl) (by kernel_rfl) (by kernel_rfl) (fun _ _ _ h => h) (Or.inl ⟨by rfl, ?_⟩) (by assumption) ?_
            rotate_left 1
            · intro w hSw; obtain ⟨s0, s1⟩ := hSw; first | (go_simp; done) | (go_simp; with_reducible rfl)
            try simp only [Act.put, List.setIfInBounds_toArray, List.set_cons_zero, List.set_cons_succ]
            refine wpAnyH_ready (rs := [27]) (by kernel_rfl) (by simp) (AllReadyH.cons (o := { dst := some 110, op := Op.call { callee := Callee.value (Operand.func 8), args := #[], argTypes := #[] }, type := 4, pos := "law.go:132", after := #[{ on := 26, ground := Ground.chain }, { on := 26, ground := Ground.guard }], guard := some (26, true) }) rfl (fun K hK => ?_) AllReadyH.nil)
            go_simp
            refine (awake_any _).mono ?_
            rintro e' wb ⟨rfl, hga⟩
            have GB := Lib.hid (grown_trans (grown_drewN w10 1 none) hga)
            clear hga
            try dsimp only
            refine hK.out _ _ ?_ (fun hHeld => ?_)
            · exact HK.out _ GB.out
            clear hK K
            try simp only [Act.put, List.setIfInBounds_toArray, List.set_cons_zero, List.set_cons_succ]
            refine wpAnyH_take (i := 28) (oi := { dst := some 111, op := Op.pick (Operand.tmp 109) (Operand.tmp 110) (Operand.const (Value.bool false)), type := 4, pos := "law.go:132", after := #[{ on := 26, ground := Ground.data }, { on := 27, ground := Ground.data }], guard := none }) (v := ?_) rfl (by kernel_rfl) (by kernel_rfl) (by kernel_rfl) (fun _ _ _ h => h) (Or.inl ⟨by rfl, ?_⟩) (by assumption) ?_
            rotate_left 1
            · intro w hSw; obtain ⟨s0, s1⟩ := hSw; first | (go_simp; done) | (go_simp; with_reducible rfl)
            try simp only [Act.put, List.setIfInBounds_toArray, List.set_cons_zero, List.set_cons_succ]
            refine wpAnyH_take (i := 29) (oi := { dst := some 2, op := Op.assign (Operand.tmp 111), type := 4, pos := "law.go:132", after := #[{ on := 28, ground := Ground.data }, { on := 27, ground := Ground.chain }, { on := 0, ground := Ground.phase }, { on := 1, ground := Ground.phase }, { on := 2, ground := Ground.phase }, { on := 3, ground := Ground.phase }, { on := 4, ground := Ground.phase }, { on := 5, ground := Ground.phase }, { on := 6, ground := Ground.phase }, { on := 7, ground := Ground.phase }, { on := 8, ground := Ground.phase }, { on := 9, ground := Ground.phase }, { on := 10, ground := Ground.phase }, { on := 11, ground := Ground.phase }, { on := 12, ground := Ground.phase }, { on := 13, ground := Ground.phase }, { on := 14, ground := Ground.phase }, { on := 15, ground := Ground.phase }, { on := 16, ground := Ground.phase }, { on := 17, ground := Ground.phase }, { on := 18, ground := Ground.phase }, { on := 19, ground := Ground.phase }, { on := 20, ground := Ground.phase }, { on := 21, ground := Ground.phase }, { on := 22, ground := Ground.phase }, { on := 23, ground := Ground.phase }, { on := 24, ground := Ground.phase }, { on := 25, ground := Ground.phase }, { on := 26, ground := Ground.phase }, { on := 27, ground := Ground.phase }, { on := 28, ground := Ground.phase }], guard := none }) (v := ?_) rfl (by kernel_rfl) (by kernel_rfl) (by kernel_rfl) (fun _ _ _ h => h) (Or.inl ⟨by rfl, ?_⟩) (by assumption) ?_
            rotate_left 1
            · intro w hSw; obtain ⟨s0, s1⟩ := hSw; first | (go_simp; done) | (go_simp; with_reducible rfl)
            try simp only [Act.put, List.setIfInBounds_toArray, List.set_cons_zero, List.set_cons_succ]
            refine wpAnyH_done (by kernel_rfl) ?_ _
            have GF := Lib.hid (grown_below (grown_trans GR.out (grown_trans GA.out GB.out)))
            go_wp2
            go_ret
            exact ⟨rfl, GF.out⟩
          · have HRq := Lib.hid (fun w' (hg : w10.grownBy w' none) => repeats_any v t g6 (0 + q) 5 (cap6 - q) _ (Pm.at' x q) _ w' (by omega) (fun _ => rfl) ((R6.out.grown (grown_trans GA.out hg) (by simp)).at' q 5 hq) (.said V.out (by omega) (by omega) (X6.out.at' q 5 hq)))
            rw [hrep] at HRq
            rw [Nat.zero_add] at HRq
            unfold pv at HRq
            have hsl := slice5 g6 0 n cap6 q (by omega)
            rw [Nat.zero_add] at hsl
            have b4 : IntKind.i64.wrap ((q : Int) + 5) = (q : Int) + 5 := IntWalk.i64_in _ (by omega)
            clear hrep PR1 PR2
            go_wp2_with fail
            refine wp_region_held_drew (S := (fun w' => w'.cell? ⟨X, 0, none⟩ = some (.int .i64 v) ∧ w'.cell? ⟨X, 1, none⟩ = some (.int .i64 t))) (by kernel_rfl) ?_ (fun hHeld => ?_)
            · exact HK.out _ (grown_drewN _ 1 _)
            try simp only [Act.put, List.setIfInBounds_toArray, List.set_cons_zero, List.set_cons_succ]
            refine wpAnyH_take (i := 0) (oi := { dst := some 83, op := Op.move (Operand.tmp 13), type := 39, pos := "law.go:132", after := #[], guard := none }) (v := ?_) rfl (by kernel_rfl) (by kernel_rfl) (by kernel_rfl) (fun _ _ _ h => h) (Or.inl ⟨by rfl, ?_⟩) (by assumption) ?_
            rotate_left 1
            · intro w hSw; obtain ⟨s0, s1⟩ := hSw; first | (go_simp; done) | (go_simp; with_reducible rfl)
            try simp only [Act.put, List.setIfInBounds_toArray, List.set_cons_zero, List.set_cons_succ]
            refine wpAnyH_take (i := 1) (oi := { dst := some 84, op := Op.move (Operand.tmp 16), type := 39, pos := "law.go:132", after := #[], guard := none }) (v := ?_) rfl (by kernel_rfl) (by kernel_rfl) (by kernel_rfl) (fun _ _ _ h => h) (Or.inl ⟨by rfl, ?_⟩) (by assumption) ?_
            rotate_left 1
            · intro w hSw; obtain ⟨s0, s1⟩ := hSw; first | (go_simp; done) | (go_simp; with_reducible rfl)
            try simp only [Act.put, List.setIfInBounds_toArray, List.set_cons_zero, List.set_cons_succ]
            refine wpAnyH_take (i := 2) (oi := { dst := some 85, op := Op.binOp BinOp.eql 39 (Operand.tmp 83) (Operand.tmp 84) 39, type := 4, pos := "law.go:132", after := #[{ on := 0, ground := Ground.data }, { on := 1, ground := Ground.data }], guard := none }) (v := ?_) rfl (by kernel_rfl) (by kernel_rfl) (by kernel_rfl) (fun _ _ _ h => h) (Or.inl ⟨by rfl, ?_⟩) (by assumption) ?_
            rotate_left 1
            · intro w hSw; obtain ⟨s0, s1⟩ := hSw; first | (go_simp; done) | (go_simp; with_reducible rfl)
            try simp only [Act.put, List.setIfInBounds_toArray, List.set_cons_zero, List.set_cons_succ]
            refine wpAnyH_take (i := 3) (oi := { dst := some 86, op := Op.move (Operand.tmp 85), type := 4, pos := "law.go:132", after := #[{ on := 2, ground := Ground.data }], guard := none }) (v := ?_) rfl (by kernel_rfl) (by kernel_rfl) (by kernel_rfl) (fun _ _ _ h => h) (Or.inl ⟨by rfl, ?_⟩) (by assumption) ?_
            rotate_left 1
            · intro w hSw; obtain ⟨s0, s1⟩ := hSw; first | (go_simp; done) | (go_simp; with_reducible rfl)
            try simp only [Act.put, List.setIfInBounds_toArray, List.set_cons_zero, List.set_cons_succ]
            refine wpAnyH_take (i := 4) (oi := { dst := some 87, op := Op.move (Operand.tmp 11), type := 3, pos := "law.go:132", after := #[{ on := 3, ground := Ground.guard }], guard := some (3, true) }) (v := ?_) rfl (by kernel_rfl) (by kernel_rfl) (by kernel_rfl) (fun _ _ _ h => h) (Or.inl ⟨by rfl, ?_⟩) (by assumption) ?_
            rotate_left 1
            · intro w hSw; obtain ⟨s0, s1⟩ := hSw; first | (go_simp; done) | (go_simp; with_reducible rfl)
            try simp only [Act.put, List.setIfInBounds_toArray, List.set_cons_zero, List.set_cons_succ]
            refine wpAnyH_take (i := 5) (oi := { dst := some 88, op := Op.move (Operand.tmp 14), type := 3, pos := "law.go:132", after := #[{ on := 3, ground := Ground.guard }], guard := some (3, true) }) (v := ?_) rfl (by kernel_rfl) (by kernel_rfl) (by kernel_rfl) (fun _ _ _ h => h) (Or.inl ⟨by rfl, ?_⟩) (by assumption) ?_
            rotate_left 1
            · intro w hSw; obtain ⟨s0, s1⟩ := hSw; first | (go_simp; done) | (go_simp; with_reducible rfl)
            try simp only [Act.put, List.setIfInBounds_toArray, List.set_cons_zero, List.set_cons_succ]
            refine wpAnyH_take (i := 6) (oi := { dst := some 89, op := Op.binOp BinOp.eql 3 (Operand.tmp 87) (Operand.tmp 88) 3, type := 4, pos := "law.go:132", after := #[{ on := 4, ground := Ground.data }, { on := 5, ground := Ground.data }, { on := 3, ground := Ground.guard }], guard := some (3, true) }) (v := ?_) rfl (by kernel_rfl) (by kernel_rfl) (by kernel_rfl) (fun _ _ _ h => h) (Or.inl ⟨by rfl, ?_⟩) (by assumption) ?_
            rotate_left 1
            · intro w hSw; obtain ⟨s0, s1⟩ := hSw; first | (go_simp; done) | (go_simp; with_reducible rfl)
            try simp only [Act.put, List.setIfInBounds_toArray, List.set_cons_zero, List.set_cons_succ]
            refine wpAnyH_take (i := 7) (oi := { dst := some 90, op := Op.pick (Operand.tmp 86) (Operand.tmp 89) (Operand.const (Value.bool false)), type := 4, pos := "law.go:132", after := #[{ on := 3, ground := Ground.data }, { on := 6, ground := Ground.data }], guard := none }) (v := ?_) rfl (by kernel_rfl) (by kernel_rfl) (by kernel_rfl) (fun _ _ _ h => h) (Or.inl ⟨by rfl, ?_⟩) (by assumption) ?_
            rotate_left 1
            · intro w hSw; obtain ⟨s0, s1⟩ := hSw; first | (go_simp; done) | (go_simp; with_reducible rfl)
            try simp only [Act.put, List.setIfInBounds_toArray, List.set_cons_zero, List.set_cons_succ]
            refine wpAnyH_take (i := 8) (oi := { dst := some 91, op := Op.move (Operand.tmp 90), type := 4, pos := "law.go:132", after := #[{ on := 7, ground := Ground.data }, { on := 3, ground := Ground.chain }], guard := none }) (v := ?_) rfl (by kernel_rfl) (by kernel_rfl) (by kernel_rfl) (fun _ _ _ h => h) (Or.inl ⟨by rfl, ?_⟩) (by assumption) ?_
            rotate_left 1
            · intro w hSw; obtain ⟨s0, s1⟩ := hSw; first | (go_simp; done) | (go_simp; with_reducible rfl)
            try simp only [Act.put, List.setIfInBounds_toArray, List.set_cons_zero, List.set_cons_succ]
            refine wpAnyH_take (i := 9) (oi := { dst := some 92, op := Op.move (Operand.tmp 12), type := 3, pos := "law.go:132", after := #[{ on := 8, ground := Ground.guard }], guard := some (8, true) }) (v := ?_) rfl (by kernel_rfl) (by kernel_rfl) (by kernel_rfl) (fun _ _ _ h => h) (Or.inl ⟨by rfl, ?_⟩) (by assumption) ?_
            rotate_left 1
            · intro w hSw; obtain ⟨s0, s1⟩ := hSw; first | (go_simp; done) | (go_simp; with_reducible rfl)
            try simp only [Act.put, List.setIfInBounds_toArray, List.set_cons_zero, List.set_cons_succ]
            refine wpAnyH_take (i := 10) (oi := { dst := some 93, op := Op.move (Operand.tmp 15), type := 3, pos := "law.go:132", after := #[{ on := 8, ground := Ground.guard }], guard := some (8, true) }) (v := ?_) rfl (by kernel_rfl) (by kernel_rfl) (by kernel_rfl) (fun _ _ _ h => h) (Or.inl ⟨by rfl, ?_⟩) (by assumption) ?_
            rotate_left 1
            · intro w hSw; obtain ⟨s0, s1⟩ := hSw; first | (go_simp; done) | (go_simp; with_reducible rfl)
            try simp only [Act.put, List.setIfInBounds_toArray, List.set_cons_zero, List.set_cons_succ]
            refine wpAnyH_take (i := 11) (oi := { dst := some 94, op := Op.binOp BinOp.eql 3 (Operand.tmp 92) (Operand.tmp 93) 3, type := 4, pos := "law.go:132", after := #[{ on := 9, ground := Ground.data }, { on := 10, ground := Ground.data }, { on := 8, ground := Ground.guard }], guard := some (8, true) }) (v := ?_) rfl (by kernel_rfl) (by kernel_rfl) (by kernel_rfl) (fun _ _ _ h => h) (Or.inl ⟨by rfl, ?_⟩) (by assumption) ?_
            rotate_left 1
            · intro w hSw; obtain ⟨s0, s1⟩ := hSw; first | (go_simp; done) | (go_simp; with_reducible rfl)
            try simp only [Act.put, List.setIfInBounds_toArray, List.set_cons_zero, List.set_cons_succ]
            refine wpAnyH_take (i := 12) (oi := { dst := some 95, op := Op.pick (Operand.tmp 91) (Operand.tmp 94) (Operand.const (Value.bool false)), type := 4, pos := "law.go:132", after := #[{ on := 8, ground := Ground.data }, { on := 11, ground := Ground.data }], guard := none }) (v := ?_) rfl (by kernel_rfl) (by kernel_rfl) (by kernel_rfl) (fun _ _ _ h => h) (Or.inl ⟨by rfl, ?_⟩) (by assumption) ?_
            rotate_left 1
            · intro w hSw; obtain ⟨s0, s1⟩ := hSw; first | (go_simp; done) | (go_simp; with_reducible rfl)
            try simp only [Act.put, List.setIfInBounds_toArray, List.set_cons_zero, List.set_cons_succ]
            refine wpAnyH_take (i := 13) (oi := { dst := some 96, op := Op.move (Operand.tmp 95), type := 4, pos := "law.go:132", after := #[{ on := 12, ground := Ground.data }, { on := 8, ground := Ground.chain }], guard := none }) (v := ?_) rfl (by kernel_rfl) (by kernel_rfl) (by kernel_rfl) (fun _ _ _ h => h) (Or.inl ⟨by rfl, ?_⟩) (by assumption) ?_
            rotate_left 1
            · intro w hSw; obtain ⟨s0, s1⟩ := hSw; first | (go_simp; done) | (go_simp; with_reducible rfl)
            try simp only [Act.put, List.setIfInBounds_toArray, List.set_cons_zero, List.set_cons_succ]
            refine wpAnyH_take (i := 14) (oi := { dst := some 97, op := Op.move (Operand.tmp 13), type := 39, pos := "law.go:132", after := #[{ on := 13, ground := Ground.guard }], guard := some (13, true) }) (v := ?_) rfl (by kernel_rfl) (by kernel_rfl) (by kernel_rfl) (fun _ _ _ h => h) (Or.inl ⟨by rfl, ?_⟩) (by assumption) ?_
            rotate_left 1
            · intro w hSw; obtain ⟨s0, s1⟩ := hSw; first | (go_simp; done) | (go_simp; with_reducible rfl)
            try simp only [Act.put, List.setIfInBounds_toArray, List.set_cons_zero, List.set_cons_succ]
            refine wpAnyH_take (i := 15) (oi := { dst := some 98, op := Op.binOp BinOp.neq 39 (Operand.tmp 97) (Operand.const (Value.int IntKind.i64 0)) 39, type := 4, pos := "law.go:132", after := #[{ on := 14, ground := Ground.data }, { on := 13, ground := Ground.guard }], guard := some (13, true) }) (v := ?_) rfl (by kernel_rfl) (by kernel_rfl) (by kernel_rfl) (fun _ _ _ h => h) (Or.inl ⟨by rfl, ?_⟩) (by assumption) ?_
            rotate_left 1
            · intro w hSw; obtain ⟨s0, s1⟩ := hSw; first | (go_simp; done) | (go_simp; with_reducible rfl)
            try simp only [Act.put, List.setIfInBounds_toArray, List.set_cons_zero, List.set_cons_succ]
            refine wpAnyH_take (i := 16) (oi := { dst := some 99, op := Op.move (Operand.tmp 98), type := 4, pos := "law.go:132", after := #[{ on := 15, ground := Ground.data }, { on := 13, ground := Ground.chain }, { on := 13, ground := Ground.guard }], guard := some (13, true) }) (v := ?_) rfl (by kernel_rfl) (by kernel_rfl) (by kernel_rfl) (fun _ _ _ h => h) (Or.inl ⟨by rfl, ?_⟩) (by assumption) ?_
            rotate_left 1
            · intro w hSw; obtain ⟨s0, s1⟩ := hSw; first | (go_simp; done) | (go_simp; with_reducible rfl)
            try simp only [Act.put, List.setIfInBounds_toArray, List.set_cons_zero, List.set_cons_succ]
            refine wpAnyH_take (i := 17) (oi := { dst := some 100, op := Op.load 23 (Operand.tmp 4), type := 23, pos := "law.go:132", after := #[{ on := 16, ground := Ground.guard }], guard := some (16, false) }) (v := ?_) rfl (by kernel_rfl) (by kernel_rfl) (by kernel_rfl) (fun _ _ _ h => h) (Or.inl ⟨by rfl, ?_⟩) (by assumption) ?_
            rotate_left 1
            · intro w hSw; obtain ⟨s0, s1⟩ := hSw; first | (go_simp; done) | (go_simp; with_reducible rfl)
            try simp only [Act.put, List.setIfInBounds_toArray, List.set_cons_zero, List.set_cons_succ]
            refine wpAnyH_take (i := 18) (oi := { dst := some 101, op := Op.move (Operand.tmp 6), type := 26, pos := "law.go:132", after := #[{ on := 16, ground := Ground.guard }], guard := some (16, false) }) (v := ?_) rfl (by kernel_rfl) (by kernel_rfl) (by kernel_rfl) (fun _ _ _ h => h) (Or.inl ⟨by rfl, ?_⟩) (by assumption) ?_
            rotate_left 1
            · intro w hSw; obtain ⟨s0, s1⟩ := hSw; first | (go_simp; done) | (go_simp; with_reducible rfl)
            try simp only [Act.put, List.setIfInBounds_toArray, List.set_cons_zero, List.set_cons_succ]
            refine wpAnyH_take (i := 19) (oi := { dst := some 102, op := Op.move (Operand.tmp 12), type := 3, pos := "law.go:132", after := #[{ on := 16, ground := Ground.guard }], guard := some (16, false) }) (v := ?_) rfl (by kernel_rfl) (by kernel_rfl) (by kernel_rfl) (fun _ _ _ h => h) (Or.inl ⟨by rfl, ?_⟩) (by assumption) ?_
            rotate_left 1
            · intro w hSw; obtain ⟨s0, s1⟩ := hSw; first | (go_simp; done) | (go_simp; with_reducible rfl)
            try simp only [Act.put, List.setIfInBounds_toArray, List.set_cons_zero, List.set_cons_succ]
            refine wpAnyH_take (i := 20) (oi := { dst := some 103, op := Op.move (Operand.tmp 12), type := 3, pos := "law.go:132", after := #[{ on := 16, ground := Ground.guard }], guard := some (16, false) }) (v := ?_) rfl (by kernel_rfl) (by kernel_rfl) (by kernel_rfl) (fun _ _ _ h => h) (Or.inl ⟨by rfl, ?_⟩) (by assumption) ?_
            rotate_left 1
            · intro w hSw; obtain ⟨s0, s1⟩ := hSw; first | (go_simp; done) | (go_simp; with_reducible rfl)
            try simp only [Act.put, List.setIfInBounds_toArray, List.set_cons_zero, List.set_cons_succ]
            refine wpAnyH_take (i := 21) (oi := { dst := some 104, op := Op.binOp BinOp.add 3 (Operand.tmp 103) (Operand.const (Value.int IntKind.i64 5)) 3, type := 3, pos := "law.go:132", after := #[{ on := 20, ground := Ground.data }, { on := 16, ground := Ground.guard }], guard := some (16, false) }) (v := ?_) rfl (by kernel_rfl) (by kernel_rfl) (by kernel_rfl) (fun _ _ _ h => h) (Or.inl ⟨by rfl, ?_⟩) (by assumption) ?_
            rotate_left 1
            · intro w hSw; obtain ⟨s0, s1⟩ := hSw; first | (go_simp; done) | (go_simp; with_reducible rfl)
            try simp only [Act.put, List.setIfInBounds_toArray, List.set_cons_zero, List.set_cons_succ]
            refine wpAnyH_take (i := 22) (oi := { dst := some 105, op := Op.slice 26 (Operand.tmp 101) (some (Operand.tmp 102)) (some (Operand.tmp 104)) none, type := 26, pos := "law.go:132", after := #[{ on := 18, ground := Ground.data }, { on := 19, ground := Ground.data }, { on := 21, ground := Ground.data }, { on := 16, ground := Ground.guard }], guard := some (16, false) }) (v := ?_) rfl (by kernel_rfl) (by kernel_rfl) (by kernel_rfl) (fun _ _ _ h => h) (Or.inl ⟨by rfl, ?_⟩) (by assumption) ?_
            rotate_left 1
            · intro w hSw; obtain ⟨s0, s1⟩ := hSw; first | (go_simp; done) | (go_simp; with_reducible rfl)
            try simp only [Act.put, List.setIfInBounds_toArray, List.set_cons_zero, List.set_cons_succ]
            refine wpAnyH_ready (rs := [23]) (by kernel_rfl) (by simp) (AllReadyH.cons (o := { dst := some 106, op := Op.call { callee := Callee.value (Operand.func 16), args := #[Operand.tmp 100, Operand.tmp 105], argTypes := #[23, 26] }, type := 4, pos := "law.go:132", after := #[{ on := 17, ground := Ground.data }, { on := 22, ground := Ground.data }, { on := 16, ground := Ground.chain }, { on := 16, ground := Ground.guard }], guard := some (16, false) }) rfl (fun K hK => ?_) AllReadyH.nil)
            go_simp
            refine (HRq.out _ (grown_drewN w10 1 none)).mono ?_
            rintro e' wb ⟨rfl, hga⟩
            have GB := Lib.hid (grown_trans (grown_drewN w10 1 none) hga)
            clear hga
            try dsimp only
            refine hK.out _ _ ?_ (fun hHeld => ?_)
            · exact HK.out _ GB.out
            clear hK K
            try simp only [Act.put, List.setIfInBounds_toArray, List.set_cons_zero, List.set_cons_succ]
            refine wpAnyH_take (i := 24) (oi := { dst := some 107, op := Op.pick (Operand.tmp 99) (Operand.const (Value.bool true)) (Operand.tmp 106), type := 4, pos := "law.go:132", after := #[{ on := 16, ground := Ground.data }, { on := 23, ground := Ground.data }, { on := 13, ground := Ground.guard }], guard := some (13, true) }) (v := ?_) rfl (by kernel_rfl) (by kernel_rfl) (by kernel_rfl) (fun _ _ _ h => h) (Or.inl ⟨by rfl, ?_⟩) (by assumption) ?_
            rotate_left 1
            · intro w hSw; obtain ⟨s0, s1⟩ := hSw; first | (go_simp; done) | (go_simp; with_reducible rfl)
            try simp only [Act.put, List.setIfInBounds_toArray, List.set_cons_zero, List.set_cons_succ]
            refine wpAnyH_take (i := 25) (oi := { dst := some 108, op := Op.pick (Operand.tmp 96) (Operand.tmp 107) (Operand.const (Value.bool false)), type := 4, pos := "law.go:132", after := #[{ on := 13, ground := Ground.data }, { on := 24, ground := Ground.data }], guard := none }) (v := ?_) rfl (by kernel_rfl) (by kernel_rfl) (by kernel_rfl) (fun _ _ _ h => h) (Or.inl ⟨by rfl, ?_⟩) (by assumption) ?_
            rotate_left 1
            · intro w hSw; obtain ⟨s0, s1⟩ := hSw; first | (go_simp; done) | (go_simp; with_reducible rfl)
            try simp only [Act.put, List.setIfInBounds_toArray, List.set_cons_zero, List.set_cons_succ]
            refine wpAnyH_take (i := 26) (oi := { dst := some 109, op := Op.move (Operand.tmp 108), type := 4, pos := "law.go:132", after := #[{ on := 25, ground := Ground.data }, { on := 23, ground := Ground.chain }], guard := none }) (v := ?_) rfl (by kernel_rfl) (by kernel_rfl) (by kernel_rfl) (fun _ _ _ h => h) (Or.inl ⟨by rfl, ?_⟩) (by assumption) ?_
            rotate_left 1
            · intro w hSw; obtain ⟨s0, s1⟩ := hSw; first | (go_simp; done) | (go_simp; with_reducible rfl)
            try simp only [Act.put, List.setIfInBounds_toArray, List.set_cons_zero, List.set_cons_succ]
            refine wpAnyH_ready (rs := [27]) (by kernel_rfl) (by simp) (AllReadyH.cons (o := { dst := some 110, op := Op.call { callee := Callee.value (Operand.func 8), args := #[], argTypes := #[] }, type := 4, pos := "law.go:132", after := #[{ on := 26, ground := Ground.chain }, { on := 26, ground := Ground.guard }], guard := some (26, true) }) rfl (fun K hK => ?_) AllReadyH.nil)
            go_simp
            refine (awake_any _).mono ?_
            rintro e' wc ⟨rfl, hga⟩
            have GC := Lib.hid (grown_trans GB.out hga)
            clear hga
            try dsimp only
            refine hK.out _ _ ?_ (fun hHeld => ?_)
            · exact HK.out _ GC.out
            clear hK K
            try simp only [Act.put, List.setIfInBounds_toArray, List.set_cons_zero, List.set_cons_succ]
            refine wpAnyH_take (i := 28) (oi := { dst := some 111, op := Op.pick (Operand.tmp 109) (Operand.tmp 110) (Operand.const (Value.bool false)), type := 4, pos := "law.go:132", after := #[{ on := 26, ground := Ground.data }, { on := 27, ground := Ground.data }], guard := none }) (v := ?_) rfl (by kernel_rfl) (by kernel_rfl) (by kernel_rfl) (fun _ _ _ h => h) (Or.inl ⟨by rfl, ?_⟩) (by assumption) ?_
            rotate_left 1
            · intro w hSw; obtain ⟨s0, s1⟩ := hSw; first | (go_simp; done) | (go_simp; with_reducible rfl)
            try simp only [Act.put, List.setIfInBounds_toArray, List.set_cons_zero, List.set_cons_succ]
            refine wpAnyH_take (i := 29) (oi := { dst := some 2, op := Op.assign (Operand.tmp 111), type := 4, pos := "law.go:132", after := #[{ on := 28, ground := Ground.data }, { on := 27, ground := Ground.chain }, { on := 0, ground := Ground.phase }, { on := 1, ground := Ground.phase }, { on := 2, ground := Ground.phase }, { on := 3, ground := Ground.phase }, { on := 4, ground := Ground.phase }, { on := 5, ground := Ground.phase }, { on := 6, ground := Ground.phase }, { on := 7, ground := Ground.phase }, { on := 8, ground := Ground.phase }, { on := 9, ground := Ground.phase }, { on := 10, ground := Ground.phase }, { on := 11, ground := Ground.phase }, { on := 12, ground := Ground.phase }, { on := 13, ground := Ground.phase }, { on := 14, ground := Ground.phase }, { on := 15, ground := Ground.phase }, { on := 16, ground := Ground.phase }, { on := 17, ground := Ground.phase }, { on := 18, ground := Ground.phase }, { on := 19, ground := Ground.phase }, { on := 20, ground := Ground.phase }, { on := 21, ground := Ground.phase }, { on := 22, ground := Ground.phase }, { on := 23, ground := Ground.phase }, { on := 24, ground := Ground.phase }, { on := 25, ground := Ground.phase }, { on := 26, ground := Ground.phase }, { on := 27, ground := Ground.phase }, { on := 28, ground := Ground.phase }], guard := none }) (v := ?_) rfl (by kernel_rfl) (by kernel_rfl) (by kernel_rfl) (fun _ _ _ h => h) (Or.inl ⟨by rfl, ?_⟩) (by assumption) ?_
            rotate_left 1
            · intro w hSw; obtain ⟨s0, s1⟩ := hSw; first | (go_simp; done) | (go_simp; with_reducible rfl)
            try simp only [Act.put, List.setIfInBounds_toArray, List.set_cons_zero, List.set_cons_succ]
            refine wpAnyH_done (by kernel_rfl) ?_ _
            have GF := Lib.hid (grown_below (grown_trans GR.out (grown_trans GA.out GC.out)))
            go_wp2
            go_ret
            exact ⟨rfl, GF.out⟩
end Go.Proofs.Ytjeejdoahhkjbaa
