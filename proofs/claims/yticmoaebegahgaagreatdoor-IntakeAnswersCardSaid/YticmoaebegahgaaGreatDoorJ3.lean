import Derived.Test.YticmoaebegahgaaGreatDoorJ2
import Derived.Lib.AppendZerosOnto
import Derived.Lib.Overlaps
set_option linter.all false
namespace Go.Proofs.YticmoaebegahgaaGreatDoor.Iw
open Go.ChangeShapes Go.WideShapes Go.ChangeAt Go.RowKit
open Wr (IR RB iv ivs bv bvs grown_trans grown_refl grown_alloc ret_int ret_bool tv Ret ret_mk)
def cmpI (a b : Int) : Int := if a < b then -1 else if b < a then 1 else 0
theorem cmp_neg {a b : Int} : cmpI a b < 0 ↔ a < b := by unfold cmpI; split <;> rename_i h; simp [h]; split <;> omega
theorem cmp_zero {a b : Int} : cmpI a b = 0 ↔ a = b := by unfold cmpI; split; omega; split <;> omega
theorem compare_any (a b : Int) (w : World) : Calls Tryz.prog 74 #[.int .i64 a, .int .i64 b] w fun e w' => e = .returned (.int .i64 (cmpI a b)) ∧ w = w' := by
  have N := Hi (fun (x : Int) (W : World) => show Calls Tryz.prog 84 #[.int .i64 x] W (fun e w' => e = .returned (.bool false) ∧ W = w') by
    go_enter Tryz.func84, Tryz.ntmps84
    go_wp2
    go_ret
    exact ⟨rfl, rfl⟩)
  rcases Int.lt_trichotomy a b with h | h | h
  · have E := Hi (show cmpI a b = -1 by simp [cmpI, h])
    go_enter Tryz.func74, Tryz.ntmps74
    go_wp2_with fail
    refine (N.out _ _).mono ?_
    rintro e w1 ⟨rfl, rfl⟩
    go_wp2_with fail
    refine (N.out _ _).mono ?_
    rintro e w1 ⟨rfl, rfl⟩
    go_wp2
    go_ret
    exact ⟨ret_int E.out.symm, rfl⟩
  · have E := Hi (show cmpI a b = 0 by simp [cmpI, h])
    have h1 : ¬ a < b := by omega
    have h2 : ¬ b < a := by omega
    clear h
    go_enter Tryz.func74, Tryz.ntmps74
    go_wp2_with fail
    refine (N.out _ _).mono ?_
    rintro e w1 ⟨rfl, rfl⟩
    go_wp2_with fail
    refine (N.out _ _).mono ?_
    rintro e w1 ⟨rfl, rfl⟩
    go_wp2
    go_ret
    exact ⟨ret_int E.out.symm, rfl⟩
  · have E := Hi (show cmpI a b = 1 by unfold cmpI; rw [if_neg (by omega), if_pos h])
    have h1 : ¬ a < b := by omega
    go_enter Tryz.func74, Tryz.ntmps74
    go_wp2_with fail
    refine (N.out _ _).mono ?_
    rintro e w1 ⟨rfl, rfl⟩
    go_wp2_with fail
    refine (N.out _ _).mono ?_
    rintro e w1 ⟨rfl, rfl⟩
    go_wp2
    go_ret
    exact ⟨ret_int E.out.symm, rfl⟩
structure BsIs (n : Nat) (f : Nat → Int) (q : Int) (i : Nat) (fd : Bool) : Prop where
  le : i ≤ n
  lo : ∀ p, p < i → f p < q
  hi : ∀ p, i ≤ p → p < n → q ≤ f p
  fd : fd = true ↔ i < n ∧ f i = q
theorem clo_t (x : TV) (q : Int) (w : World) : Calls Tryz.prog 77 #[tv x.1 x.2.v, .int .i64 q] w (Ret (.int .i64 (cmpI x.1.sq q)) w) := by
  obtain ⟨t, ⟨Va, Vn, Vc⟩⟩ := x
  have C := Hi (compare_any t.sq q)
  dsimp only [tv, Sl.v]
  generalize cmpI t.sq q = r at *
  go_enter Tryz.func77, Tryz.ntmps77
  go_wp2_with fail
  refine (C.out _).mono ?_
  rintro e w1 ⟨rfl, rfl⟩
  go_wp2
  go_ret
  exact ⟨rfl, World.grownBy_alloc _ _ _⟩
def key_t (xs : List TV) (i : Nat) : Int := (xs.map fun x => x.1.sq).getD i 0
theorem key_t_at {xs : List TV} {i : Nat} {x : TV} (h : xs[i]? = some x) : key_t xs i = x.1.sq := by simp [key_t, List.getD, h]
set_option maxHeartbeats 1000000 in
theorem bs_t (s : Sl) (xs : List TV) (q : Int) (w : World) (hl : xs.length = s.n) (hc : CR w s (f6 xs)) (hn : s.n ≤ 1000000) (hm : ∀ i j, i < j → j < s.n → key_t xs i < key_t xs j) (FV : Value) (hF : FV = .func (.func 77) #[] #[]) :
    Calls Tryz.prog 76 #[s.v, .int .i64 q, FV] w fun e w' => (∃ i fd, e = .returned (.tuple #[.int .i64 (i : Nat), .bool fd]) ∧ BsIs s.n (key_t xs) q i fd) ∧ w.grownBy w' none := by
  subst hF
  obtain ⟨A, n, c⟩ := s
  have HC := Hi hc
  have HM := Hi hm
  clear hc hm
  dsimp only [Sl.v] at *
  go_enter Tryz.func76, Tryz.ntmps76
  go_wp2
  go_loopw [9, 10] (fun a b wr => ∃ i j : Nat, a = .int .i64 i ∧ b = .int .i64 j ∧ i ≤ j ∧ j ≤ n ∧ Hid (w.grownBy wr none) ∧ Hid ((∀ p, p < i → key_t xs p < q) ∧ ∀ p, j ≤ p → p < n → q ≤ key_t xs p)) (fun a b _ => (intOf b - intOf a).toNat)
  case atStart => exact ⟨0, n, rfl, rfl, by omega, by omega, grown_refl _ _, (fun p hp => absurd hp (by omega)), (fun p h1 h2 => absurd h1 (by omega))⟩
  case round =>
    obtain ⟨i, j, rfl, rfl, hij, hj, GW, I⟩ := hrel
    by_cases hlt : i < j
    · obtain ⟨h, hh⟩ : ∃ h : Nat, ((i : Int) + (j : Int)) / 2 = (h : Int) := ⟨(i + j) / 2, by omega⟩
      have hm1 : i ≤ h := by omega
      have hm2 : h < j := by omega
      have hxh : xs[h]? = some xs[h] := List.getElem?_eq_getElem (by omega)
      obtain ⟨b, off, hA, -⟩ := HC.out (h * 6 + 0) _ (by rw [f6, flat_get tcs_len xs h 0 (by omega) _ hxh]; rfl)
      dsimp only at hA
      subst hA
      obtain ⟨c0, c1, c2, c3, c4, c5⟩ := six_of (o := off + h * 6) (w := wr) (b := b) (x := xs[h]) (fun p u hu => by
        have hp : p < 6 := by
          rcases Nat.lt_or_ge p 6 with h' | h'
          · exact h'
          · rw [List.getElem?_eq_none (by exact h')] at hu; cases hu
        obtain ⟨b', off', e, hc⟩ := HC.out (h * 6 + p) u (by rw [f6, flat_get tcs_len xs h p hp _ hxh]; exact hu)
        cases e
        rw [Nat.add_assoc]
        exact GW.out.cell hc (by simp))
      have hkey := Hi (key_t_at hxh)
      have C := Hi (clo_t xs[h] q)
      generalize xs[h] = x at *
      obtain ⟨t, ⟨Va, Vn, Vc⟩⟩ := x
      dsimp only [tv, Sl.v] at C c5 hkey ⊢
      have eg : ∀ args w, (callFunc 77 args).run Tryz.prog w = .ok (.enter 77 args) w := fun _ _ => by kernel_rfl
      by_cases hq : t.sq < q
      · have hneg := cmp_neg.2 hq
        have HQ := Hi hq
        generalize cmpI t.sq q = r at *
        clear hq
        go_wp2_with fail
        refine (C.out _).mono ?_
        rintro e w2 ⟨rfl, hg2⟩
        have G2 := Hi hg2
        clear hg2
        go_wp2
        go_roundw
        case rel =>
          refine ⟨h + 1, j, by go_num, rfl, by omega, by omega, grown_trans GW.out G2.out, fun p hp => ?_, I.out.2⟩
          rcases Nat.lt_or_ge p h with k' | k'
          · have := HM.out p h k' (by omega)
            rw [hkey.out] at this
            exact Int.lt_trans this HQ.out
          · obtain rfl : p = h := by omega
            rw [hkey.out]; exact HQ.out
        case measure => simp [intOf]; omega
      · have hneg : ¬ cmpI t.sq q < 0 := fun e => hq (cmp_neg.1 e)
        have HQ := Hi hq
        generalize cmpI t.sq q = r at *
        clear hq
        go_wp2_with fail
        refine (C.out _).mono ?_
        rintro e w2 ⟨rfl, hg2⟩
        have G2 := Hi hg2
        clear hg2
        go_wp2
        go_roundw
        case rel =>
          refine ⟨i, h, rfl, rfl, by omega, by omega, grown_trans GW.out G2.out, I.out.1, fun p hp hpn => ?_⟩
          have hq := HQ.out
          rcases Nat.lt_or_ge h p with k' | k'
          · have := HM.out h p k' hpn
            rw [hkey.out] at this
            omega
          · obtain rfl : p = h := by omega
            rw [hkey.out]; omega
        case measure => simp [intOf]; omega
    · obtain rfl : j = i := by omega
      by_cases hn2 : j < n
      · have hxh : xs[j]? = some xs[j] := List.getElem?_eq_getElem (by omega)
        obtain ⟨b, off, hA, -⟩ := HC.out (j * 6 + 0) _ (by rw [f6, flat_get tcs_len xs j 0 (by omega) _ hxh]; rfl)
        dsimp only at hA
        subst hA
        obtain ⟨c0, c1, c2, c3, c4, c5⟩ := six_of (o := off + j * 6) (w := wr) (b := b) (x := xs[j]) (fun p u hu => by
          have hp : p < 6 := by
            rcases Nat.lt_or_ge p 6 with h' | h'
            · exact h'
            · rw [List.getElem?_eq_none (by exact h')] at hu; cases hu
          obtain ⟨b', off', e, hc⟩ := HC.out (j * 6 + p) u (by rw [f6, flat_get tcs_len xs j p hp _ hxh]; exact hu)
          cases e
          rw [Nat.add_assoc]
          exact GW.out.cell hc (by simp))
        have hkey := Hi (key_t_at hxh)
        have C := Hi (clo_t xs[j] q)
        generalize xs[j] = x at *
        obtain ⟨t, ⟨Va, Vn, Vc⟩⟩ := x
        dsimp only [tv, Sl.v] at C c5 hkey ⊢
        have eg : ∀ args w, (callFunc 77 args).run Tryz.prog w = .ok (.enter 77 args) w := fun _ _ => by kernel_rfl
        have FD := Hi (show BsIs n (key_t xs) q j (cmpI t.sq q == 0) from ⟨hj, I.out.1, I.out.2, by rw [beq_iff_eq, cmp_zero, hkey.out]; exact ⟨fun h => ⟨hn2, h⟩, fun h => h.2⟩⟩)
        generalize cmpI t.sq q = r at *
        go_wp2_with fail
        refine (C.out _).mono ?_
        rintro e w2 ⟨rfl, hg2⟩
        have G2 := Hi hg2
        clear hg2
        go_wp2
        try simp only [Exit.inBlock, Exit.then]
        go_ret2
        exact ⟨⟨j, _, rfl, FD.out⟩, grown_trans GW.out G2.out⟩
      · have FD := Hi (show BsIs n (key_t xs) q j false from ⟨hj, I.out.1, I.out.2, by simp [hn2]⟩)
        go_wp2
        go_ret2
        exact ⟨⟨j, _, rfl, FD.out⟩, GW.out⟩
theorem clo_w (x : EV) (q : Int) (w : World) : Calls Tryz.prog 73 #[wv x.1 x.2, .int .i64 q] w (Ret (.int .i64 (cmpI x.1.st q)) w) := by
  obtain ⟨t, ⟨Va, Vn, Vc⟩⟩ := x
  have C := Hi (compare_any t.st q)
  dsimp only [wv, Sl.v]
  generalize cmpI t.st q = r at *
  go_enter Tryz.func73, Tryz.ntmps73
  go_wp2_with fail
  refine (C.out _).mono ?_
  rintro e w1 ⟨rfl, rfl⟩
  go_wp2
  go_ret
  exact ⟨rfl, World.grownBy_alloc _ _ _⟩
def key_w (xs : List EV) (i : Nat) : Int := (xs.map fun x => x.1.st).getD i 0
theorem key_w_at {xs : List EV} {i : Nat} {x : EV} (h : xs[i]? = some x) : key_w xs i = x.1.st := by simp [key_w, List.getD, h]
set_option maxHeartbeats 1000000 in
theorem bs_w (s : Sl) (xs : List EV) (q : Int) (w : World) (hl : xs.length = s.n) (hc : CR w s (f4 xs)) (hn : s.n ≤ 1000000) (hm : ∀ i j, i < j → j < s.n → key_w xs i < key_w xs j) (FV : Value) (hF : FV = .func (.func 73) #[] #[]) :
    Calls Tryz.prog 72 #[s.v, .int .i64 q, FV] w fun e w' => (∃ i fd, e = .returned (.tuple #[.int .i64 (i : Nat), .bool fd]) ∧ BsIs s.n (key_w xs) q i fd) ∧ w.grownBy w' none := by
  subst hF
  obtain ⟨A, n, c⟩ := s
  have HC := Hi hc
  have HM := Hi hm
  clear hc hm
  dsimp only [Sl.v] at *
  go_enter Tryz.func72, Tryz.ntmps72
  go_wp2
  go_loopw [9, 10] (fun a b wr => ∃ i j : Nat, a = .int .i64 i ∧ b = .int .i64 j ∧ i ≤ j ∧ j ≤ n ∧ Hid (w.grownBy wr none) ∧ Hid ((∀ p, p < i → key_w xs p < q) ∧ ∀ p, j ≤ p → p < n → q ≤ key_w xs p)) (fun a b _ => (intOf b - intOf a).toNat)
  case atStart => exact ⟨0, n, rfl, rfl, by omega, by omega, grown_refl _ _, (fun p hp => absurd hp (by omega)), (fun p h1 h2 => absurd h1 (by omega))⟩
  case round =>
    obtain ⟨i, j, rfl, rfl, hij, hj, GW, I⟩ := hrel
    by_cases hlt : i < j
    · obtain ⟨h, hh⟩ : ∃ h : Nat, ((i : Int) + (j : Int)) / 2 = (h : Int) := ⟨(i + j) / 2, by omega⟩
      have hm1 : i ≤ h := by omega
      have hm2 : h < j := by omega
      have hxh : xs[h]? = some xs[h] := List.getElem?_eq_getElem (by omega)
      obtain ⟨b, off, hA, -⟩ := HC.out (h * 4 + 0) _ (by rw [f4, flat_get ecs_len xs h 0 (by omega) _ hxh]; rfl)
      dsimp only at hA
      subst hA
      obtain ⟨c0, c1, c2, c3⟩ := four_of (o := off + h * 4) (w := wr) (b := b) (x := xs[h]) (fun p u hu => by
        have hp : p < 4 := by
          rcases Nat.lt_or_ge p 4 with h' | h'
          · exact h'
          · rw [List.getElem?_eq_none (by exact h')] at hu; cases hu
        obtain ⟨b', off', e, hc⟩ := HC.out (h * 4 + p) u (by rw [f4, flat_get ecs_len xs h p hp _ hxh]; exact hu)
        cases e
        rw [Nat.add_assoc]
        exact GW.out.cell hc (by simp))
      have hkey := Hi (key_w_at hxh)
      have C := Hi (clo_w xs[h] q)
      generalize xs[h] = x at *
      obtain ⟨t, ⟨Va, Vn, Vc⟩⟩ := x
      dsimp only [wv, Sl.v] at C c3 hkey ⊢
      have eg : ∀ args w, (callFunc 73 args).run Tryz.prog w = .ok (.enter 73 args) w := fun _ _ => by kernel_rfl
      by_cases hq : t.st < q
      · have hneg := cmp_neg.2 hq
        have HQ := Hi hq
        generalize cmpI t.st q = r at *
        clear hq
        go_wp2_with fail
        refine (C.out _).mono ?_
        rintro e w2 ⟨rfl, hg2⟩
        have G2 := Hi hg2
        clear hg2
        go_wp2
        go_roundw
        case rel =>
          refine ⟨h + 1, j, by go_num, rfl, by omega, by omega, grown_trans GW.out G2.out, fun p hp => ?_, I.out.2⟩
          rcases Nat.lt_or_ge p h with k' | k'
          · have := HM.out p h k' (by omega)
            rw [hkey.out] at this
            exact Int.lt_trans this HQ.out
          · obtain rfl : p = h := by omega
            rw [hkey.out]; exact HQ.out
        case measure => simp [intOf]; omega
      · have hneg : ¬ cmpI t.st q < 0 := fun e => hq (cmp_neg.1 e)
        have HQ := Hi hq
        generalize cmpI t.st q = r at *
        clear hq
        go_wp2_with fail
        refine (C.out _).mono ?_
        rintro e w2 ⟨rfl, hg2⟩
        have G2 := Hi hg2
        clear hg2
        go_wp2
        go_roundw
        case rel =>
          refine ⟨i, h, rfl, rfl, by omega, by omega, grown_trans GW.out G2.out, I.out.1, fun p hp hpn => ?_⟩
          have hq := HQ.out
          rcases Nat.lt_or_ge h p with k' | k'
          · have := HM.out h p k' hpn
            rw [hkey.out] at this
            omega
          · obtain rfl : p = h := by omega
            rw [hkey.out]; omega
        case measure => simp [intOf]; omega
    · obtain rfl : j = i := by omega
      by_cases hn2 : j < n
      · have hxh : xs[j]? = some xs[j] := List.getElem?_eq_getElem (by omega)
        obtain ⟨b, off, hA, -⟩ := HC.out (j * 4 + 0) _ (by rw [f4, flat_get ecs_len xs j 0 (by omega) _ hxh]; rfl)
        dsimp only at hA
        subst hA
        obtain ⟨c0, c1, c2, c3⟩ := four_of (o := off + j * 4) (w := wr) (b := b) (x := xs[j]) (fun p u hu => by
          have hp : p < 4 := by
            rcases Nat.lt_or_ge p 4 with h' | h'
            · exact h'
            · rw [List.getElem?_eq_none (by exact h')] at hu; cases hu
          obtain ⟨b', off', e, hc⟩ := HC.out (j * 4 + p) u (by rw [f4, flat_get ecs_len xs j p hp _ hxh]; exact hu)
          cases e
          rw [Nat.add_assoc]
          exact GW.out.cell hc (by simp))
        have hkey := Hi (key_w_at hxh)
        have C := Hi (clo_w xs[j] q)
        generalize xs[j] = x at *
        obtain ⟨t, ⟨Va, Vn, Vc⟩⟩ := x
        dsimp only [wv, Sl.v] at C c3 hkey ⊢
        have eg : ∀ args w, (callFunc 73 args).run Tryz.prog w = .ok (.enter 73 args) w := fun _ _ => by kernel_rfl
        have FD := Hi (show BsIs n (key_w xs) q j (cmpI t.st q == 0) from ⟨hj, I.out.1, I.out.2, by rw [beq_iff_eq, cmp_zero, hkey.out]; exact ⟨fun h => ⟨hn2, h⟩, fun h => h.2⟩⟩)
        generalize cmpI t.st q = r at *
        go_wp2_with fail
        refine (C.out _).mono ?_
        rintro e w2 ⟨rfl, hg2⟩
        have G2 := Hi hg2
        clear hg2
        go_wp2
        try simp only [Exit.inBlock, Exit.then]
        go_ret2
        exact ⟨⟨j, _, rfl, FD.out⟩, grown_trans GW.out G2.out⟩
      · have FD := Hi (show BsIs n (key_w xs) q j false from ⟨hj, I.out.1, I.out.2, by simp [hn2]⟩)
        go_wp2
        go_ret2
        exact ⟨⟨j, _, rfl, FD.out⟩, GW.out⟩
end Go.Proofs.YticmoaebegahgaaGreatDoor.Iw
namespace Go.Proofs.YticmoaebegahgaaGreatDoor.Iw
open Wr (grown_trans grown_refl grown_alloc)
section
variable {P : Program} {w : World} {ops : Array Oper} {rest : List Oper} {o : Oper} {a : Act} {Q : Exit → Act → World → Prop}
theorem appK_run {base base' : Nat} {e : TypeId} {i : TypeInfo} {z : Value} {k bytes : Nat} {S V : Sl} {us vs : List Value} (t ty : TypeId)
    (ht : P.underlying t = some (.slice e)) (hi : P.info? e = some i) (hz : i.zero = some z) (hsz : i.size = k) (hby : i.bytes = bytes) (hzs : z.cells.size = k) (hk : 0 < k)
    (own : OR base w e k S us) (hb0 : base ≤ w.heap.size) (hv : OR base' w e k V vs) (h1 : ∀ u ∈ vs, u.oneCell' = true) (hb : (S.n + V.n) * bytes ≤ 140737488355328) (h63 : S.n + V.n ≤ 1000000000) :
    ∃ (r : Sl) (w' : World), (Builtin.append_ #[t, t] ty #[S.v, V.v]).run P w = .ok r.v w' ∧ r.n = S.n + V.n ∧ OR base w' e k r (us ++ vs) ∧ w.grownBy w' S.blk ∧ (∀ b, r.blk = some b → S.blk = some b ∨ b = w.heap.size) := by
  rcases hv.form with ⟨e1, e2, e3, e4⟩ | ⟨g, e1, _, _⟩
  · obtain ⟨va, vn, vc⟩ := V
    dsimp only at e1 e2 e3
    subst e1; subst e2; subst e3; subst e4
    have := run_append_owned_none (P := P) w base t ty e i k ht hi S.v S.n us own.own
    refine ⟨S, w, this, by simp, by simpa using own, grown_refl _ _, fun b hb => .inl hb⟩
  · obtain ⟨va, vn, vc⟩ := V
    dsimp only at e1
    subst e1
    have hu : ∀ j u, vs[j]? = some u → w.cell? ((⟨g, 0, none⟩ : Addr).add j) = some u := hv.cr.news
    obtain ⟨v', w', hr, hown', hgr, _, hblk⟩ := run_append_own_at (P := P) w base t ty e i z k bytes ht hi hz hsz hby hzs hk S.v S.n us own.own ⟨g, 0, none⟩ vn vc vs hv.len hu h1 (by unfold maxLen; dsimp only at h63; omega) hb hb0
    have hv' : ∃ r : Sl, v' = r.v ∧ r.n = S.n + vn := by
      rcases hown'.2 with ⟨q1, q2⟩ | ⟨g, cap, cur, q1, _⟩
      · exact ⟨⟨none, 0, 0⟩, q1, q2.symm⟩
      · exact ⟨⟨some ⟨g, 0, none⟩, S.n + vn, cap⟩, q1, rfl⟩
    obtain ⟨r, rfl, hn⟩ := hv'
    rw [blk_own] at hgr hblk
    rw [blk_own] at hblk
    refine ⟨r, w', hr, hn, ⟨by rw [hn]; exact hown'⟩, hgr, fun b hb => ?_⟩
    rcases hblk with q | q
    · left; rw [← q]; exact hb
    · right; rw [q] at hb; injection hb with hb; exact hb.symm
theorem wpList_appK (hgd : o.guard = none) (s x : Operand) (t : TypeId) (ho : o.op = .call { callee := .builtin .append, args := #[s, x], argTypes := #[t, t] })
    {base base' : Nat} {e : TypeId} {i : TypeInfo} {z : Value} {k bytes : Nat} {S V : Sl} {us vs : List Value}
    (ht : P.underlying t = some (.slice e)) (hi : P.info? e = some i) (hz : i.zero = some z) (hsz : i.size = k) (hby : i.bytes = bytes) (hzs : z.cells.size = k) (hk : 0 < k)
    (hs : a.eval s = S.v) (hx : a.eval x = V.v) (own : OR base w e k S us) (hb0 : base ≤ w.heap.size) (hv : OR base' w e k V vs) (h1 : ∀ u ∈ vs, u.oneCell' = true) (hb : (S.n + V.n) * bytes ≤ 140737488355328) (h63 : S.n + V.n ≤ 1000000000)
    (hq : ∀ (r : Sl) (w' : World), r.n = S.n + V.n → OR base w' e k r (us ++ vs) → w.grownBy w' S.blk → (∀ b, r.blk = some b → S.blk = some b ∨ b = w.heap.size) → wpList P ops Q rest (a.put o.dst r.v) w') : wpList P ops Q (o :: rest) a w := by
  refine wpList_plain hgd fun K hK => ?_
  obtain ⟨r, w', hr, h2, h3, h4, h5⟩ := appK_run (P := P) t o.type ht hi hz hsz hby hzs hk own hb0 hv h1 hb h63
  unfold Oper.wp execOp
  simp only [ho, resolve, invoke, builtin, Sem.run_bind, Sem.run_pure, Result.andThen_ok, List.map_toArray, List.map_cons, List.map_nil, hs, hx, hr]
  exact hK _ _ (hq r w' h2 h3 h4 h5)
theorem step_copyK {K : Act → World → Prop} {E : Prop} (hgd : o.guard = none) (d s : Operand) (dT sT : TypeId)
    (ho : o.op = .call { callee := .builtin .copy, args := #[d, s], argTypes := #[dT, sT] }) {base : Nat} {e : TypeId} {k g cap n : Nat} {us : List Value} (h : OR base w e k ⟨some ⟨g, 0, none⟩, n, cap⟩ us)
    (of dLen dCap : Nat) (ad : Addr) (sLen sCap : Nat) (cs : List Value) (hd : a.eval d = .slice (some ⟨g, of, none⟩) dLen dCap) (hs : a.eval s = .slice (some ad) sLen sCap)
    (hu : P.underlying dT = some (.slice e)) (hz : (P.info? e).map (·.size) = some k) (hn : cs.length = Nat.min sLen dLen * k) (hof : of + cs.length ≤ n * k)
    (hsrc : ∀ j v, cs[j]? = some v → w.cell? (ad.add j) = some v) (h1 : ∀ v ∈ cs, v.oneCell' = true)
    (hk : ∀ w', OR base w' e k ⟨some ⟨g, 0, none⟩, n, cap⟩ (us.take of ++ (cs ++ us.drop (of + cs.length))) → w.grownBy w' (some g) → K (a.put o.dst (goInt (Nat.min sLen dLen))) w') :
    if Region.wanted o (yielded ops a.tmps) = true then Oper.wp P o a w K Q else E := by
  have hw : Region.wanted o (yielded ops a.tmps) = true := by simp [Region.wanted, hgd]
  rw [if_pos hw]
  obtain ⟨w', hr, h2, h3⟩ := copyK_own h.own dT sT o.type of dLen dCap ad sLen sCap cs hu hz hn hof hsrc h1
  unfold Oper.wp execOp
  simp only [ho, resolve, invoke, builtin, Sem.run_bind, Sem.run_pure, Result.andThen_ok, List.map_toArray, List.map_cons, List.map_nil, hd, hs, hr]
  exact hk w' ⟨h2⟩ h3
theorem wpList_growK (hgd : o.guard = none) (s x : Operand) (t tn : TypeId) (ho : o.op = .call { callee := .builtin .append, args := #[s, x], argTypes := #[t, tn] })
    {base : Nat} {e : TypeId} {i : TypeInfo} {z : Value} {k bytes g n c : Nat} {us : List Value} {kn : IntKind}
    (ht : P.underlying t = some (.slice e)) (htn : P.underlying tn = some (.int kn)) (hi : P.info? e = some i) (hz : i.zero = some z) (hsz : i.size = k) (hby : i.bytes = bytes) (hzs : z.cells.size = k) (hk : 0 < k)
    (q m : Nat) (hs : a.eval s = .slice (some ⟨g, 0, none⟩) q c) (M : Int) (hx : a.eval x = .int .i64 M) (hM : M = (m : Int)) (own : OR base w e k ⟨some ⟨g, 0, none⟩, n, c⟩ us) (hq : q ≤ n) (h0 : 0 < m) (hc : c < q + m) (hbig : (q + m) * bytes ≤ 140737488355328) (h63 : q + m ≤ 1000000000)
    (hQ : ∀ (c' : Nat) (zs : List Value) (w' : World), zs.length = m * k → OR w.heap.size w' e k ⟨some ⟨w.heap.size, 0, none⟩, q + m, c'⟩ (us.take (q * k) ++ zs) → w.grownBy w' none → q + m ≤ c' → wpList P ops Q rest (a.put o.dst (.slice (some ⟨w.heap.size, 0, none⟩) (q + m) c')) w') : wpList P ops Q (o :: rest) a w := by
  refine wpList_plain hgd fun K hK => ?_
  subst hM
  have hfr := own_front own.own hq
  have hold : (Builtin.firstCells i.size q (.slice (some ⟨g, 0, none⟩) q c)).run P w.drew = .ok (us.take (q * k)).toArray w.drew := by
    rw [hsz]
    exact run_firstCells_some w.drew k q ⟨g, 0, none⟩ q c (us.take (q * k)) hfr.1 (fun j v hj => by
      rw [add_lit, Nat.zero_add]
      exact own_cell hfr j v hj)
  have hr := Lib.run_append_grow_zeros (P := P) w t tn o.type e i z .i64 kn ht htn hi hz (some ⟨g, 0, none⟩) q c (us.take (q * k)) hold m h0 (by omega) hc (by omega) (by
    rw [hby]
    have : m * bytes ≤ (q + m) * bytes := Nat.mul_le_mul_right _ (by omega)
    omega) (by
    rw [hby]
    have h2 := Nat.mul_le_mul_right bytes (nextslicecap_le (need := q + m) (old := c) hc)
    rw [Nat.mul_assoc] at h2
    omega)
  have hge := grownCap_ge w (q + m) c e
  have hcm : grownCap w (q + m) c e ≤ maxLen := grownCap_le_maxLen w (q + m) c e (by unfold maxLen; omega)
  unfold Oper.wp execOp
  simp only [ho, resolve, invoke, builtin, Sem.run_bind, Sem.run_pure, Result.andThen_ok, List.map_toArray, List.map_cons, List.map_nil, hs, hx, hr]
  have hz1 : (Builtin.zeroCells z.cells m).toList.length = m * k := by simp [Builtin.zeroCells, hzs]
  have hl1 : (us.take (q * k)).length = q * k := hfr.1
  refine hK _ _ (hQ _ (Builtin.zeroCells z.cells m).toList _ hz1 ⟨⟨?_, .inr ⟨w.heap.size, _, _, rfl, Nat.le_refl _, heap_alloc_new w.drew _, hge, hcm, ?_, ?_⟩⟩⟩ ⟨rfl, rfl, rfl, by simp, fun i hi _ => heap_alloc_old w.drew _ hi⟩ hge)
  · rw [List.length_append, hl1, hz1, ← Nat.add_mul]
  · simp only [Array.size_append, List.size_toArray, size_zeroCells, hzs, hl1, ← Nat.add_mul]
    congr 1
    omega
  · simp only [Array.toList_append, List.append_assoc]
    rw [← List.append_assoc]
    have : (q + m) * k = (us.take (q * k) ++ (Builtin.zeroCells z.cells m).toList).length := by rw [List.length_append, hl1, hz1, Nat.add_mul]
    show List.take ((q + m) * k) _ = _
    rw [this]
    exact List.take_left
end
theorem overlaps_apart {P : Program} {w : World} {tS tR e : TypeId} (ht : P.underlying tS = some (.slice e)) {k : Nat} (hz : ∀ w, (Go.sizeOf e).run P w = .ok k w) {b1 b2 : Nat} {g h n c m d : Nat} {us vs : List Value}
    (hv : OR b1 w e k ⟨some ⟨g, 0, none⟩, n, c⟩ us) (hu : OR b2 w e k ⟨some ⟨h, 0, none⟩, m, d⟩ vs) (hne : g ≠ h) (hk : 0 < k) (hd : 0 < d) (la ca lb cb o : Nat) :
    (Extern.SlicesOverlaps.overlaps #[tS, tS] #[tR] #[.slice (some ⟨g, 0, none⟩) la ca, .slice (some ⟨h, o, none⟩) lb cb]).run P w = .ok (.bool false) w := by
  have shp : ∀ {b g n c : Nat} {us : List Value}, OR b w e k ⟨some ⟨g, 0, none⟩, n, c⟩ us → w.shape? g = some (e, c * k) := by
    intro b g n c us hv
    rcases hv.own.2 with ⟨e1, _⟩ | ⟨g', cap', cur, e1, _, hg, _, _, hs, _⟩
    · cases e1
    · injection e1 with e1 e2 e3
      injection e1 with e1
      injection e1 with e1 _ _
      subst e1; subst e3
      simp [World.shape?, hg, hs]
  exact Lib.run_overlaps_apart w tS tR e ht k hz ⟨g, 0, none⟩ ⟨h, o, none⟩ la ca lb cb hne e e (c * k) (d * k) (shp hv) (shp hu) (Nat.ne_of_gt (Nat.mul_pos hd hk)) (hv.own.frozenAt 0) (hv.own.frozenAt _)
end Go.Proofs.YticmoaebegahgaaGreatDoor.Iw
namespace Go.Proofs.YticmoaebegahgaaGreatDoor.Iw
open Go.ChangeShapes Go.WideShapes Go.ChangeAt Go.RowKit
open Wr (IR RB iv ivs bv bvs grown_trans grown_refl grown_alloc ret_int ret_bool tv Ret ret_mk)
theorem grown_weak' {a b : World} {row : Option Nat} (h : a.grownBy b none) : a.grownBy b row := Wr.grown_weak row h
def InsEnd (e : TypeId) (k base : Nat) (s : Sl) (us : List Value) (w : World) (en : Ending) (w' : World) : Prop :=
  ∃ r : Sl, en = .returned r.v ∧ r.n = s.n + 1 ∧ OR base w' e k r us ∧ w.grownBy w' s.blk ∧ (∀ b, r.blk = some b → s.blk = some b ∨ w.heap.size ≤ b)
theorem mid_cells {us vs xs : List Value} {n i k : Nat} (hl : us.length = n * k) (hv : vs.length = k) (hx : xs.length = k) (hi : i < n) :
    (((us ++ xs).take ((i + 1) * k) ++ (us.drop (i * k) ++ (us ++ xs).drop ((i + 1) * k + (us.drop (i * k)).length))).take (i * k) ++ (vs ++ ((us ++ xs).take ((i + 1) * k) ++ (us.drop (i * k) ++ (us ++ xs).drop ((i + 1) * k + (us.drop (i * k)).length))).drop (i * k + vs.length))) = us.take (i * k) ++ (vs ++ us.drop (i * k)) := by
  have h1 : (i + 1) * k = i * k + k := Nat.succ_mul i k
  have h2 : i * k + k ≤ n * k := by rw [← h1]; exact Nat.mul_le_mul_right _ hi
  have h3 : (us ++ xs).drop ((i + 1) * k + (us.drop (i * k)).length) = [] := by
    apply List.drop_of_length_le
    rw [List.length_append, List.length_drop]; omega
  rw [h3, List.append_nil, List.take_append_of_le_length (by rw [List.length_take, List.length_append]; omega), List.take_take, Nat.min_eq_left (by omega), List.take_append_of_le_length (by omega)]
  congr 2
  rw [hv, ← h1, List.drop_append_of_le_length (by rw [List.length_take, List.length_append]; omega), List.drop_of_length_le (by rw [List.length_take]; omega), List.nil_append]
theorem new_cells {us vs zs : List Value} {n i k m : Nat} (hl : us.length = n * k) (hv : vs.length = k) (hz : zs.length = (n + 1 - i) * k) (hi : i < n) (hm : m = (i + 1) * k) :
    ((((us.take (i * k) ++ zs).take (i * k) ++ (vs ++ (us.take (i * k) ++ zs).drop (i * k + vs.length))).take m ++ (us.drop (i * k) ++ ((us.take (i * k) ++ zs).take (i * k) ++ (vs ++ (us.take (i * k) ++ zs).drop (i * k + vs.length))).drop (m + (us.drop (i * k)).length)))) = us.take (i * k) ++ (vs ++ us.drop (i * k)) := by
  subst hm
  have h1 : (i + 1) * k = i * k + k := Nat.succ_mul i k
  have h2 : i * k + k ≤ n * k := by rw [← h1]; exact Nat.mul_le_mul_right _ hi
  have h4 : (n + 1 - i) * k = n * k + k - i * k := by rw [Nat.sub_mul, Nat.succ_mul]
  have h5 : (us.take (i * k)).length = i * k := by rw [List.length_take]; omega
  have h6 : (us.take (i * k) ++ zs).take (i * k) = us.take (i * k) := by
    rw [List.take_append_of_le_length (by omega), List.take_take, Nat.min_self]
  rw [h6]
  have h7 : (us.take (i * k) ++ (vs ++ (us.take (i * k) ++ zs).drop (i * k + vs.length))).drop ((i + 1) * k + (us.drop (i * k)).length) = [] := by
    apply List.drop_of_length_le
    rw [List.length_append, List.length_append, List.length_drop, List.length_append, List.length_drop]; omega
  rw [h7, List.append_nil]
  have h8 : (us.take (i * k) ++ (vs ++ (us.take (i * k) ++ zs).drop (i * k + vs.length))).take ((i + 1) * k) = us.take (i * k) ++ vs := by
    rw [← List.append_assoc, List.take_append_of_le_length (by rw [List.length_append]; omega), List.take_of_length_le (by rw [List.length_append]; omega)]
  rw [h8, List.append_assoc]
set_option maxRecDepth 100000 in
set_option maxHeartbeats 2000000 in
theorem ins_t (base b2 : Nat) (s V : Sl) (us vs : List Value) (i : Nat) (w : World) (h : OR base w 28 6 s us) (hv : OR b2 w 28 6 V vs) (hV : V.n = 1) (hne : ∀ b, s.blk = some b → V.blk ≠ some b) (hb : base ≤ w.heap.size) (hi : i ≤ s.n) (hn : s.n ≤ 1000000) (h1 : ∀ u ∈ us, u.oneCell' = true) (h2 : ∀ u ∈ vs, u.oneCell' = true) :
    Calls Tryz.prog 78 #[s.v, .int .i64 i, V.v] w (InsEnd 28 6 base s (us.take (i * 6) ++ (vs ++ us.drop (i * 6))) w) := by
  obtain ⟨I, hI, hz, hsz, hby⟩ := parts_t
  obtain ⟨va, vn, vc⟩ := V
  dsimp only at hV
  subst hV
  obtain ⟨g, rfl, hvb, hvl⟩ : ∃ g, va = some ⟨g, 0, none⟩ ∧ b2 ≤ g ∧ g < w.heap.size := by
    rcases hv.form with ⟨_, h0, _⟩ | h0
    · dsimp only at h0; omega
    · exact h0
  have hl := h.len
  have hvlen : vs.length = 6 := by have := hv.len; dsimp only at this; omega
  have hf := h.fit
  have hvf := hv.fit
  obtain ⟨a, n, c⟩ := s
  unfold Sl.fit at hf hvf
  dsimp only [Sl.v] at *
  have HS := Hi h
  have HV := Hi hv
  have O1 := Hi h1
  have O2 := Hi h2
  have hsize : (Tryz.prog.info? 28).map (·.size) = some 6 := by rw [hI]; simp [hsz]
  clear h hv h1 h2
  by_cases hin : i = n
  · subst hin
    have e1 : us.take (i * 6) = us := List.take_of_length_le (by omega)
    have e2 : us.drop (i * 6) = [] := List.drop_of_length_le (by omega)
    rw [e1, e2, List.append_nil]
    have hi0 : ¬ (c : Int) < (i : Int) := by omega
    by_cases hci : c = i
    · go_enter Tryz.func78, Tryz.ntmps78
      go_wp2_with (first
        | (at_builtin
           refine wpList_appK rfl _ _ 30 rfl (S := ⟨a, i, c⟩) (V := ⟨some ⟨g, 0, none⟩, 1, vc⟩) Tryz.underlying30 hI hz hsz hby (by rfl) (by omega) rfl rfl HS.out hb HV.out O2.out (by dsimp only; omega) (by dsimp only; omega) ?_
           intro r w1 hrn hr hg hrb)
        | fail)
      have hr := Hi hr
      have hg := Hi hg
      have hrb := Hi hrb
      go_wp2
      go_ret
      exact ⟨r, rfl, hrn, hr.out, hg.out, fun b hb' => (hrb.out b hb').imp id (fun e => by omega)⟩
    · go_enter Tryz.func78, Tryz.ntmps78
      go_wp2_with (first
        | (at_builtin
           refine wpList_appK rfl _ _ 30 rfl (S := ⟨a, i, c⟩) (V := ⟨some ⟨g, 0, none⟩, 1, vc⟩) Tryz.underlying30 hI hz hsz hby (by rfl) (by omega) rfl rfl HS.out hb HV.out O2.out (by dsimp only; omega) (by dsimp only; omega) ?_
           intro r w1 hrn hr hg hrb)
        | fail)
      have hr := Hi hr
      have hg := Hi hg
      have hrb := Hi hrb
      go_wp2
      go_ret
      exact ⟨r, rfl, hrn, hr.out, hg.out, fun b hb' => (hrb.out b hb').imp id (fun e => by omega)⟩
  · have hlt : i < n := by omega
    obtain ⟨gs, rfl, hgb, hgl⟩ : ∃ gs, a = some ⟨gs, 0, none⟩ ∧ base ≤ gs ∧ gs < w.heap.size := by
      rcases HS.out.form with ⟨_, h0, _⟩ | h0
      · dsimp only at h0; omega
      · exact h0
    have hgne : g ≠ gs := by intro e; subst e; exact hne _ rfl rfl
    have hiN : ¬ ((i : Int) = (n : Int)) := by omega
    have hik : i * 6 + 6 ≤ n * 6 := by omega
    have hdl : (us.drop (i * 6)).length = (n - i) * 6 := by rw [List.length_drop]; omega
    have hw1 : IntKind.i64.wrap ((i : Int) + 1) = (i : Int) + 1 := IntWalk.i64_in _ (by omega)
    have hci : ¬ (c = i) := by omega
    have hb1 : (0 : Int) ≤ (i : Int) + 1 := by omega
    have hb3 : (i : Int) ≤ (n : Int) + 1 := by omega
    by_cases hroom : n + 1 ≤ c
    · have hci1 : ¬ (c = i + 1) := by omega
      have hov : ∀ lb cb, (callFunc 87 #[.slice (some ⟨g, 0, none⟩) 1 vc, .slice (some ⟨gs, (i + 1) * 6, none⟩) lb cb]).run Tryz.prog w = .ok (.value (.bool false)) w := fun lb cb => by
        rw [run_callFunc_extern Tryz.func87 (by kernel_rfl) (by kernel_rfl) (by kernel_rfl) (e := Extern.SlicesOverlaps.overlaps #[30, 30] #[4]) (by kernel_rfl),
          overlaps_apart Tryz.underlying30 Tryz.sizeOf28 HV.out HS.out hgne (by omega) (by omega) 1 vc lb cb ((i + 1) * 6)]
        rfl
      obtain ⟨xs, hxl, hwide⟩ := own_wider (n := n) HS.out.own (m := n + 1) (by omega) hroom
      have hxl : xs.length = 6 := by rw [hxl, Nat.add_sub_cancel_left, Nat.one_mul]
      go_enter Tryz.func78, Tryz.ntmps78
      go_wp2_with (first | (simp only [hov]) | fail)
      refine wp_region_held_drew (S := (fun _ : World => True)) (by kernel_rfl) ?_ (fun hHeld => ?_)
      · trivial
      try simp only [Act.put, lsA, lsB, lsC]
      refine takeL (i := 0) (v := ?_) rfl (by kernel_rfl) (by kernel_rfl) (by kernel_rfl) (fun _ _ _ h => h) (Or.inl ⟨by rfl, ?_⟩) (by assumption) ?_
      rotate_left 1
      · intro w hSw; skip; first | (go_simp; done) | (go_simp; with_reducible rfl)
      try simp only [Act.put, lsA, lsB, lsC]
      refine takeL (i := 1) (v := ?_) rfl (by kernel_rfl) (by kernel_rfl) (by kernel_rfl) (fun _ _ _ h => h) (Or.inl ⟨by rfl, ?_⟩) (by assumption) ?_
      rotate_left 1
      · intro w hSw; skip; first | (go_simp; done) | (go_simp; with_reducible rfl)
      try simp only [Act.put, lsA, lsB, lsC]
      refine takeL (i := 2) (v := ?_) rfl (by kernel_rfl) (by kernel_rfl) (by kernel_rfl) (fun _ _ _ h => h) (Or.inl ⟨by rfl, ?_⟩) (by assumption) ?_
      rotate_left 1
      · intro w hSw; skip; first | (go_simp; done) | (go_simp; with_reducible rfl)
      try simp only [Act.put, lsA, lsB, lsC]
      refine takeL (i := 3) (v := ?_) rfl (by kernel_rfl) (by kernel_rfl) (by kernel_rfl) (fun _ _ _ h => h) (Or.inl ⟨by rfl, ?_⟩) (by assumption) ?_
      rotate_left 1
      · intro w hSw; skip; first | (go_simp; done) | (go_simp; with_reducible rfl)
      try simp only [Act.put, lsA, lsB, lsC]
      refine takeL (i := 4) (v := ?_) rfl (by kernel_rfl) (by kernel_rfl) (by kernel_rfl) (fun _ _ _ h => h) (Or.inl ⟨by rfl, ?_⟩) (by assumption) ?_
      rotate_left 1
      · intro w hSw; skip; first | (go_simp; done) | (go_simp; with_reducible rfl)
      try simp only [Act.put, lsA, lsB, lsC]
      refine takeL (i := 5) (v := ?_) rfl (by kernel_rfl) (by kernel_rfl) (by kernel_rfl) (fun _ _ _ h => h) (Or.inl ⟨by rfl, ?_⟩) (by assumption) ?_
      rotate_left 1
      · intro w hSw; skip; first | (go_simp; done) | (go_simp; with_reducible rfl)
      try simp only [Act.put, lsA, lsB, lsC]
      refine takeL (i := 6) (v := ?_) rfl (by kernel_rfl) (by kernel_rfl) (by kernel_rfl) (fun _ _ _ h => h) (Or.inl ⟨by rfl, ?_⟩) (by assumption) ?_
      rotate_left 1
      · intro w hSw; skip; first | (go_simp; done) | (go_simp; with_reducible rfl)
      try simp only [Act.put, lsA, lsB, lsC]
      refine takeL (i := 7) (v := ?_) rfl (by kernel_rfl) (by kernel_rfl) (by kernel_rfl) (fun _ _ _ h => h) (Or.inl ⟨by rfl, ?_⟩) (by assumption) ?_
      rotate_left 1
      · intro w hSw; skip; first | (go_simp; done) | (go_simp; with_reducible rfl)
      try simp only [Act.put, lsA, lsB, lsC]
      refine wpAnyH_ready (rs := [8]) (by kernel_rfl) (by simp) (consL rfl (fun K hK => ?_) AllReadyH.nil)
      refine step_copyK rfl (.tmp 73) (.tmp 76) 30 30 rfl (base := base) (g := gs) (n := n + 1) (cap := c) (us := us ++ xs) ⟨hwide⟩ _ _ _ _ _ _ (us.drop (i * 6)) rfl rfl Tryz.underlying30 hsize (by rw [hdl]; simp only [Nat.min_def]; split <;> first | rfl | omega) (by rw [hdl]; omega) (own_news HS.out.own) (fun v hv => O1.out v (List.mem_of_mem_drop hv)) ?_
      intro w2 hr2 hg2
      refine hK.out _ _ ?_ (fun hHeld => ?_)
      · trivial
      clear hK K
      try simp only [Act.put, lsA, lsB, lsC]
      refine wpAnyH_done (by kernel_rfl) ?_ _
      have hg3 := grown_trans (grown_weak' (Wr.grown_drew w none)) hg2
      have HV2 := (HV.out.grown (Wr.grown_drew w none)).chg (L := [gs]) (Chg.of hg2 (fun b hb => by injection hb with hb; simp [hb])) (fun b hb hm => by rw [List.mem_singleton] at hm; subst hm; injection hb with hb; exact hgne hb)
      have R2 := Hi hr2
      have G3 := Hi hg3
      have V2 := Hi HV2
      clear hr2 hg2 hg3 HV2 hwide
      have hW1 : i * 6 + 6 ≤ (n + 1) * 6 := by omega
      obtain ⟨w3, hrun3, hr3, hg4⟩ := copyK_own (P := Tryz.prog) R2.out.own 30 30 3 (i * 6) (n + 1 - i) (c - i) ⟨g, 0, none⟩ 1 vc vs Tryz.underlying30 hsize (by rw [hvlen]; simp only [Nat.min_def]; split <;> omega) (by rw [hvlen]; exact hW1) V2.out.cr.news O2.out
      go_wp2_with fail
      rw [mid_cells hl hvlen hxl hlt] at hr3
      have R3 := Hi hr3
      have G4 := Hi (grown_trans G3.out hg4)
      clear hr3 hg4
      go_ret
      exact ⟨⟨some ⟨gs, 0, none⟩, n + 1, c⟩, rfl, rfl, ⟨R3.out⟩, G4.out, fun b hb' => .inl hb'⟩
    · have hroom2 : (c : Int) < (n : Int) + 1 := by omega
      have hkk : (n : Int) + 1 - (i : Int) = ((n + 1 - i : Nat) : Int) := by omega
      go_enter Tryz.func78, Tryz.ntmps78
      go_wp2_with (first
        | (at_builtin
           refine wpList_growK rfl _ _ 30 3 rfl (g := gs) (n := n) (c := c) (us := us) Tryz.underlying30 Tryz.underlying3 hI hz hsz hby (by rfl) (by omega) i (n + 1 - i) rfl _ rfl (by omega) HS.out (by omega) (by omega) (by omega) (by omega) (by omega) ?_
           intro c2 zs w2 hzl hr2 hg2 hc2)
        | fail)
      have hiN : i + (n + 1 - i) = n + 1 := by omega
      rw [hiN] at hr2 hc2
      try simp only [hiN]
      have hlt2 : w.heap.size < w2.heap.size := (hr2.blk _ rfl).2
      have hgne2 : g ≠ w.heap.size := by omega
      have hz1 : (us.take (i * 6) ++ zs).length = (n + 1) * 6 := hr2.len
      obtain ⟨w3, hrun3, hr3, hg3⟩ := copyK_own (P := Tryz.prog) (n := n + 1) hr2.own 30 30 3 (i * 6) (n + 1 - i) (c2 - i) ⟨g, 0, none⟩ 1 vc vs Tryz.underlying30 hsize (by rw [hvlen]; simp only [Nat.min_def]; split <;> omega) (by rw [hvlen]; omega) (HV.out.grown hg2).cr.news O2.out
      try rw [hrun3]
      have R3 := Hi (show OR w.heap.size w3 28 6 ⟨some ⟨w.heap.size, 0, none⟩, n + 1, c2⟩ _ from ⟨hr3⟩)
      have G3 := Hi (Wr.grown_off hg2 hg3 (Nat.le_refl _))
      have hs3 := Hi hg3.size
      clear hr3 hg3 hr2 hg2
      simp only [Result.andThen]
      rw [Oper.upon_value]
      have hci2 : ¬ (c2 = i + 1) := by omega
      have hb4 : (i : Int) + 1 ≤ (n : Int) + 1 := by omega
      have hdl2 : (us.drop (i * 6)).length = (n - i) * 6 := hdl
      have hb5 : (i : Int) ≤ (n : Int) := by omega
      go_wp2_with fail
      refine wp_region_held_drew (S := (fun _ : World => True)) (by kernel_rfl) ?_ (fun hHeld => ?_)
      · trivial
      try simp only [Act.put, lsA, lsB, lsC]
      refine takeL (i := 0) (v := ?_) rfl (by kernel_rfl) (by kernel_rfl) (by kernel_rfl) (fun _ _ _ h => h) (Or.inl ⟨by rfl, ?_⟩) (by assumption) ?_
      rotate_left 1
      · intro w hSw; skip; first | (go_simp; done) | (go_simp; with_reducible rfl)
      try simp only [Act.put, lsA, lsB, lsC]
      refine takeL (i := 1) (v := ?_) rfl (by kernel_rfl) (by kernel_rfl) (by kernel_rfl) (fun _ _ _ h => h) (Or.inl ⟨by rfl, ?_⟩) (by assumption) ?_
      rotate_left 1
      · intro w hSw; skip; first | (go_simp; done) | (go_simp; with_reducible rfl)
      try simp only [Act.put, lsA, lsB, lsC]
      refine takeL (i := 2) (v := ?_) rfl (by kernel_rfl) (by kernel_rfl) (by kernel_rfl) (fun _ _ _ h => h) (Or.inl ⟨by rfl, ?_⟩) (by assumption) ?_
      rotate_left 1
      · intro w hSw; skip; first | (go_simp; done) | (go_simp; with_reducible rfl)
      try simp only [Act.put, lsA, lsB, lsC]
      refine takeL (i := 3) (v := ?_) rfl (by kernel_rfl) (by kernel_rfl) (by kernel_rfl) (fun _ _ _ h => h) (Or.inl ⟨by rfl, ?_⟩) (by assumption) ?_
      rotate_left 1
      · intro w hSw; skip; first | (go_simp; done) | (go_simp; with_reducible rfl)
      try simp only [Act.put, lsA, lsB, lsC]
      refine takeL (i := 4) (v := ?_) rfl (by kernel_rfl) (by kernel_rfl) (by kernel_rfl) (fun _ _ _ h => h) (Or.inl ⟨by rfl, ?_⟩) (by assumption) ?_
      rotate_left 1
      · intro w hSw; skip; first | (go_simp; done) | (go_simp; with_reducible rfl)
      try simp only [Act.put, lsA, lsB, lsC]
      refine takeL (i := 5) (v := ?_) rfl (by kernel_rfl) (by kernel_rfl) (by kernel_rfl) (fun _ _ _ h => h) (Or.inl ⟨by rfl, ?_⟩) (by assumption) ?_
      rotate_left 1
      · intro w hSw; skip; first | (go_simp; done) | (go_simp; with_reducible rfl)
      try simp only [Act.put, lsA, lsB, lsC]
      refine takeL (i := 6) (v := ?_) rfl (by kernel_rfl) (by kernel_rfl) (by kernel_rfl) (fun _ _ _ h => h) (Or.inl ⟨by rfl, ?_⟩) (by assumption) ?_
      rotate_left 1
      · intro w hSw; skip; first | (go_simp; done) | (go_simp; with_reducible rfl)
      try simp only [Act.put, lsA, lsB, lsC]
      refine takeL (i := 7) (v := ?_) rfl (by kernel_rfl) (by kernel_rfl) (by kernel_rfl) (fun _ _ _ h => h) (Or.inl ⟨by rfl, ?_⟩) (by assumption) ?_
      rotate_left 1
      · intro w hSw; skip; first | (go_simp; done) | (go_simp; with_reducible rfl)
      try simp only [Act.put, lsA, lsB, lsC]
      refine wpAnyH_ready (rs := [8]) (by kernel_rfl) (by simp) (consL rfl (fun K hK => ?_) AllReadyH.nil)
      refine step_copyK rfl (.tmp 50) (.tmp 53) 30 30 rfl (g := w.heap.size) (n := n + 1) (cap := c2) (R3.out.grown (Wr.grown_drew w3 none)) _ _ _ _ _ _ (us.drop (i * 6)) rfl rfl Tryz.underlying30 hsize (by rw [hdl]; simp only [Nat.min_def]; split <;> first | rfl | omega) (by rw [hdl]; show (i + 1) * 6 + (n - i) * 6 ≤ (n + 1) * 6; omega) (own_news ((HS.out.grown G3.out).grown (Wr.grown_drew w3 none)).own) (fun v hv => O1.out v (List.mem_of_mem_drop hv)) ?_
      intro w4 hr4 hg4
      refine hK.out _ _ ?_ (fun hHeld => ?_)
      · trivial
      clear hK K
      try simp only [Act.put, lsA, lsB, lsC]
      refine wpAnyH_done (by kernel_rfl) ?_ _
      have hr4' := hr4
      rw [new_cells hl hvlen hzl hlt rfl] at hr4'
      have R4 := Hi hr4'
      have G4 := Hi (Wr.grown_off (grown_trans G3.out (Wr.grown_drew w3 none)) hg4 (Nat.le_refl _))
      clear hr4 hr4' hg4
      go_wp2
      go_ret
      refine ⟨⟨some ⟨w.heap.size, 0, none⟩, n + 1, c2⟩, rfl, rfl, R4.out.base_ hb, grown_weak' G4.out, fun b hb' => .inr ?_⟩
      injection hb' with hb'
      have hb' : w.heap.size = b := hb'
      omega
set_option maxRecDepth 100000 in
set_option maxHeartbeats 2000000 in
theorem ins_w (base b2 : Nat) (s V : Sl) (us vs : List Value) (i : Nat) (w : World) (h : OR base w 32 4 s us) (hv : OR b2 w 32 4 V vs) (hV : V.n = 1) (hne : ∀ b, s.blk = some b → V.blk ≠ some b) (hb : base ≤ w.heap.size) (hi : i ≤ s.n) (hn : s.n ≤ 1000000) (h1 : ∀ u ∈ us, u.oneCell' = true) (h2 : ∀ u ∈ vs, u.oneCell' = true) :
    Calls Tryz.prog 75 #[s.v, .int .i64 i, V.v] w (InsEnd 32 4 base s (us.take (i * 4) ++ (vs ++ us.drop (i * 4))) w) := by
  obtain ⟨I, hI, hz, hsz, hby⟩ := parts_w
  obtain ⟨va, vn, vc⟩ := V
  dsimp only at hV
  subst hV
  obtain ⟨g, rfl, hvb, hvl⟩ : ∃ g, va = some ⟨g, 0, none⟩ ∧ b2 ≤ g ∧ g < w.heap.size := by
    rcases hv.form with ⟨_, h0, _⟩ | h0
    · dsimp only at h0; omega
    · exact h0
  have hl := h.len
  have hvlen : vs.length = 4 := by have := hv.len; dsimp only at this; omega
  have hf := h.fit
  have hvf := hv.fit
  obtain ⟨a, n, c⟩ := s
  unfold Sl.fit at hf hvf
  dsimp only [Sl.v] at *
  have HS := Hi h
  have HV := Hi hv
  have O1 := Hi h1
  have O2 := Hi h2
  have hsize : (Tryz.prog.info? 32).map (·.size) = some 4 := by rw [hI]; simp [hsz]
  clear h hv h1 h2
  by_cases hin : i = n
  · subst hin
    have e1 : us.take (i * 4) = us := List.take_of_length_le (by omega)
    have e2 : us.drop (i * 4) = [] := List.drop_of_length_le (by omega)
    rw [e1, e2, List.append_nil]
    have hi0 : ¬ (c : Int) < (i : Int) := by omega
    by_cases hci : c = i
    · go_enter Tryz.func75, Tryz.ntmps75
      go_wp2_with (first
        | (at_builtin
           refine wpList_appK rfl _ _ 23 rfl (S := ⟨a, i, c⟩) (V := ⟨some ⟨g, 0, none⟩, 1, vc⟩) Tryz.underlying23 hI hz hsz hby (by rfl) (by omega) rfl rfl HS.out hb HV.out O2.out (by dsimp only; omega) (by dsimp only; omega) ?_
           intro r w1 hrn hr hg hrb)
        | fail)
      have hr := Hi hr
      have hg := Hi hg
      have hrb := Hi hrb
      go_wp2
      go_ret
      exact ⟨r, rfl, hrn, hr.out, hg.out, fun b hb' => (hrb.out b hb').imp id (fun e => by omega)⟩
    · go_enter Tryz.func75, Tryz.ntmps75
      go_wp2_with (first
        | (at_builtin
           refine wpList_appK rfl _ _ 23 rfl (S := ⟨a, i, c⟩) (V := ⟨some ⟨g, 0, none⟩, 1, vc⟩) Tryz.underlying23 hI hz hsz hby (by rfl) (by omega) rfl rfl HS.out hb HV.out O2.out (by dsimp only; omega) (by dsimp only; omega) ?_
           intro r w1 hrn hr hg hrb)
        | fail)
      have hr := Hi hr
      have hg := Hi hg
      have hrb := Hi hrb
      go_wp2
      go_ret
      exact ⟨r, rfl, hrn, hr.out, hg.out, fun b hb' => (hrb.out b hb').imp id (fun e => by omega)⟩
  · have hlt : i < n := by omega
    obtain ⟨gs, rfl, hgb, hgl⟩ : ∃ gs, a = some ⟨gs, 0, none⟩ ∧ base ≤ gs ∧ gs < w.heap.size := by
      rcases HS.out.form with ⟨_, h0, _⟩ | h0
      · dsimp only at h0; omega
      · exact h0
    have hgne : g ≠ gs := by intro e; subst e; exact hne _ rfl rfl
    have hiN : ¬ ((i : Int) = (n : Int)) := by omega
    have hik : i * 4 + 4 ≤ n * 4 := by omega
    have hdl : (us.drop (i * 4)).length = (n - i) * 4 := by rw [List.length_drop]; omega
    have hw1 : IntKind.i64.wrap ((i : Int) + 1) = (i : Int) + 1 := IntWalk.i64_in _ (by omega)
    have hci : ¬ (c = i) := by omega
    have hb1 : (0 : Int) ≤ (i : Int) + 1 := by omega
    have hb3 : (i : Int) ≤ (n : Int) + 1 := by omega
    by_cases hroom : n + 1 ≤ c
    · have hci1 : ¬ (c = i + 1) := by omega
      have hov : ∀ lb cb, (callFunc 85 #[.slice (some ⟨g, 0, none⟩) 1 vc, .slice (some ⟨gs, (i + 1) * 4, none⟩) lb cb]).run Tryz.prog w = .ok (.value (.bool false)) w := fun lb cb => by
        rw [run_callFunc_extern Tryz.func85 (by kernel_rfl) (by kernel_rfl) (by kernel_rfl) (e := Extern.SlicesOverlaps.overlaps #[23, 23] #[4]) (by kernel_rfl),
          overlaps_apart Tryz.underlying23 Tryz.sizeOf32 HV.out HS.out hgne (by omega) (by omega) 1 vc lb cb ((i + 1) * 4)]
        rfl
      obtain ⟨xs, hxl, hwide⟩ := own_wider (n := n) HS.out.own (m := n + 1) (by omega) hroom
      have hxl : xs.length = 4 := by rw [hxl, Nat.add_sub_cancel_left, Nat.one_mul]
      go_enter Tryz.func75, Tryz.ntmps75
      go_wp2_with (first | (simp only [hov]) | fail)
      refine wp_region_held_drew (S := (fun _ : World => True)) (by kernel_rfl) ?_ (fun hHeld => ?_)
      · trivial
      try simp only [Act.put, lsA, lsB, lsC]
      refine takeL (i := 0) (v := ?_) rfl (by kernel_rfl) (by kernel_rfl) (by kernel_rfl) (fun _ _ _ h => h) (Or.inl ⟨by rfl, ?_⟩) (by assumption) ?_
      rotate_left 1
      · intro w hSw; skip; first | (go_simp; done) | (go_simp; with_reducible rfl)
      try simp only [Act.put, lsA, lsB, lsC]
      refine takeL (i := 1) (v := ?_) rfl (by kernel_rfl) (by kernel_rfl) (by kernel_rfl) (fun _ _ _ h => h) (Or.inl ⟨by rfl, ?_⟩) (by assumption) ?_
      rotate_left 1
      · intro w hSw; skip; first | (go_simp; done) | (go_simp; with_reducible rfl)
      try simp only [Act.put, lsA, lsB, lsC]
      refine takeL (i := 2) (v := ?_) rfl (by kernel_rfl) (by kernel_rfl) (by kernel_rfl) (fun _ _ _ h => h) (Or.inl ⟨by rfl, ?_⟩) (by assumption) ?_
      rotate_left 1
      · intro w hSw; skip; first | (go_simp; done) | (go_simp; with_reducible rfl)
      try simp only [Act.put, lsA, lsB, lsC]
      refine takeL (i := 3) (v := ?_) rfl (by kernel_rfl) (by kernel_rfl) (by kernel_rfl) (fun _ _ _ h => h) (Or.inl ⟨by rfl, ?_⟩) (by assumption) ?_
      rotate_left 1
      · intro w hSw; skip; first | (go_simp; done) | (go_simp; with_reducible rfl)
      try simp only [Act.put, lsA, lsB, lsC]
      refine takeL (i := 4) (v := ?_) rfl (by kernel_rfl) (by kernel_rfl) (by kernel_rfl) (fun _ _ _ h => h) (Or.inl ⟨by rfl, ?_⟩) (by assumption) ?_
      rotate_left 1
      · intro w hSw; skip; first | (go_simp; done) | (go_simp; with_reducible rfl)
      try simp only [Act.put, lsA, lsB, lsC]
      refine takeL (i := 5) (v := ?_) rfl (by kernel_rfl) (by kernel_rfl) (by kernel_rfl) (fun _ _ _ h => h) (Or.inl ⟨by rfl, ?_⟩) (by assumption) ?_
      rotate_left 1
      · intro w hSw; skip; first | (go_simp; done) | (go_simp; with_reducible rfl)
      try simp only [Act.put, lsA, lsB, lsC]
      refine takeL (i := 6) (v := ?_) rfl (by kernel_rfl) (by kernel_rfl) (by kernel_rfl) (fun _ _ _ h => h) (Or.inl ⟨by rfl, ?_⟩) (by assumption) ?_
      rotate_left 1
      · intro w hSw; skip; first | (go_simp; done) | (go_simp; with_reducible rfl)
      try simp only [Act.put, lsA, lsB, lsC]
      refine takeL (i := 7) (v := ?_) rfl (by kernel_rfl) (by kernel_rfl) (by kernel_rfl) (fun _ _ _ h => h) (Or.inl ⟨by rfl, ?_⟩) (by assumption) ?_
      rotate_left 1
      · intro w hSw; skip; first | (go_simp; done) | (go_simp; with_reducible rfl)
      try simp only [Act.put, lsA, lsB, lsC]
      refine wpAnyH_ready (rs := [8]) (by kernel_rfl) (by simp) (consL rfl (fun K hK => ?_) AllReadyH.nil)
      refine step_copyK rfl (.tmp 73) (.tmp 76) 23 23 rfl (base := base) (g := gs) (n := n + 1) (cap := c) (us := us ++ xs) ⟨hwide⟩ _ _ _ _ _ _ (us.drop (i * 4)) rfl rfl Tryz.underlying23 hsize (by rw [hdl]; simp only [Nat.min_def]; split <;> first | rfl | omega) (by rw [hdl]; omega) (own_news HS.out.own) (fun v hv => O1.out v (List.mem_of_mem_drop hv)) ?_
      intro w2 hr2 hg2
      refine hK.out _ _ ?_ (fun hHeld => ?_)
      · trivial
      clear hK K
      try simp only [Act.put, lsA, lsB, lsC]
      refine wpAnyH_done (by kernel_rfl) ?_ _
      have hg3 := grown_trans (grown_weak' (Wr.grown_drew w none)) hg2
      have HV2 := (HV.out.grown (Wr.grown_drew w none)).chg (L := [gs]) (Chg.of hg2 (fun b hb => by injection hb with hb; simp [hb])) (fun b hb hm => by rw [List.mem_singleton] at hm; subst hm; injection hb with hb; exact hgne hb)
      have R2 := Hi hr2
      have G3 := Hi hg3
      have V2 := Hi HV2
      clear hr2 hg2 hg3 HV2 hwide
      have hW1 : i * 4 + 4 ≤ (n + 1) * 4 := by omega
      obtain ⟨w3, hrun3, hr3, hg4⟩ := copyK_own (P := Tryz.prog) R2.out.own 23 23 3 (i * 4) (n + 1 - i) (c - i) ⟨g, 0, none⟩ 1 vc vs Tryz.underlying23 hsize (by rw [hvlen]; simp only [Nat.min_def]; split <;> omega) (by rw [hvlen]; exact hW1) V2.out.cr.news O2.out
      go_wp2_with fail
      rw [mid_cells hl hvlen hxl hlt] at hr3
      have R3 := Hi hr3
      have G4 := Hi (grown_trans G3.out hg4)
      clear hr3 hg4
      go_ret
      exact ⟨⟨some ⟨gs, 0, none⟩, n + 1, c⟩, rfl, rfl, ⟨R3.out⟩, G4.out, fun b hb' => .inl hb'⟩
    · have hroom2 : (c : Int) < (n : Int) + 1 := by omega
      have hkk : (n : Int) + 1 - (i : Int) = ((n + 1 - i : Nat) : Int) := by omega
      go_enter Tryz.func75, Tryz.ntmps75
      go_wp2_with (first
        | (at_builtin
           refine wpList_growK rfl _ _ 23 3 rfl (g := gs) (n := n) (c := c) (us := us) Tryz.underlying23 Tryz.underlying3 hI hz hsz hby (by rfl) (by omega) i (n + 1 - i) rfl _ rfl (by omega) HS.out (by omega) (by omega) (by omega) (by omega) (by omega) ?_
           intro c2 zs w2 hzl hr2 hg2 hc2)
        | fail)
      have hiN : i + (n + 1 - i) = n + 1 := by omega
      rw [hiN] at hr2 hc2
      try simp only [hiN]
      have hlt2 : w.heap.size < w2.heap.size := (hr2.blk _ rfl).2
      have hgne2 : g ≠ w.heap.size := by omega
      have hz1 : (us.take (i * 4) ++ zs).length = (n + 1) * 4 := hr2.len
      obtain ⟨w3, hrun3, hr3, hg3⟩ := copyK_own (P := Tryz.prog) (n := n + 1) hr2.own 23 23 3 (i * 4) (n + 1 - i) (c2 - i) ⟨g, 0, none⟩ 1 vc vs Tryz.underlying23 hsize (by rw [hvlen]; simp only [Nat.min_def]; split <;> omega) (by rw [hvlen]; omega) (HV.out.grown hg2).cr.news O2.out
      try rw [hrun3]
      have R3 := Hi (show OR w.heap.size w3 32 4 ⟨some ⟨w.heap.size, 0, none⟩, n + 1, c2⟩ _ from ⟨hr3⟩)
      have G3 := Hi (Wr.grown_off hg2 hg3 (Nat.le_refl _))
      have hs3 := Hi hg3.size
      clear hr3 hg3 hr2 hg2
      simp only [Result.andThen]
      rw [Oper.upon_value]
      have hci2 : ¬ (c2 = i + 1) := by omega
      have hb4 : (i : Int) + 1 ≤ (n : Int) + 1 := by omega
      have hdl2 : (us.drop (i * 4)).length = (n - i) * 4 := hdl
      have hb5 : (i : Int) ≤ (n : Int) := by omega
      go_wp2_with fail
      refine wp_region_held_drew (S := (fun _ : World => True)) (by kernel_rfl) ?_ (fun hHeld => ?_)
      · trivial
      try simp only [Act.put, lsA, lsB, lsC]
      refine takeL (i := 0) (v := ?_) rfl (by kernel_rfl) (by kernel_rfl) (by kernel_rfl) (fun _ _ _ h => h) (Or.inl ⟨by rfl, ?_⟩) (by assumption) ?_
      rotate_left 1
      · intro w hSw; skip; first | (go_simp; done) | (go_simp; with_reducible rfl)
      try simp only [Act.put, lsA, lsB, lsC]
      refine takeL (i := 1) (v := ?_) rfl (by kernel_rfl) (by kernel_rfl) (by kernel_rfl) (fun _ _ _ h => h) (Or.inl ⟨by rfl, ?_⟩) (by assumption) ?_
      rotate_left 1
      · intro w hSw; skip; first | (go_simp; done) | (go_simp; with_reducible rfl)
      try simp only [Act.put, lsA, lsB, lsC]
      refine takeL (i := 2) (v := ?_) rfl (by kernel_rfl) (by kernel_rfl) (by kernel_rfl) (fun _ _ _ h => h) (Or.inl ⟨by rfl, ?_⟩) (by assumption) ?_
      rotate_left 1
      · intro w hSw; skip; first | (go_simp; done) | (go_simp; with_reducible rfl)
      try simp only [Act.put, lsA, lsB, lsC]
      refine takeL (i := 3) (v := ?_) rfl (by kernel_rfl) (by kernel_rfl) (by kernel_rfl) (fun _ _ _ h => h) (Or.inl ⟨by rfl, ?_⟩) (by assumption) ?_
      rotate_left 1
      · intro w hSw; skip; first | (go_simp; done) | (go_simp; with_reducible rfl)
      try simp only [Act.put, lsA, lsB, lsC]
      refine takeL (i := 4) (v := ?_) rfl (by kernel_rfl) (by kernel_rfl) (by kernel_rfl) (fun _ _ _ h => h) (Or.inl ⟨by rfl, ?_⟩) (by assumption) ?_
      rotate_left 1
      · intro w hSw; skip; first | (go_simp; done) | (go_simp; with_reducible rfl)
      try simp only [Act.put, lsA, lsB, lsC]
      refine takeL (i := 5) (v := ?_) rfl (by kernel_rfl) (by kernel_rfl) (by kernel_rfl) (fun _ _ _ h => h) (Or.inl ⟨by rfl, ?_⟩) (by assumption) ?_
      rotate_left 1
      · intro w hSw; skip; first | (go_simp; done) | (go_simp; with_reducible rfl)
      try simp only [Act.put, lsA, lsB, lsC]
      refine takeL (i := 6) (v := ?_) rfl (by kernel_rfl) (by kernel_rfl) (by kernel_rfl) (fun _ _ _ h => h) (Or.inl ⟨by rfl, ?_⟩) (by assumption) ?_
      rotate_left 1
      · intro w hSw; skip; first | (go_simp; done) | (go_simp; with_reducible rfl)
      try simp only [Act.put, lsA, lsB, lsC]
      refine takeL (i := 7) (v := ?_) rfl (by kernel_rfl) (by kernel_rfl) (by kernel_rfl) (fun _ _ _ h => h) (Or.inl ⟨by rfl, ?_⟩) (by assumption) ?_
      rotate_left 1
      · intro w hSw; skip; first | (go_simp; done) | (go_simp; with_reducible rfl)
      try simp only [Act.put, lsA, lsB, lsC]
      refine wpAnyH_ready (rs := [8]) (by kernel_rfl) (by simp) (consL rfl (fun K hK => ?_) AllReadyH.nil)
      refine step_copyK rfl (.tmp 50) (.tmp 53) 23 23 rfl (g := w.heap.size) (n := n + 1) (cap := c2) (R3.out.grown (Wr.grown_drew w3 none)) _ _ _ _ _ _ (us.drop (i * 4)) rfl rfl Tryz.underlying23 hsize (by rw [hdl]; simp only [Nat.min_def]; split <;> first | rfl | omega) (by rw [hdl]; show (i + 1) * 4 + (n - i) * 4 ≤ (n + 1) * 4; omega) (own_news ((HS.out.grown G3.out).grown (Wr.grown_drew w3 none)).own) (fun v hv => O1.out v (List.mem_of_mem_drop hv)) ?_
      intro w4 hr4 hg4
      refine hK.out _ _ ?_ (fun hHeld => ?_)
      · trivial
      clear hK K
      try simp only [Act.put, lsA, lsB, lsC]
      refine wpAnyH_done (by kernel_rfl) ?_ _
      have hr4' := hr4
      rw [new_cells hl hvlen hzl hlt rfl] at hr4'
      have R4 := Hi hr4'
      have G4 := Hi (Wr.grown_off (grown_trans G3.out (Wr.grown_drew w3 none)) hg4 (Nat.le_refl _))
      clear hr4 hr4' hg4
      go_wp2
      go_ret
      refine ⟨⟨some ⟨w.heap.size, 0, none⟩, n + 1, c2⟩, rfl, rfl, R4.out.base_ hb, grown_weak' G4.out, fun b hb' => .inr ?_⟩
      injection hb' with hb'
      have hb' : w.heap.size = b := hb'
      omega
end Go.Proofs.YticmoaebegahgaaGreatDoor.Iw
