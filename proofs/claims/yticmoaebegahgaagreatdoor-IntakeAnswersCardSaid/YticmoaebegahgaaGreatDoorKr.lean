import Derived.Test.YticmoaebegahgaaGreatDoorKq
set_option linter.all false
namespace Go.Proofs.YticmoaebegahgaaGreatDoor.Iw
open Go.ChangeShapes Go.WideShapes Go.ChangeAt Go.RowKit
open Wr (IR RB iv ivs bv bvs grown_trans grown_refl grown_alloc ret_int ret_bool tv Ret ret_mk)
def ix (l : List UInt8) (x : Nat × Nat) : List UInt8 := (l.take x.2).drop x.1
abbrev Fx (n : Nat) := { x : Nat × Nat // x.1 < x.2 ∧ x.2 ≤ n }
theorem scan_take {l : List UInt8} {k : Nat} (h : k < l.length) : Im.scan none (l.take (k + 1)) = Im.fstep (Im.scan none (l.take k)) (l.getD k 0) := by
  have e : l.take (k + 1) = l.take k ++ [l.getD k 0] := by rw [List.take_add_one, List.getElem?_eq_getElem h, gd h]; rfl
  unfold Im.scan
  rw [e, Im.fscan_append, Im.fscan_cons, Im.fscan_nil]
theorem take_drop_snoc {l : List UInt8} {s k : Nat} (hk : k < l.length) (hs : s ≤ k) : (l.take (k + 1)).drop s = (l.take k).drop s ++ [l.getD k 0] := by
  have e : l.take (k + 1) = l.take k ++ [l.getD k 0] := by rw [List.take_add_one, List.getElem?_eq_getElem hk, gd hk]; rfl
  rw [e, List.drop_append_of_le_length (by rw [List.length_take]; omega)]
structure Fr (l : List UInt8) (n k : Nat) (st : Int) (pre : List (Fx n)) : Prop where
  out : (Im.scan none (l.take k)).out = pre.map fun x => ix l x.1
  cur : (st = -1 ∧ (Im.scan none (l.take k)).cur = none) ∨ ∃ s : Nat, st = (s : Int) ∧ s < k ∧ (Im.scan none (l.take k)).cur = some ((l.take k).drop s)
  few : pre.length ≤ k
theorem fr_zero (l : List UInt8) (n : Nat) : Fr l n 0 (-1) [] := ⟨rfl, .inl ⟨rfl, rfl⟩, by simp⟩
variable {l : List UInt8} {n k : Nat} {st : Int} {pre : List (Fx n)}
theorem Fr.start (h : Fr l n k st pre) (hk : k < l.length) (hx : l.getD k 0 = 126) : Fr l n (k + 1) (k : Int) pre := by
  have e := scan_take hk
  rw [hx] at e
  have e2 : Im.fstep (Im.scan none (l.take k)) 126 = ⟨(Im.scan none (l.take k)).out, some [126]⟩ := by simp [Im.fstep]
  rw [e2] at e
  refine ⟨by rw [e]; exact h.out, .inr ⟨k, rfl, by omega, ?_⟩, by have := h.few; omega⟩
  rw [e, take_drop_snoc hk (Nat.le_refl _), hx, List.drop_eq_nil_of_le (by rw [List.length_take]; omega)]
  rfl
theorem Fr.stop {k' : Nat} (h : Fr l n k (k' : Int) pre) (hk : k < l.length) (hn : l.length = n) (hx : l.getD k 0 = 124) :
    ∃ hp : k' < k + 1 ∧ k + 1 ≤ n, Fr l n (k + 1) (-1) (pre ++ [⟨(k', k + 1), hp⟩]) := by
  rcases h.cur with ⟨h1, _⟩ | ⟨s, h1, h2, h3⟩
  · omega
  · obtain rfl : k' = s := by omega
    refine ⟨⟨by omega, by omega⟩, ?_⟩
    have e := scan_take hk
    rw [hx] at e
    have e2 : Im.fstep (Im.scan none (l.take k)) 124 = ⟨(Im.scan none (l.take k)).out ++ [(l.take k).drop k' ++ [124]], none⟩ := by simp [Im.fstep, h3]
    rw [e2] at e
    refine ⟨?_, .inl ⟨rfl, by rw [e]⟩, by have := h.few; simp; omega⟩
    rw [e, List.map_append, h.out]
    simp only [List.map_cons, List.map_nil, ix]
    rw [take_drop_snoc hk (by omega), hx]
theorem Fr.noise (h : Fr l n k (-1) pre) (hk : k < l.length) (hx : l.getD k 0 ≠ 126) : Fr l n (k + 1) (-1) pre := by
  rcases h.cur with ⟨_, h1⟩ | ⟨s, h1, _⟩
  · have e := scan_take hk
    have e2 : Im.fstep (Im.scan none (l.take k)) (l.getD k 0) = ⟨(Im.scan none (l.take k)).out, none⟩ := by
      unfold Im.fstep
      rw [if_neg hx]
      split <;> simp [h1]
    rw [e2] at e
    exact ⟨by rw [e]; exact h.out, .inl ⟨rfl, by rw [e]⟩, by have := h.few; omega⟩
  · omega
theorem Fr.goes (h : Fr l n k st pre) (hk : k < l.length) (hx : l.getD k 0 ≠ 126) (hx2 : l.getD k 0 ≠ 124) : Fr l n (k + 1) st pre := by
  have e := scan_take hk
  have e2 : Im.fstep (Im.scan none (l.take k)) (l.getD k 0) = ⟨(Im.scan none (l.take k)).out, (Im.scan none (l.take k)).cur.map (· ++ [l.getD k 0])⟩ := by
    unfold Im.fstep
    rw [if_neg hx, if_neg hx2]
  rw [e2] at e
  refine ⟨by rw [e]; exact h.out, ?_, by have := h.few; omega⟩
  rcases h.cur with ⟨h0, h1⟩ | ⟨s, h0, h1, h2⟩
  · exact .inl ⟨h0, by rw [e, h1]; rfl⟩
  · exact .inr ⟨s, h0, by omega, by rw [e, h2, take_drop_snoc hk (by omega)]; rfl⟩
theorem Fr.done (h : Fr l n l.length st pre) : (Im.scan none l).out = pre.map fun x => ix l x.1 := by
  have := h.out
  rwa [List.take_length] at this
theorem info_s : (Tryz.prog.info? 22).map (fun i => (i.zero, i.size, i.bytes)) = some (some (.slice none 0 0), 1, 24) := by kernel_rfl
theorem parts_s : ∃ i, Tryz.prog.info? 22 = some i ∧ i.zero = some (.slice none 0 0) ∧ i.size = 1 ∧ i.bytes = 24 := by
  obtain ⟨i, hi, hz⟩ := Option.map_eq_some_iff.1 info_s
  simp only [Prod.mk.injEq] at hz
  exact ⟨i, hi, hz.1, hz.2.1, hz.2.2⟩
theorem or_lit0b (w : World) : OR w.heap.size (w.alloc (Obj.cells #[] 5)) 5 1 ⟨some ⟨w.heap.size, 0, none⟩, 0, 0⟩ [] :=
  ⟨World.ownsRow_lit (base := w.heap.size) (e := 5) (size := 1) w #[] 0 (Nat.le_refl _) (by unfold maxLen; omega) (by simp)⟩
theorem or_lit1s (w : World) (v : Value) : OR w.heap.size (w.alloc (Obj.cells #[v] 22)) 22 1 ⟨some ⟨w.heap.size, 0, none⟩, 1, 1⟩ [v] :=
  ⟨World.ownsRow_lit (base := w.heap.size) (e := 22) (size := 1) w #[v] 1 (Nat.le_refl _) (by unfold maxLen; omega) (by simp)⟩
structure SB (base : Nat) (w : World) (F : Sl) (xs : List (Sl × List UInt8)) : Prop where
  row : OR base w 22 1 F (xs.map fun x => x.1.v)
  each : ∀ x ∈ xs, OR base w 5 1 x.1 (bvs x.2)
  off : ∀ x ∈ xs, ∀ b, x.1.blk = some b → F.blk ≠ some b
theorem SB.grown {base : Nat} {w w' : World} {F : Sl} {xs : List (Sl × List UInt8)} (h : SB base w F xs) (g : w.grownBy w' none) : SB base w' F xs := ⟨h.row.grown g, fun x hx => (h.each x hx).grown g, h.off⟩
theorem SB.app {base : Nat} {w w' : World} {F r : Sl} {xs : List (Sl × List UInt8)} (h : SB base w F xs) {f : Sl} {l : List UInt8} (hf : OR base w 5 1 f (bvs l)) (hfF : ∀ b, f.blk = some b → F.blk ≠ some b) (hr : OR base w' 22 1 r ((xs.map fun x => x.1.v) ++ [f.v])) (g : w.grownBy w' F.blk) (hrb : ∀ b, r.blk = some b → F.blk = some b ∨ b = w.heap.size) : SB base w' r (xs ++ [(f, l)]) := by
  have c : Chg F.blk.toList w w' := Chg.of g (fun b hb => by simpa using hb)
  have key : ∀ (s : Sl) (u : List UInt8), OR base w 5 1 s (bvs u) → (∀ b, s.blk = some b → F.blk ≠ some b) → OR base w' 5 1 s (bvs u) ∧ ∀ b, s.blk = some b → r.blk ≠ some b := fun s u ho hn =>
    ⟨ho.chg c (fun b hb hm => hn b hb (by simpa using hm)), fun b hb e => by
      rcases hrb b e with e2 | e2
      · exact hn b hb e2
      · have := (ho.blk b hb).2; omega⟩
  refine ⟨by rw [List.map_append]; exact hr, fun x hx => ?_, fun x hx => ?_⟩
  · rcases List.mem_append.1 hx with hx | hx
    · exact (key _ _ (h.each x hx) (h.off x hx)).1
    · rw [List.mem_singleton] at hx; subst hx; exact (key _ _ hf hfF).1
  · rcases List.mem_append.1 hx with hx | hx
    · exact (key _ _ (h.each x hx) (h.off x hx)).2
    · rw [List.mem_singleton] at hx; subst hx; exact (key _ _ hf hfF).2
theorem SB.new {base : Nat} {w w' : World} {M : List Nat} {F : Sl} {xs : List (Sl × List UInt8)} (h : SB base w F xs) (g : Chg M w w') (hM : ∀ b ∈ M, w.heap.size ≤ b) : SB base w' F xs :=
  ⟨h.row.chg g (fun b hb hm => by have h1 := (h.row.blk b hb).2; have h2 := hM b hm; omega), fun x hx => (h.each x hx).chg g (fun b hb hm => by have h1 := ((h.each x hx).blk b hb).2; have h2 := hM b hm; omega), h.off⟩
def dam (bs : List UInt8) : Int := (bs.length : Int) - ((((Im.scan none bs).out.map List.length).sum : Nat) : Int) - ((((Im.scan none bs).cur.getD []).length : Nat) : Int)
theorem dam_of {bs : List UInt8} {xs : List (Sl × List UInt8)} {m q : Int} {T : List UInt8} (hx : xs.map Prod.snd = (Im.scan none bs).out) (hT : (Im.scan none bs).cur.getD [] = T) (hm : m = (((xs.map fun x => x.2.length).sum : Nat) : Int)) (hq : q = (bs.length : Int) - m - (T.length : Int)) : q = dam bs := by
  unfold dam
  rw [← hx, List.map_map, hT, hq, hm]
  rfl
def FrE (bs : List UInt8) (w : World) (e : Ending) (w' : World) : Prop :=
  ∃ (F T : Sl) (m : Int) (xs : List (Sl × List UInt8)), e = .returned (.tuple #[F.v, T.v, .int .i64 m]) ∧ xs.map Prod.snd = (Im.scan none bs).out ∧ SB w.heap.size w' F xs ∧ OR w.heap.size w' 5 1 T (bvs ((Im.scan none bs).cur.getD [])) ∧ w.grownBy w' none ∧ m = dam bs
theorem rb_cut {w : World} {b off n : Nat} {bs : List UInt8} (h : RB w (some ⟨b, off, none⟩) n bs) {s k : Nat} (hs : s < k) (hk : k ≤ n) {c : Nat} : CR w ⟨some ⟨b, off + s, none⟩, k - s, c⟩ (bvs ((bs.take k).drop s)) := by
  have h1 := (h.take k hk).drop s (k - s) (by omega)
  exact crRB h1
set_option maxRecDepth 100000 in
set_option maxHeartbeats 4000000 in
theorem rframes_any (A : Option Addr) (n c : Nat) (bs : List UInt8) (w : World) (hb : RB w A n bs) (hc : n ≤ c) (hc2 : c ≤ 9223372036854775807) (hn : n ≤ 400000) :
    Calls Tryz.prog 8 #[.slice A n c] w (FrE bs w) := by
  have HB := Hi hb
  have hbl : bs.length = n := hb.1
  obtain ⟨IB, hIB, hzB, hszB, hbyB⟩ := parts_b
  obtain ⟨IS, hIS, hzS, hszS, hbyS⟩ := parts_s
  clear hb
  go_enter Tryz.func8, Tryz.ntmps8
  go_wp2_with fail
  go_loopw [5, 6, 7, 11] (fun vo vs vm vi wr => ∃ (k : Nat) (st m : Int) (F : Sl) (xs : List (Sl × List UInt8)) (pre : List (Fx n)), vo = F.v ∧ vs = .int .i64 st ∧ vm = .int .i64 m ∧ vi = .int .i64 k ∧ k ≤ n ∧ -1 ≤ st ∧ st < k ∧ 0 ≤ m ∧ m ≤ k ∧ (st ≠ -1 → m ≤ st) ∧ F.n ≤ k ∧ Hid (Fr bs n k st pre) ∧ Hid (SB w.heap.size wr F xs) ∧ Hid (xs.map Prod.snd = pre.map fun x => ix bs x.1) ∧ Hid (w.grownBy wr none) ∧ Hid (m = (((xs.map fun x => x.2.length).sum : Nat) : Int))) (fun _ _ _ vi _ => n - (intOf vi).toNat)
  case atStart => exact ⟨0, -1, 0, nilS, [], [], rfl, rfl, rfl, rfl, by omega, by omega, by omega, by omega, by omega, fun h => absurd rfl h, Nat.le_refl _, Hi (fr_zero _ _), Hi ⟨or_nil _ _ _ _, (fun x hx => by cases hx), (fun x hx => by cases hx)⟩, Hi rfl, Hi (grown_refl _ _), Hi rfl⟩
  case round =>
    obtain ⟨k, st, m, ⟨Fa, Fn, Fc⟩, xs, pre, rfl, rfl, rfl, rfl, hk, hst, hst2, hm, hm2, hm3, hFn, FR, SF, XS, G, MS⟩ := hrel
    dsimp only [Sl.v] at hFn ⊢
    by_cases hlt : k < n
    · have hlt' : (k : Int) < (n : Int) := by omega
      obtain ⟨b, off, hA, hcx⟩ := HB.out.2 k hlt
      subst hA
      have hcx := G.out.cell hcx (by simp)
      have hkl : k < bs.length := by omega
      obtain ⟨x, hx⟩ : ∃ x, x = bs.getD k 0 := ⟨_, rfl⟩
      rw [← hx] at hcx
      have HX := Hi hx.symm
      clear hx
      have hx8 := x.toNat_lt
      have hcv : IntKind.i64.wrap ((x.toNat : Nat) : Int) = ((x.toNat : Nat) : Int) := IntWalk.i64_in _ (by omega)
      by_cases h126 : x = 126
      · subst h126
        go_wp2
        go_roundw
        case rel => exact ⟨k + 1, k, m, ⟨Fa, Fn, Fc⟩, xs, pre, rfl, rfl, rfl, by go_num, by omega, by omega, by omega, by omega, by omega, fun _ => by omega, by dsimp only; omega, Hi (FR.out.start hkl HX.out), SF, XS, G, MS⟩
        case measure => simp [intOf]; omega
      · have e126 : (((x.toNat : Nat) : Int) == 126) = false := by
          simp only [beq_eq_false_iff_ne]; intro e; exact h126 ((ub x 126 (by omega)).1 e)
        have HN := Hi h126
        clear h126
        by_cases h124 : x = 124
        · subst h124
          by_cases hs : st = -1
          · subst hs
            go_wp2
            go_roundw
            case rel => exact ⟨k + 1, -1, m, ⟨Fa, Fn, Fc⟩, xs, pre, rfl, rfl, rfl, by go_num, by omega, by omega, by omega, by omega, by omega, fun h => absurd rfl h, by dsimp only; omega, Hi (FR.out.noise hkl (by rw [HX.out]; decide)), SF, XS, G, MS⟩
            case measure => simp [intOf]; omega
          · have hms := hm3 hs
            obtain ⟨s, rfl⟩ : ∃ s : Nat, st = s := ⟨st.toNat, by omega⟩
            obtain ⟨hp, F2⟩ := FR.out.stop hkl hbl HX.out
            have F2 := Hi F2
            have hsk : s < k + 1 := by omega
            have MS2 := Hi (fun (f : Sl) => show m + ((k : Int) + 1 - (s : Int)) = ((((xs ++ [(f, (bs.take (k + 1)).drop s)]).map fun x => x.2.length).sum : Nat) : Int) from by
              have h1 := MS.out
              have h2 : ((bs.take (k + 1)).drop s).length = k + 1 - s := by rw [List.length_drop, List.length_take]; omega
              rw [List.map_append, List.sum_append]
              simp only [List.map_cons, List.map_nil, List.sum_cons, List.sum_nil, h2]
              omega)
            have hs0 : (0 : Int) ≤ (s : Int) := by omega
            have hsc : s < c := by omega
            have hkc : k + 1 ≤ c := by omega
            clear hs hm3
            obtain ⟨wl, hwl⟩ : ∃ z, z = wr.alloc (Obj.cells #[] 5) := ⟨_, rfl⟩
            obtain ⟨bq, hbq⟩ : ∃ b, b = wr.heap.size := ⟨_, rfl⟩
            have gl : wr.grownBy wl none := by subst hwl; exact grown_alloc _ _ _
            have R0 := Hi (show OR bq wl 5 1 ⟨some ⟨bq, 0, none⟩, 0, 0⟩ [] from by subst hwl; subst hbq; exact or_lit0b wr)
            have SFl := Hi (SF.out.grown gl)
            have HCC := Hi (rb_cut (c := c - s) (HB.out.grown (grown_trans G.out gl)) hsk (by omega))
            have HLC := Hi (show (bvs ((bs.take (k + 1)).drop s)).length = (k + 1 - s) * 1 by rw [Wr.bvs_len, List.length_drop, List.length_take]; omega)
            have HBQ := Hi (show bq ≤ wl.heap.size by rw [hbq]; exact gl.size)
            have HLB := Hi (show w.heap.size ≤ bq by rw [hbq]; exact G.out.size)
            have Gl := Hi (grown_trans G.out gl)
            have GLW := Hi gl
            clear gl
            rw [hwl, hbq] at R0 HBQ
            rw [hwl] at HCC
            go_wp2_with (first
              | (at_builtin
                 refine wpList_appV rfl (.tmp 27) (.tmp 32) 22 rfl (S := ⟨some ⟨wr.heap.size, 0, none⟩, 0, 0⟩) (V := ⟨some ⟨b, off + s, none⟩, k + 1 - s, c - s⟩) Tryz.underlying22 hIB hzB hszB hbyB (by rfl) (by omega) rfl rfl R0.out HBQ.out HLC.out HCC.out (Wr.bvs_one _) (by dsimp only; omega) (by dsimp only; omega) ?_
                 intro f w5 hfn hf gf hfb
                 rw [← hwl, ← hbq] at gf
                 rw [← hwl, ← hbq] at hfb
                 rw [← hbq] at hf
                 have cf : Chg [bq] wl w5 := Chg.of gf (fun b hb => by injection hb with hb; subst hb; exact List.mem_singleton_self _)
                 have SF5 := SF.out.new ((Chg.of0 (L := [bq]) GLW.out).trans cf) (fun b hb => by rw [List.mem_singleton] at hb; omega)
                 have G5 := cf.grown Gl.out (fun b hb => by rw [List.mem_singleton] at hb; have := HLB.out; omega)
                 have F5 : OR w.heap.size w5 5 1 f (bvs ((bs.take (k + 1)).drop s)) := OR.base_ (show OR bq w5 5 1 f (bvs ((bs.take (k + 1)).drop s)) from hf) HLB.out
                 have HFF := Hi (show ∀ b, f.blk = some b → Sl.blk ⟨Fa, Fn, Fc⟩ ≠ some b from fun b hb e => by
                   have h1 := (SF.out.row.blk b e).2
                   have h2 := GLW.out.size
                   rcases hfb b hb with e2 | e2
                   · injection e2 with e2; dsimp only at e2; omega
                   · omega)
                 obtain ⟨w6, hw6⟩ : ∃ z, z = w5.alloc (Obj.cells #[f.v] 22) := ⟨_, rfl⟩
                 have g6 : w5.grownBy w6 none := by subst hw6; exact grown_alloc _ _ _
                 have SF6 := Hi (SF5.grown g6)
                 have F6 := Hi (F5.grown g6)
                 have G6 := Hi (grown_trans G5 g6)
                 have SR := Hi SF6.out.row
                 have R1 := Hi (show OR w5.heap.size w6 22 1 ⟨some ⟨w5.heap.size, 0, none⟩, 1, 1⟩ [f.v] from by subst hw6; exact or_lit1s w5 f.v)
                 have H6 := Hi (show w.heap.size ≤ w6.heap.size from G6.out.size)
                 rw [hw6] at SR R1 H6
                 clear hfn hf gf hfb cf SF5 G5 F5 g6
                 obtain ⟨fa, fn, fc⟩ := f
                 dsimp only [Sl.v] at R1 HFF ⊢)
              | (at_builtin
                 refine wpList_appV rfl (.tmp 26) (.tmp 34) 36 rfl (S := ⟨Fa, Fn, Fc⟩) (V := ⟨some ⟨w5.heap.size, 0, none⟩, 1, 1⟩) Tryz.underlying36 hIS hzS hszS hbyS (by rfl) (by omega) rfl rfl SR.out H6.out R1.out.len R1.out.cr (fun u hu => by rw [List.mem_singleton] at hu; subst hu; rfl) (by dsimp only; omega) (by dsimp only; omega) ?_
                 intro r w7 hrn hr gr hrb
                 have HRN := Hi (show r.n ≤ k + 1 by rw [hrn]; dsimp only; omega)
                 have gr2 : w6.grownBy w7 (Sl.blk ⟨Fa, Fn, Fc⟩) := by rw [hw6]; exact gr
                 have hrb2 : ∀ b, r.blk = some b → (Sl.blk ⟨Fa, Fn, Fc⟩) = some b ∨ b = w6.heap.size := by rw [hw6]; exact hrb
                 have SF7 := Hi (SF6.out.app (f := ⟨fa, fn, fc⟩) F6.out HFF.out hr gr2 hrb2)
                 have G7 := Hi ((Chg.of gr2 (fun b hb => by simpa using hb) : Chg (Sl.blk ⟨Fa, Fn, Fc⟩).toList w6 w7).grown G6.out (fun b hb => (SF6.out.row.blk b (by simpa using hb)).1))
                 clear hrn hr gr hrb gr2 hrb2
                 obtain ⟨ra, rn, rc⟩ := r
                 dsimp only [Sl.v] at HRN ⊢)
              | fail)
            go_roundw
            case rel => exact ⟨k + 1, -1, m + ((k : Int) + 1 - (s : Int)), ⟨ra, rn, rc⟩, xs ++ [(⟨fa, fn, fc⟩, (bs.take (k + 1)).drop s)], pre ++ [⟨(s, k + 1), hp⟩], rfl, rfl, rfl, by go_num, by omega, by omega, by omega, by omega, by omega, fun h => absurd rfl h, HRN.out, F2, SF7, Hi (by rw [List.map_append, List.map_append, XS.out]; rfl), G7, Hi (MS2.out _)⟩
            case measure => simp [intOf]; omega
        · have e124 : (((x.toNat : Nat) : Int) == 124) = false := by
            simp only [beq_eq_false_iff_ne]; intro e; exact h124 ((ub x 124 (by omega)).1 e)
          have HN2 := Hi h124
          clear h124
          go_wp2
          go_roundw
          case rel => exact ⟨k + 1, st, m, ⟨Fa, Fn, Fc⟩, xs, pre, rfl, rfl, rfl, by go_num, by omega, by omega, by omega, by omega, by omega, hm3, by dsimp only; omega, Hi (FR.out.goes hkl (by rw [HX.out]; exact HN.out) (by rw [HX.out]; exact HN2.out)), SF, XS, G, MS⟩
          case measure => simp [intOf]; omega
    · obtain rfl : k = n := by omega
      have FD := Hi (show (Im.scan none bs).out = pre.map fun x => ix bs x.1 by have := FR.out; subst hbl; exact this.done)
      have FC := FR.out.cur
      rw [List.take_of_length_le (by omega)] at FC
      rcases FC with ⟨rfl, hcu⟩ | ⟨s, rfl, hs, hcu⟩
      · have FIN := Hi (fun (q : Int) (hq : q = (k : Int) - m) => show FrE bs w (.returned (.tuple #[Sl.v ⟨Fa, Fn, Fc⟩, Sl.v nilS, .int .i64 q])) wr from ⟨⟨Fa, Fn, Fc⟩, nilS, q, xs, rfl, by rw [XS.out, FD.out], SF.out, by rw [hcu]; exact or_nil _ _ _ _, G.out, dam_of (T := []) (by rw [XS.out, FD.out]) (by rw [hcu]; rfl) MS.out (by rw [hq, hbl]; simp)⟩)
        clear hcu
        go_wp2
        go_ret3
        exact FIN.out _ (by first | rfl | omega)
      · obtain ⟨b, off, hA, -⟩ := HB.out.2 s hs
        subst hA
        have HCU := Hi hcu
        have hs0 : ¬ (s : Int) < 0 := by omega
        have hsc : s < c := by omega
        obtain ⟨wl, hwl⟩ : ∃ z, z = wr.alloc (Obj.cells #[] 5) := ⟨_, rfl⟩
        obtain ⟨bq, hbq⟩ : ∃ b, b = wr.heap.size := ⟨_, rfl⟩
        have gl : wr.grownBy wl none := by subst hwl; exact grown_alloc _ _ _
        have R0 := Hi (show OR bq wl 5 1 ⟨some ⟨bq, 0, none⟩, 0, 0⟩ [] from by subst hwl; subst hbq; exact or_lit0b wr)
        have HCC := Hi (show CR wl ⟨some ⟨b, off + s, none⟩, k - s, c - s⟩ (bvs (bs.drop s)) from crRB ((HB.out.grown (grown_trans G.out gl)).drop s (k - s) (by omega)))
        have HLC := Hi (show (bvs (bs.drop s)).length = (k - s) * 1 by rw [Wr.bvs_len, List.length_drop]; omega)
        have HBQ := Hi (show bq ≤ wl.heap.size by rw [hbq]; exact gl.size)
        have HLB := Hi (show w.heap.size ≤ bq by rw [hbq]; exact G.out.size)
        have Gl := Hi (grown_trans G.out gl)
        have GLW := Hi gl
        clear gl hcu hm3
        rw [hwl, hbq] at R0 HBQ
        rw [hwl] at HCC
        go_wp2_with (first
          | (at_builtin
             refine wpList_appV rfl (.tmp 51) (.tmp 54) 22 rfl (S := ⟨some ⟨wr.heap.size, 0, none⟩, 0, 0⟩) (V := ⟨some ⟨b, off + s, none⟩, k - s, c - s⟩) Tryz.underlying22 hIB hzB hszB hbyB (by rfl) (by omega) rfl rfl R0.out HBQ.out HLC.out HCC.out (Wr.bvs_one _) (by dsimp only; omega) (by dsimp only; omega) ?_
             intro f w5 hfn hf gf hfb
             rw [← hwl, ← hbq] at gf
             rw [← hbq] at hf
             have cf : Chg [bq] wl w5 := Chg.of gf (fun b hb => by injection hb with hb; subst hb; exact List.mem_singleton_self _)
             have SF5 := Hi (SF.out.new ((Chg.of0 (L := [bq]) GLW.out).trans cf) (fun b hb => by rw [List.mem_singleton] at hb; omega))
             have G5 := Hi (cf.grown Gl.out (fun b hb => by rw [List.mem_singleton] at hb; have := HLB.out; omega))
             have F5 := Hi (show OR w.heap.size w5 5 1 f (bvs (bs.drop s)) from OR.base_ (show OR bq w5 5 1 f (bvs (bs.drop s)) from hf) HLB.out)
             clear hfn hf gf hfb cf
             obtain ⟨fa, fn, fc⟩ := f
             dsimp only [Sl.v])
          | fail)
        go_ret3
        exact ⟨⟨Fa, Fn, Fc⟩, ⟨fa, fn, fc⟩, _, xs, rfl, by rw [XS.out, FD.out], SF5.out, by rw [HCU.out]; exact F5.out, G5.out, dam_of (T := bs.drop s) (by rw [XS.out, FD.out]) (by rw [HCU.out]; rfl) MS.out (by rw [List.length_drop, hbl]; omega)⟩
end Go.Proofs.YticmoaebegahgaaGreatDoor.Iw
