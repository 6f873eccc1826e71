import Derived.Test.YticmoaebegahgaaGreatDoorKe
set_option linter.all false
namespace Go.Proofs.YticmoaebegahgaaGreatDoor.Iw
open Go.ChangeShapes Go.WideShapes Go.ChangeAt Go.RowKit
open Wr (IR RB iv ivs bv bvs grown_trans grown_refl grown_alloc ret_int ret_bool tv Ret ret_mk)
theorem results_cell1 {fn : Func} {p u : Tmp} {ty : TypeId} (h : fn.results = #[.cell p ty, .tmp u]) (tmps : Array Value) (P : Program) (w : World) :
    (results fn tmps).run P w = ((asAddr (tmps.getD p undef)).run P w).andThen fun a w₁ => ((loadVar ty a).run P w₁).andThen fun v w₂ => .ok (.tuple #[v, tmps.getD u undef]) w₂ := results_cell2 h tmps P w
def Four (w : World) (X : Nat) (a b c : Int) (v : Value) : Prop := (w.cell? ⟨X, 0, none⟩ = some (.int .i64 a) ∧ w.cell? ⟨X, 1, none⟩ = some (.int .i64 b) ∧ w.cell? ⟨X, 2, none⟩ = some (.int .i64 c) ∧ w.cell? ⟨X, 3, none⟩ = some v) ∧ ∀ i, w.frozen? ⟨X, i, none⟩ = false
theorem Four.lt {w : World} {X : Nat} {a b c : Int} {v : Value} (h : Four w X a b c v) : X < w.heap.size := World.block_lt_of_cell? _ _ h.1.1
theorem Four.step {w w' : World} {X : Nat} {a b c : Int} {v : Value} {M : List Nat} (h : Four w X a b c v) (g : Chg M w w') (hX : X ∉ M) : Four w' X a b c v :=
  ⟨⟨g.cell h.1.1 hX, g.cell h.1.2.1 hX, g.cell h.1.2.2.1 hX, g.cell h.1.2.2.2 hX⟩, fun i => (g.frozen h.lt hX).trans (h.2 i)⟩
theorem Four.grown {w w' : World} {X : Nat} {a b c : Int} {v : Value} (h : Four w X a b c v) (g : w.grownBy w' none) : Four w' X a b c v := h.step (M := []) (Chg.of0 g) (by simp)
theorem four_made (w : World) (a b c : Int) (v : Value) (e : TypeId) : Four (w.alloc (Obj.cells #[.int .i64 a, .int .i64 b, .int .i64 c, v] e)) w.heap.size a b c v := by
  refine ⟨⟨?_, ?_, ?_, ?_⟩, fun i => ?_⟩ <;> go_simp
theorem Four.set2 {w : World} {X : Nat} {a b c : Int} {v : Value} (h : Four w X a b c v) (x : Int) : Four (w.setCell ⟨X, 2, none⟩ (.int .i64 x)) X a b x v := by
  obtain ⟨⟨h0, h1, h2, h3⟩, f⟩ := h
  have f2 := f 2
  refine ⟨⟨by go_simp, by go_simp, by go_simp, by go_simp⟩, fun i => ?_⟩
  rw [World.frozen?_setCell]; exact f i
theorem Four.set3 {w : World} {X : Nat} {a b c : Int} {v : Value} (h : Four w X a b c v) (u : Value) : Four (w.setCell ⟨X, 3, none⟩ u) X a b c u := by
  obtain ⟨⟨h0, h1, h2, h3⟩, f⟩ := h
  have f3 := f 3
  refine ⟨⟨by go_simp, by go_simp, by go_simp, by go_simp⟩, fun i => ?_⟩
  rw [World.frozen?_setCell]; exact f i
def sln : Value → Nat
  | .slice _ n _ => n
  | _ => 0
def mcell (w : World) (X : Nat) : Nat := sln ((w.cell? ⟨X, 3, none⟩).getD undef)
theorem mcell_of {w : World} {X : Nat} {a b c : Int} {A : Option Addr} {n cc : Nat} (h : Four w X a b c (.slice A n cc)) : mcell w X = n := by unfold mcell; rw [h.1.2.2.2]; rfl
set_option maxRecDepth 100000 in
set_option maxHeartbeats 4000000 in
theorem give_any (base : Nat) (L : List Nat) (O H : Sl) (st ep nx : Int) (held os : List Tm.Tg) (w : World) (hb : base ≤ w.heap.size) (hL : ∀ b ∈ L ++ O.blk.toList, b < w.heap.size) (hO : TO base w (L ++ O.blk.toList) O os) (hH : TL w (L ++ O.blk.toList) H held) (hn : held.length ≤ 1000) (ho : os.length ≤ 1000) (hx : 0 ≤ nx ∧ nx ≤ 3000000000) :
    Calls Tryz.prog 60 #[ev st ep nx H, O.v] w (GiveE base L O st ep nx held os w) := by
  have HO := Hi hO
  have HH := Hi hH
  have HLL := Hi hL
  clear hO hH hL
  obtain ⟨Oa, On, Oc⟩ := O
  obtain ⟨Ha, Hn, Hc⟩ := H
  dsimp only [ev, Sl.v]
  obtain ⟨X, hX⟩ : ∃ X, X = w.heap.size := ⟨_, rfl⟩
  obtain ⟨w1, hw1⟩ : ∃ w1, w1 = w.alloc (Obj.cells #[.int .i64 st, .int .i64 ep, .int .i64 nx, .slice Ha Hn Hc] 32) := ⟨_, rfl⟩
  obtain ⟨w2, hw2⟩ : ∃ w2, w2 = w1.alloc (Obj.cells #[.int .i64 0, .int .i64 0, .int .i64 0, .slice none 0 0] 32) := ⟨_, rfl⟩
  have z1 : w1.heap.size = X + 1 := by subst hw1; subst hX; simp
  have z2 : w2.heap.size = X + 2 := by subst hw2; simp [z1]
  have g1 : w.grownBy w1 none := by subst hw1; exact grown_alloc _ _ _
  have g2 : w1.grownBy w2 none := by subst hw2; exact grown_alloc _ _ _
  have G0 := Hi (grown_trans g1 g2)
  go_enter Tryz.func60, Tryz.ntmps60
  go_wp2
  rw [← hX, ← hw1, ← hw2]
  have HF0 := Hi (show Four w2 X st ep nx (.slice Ha Hn Hc) from (show Four w1 X _ _ _ _ by subst hw1; subst hX; exact four_made _ _ _ _ _ _).grown g2)
  have HZ0 := Hi (show Four w2 (X + 1) 0 0 0 (.slice none 0 0) by subst hw2; rw [← z1]; exact four_made _ _ _ _ _ _)
  obtain ⟨L2, hL2⟩ : ∃ L2, L2 = X :: (X + 1) :: L := ⟨_, rfl⟩
  have HL2 := Hi (show (∀ b ∈ L, b ∈ L2) ∧ X ∈ L2 ∧ X + 1 ∈ L2 by subst hL2; exact ⟨fun b hb => List.mem_cons_of_mem _ (List.mem_cons_of_mem _ hb), List.mem_cons_self, List.mem_cons_of_mem _ List.mem_cons_self⟩)
  have hnew : ∀ b ∈ L2 ++ (Sl.blk ⟨Oa, On, Oc⟩).toList, b ∈ L ++ (Sl.blk ⟨Oa, On, Oc⟩).toList ∨ w.heap.size ≤ b := fun b hb => by
    subst hL2
    rcases List.mem_append.1 hb with hb | hb
    · rcases List.mem_cons.1 hb with rfl | hb
      · right; omega
      · rcases List.mem_cons.1 hb with rfl | hb
        · right; omega
        · exact .inl (List.mem_append_left _ hb)
    · exact .inl (List.mem_append_right _ hb)
  have HO2 := Hi (HO.out.step (M := []) (Chg.of0 G0.out) (fun _ _ h => by cases h) (fun _ h => by cases h) hnew)
  have HH2 := Hi (HH.out.step (M := []) (Chg.of0 G0.out) (fun _ h => by cases h) hnew)
  clear hnew hL2
  have HXL := Hi (show ∀ b ∈ L ++ (Sl.blk ⟨Oa, On, Oc⟩).toList, b < X from fun b hb => by rw [hX]; exact HLL.out b hb)
  have HBX := Hi (show base ≤ X ∧ w.heap.size = X ∧ w2.heap.size = X + 2 from ⟨by omega, by omega, z2⟩)
  clear hX hw1 hw2 g1 g2 z1 z2 HO HH HLL
  go_loopw [1] (fun vo wr => ∃ (k : Nat) (O H : Sl), vo = O.v ∧ k ≤ held.length ∧ Hid (∀ j, j < k → (held.getD j Tm.zero).sq = nx + j) ∧ Hid (Four wr X st ep (nx + k) H.v) ∧ Hid (Four wr (X + 1) 0 0 0 (.slice none 0 0)) ∧ Hid (TO base wr (L2 ++ O.blk.toList) O (os ++ held.take k)) ∧ Hid (TL wr (L2 ++ O.blk.toList) H (held.drop k)) ∧ Hid (Chg (Sl.blk ⟨Oa, On, Oc⟩).toList w wr) ∧ Hid (∀ b, O.blk = some b → Sl.blk ⟨Oa, On, Oc⟩ = some b ∨ X + 2 ≤ b)) (fun _ wr => mcell wr X)
  case atStart => exact ⟨0, ⟨Oa, On, Oc⟩, ⟨Ha, Hn, Hc⟩, rfl, by omega, (fun j hj => absurd hj (by omega)), Hi (by have := HF0.out; simpa [Sl.v] using this), HZ0, Hi (by simpa using HO2.out), Hi (by simpa using HH2.out), Hi (Chg.of0 G0.out), fun b hb => .inl hb⟩
  case round =>
    clear HF0 HZ0 HO2 HH2 G0
    obtain ⟨k, ⟨Pa, Pn, Pc⟩, ⟨Ka, Kn, Kc⟩, rfl, hk, SQ, FX, FZ, TP, TK, CG, PB⟩ := hrel
    dsimp only [Sl.v] at FX ⊢
    have hkn : Kn = held.length - k := by have := TK.out.len; rw [List.length_drop] at this; dsimp only at this; omega
    have HKN := Hi hkn
    have MC := Hi (mcell_of FX.out)
    obtain ⟨⟨c0, c1, c2, c3⟩, cF⟩ := FX.out
    have f2 := cF 2
    have f3 := cF 3
    have hwr : X + 2 ≤ wr.heap.size := by have := FZ.out.lt; omega
    clear cF
    by_cases hlt : k < held.length
    · obtain ⟨b, off, ⟨Va, Vn, Vc⟩, hKa, hbL, hv, hc⟩ := TK.out.at_ 0 (by dsimp only; omega)
      rw [getD_drop, Nat.add_zero] at hv hc
      dsimp only at hKa
      subst hKa
      obtain ⟨d0, d1, d2, d3, d4, d5⟩ := six_of (o := off + 0 * 6) (fun j u hu => by rw [Nat.add_assoc]; exact hc j u hu)
      rw [Nat.zero_mul, Nat.add_zero] at d0 d1 d2 d3 d4 d5
      dsimp only [Sl.v] at d0 d1 d2 d3 d4 d5
      have HV := Hi hv
      have hbl : b < wr.heap.size := World.block_lt_of_cell? _ _ d0
      clear hv hc
      have HV := HV.out
      generalize hy : held.getD k Tm.zero = y at d0 d1 d2 d3 d4 d5 HV
      have HV := Hi HV
      have HY := Hi hy.symm
      clear hy
      have hd : decide (0 < Kn) = true := by simp; omega
      have hk0 : 0 < Kn := by omega
      clear hkn
      by_cases hq : y.sq = nx + k
      · obtain ⟨yst, yep, ysq, ytm, ykd, yvs⟩ := y
        dsimp only at hq d0 d1 d2 d3 d4 d5
        subst hq
        go_wp2_with fail
        go_quiet (fail)
        have gq := Wr.grown_drewN wr nq none
        obtain ⟨wl, hwl⟩ : ∃ wl, wl = (wr.drewN nq).alloc (Obj.cells #[.int .i64 yst, .int .i64 yep, .int .i64 (nx + k), .int .i64 ytm, .int .i64 ykd, .slice Va Vn Vc] 28) := ⟨_, rfl⟩
        have gl : wr.grownBy wl none := by subst hwl; exact grown_trans gq (grown_alloc _ _ _)
        have hqz : (wr.drewN nq).heap.size = wr.heap.size := rfl
        have OL := Hi (show OR (wr.drewN nq).heap.size wl 28 6 ⟨some ⟨(wr.drewN nq).heap.size, 0, none⟩, 1, 1⟩ (tcs (⟨yst, yep, nx + k, ytm, ykd, yvs⟩, ⟨Va, Vn, Vc⟩)) by subst hwl; exact or_lit (wr.drewN nq) (⟨yst, yep, nx + k, ytm, ykd, yvs⟩, ⟨Va, Vn, Vc⟩))
        have FXl := Hi (FX.out.grown gl)
        have FZl := Hi (FZ.out.grown gl)
        have TPl := Hi (TP.out.grown gl)
        have TKl := Hi (TK.out.grown gl)
        have HVl := Hi (HV.out.grown gl)
        have CGl := Hi (CG.out.trans (Chg.of0 gl))
        have hzl : wr.heap.size ≤ wl.heap.size := gl.size
        have hbX : b ≠ X := fun e => hbL (List.mem_append_left _ (by rw [e]; exact HL2.out.2.1))
        have d0 := gq.cell d0 (by simp)
        have d1 := gq.cell d1 (by simp)
        have d2 := gq.cell d2 (by simp)
        have d3 := gq.cell d3 (by simp)
        have d4 := gq.cell d4 (by simp)
        have d5 := gq.cell d5 (by simp)
        have c3 := gq.cell c3 (by simp)
        have PXN := Hi (show ∀ x, Sl.blk ⟨Pa, Pn, Pc⟩ = some x → x ≠ X ∧ x ≠ X + 1 from fun x hx' => by
          rcases PB.out x hx' with e | e
          · have := HXL.out x (List.mem_append_right _ (by simpa using e)); omega
          · omega)
        have PLT := Hi (show ∀ x, Sl.blk ⟨Pa, Pn, Pc⟩ = some x → x < wr.heap.size from fun x hx' => (TP.out.blk x hx').2)
        obtain ⟨us, hus, huor, huv, hul⟩ := TPl.out.off
        have HUV := Hi huv
        have HUS := Hi hus
        have HUO := Hi huor
        have hPn : Pn ≤ 2000 := by
          have h1 := congrArg List.length hus
          rw [List.length_map, List.length_append, List.length_take] at h1
          dsimp only at hul
          omega
        have HB1 := Hi (show (Pn + 1) * 64 ≤ 140737488355328 by omega)
        have HB2 := Hi (show Pn + 1 ≤ 1000000000 by omega)
        have HLO := Hi (show base ≤ wl.heap.size by have := HBX.out; omega)
        have HT1 := Hi (show ∀ u ∈ tcs (⟨yst, yep, nx + k, ytm, ykd, yvs⟩, ⟨Va, Vn, Vc⟩), u.oneCell' = true from tcs_one _)
        obtain ⟨I, hI, hz, hsz, hby⟩ := parts_t
        clear hus huor huv hul hPn gl gq f2 f3 c0 c1 c2 FX FZ TP TK HV CG hqz
        generalize hwq : wr.drewN nq = wq at *
        have HWQ := Hi hwq
        clear hwq
        rw [hwl] at HUO OL HLO
        dsimp only [tcs, Sl.v] at OL HT1
        go_upto_region 3 with (first
          | (at_builtin
             refine wpList_appK rfl _ _ 30 rfl (S := ⟨Pa, Pn, Pc⟩) (V := ⟨some ⟨wq.heap.size, 0, none⟩, 1, 1⟩) Tryz.underlying30 hI hz hsz hby (by rfl) (by omega) rfl rfl HUO.out HLO.out OL.out HT1.out HB1.out HB2.out ?_
             intro r w5 hrn hr hg5 hrb
             clear hrn)
          | fail)
        rw [← hwl] at hg5 hrb
        have gc : Chg (Sl.blk ⟨Pa, Pn, Pc⟩).toList wl w5 := Chg.of hg5 (fun b hb => by simpa using hb)
        have FX5 := Hi (FXl.out.step gc (fun hm => (PXN.out X (by simpa using hm)).1 rfl))
        have FZ5 := Hi (FZl.out.step gc (fun hm => (PXN.out (X + 1) (by simpa using hm)).2 rfl))
        obtain ⟨⟨e0, e1, e2, e3⟩, eF⟩ := FX5.out
        have f2 := eF 2
        have f3 := eF 3
        have hw5 : IntKind.i64.wrap (nx + k + 1) = nx + k + 1 := IntWalk.i64_in _ (by omega)
        have hk1 : (1 : Int) ≤ (Kn : Int) := by omega
        have hk2 : 1 ≤ Kn := by omega
        have hf := TKl.out.fit
        unfold Sl.fit at hf
        dsimp only at hf
        have hk3 : 1 ≤ Kc := by omega
        obtain ⟨ad, had⟩ : ∃ ad, (if Kc = 1 then some (⟨b, off, none⟩ : Addr) else some ⟨b, off + 6, none⟩) = ad := ⟨_, rfl⟩
        have HAD := Hi (show (if Kc = 1 then some (⟨b, off, none⟩ : Addr) else some ⟨b, off + 1 * 6, none⟩) = ad by rw [Nat.one_mul]; exact had)
        clear eF d0 d1 d2 d3 d4 d5 c3 hd
        go_wp2
        clear had e0 e1 e2 e3
        obtain ⟨wf, hwf⟩ : ∃ wf, wf = (w5.setCell ⟨X, 3, none⟩ (.slice ad (Kn - 1) (Kc - 1))).setCell ⟨X, 2, none⟩ (.int .i64 (nx + k + 1)) := ⟨_, rfl⟩
        rw [← hwf]
        have gs : Chg [X] w5 wf := by subst hwf; exact ((Chg.refl [X] w5).set ⟨X, 3, none⟩ _ (by simp)).set ⟨X, 2, none⟩ _ (by simp)
        have hLr : ∀ b ∈ L2 ++ r.blk.toList, b ∈ L2 ++ (Sl.blk ⟨Pa, Pn, Pc⟩).toList ∨ wl.heap.size ≤ b := fun b hb => by
          rcases List.mem_append.1 hb with hb | hb
          · exact .inl (List.mem_append_left _ hb)
          · rcases hrb b (by simpa using hb) with e | e
            · exact .inl (List.mem_append_right _ (by simpa using e))
            · right; omega
        have hPm : ∀ b ∈ (Sl.blk ⟨Pa, Pn, Pc⟩).toList, b ∈ L2 ++ (Sl.blk ⟨Pa, Pn, Pc⟩).toList ∨ wl.heap.size ≤ b := fun b hb => .inl (List.mem_append_right _ hb)
        have hXm : ∀ b ∈ [X], b ∈ L2 ++ r.blk.toList ∨ w5.heap.size ≤ b := fun b hb => by rw [List.mem_singleton] at hb; subst hb; exact .inl (List.mem_append_left _ HL2.out.2.1)
        have hrX : ∀ b, r.blk = some b → b ∉ [X] := fun b hb hm => by
          rw [List.mem_singleton] at hm
          rcases hrb b hb with e | e
          · exact (PXN.out b e).1 hm
          · omega
        have hr' : OR base w5 28 6 r (f6 (us ++ [((⟨yst, yep, nx + k, ytm, ykd, yvs⟩, ⟨Va, Vn, Vc⟩) : TV)])) := by
          have e : f6 (us ++ [((⟨yst, yep, nx + k, ytm, ykd, yvs⟩, ⟨Va, Vn, Vc⟩) : TV)]) = f6 us ++ tcs (⟨yst, yep, nx + k, ytm, ykd, yvs⟩, ⟨Va, Vn, Vc⟩) := by rw [f6, flat_app]; simp [f6]
          rw [e]; exact hr
        have T5 := TO.grow (zs := [(⟨yst, yep, nx + k, ytm, ykd, yvs⟩, ⟨Va, Vn, Vc⟩)]) HUV.out (fun z hz => by rw [List.mem_singleton] at hz; subst hz; exact HVl.out) hr' hg5 (fun b hb => List.mem_append_right _ (by simpa using hb)) hLr
        have T6 := Hi (T5.step gs hrX hXm (fun _ hb => .inl hb))
        have K5 := (TKl.out.step gc hPm hLr).tail 1 hk2 HAD.out
        have K6 := Hi (K5.step gs hXm (fun _ hb => .inl hb))
        have F6 := Hi (show Four wf X st ep (nx + k + 1) (.slice ad (Kn - 1) (Kc - 1)) by subst hwf; exact (FX5.out.set3 _).set2 _)
        have Z6 := Hi (FZ5.out.step gs (by simp))
        have C6 := Hi ((CGl.out.then gc (fun b hb => (PB.out b (by simpa using hb)).imp (fun e => by simpa using e) (fun e => by have := HBX.out; omega))).then gs (fun b hb => by rw [List.mem_singleton] at hb; subst hb; right; have := HBX.out; omega))
        have htk : os ++ held.take (k + 1) = os ++ held.take k ++ [⟨yst, yep, nx + k, ytm, ykd, yvs⟩] := by
          rw [List.take_add_one, List.getElem?_eq_getElem hlt, HY.out, List.append_assoc, List.getD_eq_getElem?_getD, List.getElem?_eq_getElem hlt]; rfl
        refine ⟨⟨k + 1, r, ⟨ad, Kn - 1, Kc - 1⟩, rfl, by omega, fun j hj => ?_, Hi (by have := F6.out; rwa [show nx + ((k + 1 : Nat) : Int) = nx + k + 1 by push_cast; omega]), Z6, Hi (by have := T6.out; rw [HUS.out] at this; rw [htk]; exact this), Hi (by have := K6.out; rwa [List.drop_drop] at this), C6, fun b hb => ?_⟩, ?_⟩
        · rcases Nat.lt_or_ge j k with e | e
          · exact SQ.out j e
          · obtain rfl : j = k := by omega
            rw [← HY.out]
        · rcases hrb b hb with e | e
          · exact PB.out b e
          · right; omega
        · rw [mcell_of F6.out, MC.out]; omega
      · have hstop := Hi (give_at (l := held) (k := k) (n := nx) hk SQ.out (.inr (by rw [← HY.out]; exact hq)))
        have FIN := Hi (fun (wz : World) (gz : Chg [X + 1] wr wz) => show GiveE base L ⟨Oa, On, Oc⟩ st ep nx held os w (.returned (.tuple #[ev st ep (nx + k) ⟨(some ⟨b, off, none⟩), Kn, Kc⟩, Sl.v ⟨Pa, Pn, Pc⟩])) wz from
          ⟨⟨Pa, Pn, Pc⟩, ⟨(some ⟨b, off, none⟩), Kn, Kc⟩, by rw [hstop.out], by
            rw [hstop.out]
            exact TP.out.step gz (fun b hb hm => by
              rw [List.mem_singleton] at hm
              rcases PB.out b hb with e | e
              · have := HXL.out b (List.mem_append_right _ (by simpa using e)); omega
              · omega) (fun b hb => by rw [List.mem_singleton] at hb; subst hb; exact .inl (List.mem_append_left _ HL2.out.2.2)) (fun b hb => .inl (by
                rcases List.mem_append.1 hb with hb | hb
                · exact List.mem_append_left _ (HL2.out.1 b hb)
                · exact List.mem_append_right _ hb)), by
            rw [hstop.out]
            exact TK.out.step gz (fun b hb => by rw [List.mem_singleton] at hb; subst hb; exact .inl (List.mem_append_left _ HL2.out.2.2)) (fun b hb => .inl (by
                rcases List.mem_append.1 hb with hb | hb
                · exact List.mem_append_left _ (HL2.out.1 b hb)
                · exact List.mem_append_right _ hb)), CG.out.then gz (fun b hb => by rw [List.mem_singleton] at hb; subst hb; right; have := HBX.out; omega), fun b hb => (PB.out b hb).imp id (fun e => by have := HBX.out; omega)⟩)
        obtain ⟨⟨z0, z1, z2, z3⟩, zF⟩ := FZ.out
        have y0 := zF 0
        have y1 := zF 1
        have y2 := zF 2
        have y3 := zF 3
        clear zF
        have hne : ¬ y.sq = nx + k := hq
        go_wp2_with fail
        go_quiet (fail)
        go_wp2_with fail
        try simp only [Exit.inBlock, Exit.then]
        refine bodyPost_ret (v := .tuple #[ev st ep (nx + k) ⟨(some ⟨b, off, none⟩), Kn, Kc⟩, Sl.v ⟨Pa, Pn, Pc⟩]) ?hr rfl ?hE
        case hr =>
          rw [results_cell1 rfl]
          go_simp
          first | rfl | exact ⟨rfl, rfl⟩
        case hE =>
          exact FIN.out _ (((((Chg.of0 (Wr.grown_drewN wr nq none)).set ⟨X + 1, 0, none⟩ (.int .i64 st) (by simp)).set ⟨X + 1, 1, none⟩ (.int .i64 ep) (by simp)).set ⟨X + 1, 2, none⟩ (.int .i64 (nx + k)) (by simp)).set ⟨X + 1, 3, none⟩ (.slice (some ⟨b, off, none⟩) Kn Kc) (by simp))
    · have hstop := Hi (give_at (l := held) (k := k) (n := nx) hk SQ.out (.inl (by omega)))
      have hK0 : Kn = 0 := by omega
      have hd : decide (0 < Kn) = false := by simp; omega
      have hn0 : ¬ 0 < Kn := by omega
      clear hkn hK0
      have FIN := Hi (fun (wz : World) (gz : Chg [X + 1] wr wz) => show GiveE base L ⟨Oa, On, Oc⟩ st ep nx held os w (.returned (.tuple #[ev st ep (nx + k) ⟨Ka, Kn, Kc⟩, Sl.v ⟨Pa, Pn, Pc⟩])) wz from
        ⟨⟨Pa, Pn, Pc⟩, ⟨Ka, Kn, Kc⟩, by rw [hstop.out], by
          rw [hstop.out]
          exact TP.out.step gz (fun b hb hm => by
            rw [List.mem_singleton] at hm
            rcases PB.out b hb with e | e
            · have := HXL.out b (List.mem_append_right _ (by simpa using e)); omega
            · omega) (fun b hb => by rw [List.mem_singleton] at hb; subst hb; exact .inl (List.mem_append_left _ HL2.out.2.2)) (fun b hb => .inl (by
              rcases List.mem_append.1 hb with hb | hb
              · exact List.mem_append_left _ (HL2.out.1 b hb)
              · exact List.mem_append_right _ hb)), by
          rw [hstop.out]
          exact TK.out.step gz (fun b hb => by rw [List.mem_singleton] at hb; subst hb; exact .inl (List.mem_append_left _ HL2.out.2.2)) (fun b hb => .inl (by
              rcases List.mem_append.1 hb with hb | hb
              · exact List.mem_append_left _ (HL2.out.1 b hb)
              · exact List.mem_append_right _ hb)), CG.out.then gz (fun b hb => by rw [List.mem_singleton] at hb; subst hb; right; have := HBX.out; omega), fun b hb => (PB.out b hb).imp id (fun e => by have := HBX.out; omega)⟩)
      obtain ⟨⟨z0, z1, z2, z3⟩, zF⟩ := FZ.out
      have y0 := zF 0
      have y1 := zF 1
      have y2 := zF 2
      have y3 := zF 3
      clear zF
      go_wp2_with fail
      go_quiet (fail)
      go_wp2_with fail
      try simp only [Exit.inBlock, Exit.then]
      refine bodyPost_ret (v := .tuple #[ev st ep (nx + k) ⟨Ka, Kn, Kc⟩, Sl.v ⟨Pa, Pn, Pc⟩]) ?hr rfl ?hE
      case hr =>
        rw [results_cell1 rfl]
        go_simp
        first | rfl | exact ⟨rfl, rfl⟩
      case hE =>
        exact FIN.out _ (((((Chg.of0 (Wr.grown_drewN wr nq none)).set ⟨X + 1, 0, none⟩ (.int .i64 st) (by simp)).set ⟨X + 1, 1, none⟩ (.int .i64 ep) (by simp)).set ⟨X + 1, 2, none⟩ (.int .i64 (nx + k)) (by simp)).set ⟨X + 1, 3, none⟩ (.slice Ka Kn Kc) (by simp))
end Go.Proofs.YticmoaebegahgaaGreatDoor.Iw
