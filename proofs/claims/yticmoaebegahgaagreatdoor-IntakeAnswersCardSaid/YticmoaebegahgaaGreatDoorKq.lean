import Derived.Test.YticmoaebegahgaaGreatDoorKp
import Derived.Deep.CutBlock
import Derived.Test.YticmoaebegahgaaGreatDoorQa
set_option linter.all false
namespace Go.Proofs.YticmoaebegahgaaGreatDoor.Iw
open Go.ChangeShapes Go.WideShapes Go.ChangeAt Go.RowKit
open Wr (IR RB iv ivs bv bvs grown_trans grown_refl grown_alloc ret_int ret_bool tv Ret ret_mk)
def AccA (L : List Nat) (r : List Im.Wt × List Tm.Tg) (k : Ik) (w : World) (e : Ending) (w' : World) : Prop :=
  ∃ T' E' G : Sl, e = .returned (.tuple #[iv3 k.win T' E', G.v, .int .i64 0]) ∧ KA w' L T' E' ⟨k.win, k.tail, r.1⟩ ∧ TL w' L G r.2 ∧ w.grownBy w' none
theorem or_lit40 (w : World) : OR w.heap.size (w.alloc (Obj.cells #[] 32)) 32 4 ⟨some ⟨w.heap.size, 0, none⟩, 0, 0⟩ [] :=
  ⟨World.ownsRow_lit (base := w.heap.size) (e := 32) (size := 4) w #[] 0 (Nat.le_refl _) (by unfold maxLen; omega) (by simp)⟩
inductive Rw (bz : Nat) (ys : List EV) (y : EV) (a bh : Nat) (W : World) : Bool → Bool → Bool → Bool → Value → Value → Value → Value → Option Nat → Prop
  | r0 (v4 v9 v12 v17 : Value) : Rw bz ys y a bh W false false false false v4 v9 v12 v17 none
  | r1 (R : Sl) (v9 v12 v17 : Value) (h : OR bz W 32 4 R []) (hn : R.n = 0) : Rw bz ys y a bh W true false false false R.v v9 v12 v17 R.blk
  | r2 (R : Sl) (v4 v12 v17 : Value) (h : OR bz W 32 4 R (f4 (ys.take a))) (hn : R.n = a) : Rw bz ys y a bh W true true false false v4 R.v v12 v17 R.blk
  | r3 (R : Sl) (v4 v9 v17 : Value) (h : OR bz W 32 4 R (f4 (ys.take a) ++ ecs y)) (hn : R.n = a + 1) : Rw bz ys y a bh W true true true false v4 v9 R.v v17 R.blk
  | r4 (R : Sl) (v4 v9 v12 : Value) (h : OR bz W 32 4 R (f4 (ys.take a) ++ ecs y ++ f4 (ys.drop bh))) : Rw bz ys y a bh W true true true true v4 v9 v12 R.v R.blk
section
variable {wl W W' : World} {bz a bh : Nat} {ys : List EV} {y : EV} {b4 b9 b11 b12 b17 b19 : Bool} {v4 v9 v11 v12 v17 v19 : Value} {k : Option Nat}
theorem Rw.grown (h : Rw bz ys y a bh W b4 b9 b12 b17 v4 v9 v12 v17 k) (g : W.grownBy W' none) : Rw bz ys y a bh W' b4 b9 b12 b17 v4 v9 v12 v17 k := by
  cases h with
  | r0 => exact .r0 _ _ _ _
  | r1 R _ _ _ h hn => exact .r1 R _ _ _ (h.grown g) hn
  | r2 R _ _ _ h hn => exact .r2 R _ _ _ (h.grown g) hn
  | r3 R _ _ _ h hn => exact .r3 R _ _ _ (h.grown g) hn
  | r4 R _ _ _ h => exact .r4 R _ _ _ (h.grown g)
theorem Rw.blk (h : Rw bz ys y a bh W b4 b9 b12 b17 v4 v9 v12 v17 k) : ∀ b, k = some b → bz ≤ b ∧ b < W.heap.size := by
  cases h with
  | r0 => intro b e; cases e
  | r1 R _ _ _ h hn => exact h.blk
  | r2 R _ _ _ h hn => exact h.blk
  | r3 R _ _ _ h hn => exact h.blk
  | r4 R _ _ _ h => exact h.blk
theorem Rw.at4 (h : Rw bz ys y a bh W false b9 b12 b17 v4 v9 v12 v17 k) : b9 = false ∧ b12 = false ∧ b17 = false := by cases h; exact ⟨rfl, rfl, rfl⟩
theorem Rw.at9 (h : Rw bz ys y a bh W true false b12 b17 v4 v9 v12 v17 k) : ∃ R : Sl, b12 = false ∧ b17 = false ∧ v4 = R.v ∧ k = R.blk ∧ OR bz W 32 4 R [] ∧ R.n = 0 := by
  cases h with
  | r1 R _ _ _ h hn => exact ⟨R, rfl, rfl, rfl, rfl, h, hn⟩
theorem Rw.at12 (h : Rw bz ys y a bh W b4 true false b17 v4 v9 v12 v17 k) : ∃ R : Sl, b4 = true ∧ b17 = false ∧ v9 = R.v ∧ k = R.blk ∧ OR bz W 32 4 R (f4 (ys.take a)) ∧ R.n = a := by
  cases h with
  | r2 R _ _ _ h hn => exact ⟨R, rfl, rfl, rfl, rfl, h, hn⟩
theorem Rw.at17 (h : Rw bz ys y a bh W b4 b9 true false v4 v9 v12 v17 k) : ∃ R : Sl, b4 = true ∧ b9 = true ∧ v12 = R.v ∧ k = R.blk ∧ OR bz W 32 4 R (f4 (ys.take a) ++ ecs y) ∧ R.n = a + 1 := by
  cases h with
  | r3 R _ _ _ h hn => exact ⟨R, rfl, rfl, rfl, rfl, h, hn⟩
theorem Rw.at18 (h : Rw bz ys y a bh W b4 b9 b12 true v4 v9 v12 v17 k) : ∃ R : Sl, b4 = true ∧ b9 = true ∧ b12 = true ∧ v17 = R.v ∧ k = R.blk ∧ OR bz W 32 4 R (f4 (ys.take a) ++ ecs y ++ f4 (ys.drop bh)) := by
  cases h with
  | r4 R _ _ _ h => exact ⟨R, rfl, rfl, rfl, rfl, rfl, h⟩
structure Ja (wl : World) (bz : Nat) (ys : List EV) (y : EV) (a bh : Nat) (b4 b9 b11 b12 b17 b19 : Bool) (v4 v9 v11 v12 v17 v19 : Value) (W : World) (k : Option Nat) : Prop where
  g : wl.grownBy W none
  z : bz ≤ W.heap.size
  r : Rw bz ys y a bh W b4 b9 b12 b17 v4 v9 v12 v17 k
  c : b11 = true → ∃ B, v11 = .slice (some ⟨B, 0, none⟩) 1 1 ∧ OR bz W 32 4 ⟨some ⟨B, 0, none⟩, 1, 1⟩ (ecs y) ∧ k ≠ some B
  t : b19 = true → ∃ B, v19 = .pointer (some ⟨B, 0, none⟩) ∧ bz ≤ B ∧ Tri W B (.int .i64 0) (.slice none 0 0) (.slice none 0 0) ∧ k ≠ some B
theorem Ja.s4 (h : Ja wl bz ys y a bh false false b11 false false b19 v4 v9 v11 v12 v17 v19 W k) : Ja wl bz ys y a bh true false b11 false false b19 (.slice (some ⟨W.heap.size, 0, none⟩) 0 0) v9 v11 v12 v17 v19 (W.alloc (Obj.cells #[] 32)) (some W.heap.size) := by
  have ga := grown_alloc W (Obj.cells #[] 32) none
  refine ⟨grown_trans h.g ga, Nat.le_trans h.z ga.size, .r1 ⟨some ⟨W.heap.size, 0, none⟩, 0, 0⟩ _ _ _ ((or_lit40 W).base_ h.z) rfl, fun e => ?_, fun e => ?_⟩
  · obtain ⟨B, h1, h2, _⟩ := h.c e
    exact ⟨B, h1, h2.grown ga, fun e => by have := (h2.blk B rfl).2; injection e with e; omega⟩
  · obtain ⟨B, h1, h2, h3, _⟩ := h.t e
    exact ⟨B, h1, h2, h3.grown ga, fun e => by have := h3.lt; injection e with e; omega⟩
theorem Ja.s11 (h : Ja wl bz ys y a bh b4 b9 false b12 b17 b19 v4 v9 v11 v12 v17 v19 W k) : Ja wl bz ys y a bh b4 b9 true b12 b17 b19 v4 v9 (.slice (some ⟨W.heap.size, 0, none⟩) 1 1) v12 v17 v19 (W.alloc (Obj.cells (ecs y).toArray 32)) k := by
  have ga := grown_alloc W (Obj.cells (ecs y).toArray 32) none
  refine ⟨grown_trans h.g ga, Nat.le_trans h.z ga.size, h.r.grown ga, fun _ => ⟨W.heap.size, rfl, (or_lit4 W y).base_ h.z, fun e => by have := (h.r.blk _ e).2; omega⟩, fun e => ?_⟩
  obtain ⟨B, h1, h2, h3, h4⟩ := h.t e
  exact ⟨B, h1, h2, h3.grown ga, h4⟩
theorem Ja.s19 (h : Ja wl bz ys y a bh b4 b9 b11 b12 b17 false v4 v9 v11 v12 v17 v19 W k) : Ja wl bz ys y a bh b4 b9 b11 b12 b17 true v4 v9 v11 v12 v17 (.pointer (some ⟨W.heap.size, 0, none⟩)) (W.alloc (Obj.cells #[.int .i64 0, .slice none 0 0, .slice none 0 0] 25)) k := by
  have ga := grown_alloc W (Obj.cells #[.int .i64 0, .slice none 0 0, .slice none 0 0] 25) none
  refine ⟨grown_trans h.g ga, Nat.le_trans h.z ga.size, h.r.grown ga, fun e => ?_, fun _ => ⟨W.heap.size, rfl, h.z, tri_made _ _ _ _ _, fun e => by have := (h.r.blk _ e).2; omega⟩⟩
  obtain ⟨B, h1, h2, h4⟩ := h.c e
  exact ⟨B, h1, h2.grown ga, h4⟩
theorem Ja.ap {b4' b9' b12' b17' : Bool} {v4' v9' v12' v17' : Value} {R' : Sl} (h : Ja wl bz ys y a bh b4 b9 b11 b12 b17 b19 v4 v9 v11 v12 v17 v19 W k) (hz : wl.heap.size ≤ bz) (g : W.grownBy W' k) (hrb : ∀ b, R'.blk = some b → k = some b ∨ b = W.heap.size) (hr : Rw bz ys y a bh W' b4' b9' b12' b17' v4' v9' v12' v17' R'.blk) : Ja wl bz ys y a bh b4' b9' b11 b12' b17' b19 v4' v9' v11 v12' v17' v19 W' R'.blk := by
  have cn : Chg k.toList W W' := Chg.of g (fun b hb => by simpa using hb)
  refine ⟨cn.grown h.g (fun b hb => ?_), Nat.le_trans h.z g.size, hr, fun e => ?_, fun e => ?_⟩
  · have := (h.r.blk b (by simpa using hb)).1; omega
  · obtain ⟨B, h1, h2, h3⟩ := h.c e
    refine ⟨B, h1, h2.chg cn (fun b hb hm => ?_), fun e => ?_⟩
    · have e1 : B = b := by simpa [Sl.blk] using hb
      subst e1; exact h3 (by simpa using hm)
    · rcases hrb B e with e | e
      · exact h3 e
      · have := (h2.blk B rfl).2; omega
  · obtain ⟨B, h1, h2, h3, h4⟩ := h.t e
    refine ⟨B, h1, h2, h3.step cn (fun hm => h4 (by simpa using hm)), fun e => ?_⟩
    rcases hrb B e with e | e
    · exact h4 e
    · have := h3.lt; omega
end
def Ib (wl : World) (bz : Nat) (ys : List EV) (y : EV) (a bh : Nat) (win : Int) (T : Sl) (L : List Nat) (en : List Im.Wt) (bs : List Bool) (vs : List Value) (W : World) : Prop :=
  (∃ (b4 b9 b11 b12 b17 b18 b19 : Bool) (v4 v9 v11 v12 v17 v18 v19 : Value) (k : Option Nat), bs = [true, true, true, true, b4, true, true, true, true, b9, true, b11, b12, true, true, true, true, b17, b18, b19, false] ∧ vs = [v4, v9, v11, v12, v17, v18, v19] ∧ Ja wl bz ys y a bh b4 b9 b11 b12 b17 b19 v4 v9 v11 v12 v17 v19 W k ∧ (b18 = true → b17 = true ∧ v18 = .agg #[.int .i64 win, T.v, v17])) ∨
  (bs = [true, true, true, true, true, true, true, true, true, true, true, true, true, true, true, true, true, true, true, true, true] ∧ ∃ (v4 v9 v11 v12 v17 v18 : Value) (B : Nat) (R : Sl), vs = [v4, v9, v11, v12, v17, v18, .pointer (some ⟨B, 0, none⟩)] ∧ Tri W B (.int .i64 win) T.v R.v ∧ EL W L R en ∧ wl.grownBy W none)
theorem ent_no {k : Int} : ∀ (s : List Im.Wt) (n : Int) (a : Nat), Im.SAsc n s → (∀ j, j < a → (s.getD j wt0).st < k) → (a = s.length ∨ k ≤ (s.getD a wt0).st) → ¬ (a < s.length ∧ (s.getD a wt0).st = k) → a ≤ s.length → Im.ent s k = none
  | [], _, _, _, _, _, _, _ => rfl
  | w :: r, _, 0, h, _, h2, h3, _ => by
    have e : ((w :: r).getD 0 wt0).st = w.st := rfl
    rw [e] at h2 h3
    have h4 : k ≤ w.st := by
      rcases h2 with h2 | h2
      · simp at h2
      · exact h2
    have h5 : w.st ≠ k := fun e => h3 ⟨by simp, e⟩
    unfold Im.ent
    rw [if_neg h5]
    exact h.2.none h4
  | w :: r, _, a + 1, h, h1, h2, h3, h4 => by
    have h5 := h1 0 (by omega)
    have e : ((w :: r).getD 0 wt0).st = w.st := rfl
    rw [e] at h5
    unfold Im.ent
    rw [if_neg (by omega)]
    refine ent_no r w.st a h.2 (fun j hj => ?_) ?_ ?_ (by simpa using h4)
    · have := h1 (j + 1) (by omega); simpa using this
    · rcases h2 with h2 | h2
      · left; simpa using h2
      · right; simpa using h2
    · rintro ⟨c1, c2⟩
      exact h3 ⟨by simpa using c1, by simpa using c2⟩
set_option maxRecDepth 100000 in
set_option maxHeartbeats 8000000 in
theorem raccept_room (L : List Nat) (T E : Sl) (k : Ik) (t : Tm.Tg) (V : Sl) (w : World) (hL : ∀ b ∈ L, b < w.heap.size) (hk : KA w L T E k) (ho : k.ok = true) (hV : VI w L V t.vs) (ht : t.ok = true) (hr : k.es.length < 64 ∨ Im.ent k.es t.st ≠ none) :
    Calls Tryz.prog 18 #[iv3 k.win T E, tv t V.v] w (AccA L (Im.acc k.win k.es t) k w) := by
  have HK := Hi hk
  have HO := Hi ho
  have HV := Hi hV
  have HT := Hi ht
  have HLL := Hi hL
  have HOK := Hi (Ik.ok_iff.1 ho)
  clear hk ho hV ht hL
  obtain ⟨win, tl, es⟩ := k
  obtain ⟨tst, tep, tsq, ttm, tkd, tvs⟩ := t
  obtain ⟨Ta, Tn, Tc⟩ := T
  obtain ⟨Ea, En, Ec⟩ := E
  obtain ⟨Va, Vn, Vc⟩ := V
  dsimp only at hr HOK
  have hEn : es.length = En := HK.out.es.len
  have HEN := Hi hEn
  have hen : En ≤ 64 := by have := HOK.out.2.2.2.len; omega
  have HR := Hi hr
  clear hr
  dsimp only [iv3, tv, Sl.v]
  obtain ⟨X, hX⟩ : ∃ X, X = w.heap.size := ⟨_, rfl⟩
  obtain ⟨w1, hw1⟩ : ∃ w1, w1 = w.alloc (Obj.cells #[.int .i64 win, .slice Ta Tn Tc, .slice Ea En Ec] 25) := ⟨_, rfl⟩
  obtain ⟨w2, hw2⟩ : ∃ w2, w2 = w1.alloc (Wr.tcells ⟨tst, tep, tsq, ttm, tkd, tvs⟩ (.slice Va Vn Vc)) := ⟨_, rfl⟩
  obtain ⟨w3, hw3⟩ : ∃ w3, w3 = w2.alloc (Obj.cells #[.int .i64 0, .slice none 0 0, .slice none 0 0] 25) := ⟨_, rfl⟩
  have z1 : w1.heap.size = X + 1 := by subst hw1; subst hX; simp
  have z2 : w2.heap.size = X + 2 := by subst hw2; simp [z1]
  have z2' : w2.heap.size = X + 1 + 1 := z2
  have z3 : w3.heap.size = X + 3 := by subst hw3; simp [z2]
  have g1 : w.grownBy w1 none := by subst hw1; exact grown_alloc _ _ _
  have g2 : w1.grownBy w2 none := by subst hw2; exact grown_alloc _ _ _
  have g3 : w2.grownBy w3 none := by subst hw3; exact grown_alloc _ _ _
  have G := Hi (grown_trans g1 (grown_trans g2 g3))
  have BX := Hi (show Tri w3 X (.int .i64 win) (.slice Ta Tn Tc) (.slice Ea En Ec) from (show Tri w1 X _ _ _ by subst hw1; subst hX; exact tri_made _ _ _ _ _).grown (grown_trans g2 g3))
  have SY := Hi (show Wr.Six w3 (X + 1) ⟨tst, tep, tsq, ttm, tkd, tvs⟩ (.slice Va Vn Vc) from (show Wr.Six w2 (X + 1) _ _ by subst hw2; rw [← z1]; exact Wr.Six.made _ _ _).grown g3 (by simp))
  have BZ := Hi (show Tri w3 (X + 1 + 1) (.int .i64 0) (.slice none 0 0) (.slice none 0 0) by subst hw3; rw [← z2']; exact tri_made _ _ _ _ _)
  obtain ⟨L2, hL2⟩ : ∃ L2, L2 = X :: (X + 1) :: (X + 1 + 1) :: L := ⟨_, rfl⟩
  have HL2 := Hi (show (∀ b ∈ L, b ∈ L2) ∧ X ∈ L2 ∧ X + 1 ∈ L2 ∧ X + 1 + 1 ∈ L2 by subst hL2; exact ⟨fun b hb => List.mem_cons_of_mem _ (List.mem_cons_of_mem _ (List.mem_cons_of_mem _ hb)), by simp, by simp, by simp⟩)
  have hnew : ∀ b ∈ L2, b ∈ L ∨ w.heap.size ≤ b := fun b hb => by
    subst hL2
    rcases List.mem_cons.1 hb with rfl | hb
    · right; omega
    · rcases List.mem_cons.1 hb with rfl | hb
      · right; omega
      · rcases List.mem_cons.1 hb with rfl | hb
        · right; omega
        · exact .inl hb
  have HL3 := Hi (show ∀ b ∈ L2, b < X + 3 from fun b hb => by
    subst hL2
    rcases List.mem_cons.1 hb with rfl | hb
    · omega
    · rcases List.mem_cons.1 hb with rfl | hb
      · omega
      · rcases List.mem_cons.1 hb with rfl | hb
        · omega
        · have := HLL.out b hb; omega)
  have HK3 := Hi (HK.out.step (M := []) (Chg.of0 G.out) (fun _ h => by cases h) hnew)
  have HV3 := Hi (HV.out.step (L' := L2) (Chg.of0 G.out) hnew)
  have HZX := Hi (show w3.heap.size = X + 3 ∧ w.heap.size = X from ⟨z3, hX.symm⟩)
  unfold Wr.tcells at hw2
  try dsimp only at hw2
  have HVD := Hi (rvalid_ok ⟨Ta, Tn, Tc⟩ ⟨Ea, En, Ec⟩ ⟨win, tl, es⟩ w3 HK3.out.kr HO.out)
  dsimp only [iv3, Sl.v] at HVD
  go_enter Tryz.func18, Tryz.ntmps18
  go_upto_region 1 with fail
  rw [← hw1, ← hw2, ← hw3]
  simp only [← hX]
  try simp only [z1, z2']
  clear hX hw1 hw2 hw3 g1 g2 g3 z1 z2 z2' z3 hL2 hnew HK HV HLL hEn
  obtain ⟨⟨c0, c1, c2⟩, -⟩ := BX.out
  go_wp2_with fail
  refine HVD.out.mono ?_
  rintro e w4 ⟨rfl, g4⟩
  clear HVD c0 c1 c2
  obtain ⟨⟨t0, t1, t2, t3, t4, t5⟩, -⟩ := SY.out.grown g4 (by simp)
  dsimp only at t0 t1 t2 t3 t4 t5
  have HVT := Hi (rvalid_at (t := ⟨tst, tep, tsq, ttm, tkd, tvs⟩) (V := ⟨Va, Vn, Vc⟩) (W := w4) ((HV3.out.grown g4).free) HT.out)
  dsimp only [tv, Sl.v] at HVT
  have G4 := Hi g4
  clear g4
  go_wp2_with fail
  refine HVT.out.mono ?_
  rintro e w5 ⟨rfl, g5⟩
  clear HVT t0 t1 t2 t3 t4 t5
  have GW := Hi (grown_trans G4.out g5)
  have G := Hi (grown_trans G.out GW.out)
  have BX := Hi (BX.out.grown GW.out)
  have SY := Hi (SY.out.grown GW.out (by simp))
  have BZ := Hi (BZ.out.grown GW.out)
  have HK3 := Hi (HK3.out.grown GW.out)
  have HV3 := Hi (HV3.out.grown GW.out)
  have HSZ := Hi (show X + 3 ≤ w5.heap.size by have h1 := GW.out.size; have h2 := HZX.out.1; omega)
  clear g5 G4 GW
  go_upto_block 0 with fail
  go_cut [7] (fun v wd => ∃ a : Nat, v = .int .i64 a ∧ a ≤ En ∧ Hid (w5.grownBy wd none) ∧ Hid ((∀ j, j < a → (es.getD j wt0).st < tst) ∧ (a = es.length ∨ tst ≤ (es.getD a wt0).st)))
  case first =>
    go_wp2_with fail
    go_loopw [7] (fun v wr => ∃ a : Nat, v = .int .i64 a ∧ a ≤ En ∧ Hid (w5.grownBy wr none) ∧ Hid (∀ j, j < a → (es.getD j wt0).st < tst)) (fun v _ => En - (intOf v).toNat)
    case atStart => exact ⟨0, rfl, by omega, grown_refl _ _, fun j hj => absurd hj (by omega)⟩
    case round =>
      obtain ⟨a, rfl, ha, GR, LW⟩ := hrel
      obtain ⟨⟨c0, c1, c2⟩, -⟩ := BX.out.grown GR.out
      obtain ⟨⟨t0, t1, t2, t3, t4, t5⟩, -⟩ := SY.out.grown GR.out (by simp)
      dsimp only at t0 t1 t2 t3 t4 t5
      by_cases hlt : a < En
      · obtain ⟨b, off, ⟨Wa, Wn, Wc⟩, hDa, -, -, hcc⟩ := (HK3.out.grown GR.out).es.at_ a hlt
        dsimp only at hDa
        subst hDa
        obtain ⟨d0, d1, d2, d3⟩ := four_of (o := off + a * 4) (fun j u hu => by rw [Nat.add_assoc]; exact hcc j u hu)
        dsimp only at d0
        obtain ⟨y, hy⟩ : ∃ y, y = (es.getD a wt0).st := ⟨_, rfl⟩
        rw [← hy] at d0
        have HY := Hi hy
        clear hy hcc d1 d2 d3
        have b1 : decide ((a : Int) < (En : Int)) = true := by simp; omega
        by_cases hq : y < tst
        · have b2 : decide (y < tst) = true := by simpa using hq
          have L2' := Hi (fun j (hj : j < a + 1) => show (es.getD j wt0).st < tst from by
            rcases Nat.lt_or_ge j a with e | e
            · exact LW.out j e
            · obtain rfl : j = a := by omega
              rw [← HY.out]; exact hq)
          go_wp2_with fail
          go_quiet (fail)
          go_wp2
          go_roundw
          case rel => exact ⟨a + 1, by go_num, by omega, grown_trans GR.out (Wr.grown_drewN wr nq none), L2'⟩
          case measure => simp [intOf]; omega
        · have b2 : decide (y < tst) = false := by simpa using hq
          have LA := Hi (show (∀ j, j < a → (es.getD j wt0).st < tst) ∧ (a = es.length ∨ tst ≤ (es.getD a wt0).st) from ⟨LW.out, .inr (by rw [← HY.out]; omega)⟩)
          go_wp2_with fail
          go_quiet (fail)
          go_wp2_with fail
          go_meet
          case rel => exact ⟨a, rfl, ha, grown_trans GR.out (Wr.grown_drewN wr nq none), LA⟩
      · have b1 : decide ((a : Int) < (En : Int)) = false := by simp; omega
        have LA := Hi (show (∀ j, j < a → (es.getD j wt0).st < tst) ∧ (a = es.length ∨ tst ≤ (es.getD a wt0).st) from ⟨LW.out, .inl (by rw [HEN.out]; omega)⟩)
        go_wp2_with fail
        go_quiet (fail)
        go_wp2_with fail
        go_meet
        case rel => exact ⟨a, rfl, ha, grown_trans GR.out (Wr.grown_drewN wr nq none), LA⟩
  case rest =>
    obtain ⟨a, rfl, ha, GR, LA⟩ := hcut
    have G := Hi (grown_trans G.out GR.out)
    have BX := Hi (BX.out.grown GR.out)
    have SY := Hi (SY.out.grown GR.out (by simp))
    have BZ := Hi (BZ.out.grown GR.out)
    have HK3 := Hi (HK3.out.grown GR.out)
    have HV3 := Hi (HV3.out.grown GR.out)
    have HSZ := Hi (Nat.le_trans HSZ.out GR.out.size)
    clear GR
    obtain ⟨⟨t0, t1, t2, t3, t4, t5⟩, -⟩ := SY.out
    dsimp only at t0 t1 t2 t3 t4 t5
    go_upto_region 10 with fail
    obtain ⟨B8, hB8⟩ : ∃ b, b = wc.heap.size := ⟨_, rfl⟩
    obtain ⟨w8, hw8⟩ : ∃ z, z = wc.alloc (Obj.cells #[.int .i64 tst, .int .i64 tep, .int .i64 0, .slice none 0 0] 32) := ⟨_, rfl⟩
    rw [← hw8]
    simp only [← hB8]
    have g8 : wc.grownBy w8 none := by subst hw8; exact grown_alloc _ _ _
    have F8 := Hi (show Four w8 B8 tst tep 0 (.slice none 0 0) by subst hw8; subst hB8; exact four_made _ _ _ _ _ _)
    have HB8 := Hi (show X + 3 ≤ B8 ∧ B8 < w8.heap.size by have h1 := HSZ.out; have h2 := F8.out.lt; omega)
    have hL4 : ∀ b ∈ B8 :: L2, b ∈ L2 ∨ wc.heap.size ≤ b := fun b hb => by
      rcases List.mem_cons.1 hb with e | hb
      · right; omega
      · exact .inl hb
    have HL4 := Hi (show ∀ b ∈ B8 :: L2, b < B8 + 1 from fun b hb => by
      rcases List.mem_cons.1 hb with e | hb
      · omega
      · have h1 := HL3.out b hb; have h2 := HB8.out.1; omega)
    have HK4 := Hi (HK3.out.step (M := []) (Chg.of0 g8) (fun _ h => by cases h) hL4)
    have HV4 := Hi (HV3.out.step (L' := B8 :: L2) (Chg.of0 g8) hL4)
    have G := Hi (grown_trans G.out g8)
    have BX := Hi (BX.out.grown g8)
    have SY := Hi (SY.out.grown g8 (by simp))
    have BZ := Hi (BZ.out.grown g8)
    have PUT := Hi (put_at (win := win) (full := decide (es.length = 64)) (t := (⟨tst, tep, tsq, ttm, tkd, tvs⟩ : Tm.Tg)) es a (by rw [HEN.out]; exact ha) LA.out.1 LA.out.2)
    clear hB8 hw8 g8 hL4 HK3 HV3 HSZ t0 t1 t2 t3 t4 t5
    go_cut [60] (fun v wd => v = .bool (decide (a < En ∧ (es.getD a wt0).st = tst)) ∧ Hid (w8.grownBy wd none))
    case first =>
      obtain ⟨⟨c0, c1, c2⟩, -⟩ := BX.out
      obtain ⟨⟨t0, t1, t2, t3, t4, t5⟩, -⟩ := SY.out
      dsimp only at t0 t1 t2 t3 t4 t5
      by_cases hlt : a < En
      · obtain ⟨b, off, ⟨Wa, Wn, Wc⟩, hDa, -, -, hcc⟩ := HK4.out.es.at_ a hlt
        dsimp only at hDa
        subst hDa
        obtain ⟨d0, d1, d2, d3⟩ := four_of (o := off + a * 4) (fun j u hu => by rw [Nat.add_assoc]; exact hcc j u hu)
        dsimp only at d0
        obtain ⟨y, hy⟩ : ∃ y, y = (es.getD a wt0).st := ⟨_, rfl⟩
        rw [← hy] at d0
        have HD := Hi (show decide (a < En ∧ (es.getD a wt0).st = tst) = decide (y = tst) by rw [← hy]; simp [hlt])
        clear hy hcc d1 d2 d3
        have b1 : decide ((a : Int) < (En : Int)) = true := by simp; omega
        go_wp2_with fail
        go_quiet (fail)
        go_wp2
        go_meet
        case rel => exact ⟨by rw [HD.out]; first | rfl | (congr 1; simp [beq_eq_decide]; done) | (congr 1; rw [Bool.eq_iff_iff]; simp), Wr.grown_drewN w8 nq none⟩
      · have b1 : decide ((a : Int) < (En : Int)) = false := by simp; omega
        have HD := Hi (show decide (a < En ∧ (es.getD a wt0).st = tst) = false by simp; omega)
        go_wp2_with fail
        go_quiet (fail)
        go_wp2
        go_meet
        case rel => exact ⟨by rw [HD.out], Wr.grown_drewN w8 nq none⟩
    case rest =>
      obtain ⟨rfl, GR⟩ := hcut
      have G := Hi (grown_trans G.out GR.out)
      have BX := Hi (BX.out.grown GR.out)
      have SY := Hi (SY.out.grown GR.out (by simp))
      have BZ := Hi (BZ.out.grown GR.out)
      have F8 := Hi (F8.out.grown GR.out)
      have HK4 := Hi (HK4.out.grown GR.out)
      have HV4 := Hi (HV4.out.grown GR.out)
      have HB8 := Hi (show X + 3 ≤ B8 ∧ B8 < wc.heap.size from ⟨HB8.out.1, Nat.lt_of_lt_of_le HB8.out.2 GR.out.size⟩)
      clear GR
      go_upto_if 60 with fail
      go_cut [9] (fun v wd => ∃ (bh : Nat) (x : Im.Wt) (H : Sl), v = .int .i64 bh ∧ bh ≤ En ∧ Hid (Four wd B8 x.st x.ep x.nx H.v) ∧ Hid (TL wd (B8 :: L2) H x.held) ∧ Hid (Im.WOk win x) ∧ Hid (Im.acc win es (⟨tst, tep, tsq, ttm, tkd, tvs⟩ : Tm.Tg) = (es.take a ++ (Im.take win x (⟨tst, tep, tsq, ttm, tkd, tvs⟩ : Tm.Tg)).1 :: es.drop bh, (Im.take win x (⟨tst, tep, tsq, ttm, tkd, tvs⟩ : Tm.Tg)).2)) ∧ Hid (Chg [B8] wc wd))
      case first =>
        obtain ⟨⟨c0, c1, c2⟩, -⟩ := BX.out
        obtain ⟨⟨e0, e1, e2, e3⟩, eF⟩ := F8.out
        have f0 := eF 0
        have f1 := eF 1
        have f2 := eF 2
        have f3 := eF 3
        clear eF
        by_cases hf : a < En ∧ (es.getD a wt0).st = tst
        · rw [decide_eq_true hf]
          obtain ⟨b, off, ⟨Wa, Wn, Wc⟩, hDa, hbL, hTW, hcc⟩ := HK4.out.es.at_ a hf.1
          dsimp only at hDa
          subst hDa
          obtain ⟨d0, d1, d2, d3⟩ := four_of (o := off + a * 4) (fun j u hu => by rw [Nat.add_assoc]; exact hcc j u hu)
          have hxm : es.getD a wt0 ∈ es := by
            have hlt : a < es.length := by rw [HEN.out]; exact hf.1
            rw [List.getD_eq_getElem?_getD, List.getElem?_eq_getElem hlt]; exact List.getElem_mem _
          have PA := Hi (PUT.out.1 (by rw [HEN.out]; exact hf.1) hf.2)
          have HTW := Hi hTW
          have WX := Hi (HOK.out.2.2.2.all _ hxm)
          have hlt := hf.1
          have hlt' : (a : Int) < (En : Int) := by omega
          have hbB : b ≠ B8 := fun e => hbL (by rw [e]; exact List.mem_cons_self)
          clear hf hcc hTW hxm hbL
          generalize es.getD a wt0 = x at *
          obtain ⟨xst, xep, xnx, xhe⟩ := x
          dsimp only [Sl.v] at d0 d1 d2 d3 HTW
          go_wp2
          go_meet
          case rel => exact ⟨a + 1, ⟨xst, xep, xnx, xhe⟩, ⟨Wa, Wn, Wc⟩, by go_num, by omega, Hi (F8.out.all xst xep xnx (.slice Wa Wn Wc)), Hi (HTW.out.step (((((Chg.refl [B8] wc).set ⟨B8, 0, none⟩ (.int .i64 xst) (by simp)).set ⟨B8, 1, none⟩ (.int .i64 xep) (by simp)).set ⟨B8, 2, none⟩ (.int .i64 xnx) (by simp)).set ⟨B8, 3, none⟩ (.slice Wa Wn Wc) (by simp)) (fun b hb => .inl (by rw [List.mem_singleton] at hb; rw [hb]; exact List.mem_cons_self)) (fun b hb => .inl hb)), WX, Hi (by unfold Im.acc; exact PA.out), Hi (((((Chg.refl [B8] wc).set ⟨B8, 0, none⟩ (.int .i64 xst) (by simp)).set ⟨B8, 1, none⟩ (.int .i64 xep) (by simp)).set ⟨B8, 2, none⟩ (.int .i64 xnx) (by simp)).set ⟨B8, 3, none⟩ (.slice Wa Wn Wc) (by simp))⟩
        · rw [decide_eq_false hf]
          have hno : En < 64 := by
            rcases HR.out with h | h
            · have := HEN.out; omega
            · exact absurd (ent_no es _ a HOK.out.2.2.2.1 LA.out.1 LA.out.2 (by rw [HEN.out]; exact hf) (by rw [HEN.out]; exact ha)) h
          have PA := Hi (PUT.out.2 (by
            by_cases h : a = es.length
            · exact .inl h
            · exact .inr (fun e => hf ⟨by have := HEN.out; omega, e⟩)) (by have h9 := HEN.out; simp; omega))
          have h64 : ((En : Int) == 64) = false := by simp; omega
          clear hf
          go_wp2
          go_meet
          case rel => exact ⟨a, Im.new (⟨tst, tep, tsq, ttm, tkd, tvs⟩ : Tm.Tg), nilS, rfl, ha, F8, Hi (TL.nil _ _ _ _ (by omega)), Hi (Im.new_ok HOK.out.1.1 HT.out), Hi (by unfold Im.acc; exact PA.out), Hi (Chg.refl _ _)⟩
      case rest =>
        obtain ⟨bh, x, ⟨Ha, Hn, Hc⟩, rfl, hbh, F8, TLH, WX, ACC, GX⟩ := hcut
        have G := Hi (GX.out.grown G.out (fun b hb => by rw [List.mem_singleton] at hb; have h1 := HB8.out.1; have h2 := HZX.out.2; omega))
        have BX := Hi (BX.out.step GX.out (fun hm => by rw [List.mem_singleton] at hm; have h1 := HB8.out.1; omega))
        have SY := Hi (SY.out.grown (Chg.one GX.out) (fun e => by have e := Option.some.inj e; have h1 := HB8.out.1; omega))
        have BZ := Hi (BZ.out.step GX.out (fun hm => by rw [List.mem_singleton] at hm; have h1 := HB8.out.1; omega))
        have hM8 : ∀ b ∈ [B8], b ∈ B8 :: L2 := fun b hb => by rw [List.mem_singleton] at hb; rw [hb]; exact List.mem_cons_self
        have HK4 := Hi (HK4.out.step GX.out (fun b hb => .inl (hM8 b hb)) (fun b hb => .inl hb))
        have HV4 := Hi (HV4.out.step ((Chg.refl (B8 :: L2) _).then GX.out (fun b hb => .inl (hM8 b hb))) (fun b hb => .inl hb))
        have HS8 := Hi (show B8 < wc.heap.size from F8.out.lt)
        clear GX hM8 HB8
        have TK := Hi (rtake_any (B8 :: L2) win x (⟨tst, tep, tsq, ttm, tkd, tvs⟩ : Tm.Tg) ⟨Ha, Hn, Hc⟩ ⟨Va, Vn, Vc⟩ wc (fun b hb => by have := HL4.out b hb; have := HS8.out; omega) TLH.out HV4.out WX.out HT.out HOK.out.1)
        unfold TakeE at TK
        generalize Im.take win x (⟨tst, tep, tsq, ttm, tkd, tvs⟩ : Tm.Tg) = tk at *
        obtain ⟨⟨yst, yep, ynx, yhe⟩, gv⟩ := tk
        obtain ⟨xst, xep, xnx, xhe⟩ := x
        dsimp only [ev, tv, Sl.v] at TK F8 ACC
        obtain ⟨⟨e0, e1, e2, e3⟩, -⟩ := F8.out
        obtain ⟨⟨c0, c1, c2⟩, -⟩ := BX.out
        obtain ⟨⟨t0, t1, t2, t3, t4, t5⟩, -⟩ := SY.out
        dsimp only at t0 t1 t2 t3 t4 t5
        go_wp2_with fail
        refine TK.out.mono ?_
        rintro e wk ⟨⟨Ya, Yn, Yc⟩, ⟨Oa, On, Oc⟩, rfl, TLY, TLO, gk⟩
        clear TK e0 e1 e2 e3 c0 c1 c2 t0 t1 t2 t3 t4 t5 F8 TLH SY HV4
        dsimp only [Sl.v]
        have TLY := Hi TLY
        have TLO := Hi TLO
        obtain ⟨B10, hB10⟩ : ∃ b, b = wk.heap.size := ⟨_, rfl⟩
        obtain ⟨wl, hwl⟩ : ∃ z, z = wk.alloc (Obj.cells #[.int .i64 yst, .int .i64 yep, .int .i64 ynx, .slice Ya Yn Yc] 32) := ⟨_, rfl⟩
        have gl : wk.grownBy wl none := by subst hwl; exact grown_alloc _ _ _
        have F10 := Hi (show Four wl B10 yst yep ynx (.slice Ya Yn Yc) by subst hwl; subst hB10; exact four_made _ _ _ _ _ _)
        have GL := Hi (grown_trans gk gl)
        have G := Hi (grown_trans G.out GL.out)
        have BX := Hi (BX.out.grown GL.out)
        have BZ := Hi (BZ.out.grown GL.out)
        have HK4 := Hi (HK4.out.grown GL.out)
        have TLY := Hi (TLY.out.grown gl)
        have TLO := Hi (TLO.out.grown gl)
        have HS8 := Hi (show B8 < wl.heap.size from Nat.lt_of_lt_of_le HS8.out GL.out.size)
        clear gk
        go_upto_region 15 with fail
        rw [← hwl]
        try simp only [← hB10]
        clear hwl hB10 gl GL
        obtain ⟨ys, hys, hcr, hyv, hyl⟩ := HK4.out.es.list
        dsimp only at hys hyl
        have HYS := Hi hys
        have HCR := Hi hcr
        have HYV := Hi hyv
        have HYL := Hi hyl
        obtain ⟨I, hI, hz, hsz, hby⟩ := parts_w
        have hEC : En ≤ Ec := HK4.out.es.fit.1
        have hac : a ≤ Ec := Nat.le_trans ha hEC
        have hac2 : ¬ Ec < a := by omega
        have hbc2 : ¬ En < bh := by omega
        clear hys hcr hyv hyl
        go_cut [12] (fun v wx => ∃ (B12 : Nat) (R : Sl), v = .pointer (some ⟨B12, 0, none⟩) ∧ Hid (Tri wx B12 (.int .i64 win) (.slice Ta Tn Tc) R.v) ∧ Hid (EL wx (B8 :: L2) R (es.take a ++ (⟨yst, yep, ynx, yhe⟩ : Im.Wt) :: es.drop bh)) ∧ Hid (wl.grownBy wx none))
        case first =>
          have gd := Wr.grown_drew wl none
          refine wp_region_held_drew (S := fun w' => w'.cell? ⟨X, 0, none⟩ = some (.int .i64 win) ∧ w'.cell? ⟨X, 1, none⟩ = some (.slice Ta Tn Tc) ∧ w'.cell? ⟨X, 2, none⟩ = some (.slice Ea En Ec) ∧ w'.cell? ⟨B10, 0, none⟩ = some (.int .i64 yst) ∧ w'.cell? ⟨B10, 1, none⟩ = some (.int .i64 yep) ∧ w'.cell? ⟨B10, 2, none⟩ = some (.int .i64 ynx) ∧ w'.cell? ⟨B10, 3, none⟩ = some (.slice Ya Yn Yc)) (by kernel_rfl) ?_ (fun hHeld => ?_)
          · exact ⟨(BX.out.grown gd).1.1, (BX.out.grown gd).1.2.1, (BX.out.grown gd).1.2.2, (F10.out.grown gd).1.1, (F10.out.grown gd).1.2.1, (F10.out.grown gd).1.2.2.1, (F10.out.grown gd).1.2.2.2⟩
          try simp only [Act.put, lsA, lsB, lsC]
          have G2 := Hi gd
          clear gd
          generalize wl.drew = wd at *
          obtain ⟨bz, hbz⟩ : ∃ b, b = wd.heap.size := ⟨_, rfl⟩
          have GB := Hi (show wd.grownBy wd none from grown_refl _ _)
          have HBZ := Hi (show wl.heap.size ≤ bz ∧ bz = wd.heap.size from ⟨by have := G2.out.size; omega, hbz⟩)
          have HLB := Hi (show ∀ b ∈ B8 :: L2, b < bz from fun b hb => by
            have h1 := HBZ.out.1; have h2 := HL4.out b hb; have h3 := HS8.out; omega)
          obtain ⟨ad, had0, had1⟩ : ∃ ad : Option Addr, (Ea = none → ad = none) ∧ ∀ q, Ea = some q → (if Ec = bh then (some q : Option Addr) else some (q.add (bh * 4))) = ad := by
            rcases Ea with _ | q
            · exact ⟨none, fun _ => rfl, fun q e => by cases e⟩
            · exact ⟨_, (fun e => by cases e), fun q' e => by injection e with e; subst e; rfl⟩
          have HAN := Hi had0
          have HAD := Hi had1
          have HDR := Hi (show ∀ W, wl.grownBy W none → CR W ⟨ad, En - bh, Ec - bh⟩ (f4 (ys.drop bh)) from fun W g => by
            by_cases h0 : En = 0
            · have : ys.drop bh = [] := List.drop_of_length_le (by have := HYL.out; omega)
              rw [this]
              exact fun j u hu => by simp [f4] at hu
            · obtain ⟨b, off, V, hDa, -⟩ := HK4.out.es.at_ 0 (by dsimp only; omega)
              dsimp only at hDa
              have e4 := HAD.out _ hDa
              have h5 := HCR.out
              rw [hDa] at h5
              refine cr4_drop (c := Ec) (h5.grown g) HYL.out (by omega) ?_
              rw [← e4, add_lit])
          have HL5 := Hi (show (f4 (ys.take a)).length = a * 4 by rw [f4_len, List.length_take, HYL.out]; omega)
          have HL13 := Hi (show (f4 (ys.drop bh)).length = (En - bh) * 4 by rw [f4_len, List.length_drop, HYL.out])
          clear had0 had1 hbz
          refine takeL (i := 0) (v := ?_) rfl (by kernel_rfl) (by kernel_rfl) (by kernel_rfl) (fun _ _ _ h => h) (Or.inl ⟨by rfl, ?_⟩) (by assumption) ?_
          rotate_left 1
          · intro w hSw; obtain ⟨s0, s1, s2, q0, q1, q2, q3⟩ := hSw; first | (go_simp; done) | (go_simp; with_reducible rfl)
          try simp only [Act.put, lsA, lsB, lsC]
          refine takeL (i := 1) (v := ?_) rfl (by kernel_rfl) (by kernel_rfl) (by kernel_rfl) (fun _ _ _ h => h) (Or.inl ⟨by rfl, ?_⟩) (by assumption) ?_
          rotate_left 1
          · intro w hSw; obtain ⟨s0, s1, s2, q0, q1, q2, q3⟩ := hSw; first | (go_simp; done) | (go_simp; with_reducible rfl)
          try simp only [Act.put, lsA, lsB, lsC]
          refine takeL (i := 2) (v := ?_) rfl (by kernel_rfl) (by kernel_rfl) (by kernel_rfl) (fun _ _ _ h => h) (Or.inl ⟨by rfl, ?_⟩) (by assumption) ?_
          rotate_left 1
          · intro w hSw; obtain ⟨s0, s1, s2, q0, q1, q2, q3⟩ := hSw; first | (go_simp; done) | (go_simp; with_reducible rfl)
          try simp only [Act.put, lsA, lsB, lsC]
          refine takeL (i := 3) (v := ?_) rfl (by kernel_rfl) (by kernel_rfl) (by kernel_rfl) (fun _ _ _ h => h) (Or.inl ⟨by rfl, ?_⟩) (by assumption) ?_
          rotate_left 1
          · intro w hSw; obtain ⟨s0, s1, s2, q0, q1, q2, q3⟩ := hSw; first | (go_simp; done) | (go_simp; with_reducible rfl)
          try simp only [Act.put, lsA, lsB, lsC]
          refine takeL (i := 5) (v := ?_) rfl (by kernel_rfl) (by kernel_rfl) (by kernel_rfl) (fun _ _ _ h => h) (Or.inl ⟨by rfl, ?_⟩) (by assumption) ?_
          rotate_left 1
          · intro w hSw; obtain ⟨s0, s1, s2, q0, q1, q2, q3⟩ := hSw; first | (go_simp; done) | (go_simp; with_reducible rfl)
          try simp only [Act.put, lsA, lsB, lsC]
          refine takeL (i := 6) (v := ?_) rfl (by kernel_rfl) (by kernel_rfl) (by kernel_rfl) (fun _ _ _ h => h) (Or.inl ⟨by rfl, ?_⟩) (by assumption) ?_
          rotate_left 1
          · intro w hSw; obtain ⟨s0, s1, s2, q0, q1, q2, q3⟩ := hSw; first | (go_simp; done) | (go_simp; with_reducible rfl)
          try simp only [Act.put, lsA, lsB, lsC]
          refine takeL (i := 7) (v := ?_) rfl (by kernel_rfl) (by kernel_rfl) (by kernel_rfl) (fun _ _ _ h => h) (Or.inl ⟨by rfl, ?_⟩) (by assumption) ?_
          rotate_left 1
          · intro w hSw; obtain ⟨s0, s1, s2, q0, q1, q2, q3⟩ := hSw; first | (go_simp; done) | (go_simp; with_reducible rfl)
          try simp only [Act.put, lsA, lsB, lsC]
          refine takeL (i := 8) (v := .slice Ea a Ec) rfl (by kernel_rfl) (by kernel_rfl) (by kernel_rfl) (fun _ _ _ h => h) (Or.inl ⟨by rfl, ?_⟩) (by assumption) ?_
          · intro w hSw; obtain ⟨s0, s1, s2, q0, q1, q2, q3⟩ := hSw
            rcases Ea with _ | ⟨b, off, sp⟩
            · first | (go_simp; done) | (go_simp; with_reducible rfl)
            · have hz0 : (⟨b, off, sp⟩ : Addr).add (0 * 4) = ⟨b, off, sp⟩ := rfl
              first | (go_simp; done) | (go_simp; rw [hz0])
          try simp only [Act.put, lsA, lsB, lsC]
          refine takeL (i := 10) (v := ?_) rfl (by kernel_rfl) (by kernel_rfl) (by kernel_rfl) (fun _ _ _ h => h) (Or.inl ⟨by rfl, ?_⟩) (by assumption) ?_
          rotate_left 1
          · intro w hSw; obtain ⟨s0, s1, s2, q0, q1, q2, q3⟩ := hSw; first | (go_simp; done) | (go_simp; with_reducible rfl)
          try simp only [Act.put, lsA, lsB, lsC]
          refine takeL (i := 13) (v := ?_) rfl (by kernel_rfl) (by kernel_rfl) (by kernel_rfl) (fun _ _ _ h => h) (Or.inl ⟨by rfl, ?_⟩) (by assumption) ?_
          rotate_left 1
          · intro w hSw; obtain ⟨s0, s1, s2, q0, q1, q2, q3⟩ := hSw; first | (go_simp; done) | (go_simp; with_reducible rfl)
          try simp only [Act.put, lsA, lsB, lsC]
          refine takeL (i := 14) (v := ?_) rfl (by kernel_rfl) (by kernel_rfl) (by kernel_rfl) (fun _ _ _ h => h) (Or.inl ⟨by rfl, ?_⟩) (by assumption) ?_
          rotate_left 1
          · intro w hSw; obtain ⟨s0, s1, s2, q0, q1, q2, q3⟩ := hSw; first | (go_simp; done) | (go_simp; with_reducible rfl)
          try simp only [Act.put, lsA, lsB, lsC]
          refine takeL (i := 15) (v := ?_) rfl (by kernel_rfl) (by kernel_rfl) (by kernel_rfl) (fun _ _ _ h => h) (Or.inl ⟨by rfl, ?_⟩) (by assumption) ?_
          rotate_left 1
          · intro w hSw; obtain ⟨s0, s1, s2, q0, q1, q2, q3⟩ := hSw; first | (go_simp; done) | (go_simp; with_reducible rfl)
          try simp only [Act.put, lsA, lsB, lsC]
          refine takeL (i := 16) (v := .slice ad (En - bh) (Ec - bh)) rfl (by kernel_rfl) (by kernel_rfl) (by kernel_rfl) (fun _ _ _ h => h) (Or.inl ⟨by rfl, ?_⟩) (by assumption) ?_
          · intro w hSw; obtain ⟨s0, s1, s2, q0, q1, q2, q3⟩ := hSw
            rcases hEa : Ea with _ | q
            · have e4 := HAN.out hEa; subst hEa; subst e4; first | (go_simp; done) | (go_simp; with_reducible rfl)
            · have e4 := HAD.out q hEa; subst hEa; rw [← e4]; first | (go_simp; done) | (go_simp; with_reducible rfl)
          try simp only [Act.put, lsA, lsB, lsC]
          have HS := Hi (fun (W : World) (g : wl.grownBy W none) => show W.cell? ⟨X, 0, none⟩ = some (.int .i64 win) ∧ W.cell? ⟨X, 1, none⟩ = some (.slice Ta Tn Tc) ∧ W.cell? ⟨X, 2, none⟩ = some (.slice Ea En Ec) ∧ W.cell? ⟨B10, 0, none⟩ = some (.int .i64 yst) ∧ W.cell? ⟨B10, 1, none⟩ = some (.int .i64 yep) ∧ W.cell? ⟨B10, 2, none⟩ = some (.int .i64 ynx) ∧ W.cell? ⟨B10, 3, none⟩ = some (.slice Ya Yn Yc) from ⟨(BX.out.grown g).1.1, (BX.out.grown g).1.2.1, (BX.out.grown g).1.2.2, (F10.out.grown g).1.1, (F10.out.grown g).1.2.1, (F10.out.grown g).1.2.2.1, (F10.out.grown g).1.2.2.2⟩)
          refine wpAnyH_keeps (Ib wl bz ys (⟨yst, yep, ynx, yhe⟩, ⟨Ya, Yn, Yc⟩) a bh win ⟨Ta, Tn, Tc⟩ (B8 :: L2) (es.take a ++ (⟨yst, yep, ynx, yhe⟩ : Im.Wt) :: es.drop bh)) [85, 90, 92, 93, 98, 99, 12] [true, true, true, true, false, true, true, true, true, false, true, false, false, true, true, true, true, false, false, false, false] [u85, u90, u92, u93, u98, u99, undef] (by kernel_rfl) (by decide) (by rfl) ?hv ?start ?held ?step ?fin
          case hv => simp only [puts, Act.put, lsA, lsB, lsC]
          case start => exact .inl ⟨false, false, false, false, false, false, false, _, _, _, _, _, _, _, none, rfl, rfl, ⟨G2.out, Nat.le_of_eq HBZ.out.2, .r0 _ _ _ _, (fun e => by cases e), (fun e => by cases e)⟩, fun e => by cases e⟩
          case held =>
            rintro bs vs W (⟨_, _, _, _, _, _, _, _, _, _, _, _, _, _, _, rfl, rfl, hJ, -⟩ | ⟨rfl, _, _, _, _, _, _, _, _, rfl, -, -, hg⟩)
            · exact HS.out W hJ.g
            · exact HS.out W hg
          case step =>
            rintro bs vs W i (⟨b4, b9, b11, b12, b17, b18, b19, v4, v9, v11, v12, v17, v18, v19, k, rfl, rfl, hJ, h18⟩ | ⟨rfl, -⟩) hi hr
            · have hi : i < 21 := hi
              obtain rfl | rfl | rfl | rfl | rfl | rfl | rfl | rfl | rfl | rfl | rfl | rfl | rfl | rfl | rfl | rfl | rfl | rfl | rfl | rfl | rfl : i = 0 ∨ i = 1 ∨ i = 2 ∨ i = 3 ∨ i = 4 ∨ i = 5 ∨ i = 6 ∨ i = 7 ∨ i = 8 ∨ i = 9 ∨ i = 10 ∨ i = 11 ∨ i = 12 ∨ i = 13 ∨ i = 14 ∨ i = 15 ∨ i = 16 ∨ i = 17 ∨ i = 18 ∨ i = 19 ∨ i = 20 := by omega
              · exact absurd (ready_un hr) (by simp)
              · exact absurd (ready_un hr) (by simp)
              · exact absurd (ready_un hr) (by simp)
              · exact absurd (ready_un hr) (by simp)
              · obtain rfl : b4 = false := by simpa using ready_un hr
                obtain ⟨rfl, rfl, rfl⟩ := hJ.r.at4
                have hJ2 := hJ.s4
                clear hJ
                apply op_at
                · rfl
                intro K hK
                simp only [puts, Act.put, lsA, lsB, lsC]
                go_simp
                exact hK.out _ _ ⟨[true, true, true, true, true, true, true, true, true, false, true, b11, false, true, true, true, true, false, b18, b19, false], [.slice (some ⟨W.heap.size, 0, none⟩) 0 0, v9, v11, v12, v17, v18, v19], by simp only [lsA, lsB, lsC], by simp only [puts, Act.put, lsA, lsB, lsC], .inl ⟨true, false, b11, false, false, b18, b19, .slice (some ⟨W.heap.size, 0, none⟩) 0 0, v9, v11, v12, v17, v18, v19, _, rfl, rfl, hJ2, h18⟩⟩
              · exact absurd (ready_un hr) (by simp)
              · exact absurd (ready_un hr) (by simp)
              · exact absurd (ready_un hr) (by simp)
              · exact absurd (ready_un hr) (by simp)
              · obtain rfl : b9 = false := by simpa using ready_un hr
                have d4 : b4 = true := dep_at hr (o := _) rfl ⟨4, .data⟩ (by simp) rfl
                subst d4
                obtain ⟨R, rfl, rfl, rfl, rfl, hR, hn⟩ := hJ.r.at9
                obtain ⟨ra, rn, rc⟩ := R
                try dsimp only [Sl.v]
                have hz2 := hJ.z
                have hC := cr4_take (c' := Ec) (a := a) (HCR.out.grown hJ.g)
                dsimp only at hn
                simp only [puts, Act.put, lsA, lsB, lsC]
                apply op_at
                · rfl
                intro K hK
                refine step_appV rfl (.tmp 85) (.tmp 89) 23 rfl (S := ⟨ra, rn, rc⟩) (V := ⟨Ea, a, Ec⟩) Tryz.underlying23 hI hz hsz hby (by rfl) (by omega) rfl rfl hR hz2 HL5.out hC (f4_one _) (by dsimp only; omega) (by dsimp only; omega) ?_
                intro r W2 hrn hr2 hg hrb
                have hJ2 := hJ.ap HBZ.out.1 hg hrb (.r2 r (.slice ra rn rc) v12 v17 (show OR _ _ _ _ r (f4 (ys.take a)) from hr2) (by rw [hrn]; dsimp only at hn ⊢; omega))
                exact hK.out _ _ ⟨[true, true, true, true, true, true, true, true, true, true, true, b11, false, true, true, true, true, false, b18, b19, false], [.slice ra rn rc, r.v, v11, v12, v17, v18, v19], by simp only [lsA, lsB, lsC], by simp only [puts, Act.put, lsA, lsB, lsC], .inl ⟨true, true, b11, false, false, b18, b19, .slice ra rn rc, r.v, v11, v12, v17, v18, v19, _, rfl, rfl, hJ2, h18⟩⟩
              · exact absurd (ready_un hr) (by simp)
              · obtain rfl : b11 = false := by simpa using ready_un hr
                have hJ2 := hJ.s11
                clear hJ
                apply op_at
                · rfl
                intro K hK
                simp only [puts, Act.put, lsA, lsB, lsC]
                go_simp
                exact hK.out _ _ ⟨[true, true, true, true, b4, true, true, true, true, b9, true, true, b12, true, true, true, true, b17, b18, b19, false], [v4, v9, .slice (some ⟨W.heap.size, 0, none⟩) 1 1, v12, v17, v18, v19], by simp only [lsA, lsB, lsC], by simp only [puts, Act.put, lsA, lsB, lsC], .inl ⟨b4, b9, true, b12, b17, b18, b19, v4, v9, .slice (some ⟨W.heap.size, 0, none⟩) 1 1, v12, v17, v18, v19, _, rfl, rfl, hJ2, h18⟩⟩
              · obtain rfl : b12 = false := by simpa using ready_un hr
                have d9 : b9 = true := dep_at hr (o := _) rfl ⟨9, .data⟩ (by simp) rfl
                subst d9
                have d11 : b11 = true := dep_at hr (o := _) rfl ⟨11, .data⟩ (by simp) rfl
                subst d11
                obtain ⟨R, rfl, rfl, rfl, rfl, hR, hn⟩ := hJ.r.at12
                obtain ⟨B, rfl, hc, -⟩ := hJ.c rfl
                obtain ⟨ra, rn, rc⟩ := R
                try dsimp only [Sl.v]
                have hz2 := hJ.z
                dsimp only at hn
                simp only [puts, Act.put, lsA, lsB, lsC]
                apply op_at
                · rfl
                intro K hK
                refine step_appV rfl (.tmp 90) (.tmp 92) 23 rfl (S := ⟨ra, rn, rc⟩) (V := ⟨some ⟨B, 0, none⟩, 1, 1⟩) Tryz.underlying23 hI hz hsz hby (by rfl) (by omega) rfl rfl hR hz2 hc.len hc.cr (ecs_one _) (by dsimp only; omega) (by dsimp only; omega) ?_
                intro r W2 hrn hr2 hg hrb
                have hJ2 := hJ.ap HBZ.out.1 hg hrb (.r3 r v4 (.slice ra rn rc) v17 hr2 (by rw [hrn]; dsimp only at hn ⊢; omega))
                exact hK.out _ _ ⟨[true, true, true, true, true, true, true, true, true, true, true, true, true, true, true, true, true, false, b18, b19, false], [v4, .slice ra rn rc, .slice (some ⟨B, 0, none⟩) 1 1, r.v, v17, v18, v19], by simp only [lsA, lsB, lsC], by simp only [puts, Act.put, lsA, lsB, lsC], .inl ⟨true, true, true, true, false, b18, b19, v4, .slice ra rn rc, .slice (some ⟨B, 0, none⟩) 1 1, r.v, v17, v18, v19, _, rfl, rfl, hJ2, h18⟩⟩
              · exact absurd (ready_un hr) (by simp)
              · exact absurd (ready_un hr) (by simp)
              · exact absurd (ready_un hr) (by simp)
              · exact absurd (ready_un hr) (by simp)
              · obtain rfl : b17 = false := by simpa using ready_un hr
                have d12 : b12 = true := dep_at hr (o := _) rfl ⟨12, .data⟩ (by simp) rfl
                subst d12
                obtain ⟨R, rfl, rfl, rfl, rfl, hR, hn⟩ := hJ.r.at17
                obtain ⟨ra, rn, rc⟩ := R
                try dsimp only [Sl.v]
                have hz2 := hJ.z
                have hC := HDR.out _ hJ.g
                dsimp only at hn
                simp only [puts, Act.put, lsA, lsB, lsC]
                apply op_at
                · rfl
                intro K hK
                refine step_appV rfl (.tmp 93) (.tmp 97) 23 rfl (S := ⟨ra, rn, rc⟩) (V := ⟨ad, En - bh, Ec - bh⟩) Tryz.underlying23 hI hz hsz hby (by rfl) (by omega) rfl rfl hR hz2 HL13.out hC (f4_one _) (by dsimp only; omega) (by dsimp only; omega) ?_
                intro r W2 hrn hr2 hg hrb
                have hJ2 := hJ.ap HBZ.out.1 hg hrb (.r4 r v4 v9 (.slice ra rn rc) hr2)
                exact hK.out _ _ ⟨[true, true, true, true, true, true, true, true, true, true, true, b11, true, true, true, true, true, true, b18, b19, false], [v4, v9, v11, .slice ra rn rc, r.v, v18, v19], by simp only [lsA, lsB, lsC], by simp only [puts, Act.put, lsA, lsB, lsC], .inl ⟨true, true, b11, true, true, b18, b19, v4, v9, v11, .slice ra rn rc, r.v, v18, v19, _, rfl, rfl, hJ2, fun e => by cases (h18 e).1⟩⟩
              · obtain rfl : b18 = false := by simpa using ready_un hr
                have d17 : b17 = true := dep_at hr (o := _) rfl ⟨17, .data⟩ (by simp) rfl
                subst d17
                obtain ⟨R, rfl, rfl, rfl, rfl, rfl, hR⟩ := hJ.r.at18
                obtain ⟨ra, rn, rc⟩ := R
                try dsimp only [Sl.v]
                apply op_at
                · rfl
                intro K hK
                simp only [puts, Act.put, lsA, lsB, lsC]
                go_simp
                exact hK.out _ _ ⟨[true, true, true, true, true, true, true, true, true, true, true, b11, true, true, true, true, true, true, true, b19, false], [v4, v9, v11, v12, .slice ra rn rc, .agg #[.int .i64 win, .slice Ta Tn Tc, .slice ra rn rc], v19], by simp only [lsA, lsB, lsC], by simp only [puts, Act.put, lsA, lsB, lsC], .inl ⟨true, true, b11, true, true, true, b19, v4, v9, v11, v12, .slice ra rn rc, .agg #[.int .i64 win, .slice Ta Tn Tc, .slice ra rn rc], v19, _, rfl, rfl, hJ, fun _ => ⟨rfl, rfl⟩⟩⟩
              · obtain rfl : b19 = false := by simpa using ready_un hr
                have hJ2 := hJ.s19
                clear hJ
                apply op_at
                · rfl
                intro K hK
                simp only [puts, Act.put, lsA, lsB, lsC]
                go_simp
                exact hK.out _ _ ⟨[true, true, true, true, b4, true, true, true, true, b9, true, b11, b12, true, true, true, true, b17, b18, true, false], [v4, v9, v11, v12, v17, v18, .pointer (some ⟨W.heap.size, 0, none⟩)], by simp only [lsA, lsB, lsC], by simp only [puts, Act.put, lsA, lsB, lsC], .inl ⟨b4, b9, b11, b12, b17, b18, true, v4, v9, v11, v12, v17, v18, .pointer (some ⟨W.heap.size, 0, none⟩), _, rfl, rfl, hJ2, h18⟩⟩
              · have d17 : b17 = true := dep_at hr (o := _) rfl ⟨17, .chain⟩ (by simp) rfl
                subst d17
                have d18 : b18 = true := dep_at hr (o := _) rfl ⟨18, .data⟩ (by simp) rfl
                subst d18
                have d19 : b19 = true := dep_at hr (o := _) rfl ⟨19, .data⟩ (by simp) rfl
                subst d19
                have d11 : b11 = true := dep_at hr (o := _) rfl ⟨11, .phase⟩ (by simp) rfl
                subst d11
                obtain ⟨R, rfl, rfl, rfl, rfl, rfl, hR⟩ := hJ.r.at18
                obtain ⟨-, rfl⟩ := h18 rfl
                obtain ⟨B12, rfl, hB, hT, hne⟩ := hJ.t rfl
                obtain ⟨ra, rn, rc⟩ := R
                try dsimp only [Sl.v]
                have hLX : ∀ b ∈ B12 :: B8 :: L2, b ∈ B8 :: L2 ∨ wl.heap.size ≤ b := fun b hb => by
                  rcases List.mem_cons.1 hb with e | hb
                  · right; have h2 := HBZ.out.1; omega
                  · exact .inl hb
                have EL17 := ins_row4 (L := B12 :: B8 :: L2) HYS.out (fun y hy => (HYV.out y hy).step (M := []) (Chg.refl _ _) (fun _ h => by cases h) hLX) (TLY.out.step (M := []) (Chg.refl _ _) (fun _ h => by cases h) hLX) hJ.g hR (fun b hb hm => by
                  rcases List.mem_cons.1 hm with e | hm
                  · subst e; exact hne hb
                  · have h1 := (hR.blk b hb).1; have h2 := HLB.out b hm; omega)
                clear hLX
                have gs : Chg [B12] W (((W.setCell ⟨B12, 0, none⟩ (.int .i64 win)).setCell ⟨B12, 1, none⟩ (.slice Ta Tn Tc)).setCell ⟨B12, 2, none⟩ (.slice ra rn rc)) := (((Chg.refl [B12] W).set ⟨B12, 0, none⟩ (.int .i64 win) (by simp)).set ⟨B12, 1, none⟩ (.slice Ta Tn Tc) (by simp)).set ⟨B12, 2, none⟩ (.slice ra rn rc) (by simp)
                have G3 := Hi (gs.grown hJ.g (fun b hb => by rw [List.mem_singleton] at hb; have h2 := HBZ.out.1; omega))
                have BT2 := Hi (((hT.set0 (.int .i64 win)).set1 (.slice Ta Tn Tc)).set2 (.slice ra rn rc))
                have EL2 := Hi (EL17.step (L' := B8 :: L2) gs (fun b hb => .inl (by rw [List.mem_singleton] at hb; rw [hb]; exact List.mem_cons_self)) (fun b hb => .inl (List.mem_cons_of_mem _ hb)))
                obtain ⟨⟨m0, m1, m2⟩, mf⟩ := hT
                have f0 := mf 0
                have f1 := mf 1
                have f2 := mf 2
                clear mf hJ gs EL17 h18 hR hne
                apply op_at
                · rfl
                intro K hK
                simp only [puts, Act.put, lsA, lsB, lsC]
                go_simp
                exact hK.out _ _ ⟨[true, true, true, true, true, true, true, true, true, true, true, true, true, true, true, true, true, true, true, true, true], [v4, v9, v11, v12, .slice ra rn rc, .agg #[.int .i64 win, .slice Ta Tn Tc, .slice ra rn rc], .pointer (some ⟨B12, 0, none⟩)], by simp only [lsA, lsB, lsC], by simp only [puts, Act.put, lsA, lsB, lsC], .inr ⟨rfl, v4, v9, v11, v12, _, _, B12, ⟨ra, rn, rc⟩, rfl, BT2.out, EL2.out, G3.out⟩⟩
            · have hi : i < 21 := hi
              have h := ready_un hr
              clear hr
              obtain rfl | rfl | rfl | rfl | rfl | rfl | rfl | rfl | rfl | rfl | rfl | rfl | rfl | rfl | rfl | rfl | rfl | rfl | rfl | rfl | rfl : i = 0 ∨ i = 1 ∨ i = 2 ∨ i = 3 ∨ i = 4 ∨ i = 5 ∨ i = 6 ∨ i = 7 ∨ i = 8 ∨ i = 9 ∨ i = 10 ∨ i = 11 ∨ i = 12 ∨ i = 13 ∨ i = 14 ∨ i = 15 ∨ i = 16 ∨ i = 17 ∨ i = 18 ∨ i = 19 ∨ i = 20 := by omega
              all_goals exact absurd h (by simp)
          case fin =>
            rintro bs vs W (⟨b4, b9, b11, b12, b17, b18, b19, v4, v9, v11, v12, v17, v18, v19, k, rfl, rfl, -, -⟩ | ⟨rfl, v4, v9, v11, v12, v17, v18, B12, ⟨ra, rn, rc⟩, rfl, hT, hE, hg⟩) hall
            · exact absurd (hall 20 (of_decide_eq_true (by kernel_rfl))) (by simp)
            · have hT := Hi hT
              have hE := Hi hE
              have hg := Hi hg
              simp only [puts, Act.put, lsA, lsB, lsC]
              go_wp2_with fail
              go_meet
              case rel => exact ⟨B12, ⟨ra, rn, rc⟩, rfl, hT, hE, hg⟩
        case rest =>
          obtain ⟨B12, ⟨Ra, Rn, Rc⟩, rfl, BT, ELR, GX⟩ := hcut
          have TLO := Hi (TLO.out.grown GX.out)
          have BZ := Hi (BZ.out.grown GX.out)
          have HK4 := Hi (HK4.out.grown GX.out)
          have G := Hi (grown_trans G.out GX.out)
          dsimp only [Sl.v] at BT
          have FIN := Hi (fun (wz : World) (gz : Chg [X + 1 + 1] wc wz) => show AccA L (Im.acc win es (⟨tst, tep, tsq, ttm, tkd, tvs⟩ : Tm.Tg)) ⟨win, tl, es⟩ w (.returned (.tuple #[iv3 win ⟨Ta, Tn, Tc⟩ ⟨Ra, Rn, Rc⟩, Sl.v ⟨Oa, On, Oc⟩, .int .i64 0])) wz from by
            have hb2 : ∀ b ∈ [X + 1 + 1], b ∈ B8 :: L2 ∨ wc.heap.size ≤ b := fun b hb => by rw [List.mem_singleton] at hb; subst hb; exact .inl (List.mem_cons_of_mem _ HL2.out.2.2.2)
            have hbL : ∀ b ∈ L, b ∈ B8 :: L2 ∨ wc.heap.size ≤ b := fun b hb => .inl (List.mem_cons_of_mem _ (HL2.out.1 b hb))
            rw [ACC.out]
            exact ⟨⟨Ta, Tn, Tc⟩, ⟨Ra, Rn, Rc⟩, ⟨Oa, On, Oc⟩, rfl, ⟨HK4.out.fit, HK4.out.tl.step gz hb2 hbL, ELR.out.step gz hb2 hbL⟩, TLO.out.step gz hb2 hbL, gz.grown G.out (fun b hb => by rw [List.mem_singleton] at hb; have := HZX.out.2; omega)⟩)
          obtain ⟨⟨c0, c1, c2⟩, -⟩ := BT.out
          obtain ⟨⟨z0, z1, z2⟩, zF⟩ := BZ.out
          have y0 := zF 0
          have y1 := zF 1
          have y2 := zF 2
          clear zF
          go_wp2_with fail
          try simp only [Exit.inBlock, Exit.then]
          refine bodyPost_ret (v := .tuple #[iv3 win ⟨Ta, Tn, Tc⟩ ⟨Ra, Rn, Rc⟩, Sl.v ⟨Oa, On, Oc⟩, .int .i64 0]) ?hr rfl ?hE
          case hr =>
            rw [results_cell3 rfl]
            go_simp
            first | rfl | exact ⟨rfl, rfl⟩
          case hE =>
            exact FIN.out _ ((((Chg.refl _ wc).set ⟨X + 1 + 1, 0, none⟩ (.int .i64 win) (by simp)).set ⟨X + 1 + 1, 1, none⟩ (.slice Ta Tn Tc) (by simp)).set ⟨X + 1 + 1, 2, none⟩ (.slice Ra Rn Rc) (by simp))
theorem raccept_ok (L : List Nat) (T E : Sl) (k : Ik) (t : Tm.Tg) (V : Sl) (w : World) (hL : ∀ b ∈ L, b < w.heap.size) (hk : KA w L T E k) (ho : k.ok = true) (hV : VI w L V t.vs) (ht : t.ok = true) (hr : k.es.length < 64) :
    Calls Tryz.prog 18 #[iv3 k.win T E, tv t V.v] w (AccA L (Im.acc k.win k.es t) k w) := raccept_room L T E k t V w hL hk ho hV ht (.inl hr)
end Go.Proofs.YticmoaebegahgaaGreatDoor.Iw
