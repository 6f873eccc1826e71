import Derived.Test.YticmoaebegahgaaGreatDoorLf
import Derived.Test.YticmoaebegahgaaGreatDoorQa
set_option linter.all false
namespace Go.Proofs.YticmoaebegahgaaGreatDoor.Iw
open Go.ChangeShapes Go.WideShapes Go.ChangeAt Go.RowKit
open Wr (IR RB iv ivs bv bvs grown_trans grown_refl grown_alloc ret_int ret_bool tv Ret ret_mk)
attribute [local go_sem] Oper.semAt_some
def lens {n : Nat} (pre : List (Fx n)) : Nat := (pre.map fun x => x.1.2 - x.1.1).sum
theorem lens_le {n : Nat} (pre : List (Fx n)) : lens pre ≤ pre.length * n := by
  induction pre with
  | nil => simp [lens]
  | cons x r ih =>
    have h1 := x.2
    unfold lens at ih ⊢
    simp only [List.map_cons, List.sum_cons, List.length_cons, Nat.add_mul]
    omega
theorem lens_snoc {n : Nat} (pre : List (Fx n)) (x : Fx n) : lens (pre ++ [x]) = lens pre + (x.1.2 - x.1.1) := by
  unfold lens
  rw [List.map_append, List.sum_append]
  simp
theorem ix_len {l : List UInt8} {n : Nat} (h : l.length = n) (x : Fx n) : (ix l x.1).length = x.1.2 - x.1.1 := by
  have := x.2
  unfold ix
  rw [List.length_drop, List.length_take]; omega
theorem lens_of {l : List UInt8} {n : Nat} (h : l.length = n) (pre : List (Fx n)) : ((pre.map fun x => ix l x.1).map List.length).sum = lens pre := by
  induction pre with
  | nil => rfl
  | cons x r ih =>
    unfold lens at ih ⊢
    simp only [List.map_cons, List.sum_cons, ih, ix_len h]
theorem Np.sb {W W' : World} (h : Np W W') {base : Nat} {F : Sl} {xs : List (Sl × List UInt8)} (k : SB base W F xs) : SB base W' F xs := ⟨h.or k.row, fun x hx => h.or (k.each x hx), k.off⟩
structure Fl (w : World) (W0s Db Gx : Nat) (F : Sl) (xs : List (Sl × List UInt8)) (dm : Int) (W : World) : Prop where
  g : w.grownBy W none
  box : W.cell? ⟨Gx, 0, none⟩ = some F.v ∧ W.frozen? ⟨Gx, 0, none⟩ = false
  dbx : W.cell? ⟨Db, 0, none⟩ = some (.int .i64 dm) ∧ W.frozen? ⟨Db, 0, none⟩ = false
  sb : SB W0s W F xs
  ord : w.heap.size ≤ Db ∧ Db < Gx ∧ Gx < W0s ∧ W0s ≤ W.heap.size
section
variable {w : World} {W0s Db Gx : Nat} {F : Sl} {xs : List (Sl × List UInt8)} {dm : Int} {W : World}
theorem Fl.np (h : Fl w W0s Db Gx F xs dm W) {W' : World} {row : Option Nat} (hg : W.grownBy W' row) (hr : ∀ r, row = some r → W0s ≤ r ∧ ∃ o : Obj, W.heap[r]? = some o ∧ o.isCells = false) : Fl w W0s Db Gx F xs dm W' := by
  have np : Np W W' := ⟨row, hg, fun r e => (hr r e).2⟩
  have c : Chg row.toList W W' := Chg.of hg (fun b hb => by simpa using hb)
  exact ⟨c.grown h.g (fun b hb => by have := (hr b (by simpa using hb)).1; have := h.ord; omega), ⟨np.cell h.box.1, by rw [np.frozen h.box.1]; exact h.box.2⟩, ⟨np.cell h.dbx.1, by rw [np.frozen h.dbx.1]; exact h.dbx.2⟩, np.sb h.sb, by have := h.ord; have := np.size; omega⟩
theorem Fl.grown (h : Fl w W0s Db Gx F xs dm W) {W' : World} (hg : W.grownBy W' none) : Fl w W0s Db Gx F xs dm W' := h.np hg (fun r e => by cases e)
theorem Fl.step (h : Fl w W0s Db Gx F xs dm W) {W1 W2 W3 : World} {q r : Sl} {l : List UInt8} (hq : OR W0s W1 5 1 q (bvs l)) (hqF : ∀ b, q.blk = some b → F.blk ≠ some b) (g1 : W.grownBy W1 none) (g2 : W1.grownBy W2 none) (hr : OR W0s W3 22 1 r ((xs.map fun x => x.1.v) ++ [q.v])) (g3 : W2.grownBy W3 F.blk) (hrb : ∀ b, r.blk = some b → F.blk = some b ∨ b = W2.heap.size) (d : Int) {Bs sb : Nat} (hB : Bs < W0s ∧ sb < W0s ∧ Bs ≠ Gx ∧ Bs ≠ Db ∧ sb ≠ Gx ∧ sb ≠ Db) :
    Fl w W0s Db Gx r (xs ++ [(q, l)]) d ((W3.setCell ⟨Gx, 0, none⟩ r.v).setCell ⟨Db, 0, none⟩ (.int .i64 d)) ∧ KeepsFrom W0s W ((W3.setCell ⟨Gx, 0, none⟩ r.v).setCell ⟨Db, 0, none⟩ (.int .i64 d)) ∧ KB [Bs, sb] W ((W3.setCell ⟨Gx, 0, none⟩ r.v).setCell ⟨Db, 0, none⟩ (.int .i64 d)) := by
  obtain ⟨o1, o2, o3, o4⟩ := h.ord
  have s1 := g1.size
  have s2 := g2.size
  have hF : ∀ b, F.blk = some b → W0s ≤ b := fun b hb => (h.sb.row.blk b hb).1
  have hR : ∀ b, r.blk = some b → W0s ≤ b := fun b hb => (hr.blk b hb).1
  have S2 : SB W0s W2 F xs := (h.sb.grown g1).grown g2
  have S3 : SB W0s W3 r (xs ++ [(q, l)]) := S2.app (hq.grown g2) hqF hr g3 hrb
  have c4 : Chg [Gx] W3 (W3.setCell ⟨Gx, 0, none⟩ r.v) := chg_set W3 Gx 0 r.v
  have c5 : Chg [Db] (W3.setCell ⟨Gx, 0, none⟩ r.v) ((W3.setCell ⟨Gx, 0, none⟩ r.v).setCell ⟨Db, 0, none⟩ (.int .i64 d)) := chg_set _ Db 0 _
  have bx3 : W3.cell? ⟨Gx, 0, none⟩ = some F.v ∧ W3.frozen? ⟨Gx, 0, none⟩ = false := by
    have b2 := g2.cell (g1.cell h.box.1 (by simp)) (by simp)
    have z2 := Wr.grown_frozen g2 (g1.cell h.box.1 (by simp)) (Wr.grown_frozen g1 h.box.1 h.box.2 (by simp)) (by simp)
    have hne : some Gx ≠ F.blk := fun e => by have := hF Gx e.symm; omega
    exact ⟨g3.cell b2 hne, Wr.grown_frozen g3 b2 z2 hne⟩
  have db3 : W3.cell? ⟨Db, 0, none⟩ = some (.int .i64 dm) ∧ W3.frozen? ⟨Db, 0, none⟩ = false := by
    have b2 := g2.cell (g1.cell h.dbx.1 (by simp)) (by simp)
    have z2 := Wr.grown_frozen g2 (g1.cell h.dbx.1 (by simp)) (Wr.grown_frozen g1 h.dbx.1 h.dbx.2 (by simp)) (by simp)
    have hne : some Db ≠ F.blk := fun e => by have := hF Db e.symm; omega
    exact ⟨g3.cell b2 hne, Wr.grown_frozen g3 b2 z2 hne⟩
  have c3 : Chg F.blk.toList W2 W3 := Chg.of g3 (fun b hb => by simpa using hb)
  have s3 := c3.size
  have hall : Chg (Gx :: Db :: F.blk.toList) W ((W3.setCell ⟨Gx, 0, none⟩ r.v).setCell ⟨Db, 0, none⟩ (.int .i64 d)) :=
    ((Chg.of0 (grown_trans g1 g2)).trans (c3.weak (fun b hb => List.mem_cons_of_mem _ (List.mem_cons_of_mem _ hb)))).trans ((c4.weak (fun b hb => by rw [List.mem_singleton] at hb; rw [hb]; exact List.mem_cons_self)).trans (c5.weak (fun b hb => by rw [List.mem_singleton] at hb; rw [hb]; exact List.mem_cons_of_mem _ List.mem_cons_self)))
  have hin : ∀ b ∈ Gx :: Db :: F.blk.toList, b = Gx ∨ b = Db ∨ W0s ≤ b := fun b hb => by
    rcases List.mem_cons.1 hb with e | hb
    · exact .inl e
    · rcases List.mem_cons.1 hb with e | hb
      · exact .inr (.inl e)
      · exact .inr (.inr (hF b (by simpa using hb)))
  have hne : (⟨Gx, 0, none⟩ : Addr) ≠ ⟨Db, 0, none⟩ := fun e => by injection e with e _ _; omega
  refine ⟨⟨hall.grown h.g (fun b hb => by rcases hin b hb with e | e | e <;> omega), ⟨?_, ?_⟩, ⟨?_, ?_⟩, ?_, ⟨o1, o2, o3, by have := hall.size; omega⟩⟩, ⟨hall.size, fun k o hk ho hc => ?_⟩, fun a v ha hv => hall.cell hv (fun hm => ?_)⟩
  · exact c5.cell (World.cell?_setCell_same _ _ _ bx3.1) (fun hm => by rw [List.mem_singleton] at hm; dsimp only at hm; omega)
  · rw [World.frozen?_setCell, World.frozen?_setCell]; exact bx3.2
  · exact World.cell?_setCell_same _ _ _ (c4.cell db3.1 (fun hm => by rw [List.mem_singleton] at hm; dsimp only at hm; omega))
  · rw [World.frozen?_setCell, World.frozen?_setCell]; exact db3.2
  · have hlow : ∀ b ∈ [Gx], b < W0s := fun b hb => by rw [List.mem_singleton] at hb; omega
    have hlow2 : ∀ b ∈ [Db], b < W0s := fun b hb => by rw [List.mem_singleton] at hb; omega
    refine ⟨(S3.row.chg c4 (fun b hb hm => by have := (S3.row.blk b hb).1; have := hlow b hm; omega)).chg c5 (fun b hb hm => by have := (S3.row.blk b hb).1; have := hlow2 b hm; omega), fun x hx => ((S3.each x hx).chg c4 (fun b hb hm => by have := ((S3.each x hx).blk b hb).1; have := hlow b hm; omega)).chg c5 (fun b hb hm => by have := ((S3.each x hx).blk b hb).1; have := hlow2 b hm; omega), S3.off⟩
  · by_cases hm : k ∈ Gx :: Db :: F.blk.toList
    · exfalso
      have hcell : ∃ o', W.heap[k]? = some o' ∧ o'.isCells = true := by
        rcases List.mem_cons.1 hm with e | hm
        · omega
        · rcases List.mem_cons.1 hm with e | hm
          · omega
          · exact or_cells h.sb.row (by simpa using hm)
      obtain ⟨o', h1, h2⟩ := hcell
      rw [ho] at h1
      injection h1 with h1
      subst h1
      rw [hc] at h2
      cases h2
    · rw [hall.block k (Array.getElem?_eq_some_iff.1 ho).1 hm]
      exact ho
  · simp only [List.mem_cons, List.not_mem_nil, or_false] at ha
    rcases hin _ hm with e | e | e <;> rcases ha with e2 | e2 <;> omega
end
theorem tailof_sl (A : Option Addr) (n c : Nat) (l : List UInt8) (w : World) (h : RB w A n l) (hc : n ≤ c) (hc2 : c ≤ 9223372036854775807) (hn : n ≤ 4611686018427387904) :
    Calls Tryz.prog 25 #[.slice A n c] w (fun e w' => w = w' ∧ ∃ T : Sl, e = .returned T.v ∧ T.fit ∧ T.n ≤ n ∧ T.n = ((Im.scan none l).cur.getD []).length ∧ RB w T.a T.n ((Im.scan none l).cur.getD [])) := by
  refine (tailof_any A n c l w h hc hn).mono ?_
  rintro e w' ⟨rfl, ⟨rfl, hcu⟩ | ⟨b, off, i, rfl, hi, rfl, hcu⟩⟩
  · exact ⟨rfl, nilS, rfl, ⟨by simp [nilS], by simp [nilS]⟩, by simp [nilS], by rw [hcu]; rfl, by rw [hcu]; exact RB.nil _ _⟩
  · have hl := h.1
    exact ⟨rfl, ⟨some ⟨b, off + i, none⟩, n - i, c - i⟩, rfl, ⟨by dsimp only; omega, by dsimp only; omega⟩, by dsimp only; omega, by rw [hcu]; dsimp only [Option.getD_some]; rw [List.length_drop]; omega, by rw [hcu]; exact rb_drop h i⟩
def J8 (W : World) (Fv Tv : Value) (dm : Int) (tl : List UInt8) (bs : List Bool) (vs : List Value) (w' : World) : Prop :=
  ∃ b0 b1 b2 b3 b4 b5 b6 : Bool, ∃ v0 v1 v2 v3 v4 v5 v6 : Value, bs = [b0, b1, b2, b3, b4, b5, b6] ∧ vs = [v0, v1, v2, v3, v4, v5, v6] ∧ W.grownBy w' none ∧ (b0 = true → v0 = Fv) ∧ (b1 = true → v1 = Tv) ∧ (b2 = true → ∃ q : Sl, v2 = q.v ∧ OR W.heap.size w' 5 1 q (bvs tl)) ∧ (b3 = true → v3 = .int .i64 dm) ∧ (b4 = true → v4 = Fv) ∧ (b5 = true → ∃ q : Sl, v5 = q.v ∧ OR W.heap.size w' 5 1 q (bvs tl)) ∧ (b6 = true → v6 = .int .i64 dm)
set_option maxRecDepth 100000 in
set_option maxHeartbeats 8000000 in
theorem frames_any (A : Option Addr) (n c : Nat) (bs : List UInt8) (w : World) (hb : RB w A n bs) (hc : n ≤ c) (hc2 : c ≤ 9223372036854775807) (hn : n ≤ 400000) :
    Calls Tryz.prog 7 #[.slice A n c] w (FrE bs w) := by
  have HB := Hi hb
  have HBL := Hi hb.1
  have TL := Hi (tailof_sl A n c bs w hb hc hc2 (by omega))
  clear hb
  refine (callsIn_wide (n := 5)).1 (callsIn_of_wp_marks Tryz.func7 rfl trivial (wpIn_wide.2 ?_) rfl)
  simp only [Tryz.ntmps7, List.size_toArray, List.length_cons, List.length_nil, Nat.reduceAdd, Nat.reduceSub, Array.replicate_succ, Array.replicate_zero, List.push_toArray, List.append_toArray, List.nil_append, List.cons_append]
  go_wp2_with fail
  refine TL.out.mono ?_
  rintro e w0 ⟨rfl, ⟨Ta, Tn, Tc⟩, rfl, hTf, hTle, hTn, hTr⟩
  dsimp only at hTle hTn hTr
  have HTF := Hi hTf
  have HTN := Hi hTn
  have HTR := Hi hTr
  clear hTf hTn hTr TL
  dsimp only [Sl.v]
  go_wp2_with fail
  obtain ⟨Db, hDb⟩ : ∃ b, b = w.heap.size := ⟨_, rfl⟩
  obtain ⟨wd, hwd⟩ : ∃ z, z = w.alloc (Obj.cells #[.int .i64 ((n : Int) - (Tn : Int))] 3) := ⟨_, rfl⟩
  obtain ⟨w9, hw9⟩ : ∃ z, z = wd.alloc (Obj.cells #[.slice none 0 0] 36) := ⟨_, rfl⟩
  have zd : wd.heap.size = Db + 1 := by subst hwd; subst hDb; simp
  have z9 : w9.heap.size = Db + 2 := by subst hw9; simp [zd]
  have gd : w.grownBy wd none := by subst hwd; exact grown_alloc _ _ _
  have g9 : wd.grownBy w9 none := by subst hw9; exact grown_alloc _ _ _
  have dbx0 : wd.cell? ⟨Db, 0, none⟩ = some (.int .i64 ((n : Int) - (Tn : Int))) ∧ wd.frozen? ⟨Db, 0, none⟩ = false := by
    subst hwd; subst hDb; exact ⟨by go_simp, by go_simp⟩
  have bx9 : w9.cell? ⟨Db + 1, 0, none⟩ = some (.slice none 0 0) ∧ w9.frozen? ⟨Db + 1, 0, none⟩ = false := by
    subst hw9; rw [← zd]; exact ⟨by go_simp, by go_simp⟩
  have dbx9 : w9.cell? ⟨Db, 0, none⟩ = some (.int .i64 ((n : Int) - (Tn : Int))) ∧ w9.frozen? ⟨Db, 0, none⟩ = false := ⟨g9.cell dbx0.1 (by simp), Wr.grown_frozen g9 dbx0.1 dbx0.2 (by simp)⟩
  have HDB := Hi hDb
  rw [← hwd, ← hw9]
  simp only [← hDb]
  clear hw9 hwd hDb dbx0
  refine (framesof_any A n c w9).mono ?_
  rintro e w10 ⟨rfl, hw10⟩
  simp only [z9]
  go_wp2_with fail
  have hB0 : w10.cell? ⟨Db + 2, 0, none⟩ = some (.slice A n c) := by subst hw10; rw [← z9]; go_simp
  have g10 : w9.grownBy w10 none := by subst hw10; exact grown_alloc _ _ _
  have z10 : w10.heap.size = Db + 3 := by subst hw10; simp [z9]
  have G10 := Hi (grown_trans gd (grown_trans g9 g10))
  obtain ⟨sb, so, hsb, hsb2⟩ : ∃ sb so, (0 < n → A = some ⟨sb, so, none⟩) ∧ sb < Db + 3 ∧ sb ≠ Db ∧ sb ≠ Db + 1 := by
    rcases Nat.eq_zero_or_pos n with h0 | h0
    · exact ⟨Db + 2, 0, fun e => by omega, by omega, by omega, by omega⟩
    · obtain ⟨b, off, e1, e2⟩ := HB.out.2 0 h0
      have h1 := World.block_lt_of_cell? _ _ e2
      dsimp only at h1
      have h2 := HDB.out
      exact ⟨b, off, fun _ => e1, by omega, by omega, by omega⟩
  have hcs : ∀ j, j < n → w10.cell? ⟨sb, so + j, none⟩ = some (.int .u8 ((bs.getD j 0).toNat : Int)) := fun j hj => by
    obtain ⟨b', off, e1, e2⟩ := HB.out.2 j hj
    rw [hsb (by omega)] at e1
    injection e1 with e1
    injection e1 with e1 e3 _
    subst e1; subst e3
    exact G10.out.cell e2 (by simp)
  have HSB := Hi hsb
  have HS2 := Hi hsb2
  have L10 : Fl w w10.heap.size Db (Db + 1) nilS [] ((n : Int) - (Tn : Int)) w10 :=
    ⟨G10.out, ⟨g10.cell bx9.1 (by simp), Wr.grown_frozen g10 bx9.1 bx9.2 (by simp)⟩, ⟨g10.cell dbx9.1 (by simp), Wr.grown_frozen g10 dbx9.1 dbx9.2 (by simp)⟩, ⟨or_nil _ _ _ _, (fun x hx => by cases hx), (fun x hx => by cases hx)⟩, by have := HDB.out; omega⟩
  have LP := Hi L10
  have HB0 := Hi hB0
  have Z10 := Hi z10
  clear L10 hw10 z9 zd z10 gd g9 g10 bx9 dbx9
  refine wpIn_wide.1 (wpIn_rangeFunc_ownG (n := 5) (F := Fence.wide) rfl (by omega) (gf := 48) (lb := #[.pointer (some ⟨Db + 2, 0, none⟩)]) rfl trivial (enters_of Tryz.func48 (by kernel_rfl) rfl)
    (frames_stops 4 (by omega) (Db + 2) sb so n c A bs HBL.out hc (by omega) w10 hB0 HSB.out hcs) (fun h k => h.trans k) (fun W l o o' _ h ho _ => kb_b W l o o' h ho) (Below.refl _ _) (fun _ => rfl)
    (fun pre W => (∃ (F : Sl) (xs : List (Sl × List UInt8)), Fl w w10.heap.size Db (Db + 1) F xs ((n : Int) - (Tn : Int) - (lens pre : Nat)) W ∧ xs.map Prod.snd = pre.map fun x => ix bs x.1) ∧ ∀ j, j < n → W.cell? ⟨sb, so + j, none⟩ = some (.int .u8 ((bs.getD j 0).toNat : Int)))
    (fun _ _ _ => False)
    (fun s W W' row hs hg hr => by
      obtain ⟨⟨F, xs, hL, hx⟩, hc⟩ := hs
      exact ⟨⟨F, xs, hL.np hg hr, hx⟩, fun j hj => cell_kept (hc j hj) hg (fun r e => (hr r e).2)⟩)
    (fun _ _ _ _ _ hs _ _ => hs)
    ⟨⟨nilS, [], by simpa [lens] using LP.out, rfl⟩, hcs⟩
    (fun x => { tmps := #[.slice A n c, undef, .slice none 0 0, .slice none 0 0, .int .i64 0, .slice Ta Tn Tc, .pointer (some ⟨Db, 0, none⟩), .pointer (some ⟨Db + 1, 0, none⟩), .slice (some ⟨sb, so + x.1.1, none⟩) (x.1.2 - x.1.1) (c - x.1.1), .slice A n c, .slice Ta Tn Tc, .slice A n c, .int .i64 n, .slice Ta Tn Tc, .int .i64 Tn, .int .i64 ((n : Int) - (Tn : Int)), .slice A n c, .func (.func 48) #[] #[.pointer (some ⟨Db + 2, 0, none⟩)],
      .slice (some ⟨sb, so + x.1.1, none⟩) (x.1.2 - x.1.1) (c - x.1.1), undef, undef, undef, undef, undef, undef, undef, undef, undef, undef, undef, undef, undef], defers := [] }) ?assign ?body ?done ?stop)
  case assign =>
    intro l x W K hK
    dsimp only [enx]
    gi_wp2
    exact hK
  case body =>
    rintro r pre x W ⟨⟨F1, xs1, LW, hxs⟩, hcW⟩ hlt
    gi_wp2
    have hij := x.2
    obtain ⟨i, hi⟩ : ∃ i, i = x.val.1 := ⟨_, rfl⟩
    obtain ⟨j, hj⟩ : ∃ j, j = x.val.2 := ⟨_, rfl⟩
    obtain ⟨M, hM⟩ : ∃ M, M = j - i := ⟨_, rfl⟩
    obtain ⟨dm, hdm⟩ : ∃ dm : Int, dm = (n : Int) - (Tn : Int) - (lens pre : Nat) := ⟨_, rfl⟩
    have HXX := Hi (show ix bs x.1 = ix bs (i, j) by rw [hi, hj])
    have HXL := Hi (show lens (pre ++ [x]) = lens pre + M by rw [lens_snoc, hM, hi, hj])
    have HXS := Hi hxs
    have HDM := Hi hdm
    have hdb : dm ≤ 400000 ∧ -200000000000 ≤ dm := by
      have h1 := lens_le pre
      have h2 : pre.length * n ≤ 400000 * 400000 := Nat.mul_le_mul (by omega) hn
      omega
    simp only [← hi, ← hj] at hij ⊢
    try simp only [← hM]
    rw [← hdm] at LW
    have hfn : F1.n ≤ 400000 := by
      have h1 := LW.sb.row.len
      have h2 := congrArg List.length hxs
      rw [List.length_map] at h1
      rw [List.length_map, List.length_map] at h2
      omega
    obtain ⟨fa, fn, fc⟩ := F1
    dsimp only at hfn
    clear hi hj hdm hxs
    have hg := Wr.grown_drew W none
    have LD := Hi (LW.grown hg)
    have hM0 : i < j ∧ j ≤ n := hij
    have hRB : RB W.drew (some ⟨sb, so + i, none⟩) M (ix bs (i, j)) := by
      have hlen := HBL.out
      refine ⟨by unfold ix; rw [List.length_drop, List.length_take]; omega, fun q hq => ⟨sb, so + i, rfl, ?_⟩⟩
      have h1 := hcW (i + q) (by omega)
      have e1 : (ix bs (i, j)).getD q 0 = bs.getD (i + q) 0 := by
        unfold ix
        simp only [List.getD_eq_getElem?_getD, List.getElem?_drop, List.getElem?_take]
        rw [if_pos (by omega)]
      rw [e1, Nat.add_assoc]
      exact hg.cell h1 (by simp)
    have hrl := hRB.1
    have CL := Hi (clone_b ⟨some ⟨sb, so + i, none⟩, M, c - i⟩ (bvs (ix bs (i, j))) W.drew (crRB hRB) (by rw [Wr.bvs_len, hrl, Nat.mul_one]) (Wr.bvs_one _) (by dsimp only; omega))
    dsimp only [Sl.v] at CL
    have hc2' : ∀ q, q < n → W.drew.cell? ⟨sb, so + q, none⟩ = some (.int .u8 ((bs.getD q 0).toNat : Int)) := fun q hq => hg.cell (hcW q hq) (by simp)
    have HCW := Hi hc2'
    have KD : KeepsFrom w10.heap.size W W.drew ∧ KB [Db + 2, sb] W W.drew := ⟨(KeepsOthers.drew W).from _, fun a v _ hv => hg.cell hv (by simp)⟩
    have HKD := Hi KD
    have bx := LD.out.box.1
    dsimp only [Sl.v] at bx
    have hMn : M ≤ 400000 := by omega
    obtain ⟨IS, hIS, hzS, hszS, hbyS⟩ := parts_s
    clear hRB hcW hc2' LW hg KD hM0 hij hrl hM hcs hsb hsb2 hB0 hlt
    refine wpIn_region_any (by kernel_rfl) ?_
    change wpAnyIn _ _ _ _ _ _ _ _ _ (World.drew _)
    generalize W.drew = WD at *
    refine wpAnyIn_ready (rs := [0, 1]) (by kernel_rfl) (by simp) ?_
    refine AllReadyIn.cons rfl (fun K hK => ?_) (AllReadyIn.cons rfl (fun K hK => ?_) AllReadyIn.nil)
    · go_simp
      refine hK _ _ ?_
      clear hK K
      refine wpAnyIn_ready (rs := [1]) (by kernel_rfl) (by simp) ?_
      refine AllReadyIn.cons rfl (fun K hK => ?_) AllReadyIn.nil
      go_simp
      refine hK _ _ ?_
      clear hK K
      refine wpAnyIn_ready (rs := [2]) (by kernel_rfl) (by simp) ?_
      refine AllReadyIn.cons rfl (fun K hK => ?_) AllReadyIn.nil
      go_simp
      refine ⟨trivial, (CallsIn.inRound r (callsIn_wide.2 CL.out)).mono ?_⟩
      rintro e W1 ⟨⟨qa, qn, qc⟩, rfl, hq0, g1⟩
      refine hK _ _ ?_
      clear hK K
      dsimp only [Sl.v]
      have HQ := Hi hq0
      have G1 := Hi g1
      have bx1 := g1.cell bx (by simp)
      clear hq0 g1
      refine wpAnyIn_ready (rs := [3]) (by kernel_rfl) (by simp) ?_
      refine AllReadyIn.cons rfl (fun K hK => ?_) AllReadyIn.nil
      obtain ⟨W2, hW2⟩ : ∃ z, z = W1.alloc (Obj.cells #[.slice qa qn qc] 22) := ⟨_, rfl⟩
      have g2 : W1.grownBy W2 none := by subst hW2; exact grown_alloc _ _ _
      have R1 := Hi (show OR W1.heap.size W2 22 1 ⟨some ⟨W1.heap.size, 0, none⟩, 1, 1⟩ [.slice qa qn qc] from by subst hW2; exact or_lit1s W1 (.slice qa qn qc))
      have bx2 := g2.cell bx1 (by simp)
      have G2 := Hi g2
      clear g2
      go_simp
      rw [← hW2]
      refine hK _ _ ?_
      clear hK K hW2
      refine wpAnyIn_ready (rs := [4]) (by kernel_rfl) (by simp) ?_
      refine AllReadyIn.cons rfl (fun K hK => ?_) AllReadyIn.nil
      have SR := (LD.out.sb.grown (grown_trans G1.out G2.out)).row
      have hs12 := (grown_trans G1.out G2.out).size
      refine step_appIn rfl (.tmp 19) (.tmp 22) 36 rfl (S := ⟨fa, fn, fc⟩) (V := ⟨some ⟨W1.heap.size, 0, none⟩, 1, 1⟩) Tryz.underlying36 hIS hzS hszS hbyS (by rfl) (by omega) rfl rfl SR (by have := LD.out.ord; omega) R1.out.len R1.out.cr (fun u hu => by rw [List.mem_singleton] at hu; subst hu; rfl) (by dsimp only; omega) (by dsimp only; omega) ?_
      intro r2 W3 hrn hr2 hg3 hrb2
      clear hrn
      refine hK _ _ ?_
      clear hK K
      have hFb : ∀ b, Sl.blk ⟨fa, fn, fc⟩ = some b → w10.heap.size ≤ b := fun b hb => (LD.out.sb.row.blk b hb).1
      have ho := LD.out.ord
      have bx3 : W3.cell? ⟨Db + 1, 0, none⟩ = some (.slice fa fn fc) := hg3.cell bx2 (fun e => by have := hFb _ e.symm; dsimp only at this; omega)
      have fz3 : W3.frozen? ⟨Db + 1, 0, none⟩ = false := Wr.grown_frozen hg3 bx2 (Wr.grown_frozen (grown_trans G1.out G2.out) bx LD.out.box.2 (by simp)) (fun e => by have := hFb _ e.symm; dsimp only at this; omega)
      have db2 := (grown_trans G1.out G2.out).cell LD.out.dbx.1 (by simp)
      have db3 : W3.cell? ⟨Db, 0, none⟩ = some (.int .i64 dm) := hg3.cell db2 (fun e => by have := hFb _ e.symm; dsimp only at this; omega)
      have dz3 : W3.frozen? ⟨Db, 0, none⟩ = false := Wr.grown_frozen hg3 db2 (Wr.grown_frozen (grown_trans G1.out G2.out) LD.out.dbx.1 LD.out.dbx.2 (by simp)) (fun e => by have := hFb _ e.symm; dsimp only at this; omega)
      obtain ⟨hL, hKF, hKB⟩ := LD.out.step (q := ⟨qa, qn, qc⟩) (l := ix bs (i, j)) (HQ.out.base_ (by omega)) (fun b hb e => by have h1 := (HQ.out.blk b hb).1; have h2 := (LD.out.sb.row.blk b e).2; omega) G1.out G2.out hr2 hg3 hrb2 (dm - (M : Int)) (Bs := Db + 2) (sb := sb) (by have h1 := HS2.out; have h2 := Z10.out; omega)
      obtain ⟨ra, rn, rc⟩ := r2
      dsimp only [Sl.v] at hL hKF hKB ⊢
      clear SR hs12 hr2 hg3 hrb2 hFb ho db2 bx2 bx1
      refine wpAnyIn_ready (rs := [5]) (by kernel_rfl) (by simp) ?_
      refine AllReadyIn.cons rfl (fun K hK => ?_) AllReadyIn.nil
      go_simp
      refine hK _ _ ?_
      clear hK K
      refine wpAnyIn_done (by kernel_rfl) ?_ _
      have hfin : KeepsFrom w10.heap.size W ((W3.setCell ⟨Db + 1, 0, none⟩ (.slice ra rn rc)).setCell ⟨Db, 0, none⟩ (.int .i64 (dm - (M : Int)))) ∧ KB [Db + 2, sb] W ((W3.setCell ⟨Db + 1, 0, none⟩ (.slice ra rn rc)).setCell ⟨Db, 0, none⟩ (.int .i64 (dm - (M : Int)))) ∧ (∃ (F : Sl) (xs : List (Sl × List UInt8)), Fl w w10.heap.size Db (Db + 1) F xs ((n : Int) - (Tn : Int) - (lens (pre ++ [x]) : Nat)) ((W3.setCell ⟨Db + 1, 0, none⟩ (.slice ra rn rc)).setCell ⟨Db, 0, none⟩ (.int .i64 (dm - (M : Int)))) ∧ xs.map Prod.snd = (pre ++ [x]).map fun x => ix bs x.1) ∧ ∀ j, j < n → ((W3.setCell ⟨Db + 1, 0, none⟩ (.slice ra rn rc)).setCell ⟨Db, 0, none⟩ (.int .i64 (dm - (M : Int)))).cell? ⟨sb, so + j, none⟩ = some (.int .u8 ((bs.getD j 0).toNat : Int)) := by
        refine ⟨HKD.out.1.trans hKF, HKD.out.2.trans hKB, ⟨⟨ra, rn, rc⟩, xs1 ++ [(⟨qa, qn, qc⟩, ix bs (i, j))], ?_, ?_⟩, fun q hq => hKB _ _ (by simp) (HCW.out q hq)⟩
        · rw [HXL.out, show (n : Int) - (Tn : Int) - ((lens pre + M : Nat) : Int) = dm - (M : Int) by have := HDM.out; omega]
          exact hL
        · rw [List.map_append, List.map_append, HXS.out, List.map_cons, List.map_nil, List.map_cons, List.map_nil, HXX.out]
      have HF := Hi hfin
      clear hfin hL hKF hKB
      have hne : Db + 1 ≠ Db := by omega
      gi_wp2
      exact ⟨HF.out.1, HF.out.2.1, by simpa using HF.out.2.2⟩
    · go_simp
      refine hK _ _ ?_
      clear hK K
      refine wpAnyIn_ready (rs := [0, 2]) (by kernel_rfl) (by simp) ?_
      refine AllReadyIn.cons rfl (fun K hK => ?_) (AllReadyIn.cons rfl (fun K hK => ?_) AllReadyIn.nil)
      · go_simp
        refine hK _ _ ?_
        clear hK K
        refine wpAnyIn_ready (rs := [2]) (by kernel_rfl) (by simp) ?_
        refine AllReadyIn.cons rfl (fun K hK => ?_) AllReadyIn.nil
        go_simp
        refine ⟨trivial, (CallsIn.inRound r (callsIn_wide.2 CL.out)).mono ?_⟩
        rintro e W1 ⟨⟨qa, qn, qc⟩, rfl, hq0, g1⟩
        refine hK _ _ ?_
        clear hK K
        dsimp only [Sl.v]
        have HQ := Hi hq0
        have G1 := Hi g1
        have bx1 := g1.cell bx (by simp)
        clear hq0 g1
        refine wpAnyIn_ready (rs := [3]) (by kernel_rfl) (by simp) ?_
        refine AllReadyIn.cons rfl (fun K hK => ?_) AllReadyIn.nil
        obtain ⟨W2, hW2⟩ : ∃ z, z = W1.alloc (Obj.cells #[.slice qa qn qc] 22) := ⟨_, rfl⟩
        have g2 : W1.grownBy W2 none := by subst hW2; exact grown_alloc _ _ _
        have R1 := Hi (show OR W1.heap.size W2 22 1 ⟨some ⟨W1.heap.size, 0, none⟩, 1, 1⟩ [.slice qa qn qc] from by subst hW2; exact or_lit1s W1 (.slice qa qn qc))
        have bx2 := g2.cell bx1 (by simp)
        have G2 := Hi g2
        clear g2
        go_simp
        rw [← hW2]
        refine hK _ _ ?_
        clear hK K hW2
        refine wpAnyIn_ready (rs := [4]) (by kernel_rfl) (by simp) ?_
        refine AllReadyIn.cons rfl (fun K hK => ?_) AllReadyIn.nil
        have SR := (LD.out.sb.grown (grown_trans G1.out G2.out)).row
        have hs12 := (grown_trans G1.out G2.out).size
        refine step_appIn rfl (.tmp 19) (.tmp 22) 36 rfl (S := ⟨fa, fn, fc⟩) (V := ⟨some ⟨W1.heap.size, 0, none⟩, 1, 1⟩) Tryz.underlying36 hIS hzS hszS hbyS (by rfl) (by omega) rfl rfl SR (by have := LD.out.ord; omega) R1.out.len R1.out.cr (fun u hu => by rw [List.mem_singleton] at hu; subst hu; rfl) (by dsimp only; omega) (by dsimp only; omega) ?_
        intro r2 W3 hrn hr2 hg3 hrb2
        clear hrn
        refine hK _ _ ?_
        clear hK K
        have hFb : ∀ b, Sl.blk ⟨fa, fn, fc⟩ = some b → w10.heap.size ≤ b := fun b hb => (LD.out.sb.row.blk b hb).1
        have ho := LD.out.ord
        have bx3 : W3.cell? ⟨Db + 1, 0, none⟩ = some (.slice fa fn fc) := hg3.cell bx2 (fun e => by have := hFb _ e.symm; dsimp only at this; omega)
        have fz3 : W3.frozen? ⟨Db + 1, 0, none⟩ = false := Wr.grown_frozen hg3 bx2 (Wr.grown_frozen (grown_trans G1.out G2.out) bx LD.out.box.2 (by simp)) (fun e => by have := hFb _ e.symm; dsimp only at this; omega)
        have db2 := (grown_trans G1.out G2.out).cell LD.out.dbx.1 (by simp)
        have db3 : W3.cell? ⟨Db, 0, none⟩ = some (.int .i64 dm) := hg3.cell db2 (fun e => by have := hFb _ e.symm; dsimp only at this; omega)
        have dz3 : W3.frozen? ⟨Db, 0, none⟩ = false := Wr.grown_frozen hg3 db2 (Wr.grown_frozen (grown_trans G1.out G2.out) LD.out.dbx.1 LD.out.dbx.2 (by simp)) (fun e => by have := hFb _ e.symm; dsimp only at this; omega)
        obtain ⟨hL, hKF, hKB⟩ := LD.out.step (q := ⟨qa, qn, qc⟩) (l := ix bs (i, j)) (HQ.out.base_ (by omega)) (fun b hb e => by have h1 := (HQ.out.blk b hb).1; have h2 := (LD.out.sb.row.blk b e).2; omega) G1.out G2.out hr2 hg3 hrb2 (dm - (M : Int)) (Bs := Db + 2) (sb := sb) (by have h1 := HS2.out; have h2 := Z10.out; omega)
        obtain ⟨ra, rn, rc⟩ := r2
        dsimp only [Sl.v] at hL hKF hKB ⊢
        clear SR hs12 hr2 hg3 hrb2 hFb ho db2 bx2 bx1
        refine wpAnyIn_ready (rs := [5]) (by kernel_rfl) (by simp) ?_
        refine AllReadyIn.cons rfl (fun K hK => ?_) AllReadyIn.nil
        go_simp
        refine hK _ _ ?_
        clear hK K
        refine wpAnyIn_done (by kernel_rfl) ?_ _
        have hfin : KeepsFrom w10.heap.size W ((W3.setCell ⟨Db + 1, 0, none⟩ (.slice ra rn rc)).setCell ⟨Db, 0, none⟩ (.int .i64 (dm - (M : Int)))) ∧ KB [Db + 2, sb] W ((W3.setCell ⟨Db + 1, 0, none⟩ (.slice ra rn rc)).setCell ⟨Db, 0, none⟩ (.int .i64 (dm - (M : Int)))) ∧ (∃ (F : Sl) (xs : List (Sl × List UInt8)), Fl w w10.heap.size Db (Db + 1) F xs ((n : Int) - (Tn : Int) - (lens (pre ++ [x]) : Nat)) ((W3.setCell ⟨Db + 1, 0, none⟩ (.slice ra rn rc)).setCell ⟨Db, 0, none⟩ (.int .i64 (dm - (M : Int)))) ∧ xs.map Prod.snd = (pre ++ [x]).map fun x => ix bs x.1) ∧ ∀ j, j < n → ((W3.setCell ⟨Db + 1, 0, none⟩ (.slice ra rn rc)).setCell ⟨Db, 0, none⟩ (.int .i64 (dm - (M : Int)))).cell? ⟨sb, so + j, none⟩ = some (.int .u8 ((bs.getD j 0).toNat : Int)) := by
          refine ⟨HKD.out.1.trans hKF, HKD.out.2.trans hKB, ⟨⟨ra, rn, rc⟩, xs1 ++ [(⟨qa, qn, qc⟩, ix bs (i, j))], ?_, ?_⟩, fun q hq => hKB _ _ (by simp) (HCW.out q hq)⟩
          · rw [HXL.out, show (n : Int) - (Tn : Int) - ((lens pre + M : Nat) : Int) = dm - (M : Int) by have := HDM.out; omega]
            exact hL
          · rw [List.map_append, List.map_append, HXS.out, List.map_cons, List.map_nil, List.map_cons, List.map_nil, HXX.out]
        have HF := Hi hfin
        clear hfin hL hKF hKB
        have hne : Db + 1 ≠ Db := by omega
        gi_wp2
        exact ⟨HF.out.1, HF.out.2.1, by simpa using HF.out.2.2⟩
      · go_simp
        refine ⟨trivial, (CallsIn.inRound r (callsIn_wide.2 CL.out)).mono ?_⟩
        rintro e W1 ⟨⟨qa, qn, qc⟩, rfl, hq0, g1⟩
        refine hK _ _ ?_
        clear hK K
        dsimp only [Sl.v]
        have HQ := Hi hq0
        have G1 := Hi g1
        have bx1 := g1.cell bx (by simp)
        clear hq0 g1
        refine wpAnyIn_ready (rs := [0, 3]) (by kernel_rfl) (by simp) ?_
        refine AllReadyIn.cons rfl (fun K hK => ?_) (AllReadyIn.cons rfl (fun K hK => ?_) AllReadyIn.nil)
        · go_simp
          refine hK _ _ ?_
          clear hK K
          refine wpAnyIn_ready (rs := [3]) (by kernel_rfl) (by simp) ?_
          refine AllReadyIn.cons rfl (fun K hK => ?_) AllReadyIn.nil
          obtain ⟨W2, hW2⟩ : ∃ z, z = W1.alloc (Obj.cells #[.slice qa qn qc] 22) := ⟨_, rfl⟩
          have g2 : W1.grownBy W2 none := by subst hW2; exact grown_alloc _ _ _
          have R1 := Hi (show OR W1.heap.size W2 22 1 ⟨some ⟨W1.heap.size, 0, none⟩, 1, 1⟩ [.slice qa qn qc] from by subst hW2; exact or_lit1s W1 (.slice qa qn qc))
          have bx2 := g2.cell bx1 (by simp)
          have G2 := Hi g2
          clear g2
          go_simp
          rw [← hW2]
          refine hK _ _ ?_
          clear hK K hW2
          refine wpAnyIn_ready (rs := [4]) (by kernel_rfl) (by simp) ?_
          refine AllReadyIn.cons rfl (fun K hK => ?_) AllReadyIn.nil
          have SR := (LD.out.sb.grown (grown_trans G1.out G2.out)).row
          have hs12 := (grown_trans G1.out G2.out).size
          refine step_appIn rfl (.tmp 19) (.tmp 22) 36 rfl (S := ⟨fa, fn, fc⟩) (V := ⟨some ⟨W1.heap.size, 0, none⟩, 1, 1⟩) Tryz.underlying36 hIS hzS hszS hbyS (by rfl) (by omega) rfl rfl SR (by have := LD.out.ord; omega) R1.out.len R1.out.cr (fun u hu => by rw [List.mem_singleton] at hu; subst hu; rfl) (by dsimp only; omega) (by dsimp only; omega) ?_
          intro r2 W3 hrn hr2 hg3 hrb2
          clear hrn
          refine hK _ _ ?_
          clear hK K
          have hFb : ∀ b, Sl.blk ⟨fa, fn, fc⟩ = some b → w10.heap.size ≤ b := fun b hb => (LD.out.sb.row.blk b hb).1
          have ho := LD.out.ord
          have bx3 : W3.cell? ⟨Db + 1, 0, none⟩ = some (.slice fa fn fc) := hg3.cell bx2 (fun e => by have := hFb _ e.symm; dsimp only at this; omega)
          have fz3 : W3.frozen? ⟨Db + 1, 0, none⟩ = false := Wr.grown_frozen hg3 bx2 (Wr.grown_frozen (grown_trans G1.out G2.out) bx LD.out.box.2 (by simp)) (fun e => by have := hFb _ e.symm; dsimp only at this; omega)
          have db2 := (grown_trans G1.out G2.out).cell LD.out.dbx.1 (by simp)
          have db3 : W3.cell? ⟨Db, 0, none⟩ = some (.int .i64 dm) := hg3.cell db2 (fun e => by have := hFb _ e.symm; dsimp only at this; omega)
          have dz3 : W3.frozen? ⟨Db, 0, none⟩ = false := Wr.grown_frozen hg3 db2 (Wr.grown_frozen (grown_trans G1.out G2.out) LD.out.dbx.1 LD.out.dbx.2 (by simp)) (fun e => by have := hFb _ e.symm; dsimp only at this; omega)
          obtain ⟨hL, hKF, hKB⟩ := LD.out.step (q := ⟨qa, qn, qc⟩) (l := ix bs (i, j)) (HQ.out.base_ (by omega)) (fun b hb e => by have h1 := (HQ.out.blk b hb).1; have h2 := (LD.out.sb.row.blk b e).2; omega) G1.out G2.out hr2 hg3 hrb2 (dm - (M : Int)) (Bs := Db + 2) (sb := sb) (by have h1 := HS2.out; have h2 := Z10.out; omega)
          obtain ⟨ra, rn, rc⟩ := r2
          dsimp only [Sl.v] at hL hKF hKB ⊢
          clear SR hs12 hr2 hg3 hrb2 hFb ho db2 bx2 bx1
          refine wpAnyIn_ready (rs := [5]) (by kernel_rfl) (by simp) ?_
          refine AllReadyIn.cons rfl (fun K hK => ?_) AllReadyIn.nil
          go_simp
          refine hK _ _ ?_
          clear hK K
          refine wpAnyIn_done (by kernel_rfl) ?_ _
          have hfin : KeepsFrom w10.heap.size W ((W3.setCell ⟨Db + 1, 0, none⟩ (.slice ra rn rc)).setCell ⟨Db, 0, none⟩ (.int .i64 (dm - (M : Int)))) ∧ KB [Db + 2, sb] W ((W3.setCell ⟨Db + 1, 0, none⟩ (.slice ra rn rc)).setCell ⟨Db, 0, none⟩ (.int .i64 (dm - (M : Int)))) ∧ (∃ (F : Sl) (xs : List (Sl × List UInt8)), Fl w w10.heap.size Db (Db + 1) F xs ((n : Int) - (Tn : Int) - (lens (pre ++ [x]) : Nat)) ((W3.setCell ⟨Db + 1, 0, none⟩ (.slice ra rn rc)).setCell ⟨Db, 0, none⟩ (.int .i64 (dm - (M : Int)))) ∧ xs.map Prod.snd = (pre ++ [x]).map fun x => ix bs x.1) ∧ ∀ j, j < n → ((W3.setCell ⟨Db + 1, 0, none⟩ (.slice ra rn rc)).setCell ⟨Db, 0, none⟩ (.int .i64 (dm - (M : Int)))).cell? ⟨sb, so + j, none⟩ = some (.int .u8 ((bs.getD j 0).toNat : Int)) := by
            refine ⟨HKD.out.1.trans hKF, HKD.out.2.trans hKB, ⟨⟨ra, rn, rc⟩, xs1 ++ [(⟨qa, qn, qc⟩, ix bs (i, j))], ?_, ?_⟩, fun q hq => hKB _ _ (by simp) (HCW.out q hq)⟩
            · rw [HXL.out, show (n : Int) - (Tn : Int) - ((lens pre + M : Nat) : Int) = dm - (M : Int) by have := HDM.out; omega]
              exact hL
            · rw [List.map_append, List.map_append, HXS.out, List.map_cons, List.map_nil, List.map_cons, List.map_nil, HXX.out]
          have HF := Hi hfin
          clear hfin hL hKF hKB
          have hne : Db + 1 ≠ Db := by omega
          gi_wp2
          exact ⟨HF.out.1, HF.out.2.1, by simpa using HF.out.2.2⟩
        · obtain ⟨W2, hW2⟩ : ∃ z, z = W1.alloc (Obj.cells #[.slice qa qn qc] 22) := ⟨_, rfl⟩
          have g2 : W1.grownBy W2 none := by subst hW2; exact grown_alloc _ _ _
          have R1 := Hi (show OR W1.heap.size W2 22 1 ⟨some ⟨W1.heap.size, 0, none⟩, 1, 1⟩ [.slice qa qn qc] from by subst hW2; exact or_lit1s W1 (.slice qa qn qc))
          have bx2 := g2.cell bx1 (by simp)
          have G2 := Hi g2
          clear g2
          go_simp
          rw [← hW2]
          refine hK _ _ ?_
          clear hK K hW2
          refine wpAnyIn_ready (rs := [0]) (by kernel_rfl) (by simp) ?_
          refine AllReadyIn.cons rfl (fun K hK => ?_) AllReadyIn.nil
          go_simp
          refine hK _ _ ?_
          clear hK K
          refine wpAnyIn_ready (rs := [4]) (by kernel_rfl) (by simp) ?_
          refine AllReadyIn.cons rfl (fun K hK => ?_) AllReadyIn.nil
          have SR := (LD.out.sb.grown (grown_trans G1.out G2.out)).row
          have hs12 := (grown_trans G1.out G2.out).size
          refine step_appIn rfl (.tmp 19) (.tmp 22) 36 rfl (S := ⟨fa, fn, fc⟩) (V := ⟨some ⟨W1.heap.size, 0, none⟩, 1, 1⟩) Tryz.underlying36 hIS hzS hszS hbyS (by rfl) (by omega) rfl rfl SR (by have := LD.out.ord; omega) R1.out.len R1.out.cr (fun u hu => by rw [List.mem_singleton] at hu; subst hu; rfl) (by dsimp only; omega) (by dsimp only; omega) ?_
          intro r2 W3 hrn hr2 hg3 hrb2
          clear hrn
          refine hK _ _ ?_
          clear hK K
          have hFb : ∀ b, Sl.blk ⟨fa, fn, fc⟩ = some b → w10.heap.size ≤ b := fun b hb => (LD.out.sb.row.blk b hb).1
          have ho := LD.out.ord
          have bx3 : W3.cell? ⟨Db + 1, 0, none⟩ = some (.slice fa fn fc) := hg3.cell bx2 (fun e => by have := hFb _ e.symm; dsimp only at this; omega)
          have fz3 : W3.frozen? ⟨Db + 1, 0, none⟩ = false := Wr.grown_frozen hg3 bx2 (Wr.grown_frozen (grown_trans G1.out G2.out) bx LD.out.box.2 (by simp)) (fun e => by have := hFb _ e.symm; dsimp only at this; omega)
          have db2 := (grown_trans G1.out G2.out).cell LD.out.dbx.1 (by simp)
          have db3 : W3.cell? ⟨Db, 0, none⟩ = some (.int .i64 dm) := hg3.cell db2 (fun e => by have := hFb _ e.symm; dsimp only at this; omega)
          have dz3 : W3.frozen? ⟨Db, 0, none⟩ = false := Wr.grown_frozen hg3 db2 (Wr.grown_frozen (grown_trans G1.out G2.out) LD.out.dbx.1 LD.out.dbx.2 (by simp)) (fun e => by have := hFb _ e.symm; dsimp only at this; omega)
          obtain ⟨hL, hKF, hKB⟩ := LD.out.step (q := ⟨qa, qn, qc⟩) (l := ix bs (i, j)) (HQ.out.base_ (by omega)) (fun b hb e => by have h1 := (HQ.out.blk b hb).1; have h2 := (LD.out.sb.row.blk b e).2; omega) G1.out G2.out hr2 hg3 hrb2 (dm - (M : Int)) (Bs := Db + 2) (sb := sb) (by have h1 := HS2.out; have h2 := Z10.out; omega)
          obtain ⟨ra, rn, rc⟩ := r2
          dsimp only [Sl.v] at hL hKF hKB ⊢
          clear SR hs12 hr2 hg3 hrb2 hFb ho db2 bx2 bx1
          refine wpAnyIn_ready (rs := [5]) (by kernel_rfl) (by simp) ?_
          refine AllReadyIn.cons rfl (fun K hK => ?_) AllReadyIn.nil
          go_simp
          refine hK _ _ ?_
          clear hK K
          refine wpAnyIn_done (by kernel_rfl) ?_ _
          have hfin : KeepsFrom w10.heap.size W ((W3.setCell ⟨Db + 1, 0, none⟩ (.slice ra rn rc)).setCell ⟨Db, 0, none⟩ (.int .i64 (dm - (M : Int)))) ∧ KB [Db + 2, sb] W ((W3.setCell ⟨Db + 1, 0, none⟩ (.slice ra rn rc)).setCell ⟨Db, 0, none⟩ (.int .i64 (dm - (M : Int)))) ∧ (∃ (F : Sl) (xs : List (Sl × List UInt8)), Fl w w10.heap.size Db (Db + 1) F xs ((n : Int) - (Tn : Int) - (lens (pre ++ [x]) : Nat)) ((W3.setCell ⟨Db + 1, 0, none⟩ (.slice ra rn rc)).setCell ⟨Db, 0, none⟩ (.int .i64 (dm - (M : Int)))) ∧ xs.map Prod.snd = (pre ++ [x]).map fun x => ix bs x.1) ∧ ∀ j, j < n → ((W3.setCell ⟨Db + 1, 0, none⟩ (.slice ra rn rc)).setCell ⟨Db, 0, none⟩ (.int .i64 (dm - (M : Int)))).cell? ⟨sb, so + j, none⟩ = some (.int .u8 ((bs.getD j 0).toNat : Int)) := by
            refine ⟨HKD.out.1.trans hKF, HKD.out.2.trans hKB, ⟨⟨ra, rn, rc⟩, xs1 ++ [(⟨qa, qn, qc⟩, ix bs (i, j))], ?_, ?_⟩, fun q hq => hKB _ _ (by simp) (HCW.out q hq)⟩
            · rw [HXL.out, show (n : Int) - (Tn : Int) - ((lens pre + M : Nat) : Int) = dm - (M : Int) by have := HDM.out; omega]
              exact hL
            · rw [List.map_append, List.map_append, HXS.out, List.map_cons, List.map_nil, List.map_cons, List.map_nil, HXX.out]
          have HF := Hi hfin
          clear hfin hL hKF hKB
          have hne : Db + 1 ≠ Db := by omega
          gi_wp2
          exact ⟨HF.out.1, HF.out.2.1, by simpa using HF.out.2.2⟩
  case done =>
    rintro Dd xs W hD hS ⟨⟨F1, xs1, LW, hxs⟩, hcW⟩ hKd
    have LWH := Hi LW
    have FSC := Hi (show xs1.map Prod.snd = (Im.scan none bs).out by rw [hxs]; exact hS.symm)
    have KDH := Hi hKd
    have ZDd := Hi (show Db + 1 < Dd ∧ w.heap.size ≤ Dd by have h1 := Z10.out; have h2 := HDB.out; omega)
    have DAM := Hi (show (n : Int) - (Tn : Int) - (lens xs : Nat) = dam bs by
      refine dam_of (m := ((lens xs : Nat) : Int)) (hxs.trans hS.symm) rfl ?_ (by have h1 := HTN.out; have h2 := HBL.out; omega)
      have h1 := congrArg (fun l => (l.map List.length).sum) hxs
      have h2 := lens_of HBL.out xs
      simp only [List.map_map] at h1 h2
      exact congrArg Nat.cast (h2.symm.trans h1.symm))
    generalize (n : Int) - (Tn : Int) - (lens xs : Nat) = dm at *
    have bx := LW.box.1
    have db := LW.dbx.1
    obtain ⟨fa, fn, fc⟩ := F1
    dsimp only [Sl.v] at bx
    have CL := Hi (fun (W' : World) (g : W.grownBy W' none) => clone_b ⟨Ta, Tn, Tc⟩ (bvs ((Im.scan none bs).cur.getD [])) W' (crRB (HTR.out.grown (grown_trans LWH.out.g g))) (by rw [Wr.bvs_len, HTN.out, Nat.mul_one]) (Wr.bvs_one _) (by dsimp only; omega))
    clear hS hKd LW hcW hxs hcs hsb hsb2 hB0 hD
    go_upto_region 8 with fail
    clear HTR HSB HS2 LP HB0
    refine wp_region_keeps (J8 W (.slice fa fn fc) (.slice Ta Tn Tc) dm ((Im.scan none bs).cur.getD [])) [28, 29, 30, 31, 2, 3, 4] [undef, undef, undef, undef, .slice none 0 0, .slice none 0 0, .int .i64 0] (by kernel_rfl) ?hac ?hv ?start ?step ?fin
    case hac => kernel_rfl
    case hv => simp only [puts, Act.put, lsA, lsB, lsC]
    case start =>
      exact ⟨false, false, false, false, false, false, false, _, _, _, _, _, _, _, rfl, rfl, Wr.grown_drew W none, (fun h => by cases h), (fun h => by cases h), (fun h => by cases h), (fun h => by cases h), (fun h => by cases h), (fun h => by cases h), (fun h => by cases h)⟩
    case step =>
      rintro bs' vs' w' i ⟨b0, b1, b2, b3, b4, b5, b6, v0, v1, v2, v3, v4, v5, v6, rfl, rfl, g, f0, f1, f2, f3, f4, f5, f6⟩ hi hr
      have hi : i < 7 := hi
      have c1 := g.cell bx (by simp)
      have c2 := g.cell db (by simp)
      obtain rfl | rfl | rfl | rfl | rfl | rfl | rfl : i = 0 ∨ i = 1 ∨ i = 2 ∨ i = 3 ∨ i = 4 ∨ i = 5 ∨ i = 6 := by omega
      · apply op_at
        · rfl
        intro K hK
        simp only [puts, Act.put, lsA, lsB, lsC]
        go_simp
        exact hK.out _ _ ⟨[true, b1, b2, b3, b4, b5, b6], [.slice fa fn fc, v1, v2, v3, v4, v5, v6], by simp only [lsA, lsB, lsC], by simp only [puts, Act.put, lsA, lsB, lsC], true, b1, b2, b3, b4, b5, b6, .slice fa fn fc, v1, v2, v3, v4, v5, v6, rfl, rfl, g, (fun _ => rfl), f1, f2, f3, f4, f5, f6⟩
      · apply op_at
        · rfl
        intro K hK
        simp only [puts, Act.put, lsA, lsB, lsC]
        go_simp
        exact hK.out _ _ ⟨[b0, true, b2, b3, b4, b5, b6], [v0, .slice Ta Tn Tc, v2, v3, v4, v5, v6], by simp only [lsA, lsB, lsC], by simp only [puts, Act.put, lsA, lsB, lsC], b0, true, b2, b3, b4, b5, b6, v0, .slice Ta Tn Tc, v2, v3, v4, v5, v6, rfl, rfl, g, f0, (fun _ => rfl), f2, f3, f4, f5, f6⟩
      · apply op_at
        · rfl
        intro K hK
        have d1 : b1 = true := dep_at hr (o := _) rfl ⟨1, .data⟩ (by simp) rfl
        obtain rfl := f1 d1
        simp only [puts, Act.put, lsA, lsB, lsC]
        go_simp
        refine (CL.out w' g).mono ?_
        rintro e w2 ⟨⟨qa, qn, qc⟩, rfl, hq, g2⟩
        dsimp only [Sl.v]
        exact hK.out _ _ ⟨[b0, b1, true, b3, b4, b5, b6], [v0, .slice Ta Tn Tc, .slice qa qn qc, v3, v4, v5, v6], by simp only [lsA, lsB, lsC], by simp only [puts, Act.put, lsA, lsB, lsC], b0, b1, true, b3, b4, b5, b6, v0, .slice Ta Tn Tc, .slice qa qn qc, v3, v4, v5, v6, rfl, rfl, (grown_trans g g2), f0, f1, (fun _ => ⟨⟨qa, qn, qc⟩, rfl, hq.base_ g.size⟩), f3, f4, (fun h => by obtain ⟨q, e1, e2⟩ := f5 h; exact ⟨q, e1, e2.grown g2⟩), f6⟩
      · apply op_at
        · rfl
        intro K hK
        simp only [puts, Act.put, lsA, lsB, lsC]
        go_simp
        exact hK.out _ _ ⟨[b0, b1, b2, true, b4, b5, b6], [v0, v1, v2, .int .i64 dm, v4, v5, v6], by simp only [lsA, lsB, lsC], by simp only [puts, Act.put, lsA, lsB, lsC], b0, b1, b2, true, b4, b5, b6, v0, v1, v2, .int .i64 dm, v4, v5, v6, rfl, rfl, g, f0, f1, f2, (fun _ => rfl), f4, f5, f6⟩
      · apply op_at
        · rfl
        intro K hK
        have d0 : b0 = true := dep_at hr (o := _) rfl ⟨0, .data⟩ (by simp) rfl
        obtain rfl := f0 d0
        simp only [puts, Act.put, lsA, lsB, lsC]
        go_simp
        exact hK.out _ _ ⟨[b0, b1, b2, b3, true, b5, b6], [.slice fa fn fc, v1, v2, v3, .slice fa fn fc, v5, v6], by simp only [lsA, lsB, lsC], by simp only [puts, Act.put, lsA, lsB, lsC], b0, b1, b2, b3, true, b5, b6, .slice fa fn fc, v1, v2, v3, .slice fa fn fc, v5, v6, rfl, rfl, g, f0, f1, f2, f3, (fun _ => rfl), f5, f6⟩
      · apply op_at
        · rfl
        intro K hK
        have d2 : b2 = true := dep_at hr (o := _) rfl ⟨2, .data⟩ (by simp) rfl
        obtain ⟨q, rfl, hq⟩ := f2 d2
        simp only [puts, Act.put, lsA, lsB, lsC]
        go_simp
        exact hK.out _ _ ⟨[b0, b1, b2, b3, b4, true, b6], [v0, v1, q.v, v3, v4, q.v, v6], by simp only [lsA, lsB, lsC], by simp only [puts, Act.put, lsA, lsB, lsC], b0, b1, b2, b3, b4, true, b6, v0, v1, q.v, v3, v4, q.v, v6, rfl, rfl, g, f0, f1, f2, f3, f4, (fun _ => ⟨q, rfl, hq⟩), f6⟩
      · apply op_at
        · rfl
        intro K hK
        have d3 : b3 = true := dep_at hr (o := _) rfl ⟨3, .data⟩ (by simp) rfl
        obtain rfl := f3 d3
        simp only [puts, Act.put, lsA, lsB, lsC]
        go_simp
        exact hK.out _ _ ⟨[b0, b1, b2, b3, b4, b5, true], [v0, v1, v2, .int .i64 dm, v4, v5, .int .i64 dm], by simp only [lsA, lsB, lsC], by simp only [puts, Act.put, lsA, lsB, lsC], b0, b1, b2, b3, b4, b5, true, v0, v1, v2, .int .i64 dm, v4, v5, .int .i64 dm, rfl, rfl, g, f0, f1, f2, f3, f4, f5, (fun _ => rfl)⟩
    case fin =>
      rintro bs' vs' w' ⟨b0, b1, b2, b3, b4, b5, b6, v0, v1, v2, v3, v4, v5, v6, rfl, rfl, g, f0, f1, f2, f3, f4, f5, f6⟩ hall
      obtain rfl := f4 (hall 4 (by simp))
      obtain ⟨⟨qa, qn, qc⟩, rfl, hq⟩ := f5 (hall 5 (by simp))
      obtain rfl := f6 (hall 6 (by simp))
      simp only [puts, Act.put, lsA, lsB, lsC]
      have HG := Hi g
      have HQ := Hi hq
      clear f0 f1 f2 f3 f4 f5 f6 hall g hq bx db CL
      dsimp only [Sl.v]
      go_wp2
      have hlt : Dd < W.heap.size := (Array.getElem?_eq_some_iff.1 KDH.out).1
      have hKz : w'.heap[Dd]? = some (.deferred (some [])) := by
        rw [HG.out.block Dd hlt (by simp)]
        exact KDH.out
      have np : Np w' (w'.putObj Dd (.deferred none)) := ⟨some Dd, grownBy_putObj' w' Dd _, fun r e => by cases e; exact ⟨_, hKz, rfl⟩⟩
      have gw : w.grownBy w' none := grown_trans LWH.out.g HG.out
      have gw5 : w.grownBy (w'.putObj Dd (.deferred none)) none := (Chg.of (L := [Dd]) (grownBy_putObj' w' Dd (.deferred none)) (fun b hb => by injection hb with hb; simp [hb])).grown gw (fun b hb => by rw [List.mem_singleton] at hb; have h1 := ZDd.out; omega)
      have hle : w.heap.size ≤ w10.heap.size := by have h1 := Z10.out; have h2 := HDB.out; omega
      have SBZ := np.sb (LWH.out.sb.grown HG.out)
      have ORZ := np.or HQ.out
      have hle2 := LWH.out.g.size
      refine ⟨by simp, .inl ⟨_, _, rfl, run_takeDeferred hKz, ?_⟩⟩
      refine ⟨.tuple #[.slice fa fn fc, .slice qa qn qc, .int .i64 dm], ?_, ⟨⟨fa, fn, fc⟩, ⟨qa, qn, qc⟩, dm, xs1, rfl, FSC.out, ⟨SBZ.row.base_ hle, fun x hx => (SBZ.each x hx).base_ hle, SBZ.off⟩, ORZ.base_ hle2, gw5, DAM.out⟩⟩
      clear hKz np gw gw5 SBZ ORZ
      rw [results_tmp3 rfl]
      rfl
  case stop =>
    rintro Dd cc pre W _ _ hh _
    exact hh.elim
end Go.Proofs.YticmoaebegahgaaGreatDoor.Iw
