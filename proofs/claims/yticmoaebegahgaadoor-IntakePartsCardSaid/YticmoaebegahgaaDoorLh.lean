/- The walk of IntakeOrder. -/
import Derived.Test.YticmoaebegahgaaDoorLg
namespace Go.Proofs.YticmoaebegahgaaDoor.Iw
open Go.ChangeShapes Go.WideShapes Go.ChangeAt Go.RowKit
open Wr (IR RB iv ivs bv bvs grown_trans grown_refl grown_alloc ret_int ret_bool tv Ret ret_mk Made OwnEnd)

/-- The worlds of a region that makes streams: the reader, the intake's box, the rows made so far, and the box that is made at any place. -/
structure Rg (w0 : World) (lo S sB m : Nat) (win : Int) (rows : List (Sl × List UInt8)) (bx : Option Nat) (w : World) : Prop where
  g : w0.grownBy w none
  src : Wr.SrcOK w S
  bb : Tri w sB (.int .i64 win) (.slice none 0 0) (.slice none 0 0)
  rows_ : ∀ p ∈ rows, OR lo w 5 1 p.1 (bvs p.2)
  few : ∀ p ∈ rows, p.1.n ≤ m
  bx_ : ∀ X, bx = some X → Tri w X (.int .i64 0) (.slice none 0 0) (.slice none 0 0) ∧ lo ≤ X ∧ ∀ p ∈ rows, ∀ b, p.1.blk = some b → b ≠ X
  ord : w0.heap.size ≤ S ∧ S < sB ∧ sB < lo ∧ lo ≤ w.heap.size
section
variable {w0 : World} {lo S sB m : Nat} {win : Int} {rows : List (Sl × List UInt8)} {bx : Option Nat} {w w' : World}
theorem Rg.grown (h : Rg w0 lo S sB m win rows bx w) (g : w.grownBy w' none) : Rg w0 lo S sB m win rows bx w' :=
  ⟨grown_trans h.g g, h.src.grown g, h.bb.grown g, fun p hp => (h.rows_ p hp).grown g, h.few, fun X e => ⟨(h.bx_ X e).1.grown g, (h.bx_ X e).2⟩, ⟨h.ord.1, h.ord.2.1, h.ord.2.2.1, Nat.le_trans h.ord.2.2.2 g.size⟩⟩
theorem Rg.made (h : Rg w0 lo S sB m win rows none w) : Rg w0 lo S sB m win rows (some w.heap.size) (w.alloc (Obj.cells #[.int .i64 0, .slice none 0 0, .slice none 0 0] 29)) := by
  have h' := h.grown (grown_alloc w (Obj.cells #[.int .i64 0, .slice none 0 0, .slice none 0 0] 29) none)
  refine ⟨h'.g, h'.src, h'.bb, h'.rows_, h'.few, fun X e => ?_, h'.ord⟩
  injection e with e
  subst e
  exact ⟨tri_made _ _ _ _ _, h.ord.2.2.2, fun p hp b hb e => by have := ((h.rows_ p hp).blk b hb).2; omega⟩
theorem Rg.stream (h : Rg w0 lo S sB m win rows bx w) {s : Sl} {o : List UInt8} {k : Nat} (hm : 7850 ≤ m) (hk : k ≤ 13) (hs : Im.Stream k o) (hr : OR w.heap.size w' 5 1 s (bvs o)) (g : w.grownBy w' (some S)) (ss : Wr.SrcOK w' S) : Rg w0 lo S sB m win (rows ++ [(s, o)]) bx w' := by
  have c : Chg [S] w w' := Chg.of g (fun b hb => by injection hb with hb; simp [hb])
  obtain ⟨o1, o2, o3, o4⟩ := h.ord
  refine ⟨Wr.grown_off h.g g o1, ss, h.bb.step c (fun hm => by rw [List.mem_singleton] at hm; omega), fun p hp => ?_, fun p hp => ?_, fun X e => ⟨(h.bx_ X e).1.step c (fun hm => by rw [List.mem_singleton] at hm; have := (h.bx_ X e).2.1; omega), (h.bx_ X e).2.1, fun p hp b hb e2 => ?_⟩, ⟨o1, o2, o3, Nat.le_trans o4 g.size⟩⟩
  · rcases List.mem_append.1 hp with hp | hp
    · exact (h.rows_ p hp).chg c (fun b hb hm => by rw [List.mem_singleton] at hm; have := ((h.rows_ p hp).blk b hb).1; omega)
    · rw [List.mem_singleton] at hp; subst hp; exact hr.base_ o4
  · rcases List.mem_append.1 hp with hp | hp
    · exact h.few p hp
    · rw [List.mem_singleton] at hp; subst hp
      have h1 := hr.len
      rw [Wr.bvs_len] at h1
      have h2 := stream_len hs
      dsimp only
      omega
  · rcases List.mem_append.1 hp with hp | hp
    · exact (h.bx_ X e).2.2 p hp b hb e2
    · rw [List.mem_singleton] at hp; subst hp
      have h1 := (hr.blk b hb).1
      have h2 := (h.bx_ X e).1.lt
      omega
theorem Rg.app (h : Rg w0 lo S sB m win rows bx w) {s1 s2 r : Sl} {o1 o2 : List UInt8} (e : rows = [(s1, o1), (s2, o2)]) (hn : r.n = s1.n + s2.n) (hr : OR lo w' 5 1 r (bvs o1 ++ bvs o2)) (g : w.grownBy w' s1.blk) (hrb : ∀ b, r.blk = some b → s1.blk = some b ∨ b = w.heap.size) : Rg w0 lo S sB (2 * m) win [(r, o1 ++ o2)] bx w' := by
  subst e
  have c : Chg s1.blk.toList w w' := Chg.of g (fun b hb => by simpa using hb)
  obtain ⟨q1, q2, q3, q4⟩ := h.ord
  have h1 : ∀ b ∈ s1.blk.toList, lo ≤ b := fun b hb => ((h.rows_ (s1, o1) (by simp)).blk b (by simpa using hb)).1
  refine ⟨c.grown h.g (fun b hb => by have := h1 b hb; omega), h.src.grownRow g (fun b hb => by have := h1 b (by simpa using hb); omega), h.bb.step c (fun hm => by have := h1 sB hm; omega), fun p hp => ?_, fun p hp => ?_, fun X e => ⟨(h.bx_ X e).1.step c (fun hm => (h.bx_ X e).2.2 (s1, o1) (by simp) X (by simpa using hm) rfl), (h.bx_ X e).2.1, fun p hp b hb e2 => ?_⟩, ⟨q1, q2, q3, Nat.le_trans q4 g.size⟩⟩
  · rw [List.mem_singleton] at hp; subst hp; rw [Wr.bvs_append]; exact hr
  · rw [List.mem_singleton] at hp; subst hp
    have h2 := h.few (s1, o1) (by simp)
    have h3 := h.few (s2, o2) (by simp)
    dsimp only at h2 h3 ⊢
    omega
  · rw [List.mem_singleton] at hp; subst hp
    rcases hrb b hb with e3 | e3
    · exact (h.bx_ X e).2.2 (s1, o1) (by simp) b e3 e2
    · have := (h.bx_ X e).1.lt; omega
end
theorem rg_few {w0 : World} {lo S sB : Nat} {win : Int} {s1 s2 : Sl} {o1 o2 : List UInt8} {bx : Option Nat} {w : World} (h : Rg w0 lo S sB 7850 win [(s1, o1), (s2, o2)] bx w) : (s1.n + s2.n) * 1 ≤ 140737488355328 ∧ s1.n + s2.n ≤ 1000000000 := by
  have h2 := h.few (s1, o1) (by simp)
  have h3 := h.few (s2, o2) (by simp)
  dsimp only at h2 h3
  omega
set_option maxRecDepth 100000 in
set_option maxHeartbeats 8000000 in
theorem order_any (A : Option Addr) (n c : Nat) (zs : List Int) (wd : Int) (w : World) (hl : Wr.InRow w A n c zs) (hw : 0 ≤ wd ∧ wd ≤ 255) (ht : Wr.Tabled w) :
    Calls Tryd.prog 4 #[.slice A n c, .int .u8 wd] w (Ret (.bool true) w) := by
  have HL := Lib.hid hl
  have HT := Lib.hid ht
  have ht0 : 0 ≤ wd % 5 ∧ wd % 5 ≤ 4 := by omega
  have hc1 : IntKind.i64.wrap wd = wd := IntWalk.i64_in _ (by omega)
  have hc2 : IntKind.i64.wrap (wd % 5) = wd % 5 := IntWalk.i64_in _ (by omega)
  obtain ⟨I, hI, hz, hsz, hby⟩ := parts_b
  clear hl ht
  go_enter Tryd.func4, Tryd.ntmps4
  go_wp2_with fail
  refine (Wr.new_any _ _ _ _ w HL.out).mono ?_
  rintro e w1 ⟨rfl, g1, s1, z1⟩
  obtain ⟨S, hS⟩ : ∃ S, S = w.heap.size := ⟨_, rfl⟩
  simp only [← hS] at s1 z1 ⊢
  go_wp2_with fail
  try simp only [hc1, hc2]
  obtain ⟨win, hwin⟩ : ∃ x, x = wd % 5 := ⟨_, rfl⟩
  have HWIN := Lib.hid hwin
  simp only [← hwin] at ht0 ⊢
  clear hwin
  have HW := Lib.hid (show 0 ≤ win ∧ win ≤ 16 by omega)
  clear HL
  refine (new_nil win w1).mono ?_
  rintro e w2 ⟨rfl, g2⟩
  rw [newF_yes HW.out]
  dsimp only [iv3, nilS, Sl.v]
  obtain ⟨sB, hsB⟩ : ∃ b, b = w2.heap.size := ⟨_, rfl⟩
  obtain ⟨w3, hw3⟩ : ∃ w3, w3 = w2.alloc (Obj.cells #[.int .i64 win, .slice none 0 0, .slice none 0 0] 29) := ⟨_, rfl⟩
  have g3 : w2.grownBy w3 none := by subst hw3; exact grown_alloc _ _ _
  have b3 : Tri w3 sB (.int .i64 win) (.slice none 0 0) (.slice none 0 0) := by subst hw3; subst hsB; exact tri_made _ _ _ _ _
  have z3 : w3.heap.size = sB + 1 := by subst hw3; subst hsB; simp
  have hsz2 := g2.size
  obtain ⟨lo, hlo⟩ : ∃ lo, lo = sB + 1 := ⟨_, rfl⟩
  have RG := Lib.hid (show Rg w lo S sB 7850 win [] none w3 from ⟨grown_trans g1 (grown_trans g2 g3), (s1.grown g2).grown g3, b3, (fun p hp => by cases hp), (fun p hp => by cases hp), (fun X e => by cases e), ⟨by omega, by omega, by omega, by omega⟩⟩)
  have GS := Lib.hid (grown_trans g1 (grown_trans g2 g3))
  clear s1 z1 b3 z3 hsz2 g1 g2 g3 hS hlo ht0
  go_upto_region 3 with fail
  rw [← hw3]
  try simp only [← hsB]
  clear hw3 hsB
  go_cut [9, 10] (fun vo vf wx => ∃ (Gs : Sl) (outs : List Tm.Tg), vo = Gs.v ∧ vf = .int .i64 0 ∧ Hid (outs.Pairwise (fun x y => x.st = y.st → Im.Ahead x y)) ∧ Hid (TR wx Gs outs) ∧ Hid (w.grownBy wx none))
  case first =>
    have RG := Lib.hid (RG.out.grown (Wr.grown_drew w3 none))
    clear GS
    refine wp_region_held_drew (S := fun w' => w'.cell? ⟨sB, 0, none⟩ = some (.int .i64 win) ∧ w'.cell? ⟨sB, 1, none⟩ = some (.slice none 0 0) ∧ w'.cell? ⟨sB, 2, none⟩ = some (.slice none 0 0)) (by kernel_rfl) ?_ (fun hHeld => ?_)
    · exact ⟨RG.out.bb.1.1, RG.out.bb.1.2.1, RG.out.bb.1.2.2⟩
    try simp only [Act.put, List.setIfInBounds_toArray, List.set_cons_zero, List.set_cons_succ]
    generalize w3.drew = wd0 at *
    refine takeL (i := 0) (v := ?_) rfl (by kernel_rfl) (by kernel_rfl) (by kernel_rfl) (fun _ _ _ h => h) (Or.inl ⟨by rfl, ?_⟩) (by assumption) ?_
    rotate_left 1
    · intro w hSw; obtain ⟨s0, s1, s2⟩ := hSw; first | (go_simp; done) | (go_simp; with_reducible rfl)
    try simp only [Act.put, List.setIfInBounds_toArray, List.set_cons_zero, List.set_cons_succ]
    refine takeL (i := 1) (v := ?_) rfl (by kernel_rfl) (by kernel_rfl) (by kernel_rfl) (fun _ _ _ h => h) (Or.inl ⟨by rfl, ?_⟩) (by assumption) ?_
    rotate_left 1
    · intro w hSw; obtain ⟨s0, s1, s2⟩ := hSw; first | (go_simp; done) | (go_simp; with_reducible rfl)
    try simp only [Act.put, List.setIfInBounds_toArray, List.set_cons_zero, List.set_cons_succ]
    refine takeL (i := 3) (v := ?_) rfl (by kernel_rfl) (by kernel_rfl) (by kernel_rfl) (fun _ _ _ h => h) (Or.inl ⟨by rfl, ?_⟩) (by assumption) ?_
    rotate_left 1
    · intro w hSw; obtain ⟨s0, s1, s2⟩ := hSw; first | (go_simp; done) | (go_simp; with_reducible rfl)
    try simp only [Act.put, List.setIfInBounds_toArray, List.set_cons_zero, List.set_cons_succ]
    refine wpAnyH_ready (rs := [2, 11]) (by kernel_rfl) (by simp) (consL rfl (fun K hK => ?_) (consL rfl (fun K hK => ?_) AllReadyH.nil))
    · go_simp
      refine (stream_any S _ RG.out.src).mono ?_
      rintro e wa ⟨⟨O1a, O1n, O1c⟩, o1, k1, rfl, hk, hs, hr, gs, ss⟩
      have RG := Lib.hid (RG.out.stream (by omega) hk hs hr gs ss)
      clear hk hs hr gs ss
      dsimp only [Sl.v]
      try simp only [List.nil_append, List.cons_append] at RG
      refine hK.out _ _ ?_ (fun hHeld => ?_)
      · exact ⟨RG.out.bb.1.1, RG.out.bb.1.2.1, RG.out.bb.1.2.2⟩
      clear hK K
      try simp only [Act.put, List.setIfInBounds_toArray, List.set_cons_zero, List.set_cons_succ]
      refine wpAnyH_ready (rs := [4, 11]) (by kernel_rfl) (by simp) (consL rfl (fun K hK => ?_) (consL rfl (fun K hK => ?_) AllReadyH.nil))
      · go_simp
        refine (stream_any S _ RG.out.src).mono ?_
        rintro e wb ⟨⟨O2a, O2n, O2c⟩, o2, k2, rfl, hk, hs, hr, gs, ss⟩
        have RG := Lib.hid (RG.out.stream (by omega) hk hs hr gs ss)
        clear hk hs hr gs ss
        dsimp only [Sl.v]
        try simp only [List.nil_append, List.cons_append] at RG
        refine hK.out _ _ ?_ (fun hHeld => ?_)
        · exact ⟨RG.out.bb.1.1, RG.out.bb.1.2.1, RG.out.bb.1.2.2⟩
        clear hK K
        try simp only [Act.put, List.setIfInBounds_toArray, List.set_cons_zero, List.set_cons_succ]
        refine wpAnyH_ready (rs := [5, 11]) (by kernel_rfl) (by simp) (consL rfl (fun K hK => ?_) (consL rfl (fun K hK => ?_) AllReadyH.nil))
        · refine step_appV rfl (.tmp 25) (.tmp 27) 25 rfl (S := ⟨O1a, O1n, O1c⟩) (V := ⟨O2a, O2n, O2c⟩) Tryd.underlying25 hI hz hsz hby (by rfl) (by omega) rfl rfl (RG.out.rows_ (⟨O1a, O1n, O1c⟩, o1) (by simp)) RG.out.ord.2.2.2 ((RG.out.rows_ (⟨O2a, O2n, O2c⟩, o2) (by simp)).len) (RG.out.rows_ (⟨O2a, O2n, O2c⟩, o2) (by simp)).cr (Wr.bvs_one _) (rg_few RG.out).1 (rg_few RG.out).2 ?_
          intro r wd hrn hr gs hrb
          have RG := Lib.hid (RG.out.app rfl hrn hr gs hrb)
          clear hrn hr gs hrb
          obtain ⟨RXa, RXn, RXc⟩ := r
          dsimp only [Sl.v]
          refine hK.out _ _ ?_ (fun hHeld => ?_)
          · exact ⟨RG.out.bb.1.1, RG.out.bb.1.2.1, RG.out.bb.1.2.2⟩
          clear hK K
          try simp only [Act.put, List.setIfInBounds_toArray, List.set_cons_zero, List.set_cons_succ]
          refine wpAnyH_ready (rs := [6, 11]) (by kernel_rfl) (by simp) (consL rfl (fun K hK => ?_) (consL rfl (fun K hK => ?_) AllReadyH.nil))
          · have RX := RG.out.rows_ (⟨RXa, RXn, RXc⟩, o1 ++ o2) (by simp)
            have FD := Lib.hid (feed_any nilS nilS ⟨win, [], []⟩ RXa RXn RXc (o1 ++ o2) _ (kr_nil _ win) (ok_nil HW.out) (or_rb RX) RX.fit.1 RX.fit.2 (by have := RG.out.few (⟨RXa, RXn, RXc⟩, o1 ++ o2) (by simp); dsimp only at this; omega) (HT.out.grown RG.out.g))
            dsimp only [iv3, nilS, Sl.v] at FD
            clear RX
            go_simp
            refine FD.out.mono ?_
            rintro e we ⟨⟨T1a, T1n, T1c⟩, ⟨E1a, E1n, E1c⟩, ⟨Ga, Gn, Gc⟩, rfl, hk1, hn1, ht1, ge⟩
            have RG := Lib.hid (RG.out.grown ge)
            dsimp only [feedF] at ht1
            have HT1 := Lib.hid ht1
            clear hk1 hn1 ht1 ge FD
            dsimp only [iv3, Sl.v, feedF]
            refine hK.out _ _ ?_ (fun hHeld => ?_)
            · exact ⟨RG.out.bb.1.1, RG.out.bb.1.2.1, RG.out.bb.1.2.2⟩
            clear hK K
            try simp only [Act.put, List.setIfInBounds_toArray, List.set_cons_zero, List.set_cons_succ]
            refine takeL (i := 7) (v := ?_) rfl (by kernel_rfl) (by kernel_rfl) (by kernel_rfl) (fun _ _ _ h => h) (Or.inl ⟨by rfl, ?_⟩) (by assumption) ?_
            rotate_left 1
            · intro w hSw; obtain ⟨s0, s1, s2⟩ := hSw; first | (go_simp; done) | (go_simp; with_reducible rfl)
            try simp only [Act.put, List.setIfInBounds_toArray, List.set_cons_zero, List.set_cons_succ]
            refine takeL (i := 8) (v := ?_) rfl (by kernel_rfl) (by kernel_rfl) (by kernel_rfl) (fun _ _ _ h => h) (Or.inl ⟨by rfl, ?_⟩) (by assumption) ?_
            rotate_left 1
            · intro w hSw; obtain ⟨s0, s1, s2⟩ := hSw; first | (go_simp; done) | (go_simp; with_reducible rfl)
            try simp only [Act.put, List.setIfInBounds_toArray, List.set_cons_zero, List.set_cons_succ]
            refine takeL (i := 9) (v := ?_) rfl (by kernel_rfl) (by kernel_rfl) (by kernel_rfl) (fun _ _ _ h => h) (Or.inl ⟨by rfl, ?_⟩) (by assumption) ?_
            rotate_left 1
            · intro w hSw; obtain ⟨s0, s1, s2⟩ := hSw; first | (go_simp; done) | (go_simp; with_reducible rfl)
            try simp only [Act.put, List.setIfInBounds_toArray, List.set_cons_zero, List.set_cons_succ]
            refine takeL (i := 10) (v := ?_) rfl (by kernel_rfl) (by kernel_rfl) (by kernel_rfl) (fun _ _ _ h => h) (Or.inl ⟨by rfl, ?_⟩) (by assumption) ?_
            rotate_left 1
            · intro w hSw; obtain ⟨s0, s1, s2⟩ := hSw; first | (go_simp; done) | (go_simp; with_reducible rfl)
            try simp only [Act.put, List.setIfInBounds_toArray, List.set_cons_zero, List.set_cons_succ]
            refine wpAnyH_ready (rs := [11]) (by kernel_rfl) (by simp) (consL rfl (fun K hK => ?_) AllReadyH.nil)
            go_simp
            have RG := Lib.hid RG.out.made
            have TG := Lib.hid (fun w' (g : Chg [we.heap.size] (World.alloc we (Obj.cells #[.int .i64 0, .slice none 0 0, .slice none 0 0] 29)) w') => TR.grown (TRS.now HT1.out) (Chg.new ((Chg.of0 (L := [we.heap.size]) (grown_alloc we (Obj.cells #[.int .i64 0, .slice none 0 0, .slice none 0 0] 29) none)).trans g) (by simp)))
            clear HT1
            refine hK.out _ _ ?_ (fun hHeld => ?_)
            · exact ⟨RG.out.bb.1.1, RG.out.bb.1.2.1, RG.out.bb.1.2.2⟩
            clear hK K
            try simp only [Act.put, List.setIfInBounds_toArray, List.set_cons_zero, List.set_cons_succ]
            generalize hX8 : we.heap.size = X8 at *
            generalize World.alloc we (Obj.cells #[.int .i64 0, .slice none 0 0, .slice none 0 0] 29) = wz at *
            clear hX8
            obtain ⟨B8, hlo8, -⟩ := RG.out.bx_ X8 rfl
            have N8 := Lib.hid (show sB ≠ X8 by have := RG.out.ord.2.2.1; omega)
            have B8H := Lib.hid B8
            obtain ⟨⟨m0, m1, m2⟩, mf⟩ := B8
            have f0 := mf 0
            have f1 := mf 1
            have f2 := mf 2
            clear mf
            refine wpAnyH_ready (rs := [12]) (by kernel_rfl) (by simp) (consL rfl (fun K hK => ?_) AllReadyH.nil)
            go_simp
            have gs : Chg [X8] wz (((wz.setCell ⟨X8, 0, none⟩ (.int .i64 win)).setCell ⟨X8, 1, none⟩ (.slice T1a T1n T1c)).setCell ⟨X8, 2, none⟩ (.slice E1a E1n E1c)) := (((Chg.refl [X8] wz).set ⟨X8, 0, none⟩ (.int .i64 win) (by simp)).set ⟨X8, 1, none⟩ (.slice T1a T1n T1c) (by simp)).set ⟨X8, 2, none⟩ (.slice E1a E1n E1c) (by simp)
            refine hK.out _ _ ?_ (fun hHeld => ?_)
            · exact ⟨gs.cell RG.out.bb.1.1 (fun hm => N8.out (by simpa using hm)), gs.cell RG.out.bb.1.2.1 (fun hm => N8.out (by simpa using hm)), gs.cell RG.out.bb.1.2.2 (fun hm => N8.out (by simpa using hm))⟩
            clear hK K
            try simp only [Act.put, List.setIfInBounds_toArray, List.set_cons_zero, List.set_cons_succ]
            refine takeL (i := 13) (v := ?_) rfl (by kernel_rfl) (by kernel_rfl) (by kernel_rfl) (fun _ _ _ h => h) (Or.inl ⟨by rfl, ?_⟩) (by assumption) ?_
            rotate_left 1
            · intro w hSw; obtain ⟨s0, s1, s2⟩ := hSw; first | (go_simp; done) | (go_simp; with_reducible rfl)
            try simp only [Act.put, List.setIfInBounds_toArray, List.set_cons_zero, List.set_cons_succ]
            refine takeL (i := 14) (v := ?_) rfl (by kernel_rfl) (by kernel_rfl) (by kernel_rfl) (fun _ _ _ h => h) (Or.inl ⟨by rfl, ?_⟩) (by assumption) ?_
            rotate_left 1
            · intro w hSw; obtain ⟨s0, s1, s2⟩ := hSw; first | (go_simp; done) | (go_simp; with_reducible rfl)
            try simp only [Act.put, List.setIfInBounds_toArray, List.set_cons_zero, List.set_cons_succ]
            refine wpAnyH_done (by kernel_rfl) ?_ _
            go_wp2_with fail
            go_meet
            case rel => exact ⟨⟨Ga, Gn, Gc⟩, _, rfl, rfl, Lib.hid (Im.run_order HW.out.1 (Im.sok_nil win) (Im.gets_ok _)), Lib.hid (TG.out _ gs), Lib.hid (gs.grown RG.out.g (fun b hb => by rw [List.mem_singleton] at hb; have h1 := RG.out.ord; omega))⟩
          · go_simp
            have RG := Lib.hid RG.out.made
            refine hK.out _ _ ?_ (fun hHeld => ?_)
            · exact ⟨RG.out.bb.1.1, RG.out.bb.1.2.1, RG.out.bb.1.2.2⟩
            clear hK K
            try simp only [Act.put, List.setIfInBounds_toArray, List.set_cons_zero, List.set_cons_succ]
            generalize hX8 : wd.heap.size = X8 at *
            generalize World.alloc wd (Obj.cells #[.int .i64 0, .slice none 0 0, .slice none 0 0] 29) = wz at *
            clear hX8
            refine wpAnyH_ready (rs := [6]) (by kernel_rfl) (by simp) (consL rfl (fun K hK => ?_) AllReadyH.nil)
            have hx8 := Lib.hid (RG.out.bx_ X8 rfl).1.lt
            have RX := RG.out.rows_ (⟨RXa, RXn, RXc⟩, o1 ++ o2) (by simp)
            have FD := Lib.hid (feed_any nilS nilS ⟨win, [], []⟩ RXa RXn RXc (o1 ++ o2) _ (kr_nil _ win) (ok_nil HW.out) (or_rb RX) RX.fit.1 RX.fit.2 (by have := RG.out.few (⟨RXa, RXn, RXc⟩, o1 ++ o2) (by simp); dsimp only at this; omega) (HT.out.grown RG.out.g))
            dsimp only [iv3, nilS, Sl.v] at FD
            clear RX
            go_simp
            refine FD.out.mono ?_
            rintro e we ⟨⟨T1a, T1n, T1c⟩, ⟨E1a, E1n, E1c⟩, ⟨Ga, Gn, Gc⟩, rfl, hk1, hn1, ht1, ge⟩
            have RG := Lib.hid (RG.out.grown ge)
            dsimp only [feedF] at ht1
            have HT1 := Lib.hid ht1
            have TG := Lib.hid (fun w' (g : Chg [X8] _ w') => TRS.now (TRS.old HT1.out g hx8.out))
            clear hk1 hn1 ht1 ge FD
            dsimp only [iv3, Sl.v, feedF]
            refine hK.out _ _ ?_ (fun hHeld => ?_)
            · exact ⟨RG.out.bb.1.1, RG.out.bb.1.2.1, RG.out.bb.1.2.2⟩
            clear hK K
            try simp only [Act.put, List.setIfInBounds_toArray, List.set_cons_zero, List.set_cons_succ]
            refine takeL (i := 7) (v := ?_) rfl (by kernel_rfl) (by kernel_rfl) (by kernel_rfl) (fun _ _ _ h => h) (Or.inl ⟨by rfl, ?_⟩) (by assumption) ?_
            rotate_left 1
            · intro w hSw; obtain ⟨s0, s1, s2⟩ := hSw; first | (go_simp; done) | (go_simp; with_reducible rfl)
            try simp only [Act.put, List.setIfInBounds_toArray, List.set_cons_zero, List.set_cons_succ]
            refine takeL (i := 8) (v := ?_) rfl (by kernel_rfl) (by kernel_rfl) (by kernel_rfl) (fun _ _ _ h => h) (Or.inl ⟨by rfl, ?_⟩) (by assumption) ?_
            rotate_left 1
            · intro w hSw; obtain ⟨s0, s1, s2⟩ := hSw; first | (go_simp; done) | (go_simp; with_reducible rfl)
            try simp only [Act.put, List.setIfInBounds_toArray, List.set_cons_zero, List.set_cons_succ]
            refine takeL (i := 9) (v := ?_) rfl (by kernel_rfl) (by kernel_rfl) (by kernel_rfl) (fun _ _ _ h => h) (Or.inl ⟨by rfl, ?_⟩) (by assumption) ?_
            rotate_left 1
            · intro w hSw; obtain ⟨s0, s1, s2⟩ := hSw; first | (go_simp; done) | (go_simp; with_reducible rfl)
            try simp only [Act.put, List.setIfInBounds_toArray, List.set_cons_zero, List.set_cons_succ]
            refine takeL (i := 10) (v := ?_) rfl (by kernel_rfl) (by kernel_rfl) (by kernel_rfl) (fun _ _ _ h => h) (Or.inl ⟨by rfl, ?_⟩) (by assumption) ?_
            rotate_left 1
            · intro w hSw; obtain ⟨s0, s1, s2⟩ := hSw; first | (go_simp; done) | (go_simp; with_reducible rfl)
            try simp only [Act.put, List.setIfInBounds_toArray, List.set_cons_zero, List.set_cons_succ]
            obtain ⟨B8, hlo8, -⟩ := RG.out.bx_ X8 rfl
            have N8 := Lib.hid (show sB ≠ X8 by have := RG.out.ord.2.2.1; omega)
            have B8H := Lib.hid B8
            obtain ⟨⟨m0, m1, m2⟩, mf⟩ := B8
            have f0 := mf 0
            have f1 := mf 1
            have f2 := mf 2
            clear mf
            refine wpAnyH_ready (rs := [12]) (by kernel_rfl) (by simp) (consL rfl (fun K hK => ?_) AllReadyH.nil)
            go_simp
            have gs : Chg [X8] we (((we.setCell ⟨X8, 0, none⟩ (.int .i64 win)).setCell ⟨X8, 1, none⟩ (.slice T1a T1n T1c)).setCell ⟨X8, 2, none⟩ (.slice E1a E1n E1c)) := (((Chg.refl [X8] we).set ⟨X8, 0, none⟩ (.int .i64 win) (by simp)).set ⟨X8, 1, none⟩ (.slice T1a T1n T1c) (by simp)).set ⟨X8, 2, none⟩ (.slice E1a E1n E1c) (by simp)
            refine hK.out _ _ ?_ (fun hHeld => ?_)
            · exact ⟨gs.cell RG.out.bb.1.1 (fun hm => N8.out (by simpa using hm)), gs.cell RG.out.bb.1.2.1 (fun hm => N8.out (by simpa using hm)), gs.cell RG.out.bb.1.2.2 (fun hm => N8.out (by simpa using hm))⟩
            clear hK K
            try simp only [Act.put, List.setIfInBounds_toArray, List.set_cons_zero, List.set_cons_succ]
            refine takeL (i := 13) (v := ?_) rfl (by kernel_rfl) (by kernel_rfl) (by kernel_rfl) (fun _ _ _ h => h) (Or.inl ⟨by rfl, ?_⟩) (by assumption) ?_
            rotate_left 1
            · intro w hSw; obtain ⟨s0, s1, s2⟩ := hSw; first | (go_simp; done) | (go_simp; with_reducible rfl)
            try simp only [Act.put, List.setIfInBounds_toArray, List.set_cons_zero, List.set_cons_succ]
            refine takeL (i := 14) (v := ?_) rfl (by kernel_rfl) (by kernel_rfl) (by kernel_rfl) (fun _ _ _ h => h) (Or.inl ⟨by rfl, ?_⟩) (by assumption) ?_
            rotate_left 1
            · intro w hSw; obtain ⟨s0, s1, s2⟩ := hSw; first | (go_simp; done) | (go_simp; with_reducible rfl)
            try simp only [Act.put, List.setIfInBounds_toArray, List.set_cons_zero, List.set_cons_succ]
            refine wpAnyH_done (by kernel_rfl) ?_ _
            go_wp2_with fail
            go_meet
            case rel => exact ⟨⟨Ga, Gn, Gc⟩, _, rfl, rfl, Lib.hid (Im.run_order HW.out.1 (Im.sok_nil win) (Im.gets_ok _)), Lib.hid (TG.out _ gs), Lib.hid (gs.grown RG.out.g (fun b hb => by rw [List.mem_singleton] at hb; have h1 := RG.out.ord; omega))⟩
        · go_simp
          have RG := Lib.hid RG.out.made
          refine hK.out _ _ ?_ (fun hHeld => ?_)
          · exact ⟨RG.out.bb.1.1, RG.out.bb.1.2.1, RG.out.bb.1.2.2⟩
          clear hK K
          try simp only [Act.put, List.setIfInBounds_toArray, List.set_cons_zero, List.set_cons_succ]
          generalize hX8 : wb.heap.size = X8 at *
          generalize World.alloc wb (Obj.cells #[.int .i64 0, .slice none 0 0, .slice none 0 0] 29) = wz at *
          clear hX8
          refine wpAnyH_ready (rs := [5]) (by kernel_rfl) (by simp) (consL rfl (fun K hK => ?_) AllReadyH.nil)
          refine step_appV rfl (.tmp 25) (.tmp 27) 25 rfl (S := ⟨O1a, O1n, O1c⟩) (V := ⟨O2a, O2n, O2c⟩) Tryd.underlying25 hI hz hsz hby (by rfl) (by omega) rfl rfl (RG.out.rows_ (⟨O1a, O1n, O1c⟩, o1) (by simp)) RG.out.ord.2.2.2 ((RG.out.rows_ (⟨O2a, O2n, O2c⟩, o2) (by simp)).len) (RG.out.rows_ (⟨O2a, O2n, O2c⟩, o2) (by simp)).cr (Wr.bvs_one _) (rg_few RG.out).1 (rg_few RG.out).2 ?_
          intro r wd hrn hr gs hrb
          have RG := Lib.hid (RG.out.app rfl hrn hr gs hrb)
          clear hrn hr gs hrb
          obtain ⟨RXa, RXn, RXc⟩ := r
          dsimp only [Sl.v]
          refine hK.out _ _ ?_ (fun hHeld => ?_)
          · exact ⟨RG.out.bb.1.1, RG.out.bb.1.2.1, RG.out.bb.1.2.2⟩
          clear hK K
          try simp only [Act.put, List.setIfInBounds_toArray, List.set_cons_zero, List.set_cons_succ]
          refine wpAnyH_ready (rs := [6]) (by kernel_rfl) (by simp) (consL rfl (fun K hK => ?_) AllReadyH.nil)
          have hx8 := Lib.hid (RG.out.bx_ X8 rfl).1.lt
          have RX := RG.out.rows_ (⟨RXa, RXn, RXc⟩, o1 ++ o2) (by simp)
          have FD := Lib.hid (feed_any nilS nilS ⟨win, [], []⟩ RXa RXn RXc (o1 ++ o2) _ (kr_nil _ win) (ok_nil HW.out) (or_rb RX) RX.fit.1 RX.fit.2 (by have := RG.out.few (⟨RXa, RXn, RXc⟩, o1 ++ o2) (by simp); dsimp only at this; omega) (HT.out.grown RG.out.g))
          dsimp only [iv3, nilS, Sl.v] at FD
          clear RX
          go_simp
          refine FD.out.mono ?_
          rintro e we ⟨⟨T1a, T1n, T1c⟩, ⟨E1a, E1n, E1c⟩, ⟨Ga, Gn, Gc⟩, rfl, hk1, hn1, ht1, ge⟩
          have RG := Lib.hid (RG.out.grown ge)
          dsimp only [feedF] at ht1
          have HT1 := Lib.hid ht1
          have TG := Lib.hid (fun w' (g : Chg [X8] _ w') => TRS.now (TRS.old HT1.out g hx8.out))
          clear hk1 hn1 ht1 ge FD
          dsimp only [iv3, Sl.v, feedF]
          refine hK.out _ _ ?_ (fun hHeld => ?_)
          · exact ⟨RG.out.bb.1.1, RG.out.bb.1.2.1, RG.out.bb.1.2.2⟩
          clear hK K
          try simp only [Act.put, List.setIfInBounds_toArray, List.set_cons_zero, List.set_cons_succ]
          refine takeL (i := 7) (v := ?_) rfl (by kernel_rfl) (by kernel_rfl) (by kernel_rfl) (fun _ _ _ h => h) (Or.inl ⟨by rfl, ?_⟩) (by assumption) ?_
          rotate_left 1
          · intro w hSw; obtain ⟨s0, s1, s2⟩ := hSw; first | (go_simp; done) | (go_simp; with_reducible rfl)
          try simp only [Act.put, List.setIfInBounds_toArray, List.set_cons_zero, List.set_cons_succ]
          refine takeL (i := 8) (v := ?_) rfl (by kernel_rfl) (by kernel_rfl) (by kernel_rfl) (fun _ _ _ h => h) (Or.inl ⟨by rfl, ?_⟩) (by assumption) ?_
          rotate_left 1
          · intro w hSw; obtain ⟨s0, s1, s2⟩ := hSw; first | (go_simp; done) | (go_simp; with_reducible rfl)
          try simp only [Act.put, List.setIfInBounds_toArray, List.set_cons_zero, List.set_cons_succ]
          refine takeL (i := 9) (v := ?_) rfl (by kernel_rfl) (by kernel_rfl) (by kernel_rfl) (fun _ _ _ h => h) (Or.inl ⟨by rfl, ?_⟩) (by assumption) ?_
          rotate_left 1
          · intro w hSw; obtain ⟨s0, s1, s2⟩ := hSw; first | (go_simp; done) | (go_simp; with_reducible rfl)
          try simp only [Act.put, List.setIfInBounds_toArray, List.set_cons_zero, List.set_cons_succ]
          refine takeL (i := 10) (v := ?_) rfl (by kernel_rfl) (by kernel_rfl) (by kernel_rfl) (fun _ _ _ h => h) (Or.inl ⟨by rfl, ?_⟩) (by assumption) ?_
          rotate_left 1
          · intro w hSw; obtain ⟨s0, s1, s2⟩ := hSw; first | (go_simp; done) | (go_simp; with_reducible rfl)
          try simp only [Act.put, List.setIfInBounds_toArray, List.set_cons_zero, List.set_cons_succ]
          obtain ⟨B8, hlo8, -⟩ := RG.out.bx_ X8 rfl
          have N8 := Lib.hid (show sB ≠ X8 by have := RG.out.ord.2.2.1; omega)
          have B8H := Lib.hid B8
          obtain ⟨⟨m0, m1, m2⟩, mf⟩ := B8
          have f0 := mf 0
          have f1 := mf 1
          have f2 := mf 2
          clear mf
          refine wpAnyH_ready (rs := [12]) (by kernel_rfl) (by simp) (consL rfl (fun K hK => ?_) AllReadyH.nil)
          go_simp
          have gs : Chg [X8] we (((we.setCell ⟨X8, 0, none⟩ (.int .i64 win)).setCell ⟨X8, 1, none⟩ (.slice T1a T1n T1c)).setCell ⟨X8, 2, none⟩ (.slice E1a E1n E1c)) := (((Chg.refl [X8] we).set ⟨X8, 0, none⟩ (.int .i64 win) (by simp)).set ⟨X8, 1, none⟩ (.slice T1a T1n T1c) (by simp)).set ⟨X8, 2, none⟩ (.slice E1a E1n E1c) (by simp)
          refine hK.out _ _ ?_ (fun hHeld => ?_)
          · exact ⟨gs.cell RG.out.bb.1.1 (fun hm => N8.out (by simpa using hm)), gs.cell RG.out.bb.1.2.1 (fun hm => N8.out (by simpa using hm)), gs.cell RG.out.bb.1.2.2 (fun hm => N8.out (by simpa using hm))⟩
          clear hK K
          try simp only [Act.put, List.setIfInBounds_toArray, List.set_cons_zero, List.set_cons_succ]
          refine takeL (i := 13) (v := ?_) rfl (by kernel_rfl) (by kernel_rfl) (by kernel_rfl) (fun _ _ _ h => h) (Or.inl ⟨by rfl, ?_⟩) (by assumption) ?_
          rotate_left 1
          · intro w hSw; obtain ⟨s0, s1, s2⟩ := hSw; first | (go_simp; done) | (go_simp; with_reducible rfl)
          try simp only [Act.put, List.setIfInBounds_toArray, List.set_cons_zero, List.set_cons_succ]
          refine takeL (i := 14) (v := ?_) rfl (by kernel_rfl) (by kernel_rfl) (by kernel_rfl) (fun _ _ _ h => h) (Or.inl ⟨by rfl, ?_⟩) (by assumption) ?_
          rotate_left 1
          · intro w hSw; obtain ⟨s0, s1, s2⟩ := hSw; first | (go_simp; done) | (go_simp; with_reducible rfl)
          try simp only [Act.put, List.setIfInBounds_toArray, List.set_cons_zero, List.set_cons_succ]
          refine wpAnyH_done (by kernel_rfl) ?_ _
          go_wp2_with fail
          go_meet
          case rel => exact ⟨⟨Ga, Gn, Gc⟩, _, rfl, rfl, Lib.hid (Im.run_order HW.out.1 (Im.sok_nil win) (Im.gets_ok _)), Lib.hid (TG.out _ gs), Lib.hid (gs.grown RG.out.g (fun b hb => by rw [List.mem_singleton] at hb; have h1 := RG.out.ord; omega))⟩
      · go_simp
        have RG := Lib.hid RG.out.made
        refine hK.out _ _ ?_ (fun hHeld => ?_)
        · exact ⟨RG.out.bb.1.1, RG.out.bb.1.2.1, RG.out.bb.1.2.2⟩
        clear hK K
        try simp only [Act.put, List.setIfInBounds_toArray, List.set_cons_zero, List.set_cons_succ]
        generalize hX8 : wa.heap.size = X8 at *
        generalize World.alloc wa (Obj.cells #[.int .i64 0, .slice none 0 0, .slice none 0 0] 29) = wz at *
        clear hX8
        refine wpAnyH_ready (rs := [4]) (by kernel_rfl) (by simp) (consL rfl (fun K hK => ?_) AllReadyH.nil)
        go_simp
        refine (stream_any S _ RG.out.src).mono ?_
        rintro e wb ⟨⟨O2a, O2n, O2c⟩, o2, k2, rfl, hk, hs, hr, gs, ss⟩
        have RG := Lib.hid (RG.out.stream (by omega) hk hs hr gs ss)
        clear hk hs hr gs ss
        dsimp only [Sl.v]
        try simp only [List.nil_append, List.cons_append] at RG
        refine hK.out _ _ ?_ (fun hHeld => ?_)
        · exact ⟨RG.out.bb.1.1, RG.out.bb.1.2.1, RG.out.bb.1.2.2⟩
        clear hK K
        try simp only [Act.put, List.setIfInBounds_toArray, List.set_cons_zero, List.set_cons_succ]
        refine wpAnyH_ready (rs := [5]) (by kernel_rfl) (by simp) (consL rfl (fun K hK => ?_) AllReadyH.nil)
        refine step_appV rfl (.tmp 25) (.tmp 27) 25 rfl (S := ⟨O1a, O1n, O1c⟩) (V := ⟨O2a, O2n, O2c⟩) Tryd.underlying25 hI hz hsz hby (by rfl) (by omega) rfl rfl (RG.out.rows_ (⟨O1a, O1n, O1c⟩, o1) (by simp)) RG.out.ord.2.2.2 ((RG.out.rows_ (⟨O2a, O2n, O2c⟩, o2) (by simp)).len) (RG.out.rows_ (⟨O2a, O2n, O2c⟩, o2) (by simp)).cr (Wr.bvs_one _) (rg_few RG.out).1 (rg_few RG.out).2 ?_
        intro r wd hrn hr gs hrb
        have RG := Lib.hid (RG.out.app rfl hrn hr gs hrb)
        clear hrn hr gs hrb
        obtain ⟨RXa, RXn, RXc⟩ := r
        dsimp only [Sl.v]
        refine hK.out _ _ ?_ (fun hHeld => ?_)
        · exact ⟨RG.out.bb.1.1, RG.out.bb.1.2.1, RG.out.bb.1.2.2⟩
        clear hK K
        try simp only [Act.put, List.setIfInBounds_toArray, List.set_cons_zero, List.set_cons_succ]
        refine wpAnyH_ready (rs := [6]) (by kernel_rfl) (by simp) (consL rfl (fun K hK => ?_) AllReadyH.nil)
        have hx8 := Lib.hid (RG.out.bx_ X8 rfl).1.lt
        have RX := RG.out.rows_ (⟨RXa, RXn, RXc⟩, o1 ++ o2) (by simp)
        have FD := Lib.hid (feed_any nilS nilS ⟨win, [], []⟩ RXa RXn RXc (o1 ++ o2) _ (kr_nil _ win) (ok_nil HW.out) (or_rb RX) RX.fit.1 RX.fit.2 (by have := RG.out.few (⟨RXa, RXn, RXc⟩, o1 ++ o2) (by simp); dsimp only at this; omega) (HT.out.grown RG.out.g))
        dsimp only [iv3, nilS, Sl.v] at FD
        clear RX
        go_simp
        refine FD.out.mono ?_
        rintro e we ⟨⟨T1a, T1n, T1c⟩, ⟨E1a, E1n, E1c⟩, ⟨Ga, Gn, Gc⟩, rfl, hk1, hn1, ht1, ge⟩
        have RG := Lib.hid (RG.out.grown ge)
        dsimp only [feedF] at ht1
        have HT1 := Lib.hid ht1
        have TG := Lib.hid (fun w' (g : Chg [X8] _ w') => TRS.now (TRS.old HT1.out g hx8.out))
        clear hk1 hn1 ht1 ge FD
        dsimp only [iv3, Sl.v, feedF]
        refine hK.out _ _ ?_ (fun hHeld => ?_)
        · exact ⟨RG.out.bb.1.1, RG.out.bb.1.2.1, RG.out.bb.1.2.2⟩
        clear hK K
        try simp only [Act.put, List.setIfInBounds_toArray, List.set_cons_zero, List.set_cons_succ]
        refine takeL (i := 7) (v := ?_) rfl (by kernel_rfl) (by kernel_rfl) (by kernel_rfl) (fun _ _ _ h => h) (Or.inl ⟨by rfl, ?_⟩) (by assumption) ?_
        rotate_left 1
        · intro w hSw; obtain ⟨s0, s1, s2⟩ := hSw; first | (go_simp; done) | (go_simp; with_reducible rfl)
        try simp only [Act.put, List.setIfInBounds_toArray, List.set_cons_zero, List.set_cons_succ]
        refine takeL (i := 8) (v := ?_) rfl (by kernel_rfl) (by kernel_rfl) (by kernel_rfl) (fun _ _ _ h => h) (Or.inl ⟨by rfl, ?_⟩) (by assumption) ?_
        rotate_left 1
        · intro w hSw; obtain ⟨s0, s1, s2⟩ := hSw; first | (go_simp; done) | (go_simp; with_reducible rfl)
        try simp only [Act.put, List.setIfInBounds_toArray, List.set_cons_zero, List.set_cons_succ]
        refine takeL (i := 9) (v := ?_) rfl (by kernel_rfl) (by kernel_rfl) (by kernel_rfl) (fun _ _ _ h => h) (Or.inl ⟨by rfl, ?_⟩) (by assumption) ?_
        rotate_left 1
        · intro w hSw; obtain ⟨s0, s1, s2⟩ := hSw; first | (go_simp; done) | (go_simp; with_reducible rfl)
        try simp only [Act.put, List.setIfInBounds_toArray, List.set_cons_zero, List.set_cons_succ]
        refine takeL (i := 10) (v := ?_) rfl (by kernel_rfl) (by kernel_rfl) (by kernel_rfl) (fun _ _ _ h => h) (Or.inl ⟨by rfl, ?_⟩) (by assumption) ?_
        rotate_left 1
        · intro w hSw; obtain ⟨s0, s1, s2⟩ := hSw; first | (go_simp; done) | (go_simp; with_reducible rfl)
        try simp only [Act.put, List.setIfInBounds_toArray, List.set_cons_zero, List.set_cons_succ]
        obtain ⟨B8, hlo8, -⟩ := RG.out.bx_ X8 rfl
        have N8 := Lib.hid (show sB ≠ X8 by have := RG.out.ord.2.2.1; omega)
        have B8H := Lib.hid B8
        obtain ⟨⟨m0, m1, m2⟩, mf⟩ := B8
        have f0 := mf 0
        have f1 := mf 1
        have f2 := mf 2
        clear mf
        refine wpAnyH_ready (rs := [12]) (by kernel_rfl) (by simp) (consL rfl (fun K hK => ?_) AllReadyH.nil)
        go_simp
        have gs : Chg [X8] we (((we.setCell ⟨X8, 0, none⟩ (.int .i64 win)).setCell ⟨X8, 1, none⟩ (.slice T1a T1n T1c)).setCell ⟨X8, 2, none⟩ (.slice E1a E1n E1c)) := (((Chg.refl [X8] we).set ⟨X8, 0, none⟩ (.int .i64 win) (by simp)).set ⟨X8, 1, none⟩ (.slice T1a T1n T1c) (by simp)).set ⟨X8, 2, none⟩ (.slice E1a E1n E1c) (by simp)
        refine hK.out _ _ ?_ (fun hHeld => ?_)
        · exact ⟨gs.cell RG.out.bb.1.1 (fun hm => N8.out (by simpa using hm)), gs.cell RG.out.bb.1.2.1 (fun hm => N8.out (by simpa using hm)), gs.cell RG.out.bb.1.2.2 (fun hm => N8.out (by simpa using hm))⟩
        clear hK K
        try simp only [Act.put, List.setIfInBounds_toArray, List.set_cons_zero, List.set_cons_succ]
        refine takeL (i := 13) (v := ?_) rfl (by kernel_rfl) (by kernel_rfl) (by kernel_rfl) (fun _ _ _ h => h) (Or.inl ⟨by rfl, ?_⟩) (by assumption) ?_
        rotate_left 1
        · intro w hSw; obtain ⟨s0, s1, s2⟩ := hSw; first | (go_simp; done) | (go_simp; with_reducible rfl)
        try simp only [Act.put, List.setIfInBounds_toArray, List.set_cons_zero, List.set_cons_succ]
        refine takeL (i := 14) (v := ?_) rfl (by kernel_rfl) (by kernel_rfl) (by kernel_rfl) (fun _ _ _ h => h) (Or.inl ⟨by rfl, ?_⟩) (by assumption) ?_
        rotate_left 1
        · intro w hSw; obtain ⟨s0, s1, s2⟩ := hSw; first | (go_simp; done) | (go_simp; with_reducible rfl)
        try simp only [Act.put, List.setIfInBounds_toArray, List.set_cons_zero, List.set_cons_succ]
        refine wpAnyH_done (by kernel_rfl) ?_ _
        go_wp2_with fail
        go_meet
        case rel => exact ⟨⟨Ga, Gn, Gc⟩, _, rfl, rfl, Lib.hid (Im.run_order HW.out.1 (Im.sok_nil win) (Im.gets_ok _)), Lib.hid (TG.out _ gs), Lib.hid (gs.grown RG.out.g (fun b hb => by rw [List.mem_singleton] at hb; have h1 := RG.out.ord; omega))⟩
    · go_simp
      have RG := Lib.hid RG.out.made
      refine hK.out _ _ ?_ (fun hHeld => ?_)
      · exact ⟨RG.out.bb.1.1, RG.out.bb.1.2.1, RG.out.bb.1.2.2⟩
      clear hK K
      try simp only [Act.put, List.setIfInBounds_toArray, List.set_cons_zero, List.set_cons_succ]
      generalize hX8 : wd0.heap.size = X8 at *
      generalize World.alloc wd0 (Obj.cells #[.int .i64 0, .slice none 0 0, .slice none 0 0] 29) = wz at *
      clear hX8
      refine wpAnyH_ready (rs := [2]) (by kernel_rfl) (by simp) (consL rfl (fun K hK => ?_) AllReadyH.nil)
      go_simp
      refine (stream_any S _ RG.out.src).mono ?_
      rintro e wa ⟨⟨O1a, O1n, O1c⟩, o1, k1, rfl, hk, hs, hr, gs, ss⟩
      have RG := Lib.hid (RG.out.stream (by omega) hk hs hr gs ss)
      clear hk hs hr gs ss
      dsimp only [Sl.v]
      try simp only [List.nil_append, List.cons_append] at RG
      refine hK.out _ _ ?_ (fun hHeld => ?_)
      · exact ⟨RG.out.bb.1.1, RG.out.bb.1.2.1, RG.out.bb.1.2.2⟩
      clear hK K
      try simp only [Act.put, List.setIfInBounds_toArray, List.set_cons_zero, List.set_cons_succ]
      refine wpAnyH_ready (rs := [4]) (by kernel_rfl) (by simp) (consL rfl (fun K hK => ?_) AllReadyH.nil)
      go_simp
      refine (stream_any S _ RG.out.src).mono ?_
      rintro e wb ⟨⟨O2a, O2n, O2c⟩, o2, k2, rfl, hk, hs, hr, gs, ss⟩
      have RG := Lib.hid (RG.out.stream (by omega) hk hs hr gs ss)
      clear hk hs hr gs ss
      dsimp only [Sl.v]
      try simp only [List.nil_append, List.cons_append] at RG
      refine hK.out _ _ ?_ (fun hHeld => ?_)
      · exact ⟨RG.out.bb.1.1, RG.out.bb.1.2.1, RG.out.bb.1.2.2⟩
      clear hK K
      try simp only [Act.put, List.setIfInBounds_toArray, List.set_cons_zero, List.set_cons_succ]
      refine wpAnyH_ready (rs := [5]) (by kernel_rfl) (by simp) (consL rfl (fun K hK => ?_) AllReadyH.nil)
      refine step_appV rfl (.tmp 25) (.tmp 27) 25 rfl (S := ⟨O1a, O1n, O1c⟩) (V := ⟨O2a, O2n, O2c⟩) Tryd.underlying25 hI hz hsz hby (by rfl) (by omega) rfl rfl (RG.out.rows_ (⟨O1a, O1n, O1c⟩, o1) (by simp)) RG.out.ord.2.2.2 ((RG.out.rows_ (⟨O2a, O2n, O2c⟩, o2) (by simp)).len) (RG.out.rows_ (⟨O2a, O2n, O2c⟩, o2) (by simp)).cr (Wr.bvs_one _) (rg_few RG.out).1 (rg_few RG.out).2 ?_
      intro r wd hrn hr gs hrb
      have RG := Lib.hid (RG.out.app rfl hrn hr gs hrb)
      clear hrn hr gs hrb
      obtain ⟨RXa, RXn, RXc⟩ := r
      dsimp only [Sl.v]
      refine hK.out _ _ ?_ (fun hHeld => ?_)
      · exact ⟨RG.out.bb.1.1, RG.out.bb.1.2.1, RG.out.bb.1.2.2⟩
      clear hK K
      try simp only [Act.put, List.setIfInBounds_toArray, List.set_cons_zero, List.set_cons_succ]
      refine wpAnyH_ready (rs := [6]) (by kernel_rfl) (by simp) (consL rfl (fun K hK => ?_) AllReadyH.nil)
      have hx8 := Lib.hid (RG.out.bx_ X8 rfl).1.lt
      have RX := RG.out.rows_ (⟨RXa, RXn, RXc⟩, o1 ++ o2) (by simp)
      have FD := Lib.hid (feed_any nilS nilS ⟨win, [], []⟩ RXa RXn RXc (o1 ++ o2) _ (kr_nil _ win) (ok_nil HW.out) (or_rb RX) RX.fit.1 RX.fit.2 (by have := RG.out.few (⟨RXa, RXn, RXc⟩, o1 ++ o2) (by simp); dsimp only at this; omega) (HT.out.grown RG.out.g))
      dsimp only [iv3, nilS, Sl.v] at FD
      clear RX
      go_simp
      refine FD.out.mono ?_
      rintro e we ⟨⟨T1a, T1n, T1c⟩, ⟨E1a, E1n, E1c⟩, ⟨Ga, Gn, Gc⟩, rfl, hk1, hn1, ht1, ge⟩
      have RG := Lib.hid (RG.out.grown ge)
      dsimp only [feedF] at ht1
      have HT1 := Lib.hid ht1
      have TG := Lib.hid (fun w' (g : Chg [X8] _ w') => TRS.now (TRS.old HT1.out g hx8.out))
      clear hk1 hn1 ht1 ge FD
      dsimp only [iv3, Sl.v, feedF]
      refine hK.out _ _ ?_ (fun hHeld => ?_)
      · exact ⟨RG.out.bb.1.1, RG.out.bb.1.2.1, RG.out.bb.1.2.2⟩
      clear hK K
      try simp only [Act.put, List.setIfInBounds_toArray, List.set_cons_zero, List.set_cons_succ]
      refine takeL (i := 7) (v := ?_) rfl (by kernel_rfl) (by kernel_rfl) (by kernel_rfl) (fun _ _ _ h => h) (Or.inl ⟨by rfl, ?_⟩) (by assumption) ?_
      rotate_left 1
      · intro w hSw; obtain ⟨s0, s1, s2⟩ := hSw; first | (go_simp; done) | (go_simp; with_reducible rfl)
      try simp only [Act.put, List.setIfInBounds_toArray, List.set_cons_zero, List.set_cons_succ]
      refine takeL (i := 8) (v := ?_) rfl (by kernel_rfl) (by kernel_rfl) (by kernel_rfl) (fun _ _ _ h => h) (Or.inl ⟨by rfl, ?_⟩) (by assumption) ?_
      rotate_left 1
      · intro w hSw; obtain ⟨s0, s1, s2⟩ := hSw; first | (go_simp; done) | (go_simp; with_reducible rfl)
      try simp only [Act.put, List.setIfInBounds_toArray, List.set_cons_zero, List.set_cons_succ]
      refine takeL (i := 9) (v := ?_) rfl (by kernel_rfl) (by kernel_rfl) (by kernel_rfl) (fun _ _ _ h => h) (Or.inl ⟨by rfl, ?_⟩) (by assumption) ?_
      rotate_left 1
      · intro w hSw; obtain ⟨s0, s1, s2⟩ := hSw; first | (go_simp; done) | (go_simp; with_reducible rfl)
      try simp only [Act.put, List.setIfInBounds_toArray, List.set_cons_zero, List.set_cons_succ]
      refine takeL (i := 10) (v := ?_) rfl (by kernel_rfl) (by kernel_rfl) (by kernel_rfl) (fun _ _ _ h => h) (Or.inl ⟨by rfl, ?_⟩) (by assumption) ?_
      rotate_left 1
      · intro w hSw; obtain ⟨s0, s1, s2⟩ := hSw; first | (go_simp; done) | (go_simp; with_reducible rfl)
      try simp only [Act.put, List.setIfInBounds_toArray, List.set_cons_zero, List.set_cons_succ]
      obtain ⟨B8, hlo8, -⟩ := RG.out.bx_ X8 rfl
      have N8 := Lib.hid (show sB ≠ X8 by have := RG.out.ord.2.2.1; omega)
      have B8H := Lib.hid B8
      obtain ⟨⟨m0, m1, m2⟩, mf⟩ := B8
      have f0 := mf 0
      have f1 := mf 1
      have f2 := mf 2
      clear mf
      refine wpAnyH_ready (rs := [12]) (by kernel_rfl) (by simp) (consL rfl (fun K hK => ?_) AllReadyH.nil)
      go_simp
      have gs : Chg [X8] we (((we.setCell ⟨X8, 0, none⟩ (.int .i64 win)).setCell ⟨X8, 1, none⟩ (.slice T1a T1n T1c)).setCell ⟨X8, 2, none⟩ (.slice E1a E1n E1c)) := (((Chg.refl [X8] we).set ⟨X8, 0, none⟩ (.int .i64 win) (by simp)).set ⟨X8, 1, none⟩ (.slice T1a T1n T1c) (by simp)).set ⟨X8, 2, none⟩ (.slice E1a E1n E1c) (by simp)
      refine hK.out _ _ ?_ (fun hHeld => ?_)
      · exact ⟨gs.cell RG.out.bb.1.1 (fun hm => N8.out (by simpa using hm)), gs.cell RG.out.bb.1.2.1 (fun hm => N8.out (by simpa using hm)), gs.cell RG.out.bb.1.2.2 (fun hm => N8.out (by simpa using hm))⟩
      clear hK K
      try simp only [Act.put, List.setIfInBounds_toArray, List.set_cons_zero, List.set_cons_succ]
      refine takeL (i := 13) (v := ?_) rfl (by kernel_rfl) (by kernel_rfl) (by kernel_rfl) (fun _ _ _ h => h) (Or.inl ⟨by rfl, ?_⟩) (by assumption) ?_
      rotate_left 1
      · intro w hSw; obtain ⟨s0, s1, s2⟩ := hSw; first | (go_simp; done) | (go_simp; with_reducible rfl)
      try simp only [Act.put, List.setIfInBounds_toArray, List.set_cons_zero, List.set_cons_succ]
      refine takeL (i := 14) (v := ?_) rfl (by kernel_rfl) (by kernel_rfl) (by kernel_rfl) (fun _ _ _ h => h) (Or.inl ⟨by rfl, ?_⟩) (by assumption) ?_
      rotate_left 1
      · intro w hSw; obtain ⟨s0, s1, s2⟩ := hSw; first | (go_simp; done) | (go_simp; with_reducible rfl)
      try simp only [Act.put, List.setIfInBounds_toArray, List.set_cons_zero, List.set_cons_succ]
      refine wpAnyH_done (by kernel_rfl) ?_ _
      go_wp2_with fail
      go_meet
      case rel => exact ⟨⟨Ga, Gn, Gc⟩, _, rfl, rfl, Lib.hid (Im.run_order HW.out.1 (Im.sok_nil win) (Im.gets_ok _)), Lib.hid (TG.out _ gs), Lib.hid (gs.grown RG.out.g (fun b hb => by rw [List.mem_singleton] at hb; have h1 := RG.out.ord; omega))⟩
  case rest =>
    obtain ⟨⟨Ga, Gn, Gc⟩, outs, rfl, rfl, PW, TG, GC⟩ := hcut
    have hgm : Gn ≤ 9223372036854775807 := by have h1 := TG.out.fit.1; have h2 := TG.out.fit.2; dsimp only at h1 h2; omega
    dsimp only [Sl.v]
    clear RG GS
    go_wp2_with fail
    go_loopw [41] (fun vi wr => ∃ i : Nat, vi = .int .i64 i ∧ i ≤ Gn ∧ Hid (wc.grownBy wr none)) (fun vi _ => Gn - (intOf vi).toNat)
    case atStart => exact ⟨0, rfl, by omega, Lib.hid (grown_refl _ _)⟩
    case round =>
      obtain ⟨i, rfl, hi, GI⟩ := hrel
      have hol : outs.length = Gn := TG.out.len
      have HOL := Lib.hid hol
      clear hol
      by_cases hlt : i < Gn
      · have hlt' : (i : Int) < (Gn : Int) := by omega
        go_wp2_with fail
        go_loopw [12] (fun vk wq => ∃ k : Nat, vk = .int .i64 k ∧ k ≤ i ∧ Hid (wc.grownBy wq none)) (fun vk _ => i - (intOf vk).toNat)
        case atStart => exact ⟨0, rfl, by omega, GI⟩
        case round =>
          obtain ⟨k, rfl, hk, GK⟩ := hrel
          by_cases hki : k < i
          · have hki' : (k : Int) < (i : Int) := by omega
            have hkg : (k : Int) < (Gn : Int) := by omega
            obtain ⟨b, off, ⟨VA, vn, vc⟩, hGa, -, hcc⟩ := (TG.out.grown GK.out).at_ k (by dsimp only; omega)
            obtain ⟨b', off', ⟨UA, un, uc⟩, hGa', -, hdd⟩ := (TG.out.grown GK.out).at_ i (by dsimp only; omega)
            dsimp only at hGa hGa'
            subst hGa
            injection hGa' with hGa'
            injection hGa' with e1 e2 _
            subst e1
            subst e2
            have PA := (List.pairwise_iff_getElem.1 PW.out) k i (by have := HOL.out; omega) (by have := HOL.out; omega) hki
            have ex : outs[k]'(by have := HOL.out; omega) = outs.getD k Tm.zero := by rw [List.getD_eq_getElem?_getD, List.getElem?_eq_getElem]; rfl
            have ey : outs[i]'(by have := HOL.out; omega) = outs.getD i Tm.zero := by rw [List.getD_eq_getElem?_getD, List.getElem?_eq_getElem]; rfl
            rw [ex, ey] at PA
            obtain ⟨c0, c1, c2, c3, c4, c5⟩ := six_of (o := off + k * 6) (fun j u hu => by rw [Nat.add_assoc]; exact hcc j u hu)
            obtain ⟨d0, d1, d2, d3, d4, d5⟩ := six_of (o := off + i * 6) (fun j u hu => by rw [Nat.add_assoc]; exact hdd j u hu)
            clear hcc hdd ex ey
            generalize outs.getD k Tm.zero = x at *
            generalize outs.getD i Tm.zero = y at *
            obtain ⟨xst, xep, xsq, xtm, xkd, xvs⟩ := x
            obtain ⟨yst, yep, ysq, ytm, ykd, yvs⟩ := y
            dsimp only [Sl.v] at PA c0 c1 c2 c3 c4 c5 d0 d1 d2 d3 d4 d5
            have gdr := Wr.grown_drew wr none
            replace c0 := gdr.cell c0 (by simp)
            replace c1 := gdr.cell c1 (by simp)
            replace c2 := gdr.cell c2 (by simp)
            replace c3 := gdr.cell c3 (by simp)
            replace c4 := gdr.cell c4 (by simp)
            replace c5 := gdr.cell c5 (by simp)
            replace d0 := gdr.cell d0 (by simp)
            replace d1 := gdr.cell d1 (by simp)
            replace d2 := gdr.cell d2 (by simp)
            replace d3 := gdr.cell d3 (by simp)
            replace d4 := gdr.cell d4 (by simp)
            replace d5 := gdr.cell d5 (by simp)
            have GK := Lib.hid (grown_trans GK.out gdr)
            clear gdr
            have PAH := Lib.hid PA
            clear PA
            go_upto_region 12 with fail
            by_cases hst : xst = yst
            · subst hst
              have HBF := Lib.hid (show Tm.before ⟨xst, xep, xsq, xtm, xkd, xvs⟩ ⟨xst, yep, ysq, ytm, ykd, yvs⟩ = true by
                have := PAH.out rfl
                unfold Im.Ahead at this
                unfold Tm.before
                simp only [decide_eq_true_eq]
                exact ⟨trivial, this⟩)
              have BF := Lib.hid (fun W => Wr.rbefore_any ⟨xst, xep, xsq, xtm, xkd, xvs⟩ ⟨xst, yep, ysq, ytm, ykd, yvs⟩ VA UA vn vc un uc W)
              rw [HBF.out] at BF
              dsimp only [tv] at BF
              refine wp_region_held_drew (S := fun w' => w'.cell? ⟨b, off + k * 6, none⟩ = some (.int .i64 xst) ∧ w'.cell? ⟨b, off + k * 6 + 1, none⟩ = some (.int .i64 xep) ∧ w'.cell? ⟨b, off + k * 6 + 2, none⟩ = some (.int .i64 xsq) ∧ w'.cell? ⟨b, off + k * 6 + 3, none⟩ = some (.int .i64 xtm) ∧ w'.cell? ⟨b, off + k * 6 + 4, none⟩ = some (.int .i64 xkd) ∧ w'.cell? ⟨b, off + k * 6 + 5, none⟩ = some (.slice VA vn vc) ∧ w'.cell? ⟨b, off + i * 6, none⟩ = some (.int .i64 xst) ∧ w'.cell? ⟨b, off + i * 6 + 1, none⟩ = some (.int .i64 yep) ∧ w'.cell? ⟨b, off + i * 6 + 2, none⟩ = some (.int .i64 ysq) ∧ w'.cell? ⟨b, off + i * 6 + 3, none⟩ = some (.int .i64 ytm) ∧ w'.cell? ⟨b, off + i * 6 + 4, none⟩ = some (.int .i64 ykd) ∧ w'.cell? ⟨b, off + i * 6 + 5, none⟩ = some (.slice UA un uc)) (by kernel_rfl) ?_ (fun hHeld => ?_)
              · exact ⟨c0, c1, c2, c3, c4, c5, d0, d1, d2, d3, d4, d5⟩
              try simp only [Act.put, List.setIfInBounds_toArray, List.set_cons_zero, List.set_cons_succ]
              generalize wr.drew = wD at *
              refine takeL (i := 0) (v := ?_) rfl (by kernel_rfl) (by kernel_rfl) (by kernel_rfl) (fun _ _ _ h => h) (Or.inl ⟨by rfl, ?_⟩) (by assumption) ?_
              rotate_left 1
              · intro w hSw; obtain ⟨c0, c1, c2, c3, c4, c5, d0, d1, d2, d3, d4, d5⟩ := hSw; first | (go_simp; done) | (go_simp; with_reducible rfl)
              try simp only [Act.put, List.setIfInBounds_toArray, List.set_cons_zero, List.set_cons_succ]
              refine takeL (i := 1) (v := ?_) rfl (by kernel_rfl) (by kernel_rfl) (by kernel_rfl) (fun _ _ _ h => h) (Or.inl ⟨by rfl, ?_⟩) (by assumption) ?_
              rotate_left 1
              · intro w hSw; obtain ⟨c0, c1, c2, c3, c4, c5, d0, d1, d2, d3, d4, d5⟩ := hSw; first | (go_simp; done) | (go_simp; with_reducible rfl)
              try simp only [Act.put, List.setIfInBounds_toArray, List.set_cons_zero, List.set_cons_succ]
              refine takeL (i := 2) (v := ?_) rfl (by kernel_rfl) (by kernel_rfl) (by kernel_rfl) (fun _ _ _ h => h) (Or.inl ⟨by rfl, ?_⟩) (by assumption) ?_
              rotate_left 1
              · intro w hSw; obtain ⟨c0, c1, c2, c3, c4, c5, d0, d1, d2, d3, d4, d5⟩ := hSw; first | (go_simp; done) | (go_simp; with_reducible rfl)
              try simp only [Act.put, List.setIfInBounds_toArray, List.set_cons_zero, List.set_cons_succ]
              refine takeL (i := 3) (v := ?_) rfl (by kernel_rfl) (by kernel_rfl) (by kernel_rfl) (fun _ _ _ h => h) (Or.inl ⟨by rfl, ?_⟩) (by assumption) ?_
              rotate_left 1
              · intro w hSw; obtain ⟨c0, c1, c2, c3, c4, c5, d0, d1, d2, d3, d4, d5⟩ := hSw; first | (go_simp; done) | (go_simp; with_reducible rfl)
              try simp only [Act.put, List.setIfInBounds_toArray, List.set_cons_zero, List.set_cons_succ]
              refine takeL (i := 4) (v := ?_) rfl (by kernel_rfl) (by kernel_rfl) (by kernel_rfl) (fun _ _ _ h => h) (Or.inl ⟨by rfl, ?_⟩) (by assumption) ?_
              rotate_left 1
              · intro w hSw; obtain ⟨c0, c1, c2, c3, c4, c5, d0, d1, d2, d3, d4, d5⟩ := hSw; first | (go_simp; done) | (go_simp; with_reducible rfl)
              try simp only [Act.put, List.setIfInBounds_toArray, List.set_cons_zero, List.set_cons_succ]
              refine takeL (i := 5) (v := ?_) rfl (by kernel_rfl) (by kernel_rfl) (by kernel_rfl) (fun _ _ _ h => h) (Or.inl ⟨by rfl, ?_⟩) (by assumption) ?_
              rotate_left 1
              · intro w hSw; obtain ⟨c0, c1, c2, c3, c4, c5, d0, d1, d2, d3, d4, d5⟩ := hSw; first | (go_simp; done) | (go_simp; with_reducible rfl)
              try simp only [Act.put, List.setIfInBounds_toArray, List.set_cons_zero, List.set_cons_succ]
              refine takeL (i := 6) (v := ?_) rfl (by kernel_rfl) (by kernel_rfl) (by kernel_rfl) (fun _ _ _ h => h) (Or.inl ⟨by rfl, ?_⟩) (by assumption) ?_
              rotate_left 1
              · intro w hSw; obtain ⟨c0, c1, c2, c3, c4, c5, d0, d1, d2, d3, d4, d5⟩ := hSw; first | (go_simp; done) | (go_simp; with_reducible rfl)
              try simp only [Act.put, List.setIfInBounds_toArray, List.set_cons_zero, List.set_cons_succ]
              refine takeL (i := 7) (v := ?_) rfl (by kernel_rfl) (by kernel_rfl) (by kernel_rfl) (fun _ _ _ h => h) (Or.inl ⟨by rfl, ?_⟩) (by assumption) ?_
              rotate_left 1
              · intro w hSw; obtain ⟨c0, c1, c2, c3, c4, c5, d0, d1, d2, d3, d4, d5⟩ := hSw; first | (go_simp; done) | (go_simp; with_reducible rfl)
              try simp only [Act.put, List.setIfInBounds_toArray, List.set_cons_zero, List.set_cons_succ]
              refine takeL (i := 8) (v := ?_) rfl (by kernel_rfl) (by kernel_rfl) (by kernel_rfl) (fun _ _ _ h => h) (Or.inl ⟨by rfl, ?_⟩) (by assumption) ?_
              rotate_left 1
              · intro w hSw; obtain ⟨c0, c1, c2, c3, c4, c5, d0, d1, d2, d3, d4, d5⟩ := hSw; first | (go_simp; done) | (go_simp; with_reducible rfl)
              try simp only [Act.put, List.setIfInBounds_toArray, List.set_cons_zero, List.set_cons_succ]
              refine takeL (i := 9) (v := ?_) rfl (by kernel_rfl) (by kernel_rfl) (by kernel_rfl) (fun _ _ _ h => h) (Or.inl ⟨by rfl, ?_⟩) (by assumption) ?_
              rotate_left 1
              · intro w hSw; obtain ⟨c0, c1, c2, c3, c4, c5, d0, d1, d2, d3, d4, d5⟩ := hSw; first | (go_simp; done) | (go_simp; with_reducible rfl)
              try simp only [Act.put, List.setIfInBounds_toArray, List.set_cons_zero, List.set_cons_succ]
              refine takeL (i := 10) (v := ?_) rfl (by kernel_rfl) (by kernel_rfl) (by kernel_rfl) (fun _ _ _ h => h) (Or.inl ⟨by rfl, ?_⟩) (by assumption) ?_
              rotate_left 1
              · intro w hSw; obtain ⟨c0, c1, c2, c3, c4, c5, d0, d1, d2, d3, d4, d5⟩ := hSw; first | (go_simp; done) | (go_simp; with_reducible rfl)
              try simp only [Act.put, List.setIfInBounds_toArray, List.set_cons_zero, List.set_cons_succ]
              refine takeL (i := 11) (v := ?_) rfl (by kernel_rfl) (by kernel_rfl) (by kernel_rfl) (fun _ _ _ h => h) (Or.inl ⟨by rfl, ?_⟩) (by assumption) ?_
              rotate_left 1
              · intro w hSw; obtain ⟨c0, c1, c2, c3, c4, c5, d0, d1, d2, d3, d4, d5⟩ := hSw; first | (go_simp; done) | (go_simp; with_reducible rfl)
              try simp only [Act.put, List.setIfInBounds_toArray, List.set_cons_zero, List.set_cons_succ]
              refine takeL (i := 12) (v := ?_) rfl (by kernel_rfl) (by kernel_rfl) (by kernel_rfl) (fun _ _ _ h => h) (Or.inl ⟨by rfl, ?_⟩) (by assumption) ?_
              rotate_left 1
              · intro w hSw; obtain ⟨c0, c1, c2, c3, c4, c5, d0, d1, d2, d3, d4, d5⟩ := hSw; first | (go_simp; done) | (go_simp; with_reducible rfl)
              try simp only [Act.put, List.setIfInBounds_toArray, List.set_cons_zero, List.set_cons_succ]
              refine takeL (i := 13) (v := ?_) rfl (by kernel_rfl) (by kernel_rfl) (by kernel_rfl) (fun _ _ _ h => h) (Or.inl ⟨by rfl, ?_⟩) (by assumption) ?_
              rotate_left 1
              · intro w hSw; obtain ⟨c0, c1, c2, c3, c4, c5, d0, d1, d2, d3, d4, d5⟩ := hSw; first | (go_simp; done) | (go_simp; with_reducible rfl)
              try simp only [Act.put, List.setIfInBounds_toArray, List.set_cons_zero, List.set_cons_succ]
              refine takeL (i := 14) (v := ?_) rfl (by kernel_rfl) (by kernel_rfl) (by kernel_rfl) (fun _ _ _ h => h) (Or.inl ⟨by rfl, ?_⟩) (by assumption) ?_
              rotate_left 1
              · intro w hSw; obtain ⟨c0, c1, c2, c3, c4, c5, d0, d1, d2, d3, d4, d5⟩ := hSw; first | (go_simp; done) | (go_simp; with_reducible rfl)
              try simp only [Act.put, List.setIfInBounds_toArray, List.set_cons_zero, List.set_cons_succ]
              refine takeL (i := 15) (v := ?_) rfl (by kernel_rfl) (by kernel_rfl) (by kernel_rfl) (fun _ _ _ h => h) (Or.inl ⟨by rfl, ?_⟩) (by assumption) ?_
              rotate_left 1
              · intro w hSw; obtain ⟨c0, c1, c2, c3, c4, c5, d0, d1, d2, d3, d4, d5⟩ := hSw; first | (go_simp; done) | (go_simp; with_reducible rfl)
              try simp only [Act.put, List.setIfInBounds_toArray, List.set_cons_zero, List.set_cons_succ]
              refine takeL (i := 16) (v := ?_) rfl (by kernel_rfl) (by kernel_rfl) (by kernel_rfl) (fun _ _ _ h => h) (Or.inl ⟨by rfl, ?_⟩) (by assumption) ?_
              rotate_left 1
              · intro w hSw; obtain ⟨c0, c1, c2, c3, c4, c5, d0, d1, d2, d3, d4, d5⟩ := hSw; first | (go_simp; done) | (go_simp; with_reducible rfl)
              try simp only [Act.put, List.setIfInBounds_toArray, List.set_cons_zero, List.set_cons_succ]
              refine takeL (i := 17) (v := ?_) rfl (by kernel_rfl) (by kernel_rfl) (by kernel_rfl) (fun _ _ _ h => h) (Or.inl ⟨by rfl, ?_⟩) (by assumption) ?_
              rotate_left 1
              · intro w hSw; obtain ⟨c0, c1, c2, c3, c4, c5, d0, d1, d2, d3, d4, d5⟩ := hSw; first | (go_simp; done) | (go_simp; with_reducible rfl)
              try simp only [Act.put, List.setIfInBounds_toArray, List.set_cons_zero, List.set_cons_succ]
              refine takeL (i := 18) (v := ?_) rfl (by kernel_rfl) (by kernel_rfl) (by kernel_rfl) (fun _ _ _ h => h) (Or.inl ⟨by rfl, ?_⟩) (by assumption) ?_
              rotate_left 1
              · intro w hSw; obtain ⟨c0, c1, c2, c3, c4, c5, d0, d1, d2, d3, d4, d5⟩ := hSw; first | (go_simp; done) | (go_simp; with_reducible rfl)
              try simp only [Act.put, List.setIfInBounds_toArray, List.set_cons_zero, List.set_cons_succ]
              refine takeL (i := 19) (v := ?_) rfl (by kernel_rfl) (by kernel_rfl) (by kernel_rfl) (fun _ _ _ h => h) (Or.inl ⟨by rfl, ?_⟩) (by assumption) ?_
              rotate_left 1
              · intro w hSw; obtain ⟨c0, c1, c2, c3, c4, c5, d0, d1, d2, d3, d4, d5⟩ := hSw; first | (go_simp; done) | (go_simp; with_reducible rfl)
              try simp only [Act.put, List.setIfInBounds_toArray, List.set_cons_zero, List.set_cons_succ]
              refine wpAnyH_ready (rs := [20]) (by kernel_rfl) (by simp) (consL rfl (fun K hK => ?_) AllReadyH.nil)
              go_simp
              refine (BF.out _).mono ?_
              rintro e wb ⟨rfl, gb⟩
              have GB := Lib.hid (grown_trans GK.out gb)
              refine hK.out _ _ ?_ (fun hHeld => ?_)
              · exact ⟨gb.cell c0 (by simp), gb.cell c1 (by simp), gb.cell c2 (by simp), gb.cell c3 (by simp), gb.cell c4 (by simp), gb.cell c5 (by simp), gb.cell d0 (by simp), gb.cell d1 (by simp), gb.cell d2 (by simp), gb.cell d3 (by simp), gb.cell d4 (by simp), gb.cell d5 (by simp)⟩
              clear hK K
              try simp only [Act.put, List.setIfInBounds_toArray, List.set_cons_zero, List.set_cons_succ]
              refine takeL (i := 21) (v := ?_) rfl (by kernel_rfl) (by kernel_rfl) (by kernel_rfl) (fun _ _ _ h => h) (Or.inl ⟨by rfl, ?_⟩) (by assumption) ?_
              rotate_left 1
              · intro w hSw; obtain ⟨c0, c1, c2, c3, c4, c5, d0, d1, d2, d3, d4, d5⟩ := hSw; first | (go_simp; done) | (go_simp; with_reducible rfl)
              try simp only [Act.put, List.setIfInBounds_toArray, List.set_cons_zero, List.set_cons_succ]
              refine takeL (i := 22) (v := ?_) rfl (by kernel_rfl) (by kernel_rfl) (by kernel_rfl) (fun _ _ _ h => h) (Or.inl ⟨by rfl, ?_⟩) (by assumption) ?_
              rotate_left 1
              · intro w hSw; obtain ⟨c0, c1, c2, c3, c4, c5, d0, d1, d2, d3, d4, d5⟩ := hSw; first | (go_simp; done) | (go_simp; with_reducible rfl)
              try simp only [Act.put, List.setIfInBounds_toArray, List.set_cons_zero, List.set_cons_succ]
              refine wpAnyH_done (by kernel_rfl) ?_ _
              go_wp2
              go_roundw
              case rel => exact ⟨k + 1, by go_num, by omega, GB⟩
              case measure => simp [intOf]; omega
            · have hsb : (xst == yst) = false := by simp [hst]
              refine wp_region_held_drew (S := fun w' => w'.cell? ⟨b, off + k * 6, none⟩ = some (.int .i64 xst) ∧ w'.cell? ⟨b, off + k * 6 + 1, none⟩ = some (.int .i64 xep) ∧ w'.cell? ⟨b, off + k * 6 + 2, none⟩ = some (.int .i64 xsq) ∧ w'.cell? ⟨b, off + k * 6 + 3, none⟩ = some (.int .i64 xtm) ∧ w'.cell? ⟨b, off + k * 6 + 4, none⟩ = some (.int .i64 xkd) ∧ w'.cell? ⟨b, off + k * 6 + 5, none⟩ = some (.slice VA vn vc) ∧ w'.cell? ⟨b, off + i * 6, none⟩ = some (.int .i64 yst) ∧ w'.cell? ⟨b, off + i * 6 + 1, none⟩ = some (.int .i64 yep) ∧ w'.cell? ⟨b, off + i * 6 + 2, none⟩ = some (.int .i64 ysq) ∧ w'.cell? ⟨b, off + i * 6 + 3, none⟩ = some (.int .i64 ytm) ∧ w'.cell? ⟨b, off + i * 6 + 4, none⟩ = some (.int .i64 ykd) ∧ w'.cell? ⟨b, off + i * 6 + 5, none⟩ = some (.slice UA un uc)) (by kernel_rfl) ?_ (fun hHeld => ?_)
              · exact ⟨c0, c1, c2, c3, c4, c5, d0, d1, d2, d3, d4, d5⟩
              try simp only [Act.put, List.setIfInBounds_toArray, List.set_cons_zero, List.set_cons_succ]
              generalize wr.drew = wD at *
              refine takeL (i := 0) (v := ?_) rfl (by kernel_rfl) (by kernel_rfl) (by kernel_rfl) (fun _ _ _ h => h) (Or.inl ⟨by rfl, ?_⟩) (by assumption) ?_
              rotate_left 1
              · intro w hSw; obtain ⟨c0, c1, c2, c3, c4, c5, d0, d1, d2, d3, d4, d5⟩ := hSw; first | (go_simp; done) | (go_simp; with_reducible rfl)
              try simp only [Act.put, List.setIfInBounds_toArray, List.set_cons_zero, List.set_cons_succ]
              refine takeL (i := 1) (v := ?_) rfl (by kernel_rfl) (by kernel_rfl) (by kernel_rfl) (fun _ _ _ h => h) (Or.inl ⟨by rfl, ?_⟩) (by assumption) ?_
              rotate_left 1
              · intro w hSw; obtain ⟨c0, c1, c2, c3, c4, c5, d0, d1, d2, d3, d4, d5⟩ := hSw; first | (go_simp; done) | (go_simp; with_reducible rfl)
              try simp only [Act.put, List.setIfInBounds_toArray, List.set_cons_zero, List.set_cons_succ]
              refine takeL (i := 2) (v := ?_) rfl (by kernel_rfl) (by kernel_rfl) (by kernel_rfl) (fun _ _ _ h => h) (Or.inl ⟨by rfl, ?_⟩) (by assumption) ?_
              rotate_left 1
              · intro w hSw; obtain ⟨c0, c1, c2, c3, c4, c5, d0, d1, d2, d3, d4, d5⟩ := hSw; first | (go_simp; done) | (go_simp; with_reducible rfl)
              try simp only [Act.put, List.setIfInBounds_toArray, List.set_cons_zero, List.set_cons_succ]
              refine takeL (i := 3) (v := ?_) rfl (by kernel_rfl) (by kernel_rfl) (by kernel_rfl) (fun _ _ _ h => h) (Or.inl ⟨by rfl, ?_⟩) (by assumption) ?_
              rotate_left 1
              · intro w hSw; obtain ⟨c0, c1, c2, c3, c4, c5, d0, d1, d2, d3, d4, d5⟩ := hSw; first | (go_simp; done) | (go_simp; with_reducible rfl)
              try simp only [Act.put, List.setIfInBounds_toArray, List.set_cons_zero, List.set_cons_succ]
              refine takeL (i := 4) (v := ?_) rfl (by kernel_rfl) (by kernel_rfl) (by kernel_rfl) (fun _ _ _ h => h) (Or.inl ⟨by rfl, ?_⟩) (by assumption) ?_
              rotate_left 1
              · intro w hSw; obtain ⟨c0, c1, c2, c3, c4, c5, d0, d1, d2, d3, d4, d5⟩ := hSw; first | (go_simp; done) | (go_simp; with_reducible rfl)
              try simp only [Act.put, List.setIfInBounds_toArray, List.set_cons_zero, List.set_cons_succ]
              refine takeL (i := 5) (v := ?_) rfl (by kernel_rfl) (by kernel_rfl) (by kernel_rfl) (fun _ _ _ h => h) (Or.inl ⟨by rfl, ?_⟩) (by assumption) ?_
              rotate_left 1
              · intro w hSw; obtain ⟨c0, c1, c2, c3, c4, c5, d0, d1, d2, d3, d4, d5⟩ := hSw; first | (go_simp; done) | (go_simp; with_reducible rfl)
              try simp only [Act.put, List.setIfInBounds_toArray, List.set_cons_zero, List.set_cons_succ]
              refine takeL (i := 6) (v := ?_) rfl (by kernel_rfl) (by kernel_rfl) (by kernel_rfl) (fun _ _ _ h => h) (Or.inl ⟨by rfl, ?_⟩) (by assumption) ?_
              rotate_left 1
              · intro w hSw; obtain ⟨c0, c1, c2, c3, c4, c5, d0, d1, d2, d3, d4, d5⟩ := hSw; first | (go_simp; done) | (go_simp; with_reducible rfl)
              try simp only [Act.put, List.setIfInBounds_toArray, List.set_cons_zero, List.set_cons_succ]
              refine takeL (i := 7) (v := ?_) rfl (by kernel_rfl) (by kernel_rfl) (by kernel_rfl) (fun _ _ _ h => h) (Or.inl ⟨by rfl, ?_⟩) (by assumption) ?_
              rotate_left 1
              · intro w hSw; obtain ⟨c0, c1, c2, c3, c4, c5, d0, d1, d2, d3, d4, d5⟩ := hSw; first | (go_simp; done) | (go_simp; with_reducible rfl)
              try simp only [Act.put, List.setIfInBounds_toArray, List.set_cons_zero, List.set_cons_succ]
              refine takeL (i := 8) (v := ?_) rfl (by kernel_rfl) (by kernel_rfl) (by kernel_rfl) (fun _ _ _ h => h) (Or.inl ⟨by rfl, ?_⟩) (by assumption) ?_
              rotate_left 1
              · intro w hSw; obtain ⟨c0, c1, c2, c3, c4, c5, d0, d1, d2, d3, d4, d5⟩ := hSw; first | (go_simp; done) | (go_simp; with_reducible rfl)
              try simp only [Act.put, List.setIfInBounds_toArray, List.set_cons_zero, List.set_cons_succ]
              refine takeL (i := 9) (v := ?_) rfl (by kernel_rfl) (by kernel_rfl) (by kernel_rfl) (fun _ _ _ h => h) (Or.inl ⟨by rfl, ?_⟩) (by assumption) ?_
              rotate_left 1
              · intro w hSw; obtain ⟨c0, c1, c2, c3, c4, c5, d0, d1, d2, d3, d4, d5⟩ := hSw; first | (go_simp; done) | (go_simp; with_reducible rfl)
              try simp only [Act.put, List.setIfInBounds_toArray, List.set_cons_zero, List.set_cons_succ]
              refine takeL (i := 10) (v := ?_) rfl (by kernel_rfl) (by kernel_rfl) (by kernel_rfl) (fun _ _ _ h => h) (Or.inl ⟨by rfl, ?_⟩) (by assumption) ?_
              rotate_left 1
              · intro w hSw; obtain ⟨c0, c1, c2, c3, c4, c5, d0, d1, d2, d3, d4, d5⟩ := hSw; first | (go_simp; done) | (go_simp; with_reducible rfl)
              try simp only [Act.put, List.setIfInBounds_toArray, List.set_cons_zero, List.set_cons_succ]
              refine takeL (i := 11) (v := ?_) rfl (by kernel_rfl) (by kernel_rfl) (by kernel_rfl) (fun _ _ _ h => h) (Or.inl ⟨by rfl, ?_⟩) (by assumption) ?_
              rotate_left 1
              · intro w hSw; obtain ⟨c0, c1, c2, c3, c4, c5, d0, d1, d2, d3, d4, d5⟩ := hSw; first | (go_simp; done) | (go_simp; with_reducible rfl)
              try simp only [Act.put, List.setIfInBounds_toArray, List.set_cons_zero, List.set_cons_succ]
              refine takeL (i := 12) (v := undef) rfl (by kernel_rfl) (by kernel_rfl) (by kernel_rfl) (fun _ _ _ h => h) (Or.inr ⟨by rfl, rfl⟩) (by assumption) ?_
              try simp only [Act.put, List.setIfInBounds_toArray, List.set_cons_zero, List.set_cons_succ]
              refine takeL (i := 13) (v := undef) rfl (by kernel_rfl) (by kernel_rfl) (by kernel_rfl) (fun _ _ _ h => h) (Or.inr ⟨by rfl, rfl⟩) (by assumption) ?_
              try simp only [Act.put, List.setIfInBounds_toArray, List.set_cons_zero, List.set_cons_succ]
              refine takeL (i := 14) (v := undef) rfl (by kernel_rfl) (by kernel_rfl) (by kernel_rfl) (fun _ _ _ h => h) (Or.inr ⟨by rfl, rfl⟩) (by assumption) ?_
              try simp only [Act.put, List.setIfInBounds_toArray, List.set_cons_zero, List.set_cons_succ]
              refine takeL (i := 15) (v := undef) rfl (by kernel_rfl) (by kernel_rfl) (by kernel_rfl) (fun _ _ _ h => h) (Or.inr ⟨by rfl, rfl⟩) (by assumption) ?_
              try simp only [Act.put, List.setIfInBounds_toArray, List.set_cons_zero, List.set_cons_succ]
              refine takeL (i := 16) (v := undef) rfl (by kernel_rfl) (by kernel_rfl) (by kernel_rfl) (fun _ _ _ h => h) (Or.inr ⟨by rfl, rfl⟩) (by assumption) ?_
              try simp only [Act.put, List.setIfInBounds_toArray, List.set_cons_zero, List.set_cons_succ]
              refine takeL (i := 17) (v := undef) rfl (by kernel_rfl) (by kernel_rfl) (by kernel_rfl) (fun _ _ _ h => h) (Or.inr ⟨by rfl, rfl⟩) (by assumption) ?_
              try simp only [Act.put, List.setIfInBounds_toArray, List.set_cons_zero, List.set_cons_succ]
              refine takeL (i := 18) (v := undef) rfl (by kernel_rfl) (by kernel_rfl) (by kernel_rfl) (fun _ _ _ h => h) (Or.inr ⟨by rfl, rfl⟩) (by assumption) ?_
              try simp only [Act.put, List.setIfInBounds_toArray, List.set_cons_zero, List.set_cons_succ]
              refine takeL (i := 19) (v := undef) rfl (by kernel_rfl) (by kernel_rfl) (by kernel_rfl) (fun _ _ _ h => h) (Or.inr ⟨by rfl, rfl⟩) (by assumption) ?_
              try simp only [Act.put, List.setIfInBounds_toArray, List.set_cons_zero, List.set_cons_succ]
              refine takeL (i := 20) (v := undef) rfl (by kernel_rfl) (by kernel_rfl) (by kernel_rfl) (fun _ _ _ h => h) (Or.inr ⟨by rfl, rfl⟩) (by assumption) ?_
              try simp only [Act.put, List.setIfInBounds_toArray, List.set_cons_zero, List.set_cons_succ]
              refine takeL (i := 21) (v := undef) rfl (by kernel_rfl) (by kernel_rfl) (by kernel_rfl) (fun _ _ _ h => h) (Or.inr ⟨by rfl, rfl⟩) (by assumption) ?_
              try simp only [Act.put, List.setIfInBounds_toArray, List.set_cons_zero, List.set_cons_succ]
              refine takeL (i := 22) (v := ?_) rfl (by kernel_rfl) (by kernel_rfl) (by kernel_rfl) (fun _ _ _ h => h) (Or.inl ⟨by rfl, ?_⟩) (by assumption) ?_
              rotate_left 1
              · intro w hSw; obtain ⟨c0, c1, c2, c3, c4, c5, d0, d1, d2, d3, d4, d5⟩ := hSw; first | (go_simp; done) | (go_simp; with_reducible rfl)
              try simp only [Act.put, List.setIfInBounds_toArray, List.set_cons_zero, List.set_cons_succ]
              refine wpAnyH_done (by kernel_rfl) ?_ _
              go_wp2
              go_roundw
              case rel => exact ⟨k + 1, by go_num, by omega, GK⟩
              case measure => simp [intOf]; omega
          · obtain rfl : k = i := by omega
            go_wp2
            go_roundw
            case rel => exact ⟨k + 1, by go_num, by omega, GK⟩
            case measure => simp [intOf]; omega
      · obtain rfl : i = Gn := by omega
        go_wp2_with fail
        refine (awake_any wr).mono ?_
        rintro e w8 ⟨rfl, g8⟩
        have G8 := Lib.hid (grown_trans GC.out (grown_trans GI.out g8))
        clear g8
        go_wp2
        go_ret
        exact ret_mk rfl G8.out
end Go.Proofs.YticmoaebegahgaaDoor.Iw
