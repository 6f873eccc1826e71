import Derived.Test.YticmoaebegahgaaGreatDoorKs
import Derived.Test.YticmoaebegahgaaGreatDoorRu
set_option linter.all false
namespace Go.Proofs.YticmoaebegahgaaGreatDoor.Iw
open Go.ChangeShapes Go.WideShapes Go.ChangeAt Go.RowKit
open Wr (IR RB iv ivs bv bvs grown_trans grown_refl grown_alloc ret_int ret_bool tv Ret ret_mk)
theorem rgets_one {l : List UInt8} {t : Tm.Tg} {er : Int} (h : Tm.Dc l t er) : Im.gets [l] = if er = 0 then [t] else [] := by
  unfold Im.gets
  rw [List.filterMap_cons, Im.dec_dc h]
  by_cases e : er = 0 <;> simp [e]
theorem gets_take (fs : List (List UInt8)) (j : Nat) : (Im.gets (fs.take j)).length ≤ (Im.gets fs).length := by
  have := Im.gets_append (fs.take j) (fs.drop j)
  rw [List.take_append_drop] at this
  rw [this, List.length_append]
  omega
theorem or_rb2 {base : Nat} {w : World} {s : Sl} {l : List UInt8} (h : OR base w 5 1 s (bvs l)) : RB w s.a s.n l := rbCR h.cr (by have := h.len; rw [Wr.bvs_len] at this; omega)
theorem rl_of {base : Nat} {w : World} {L : List Nat} {s : Sl} {l : List UInt8} (h : OR base w 5 1 s (bvs l)) (hL : ∀ b ∈ L, b < base) : RL w L s.a s.n l :=
  ⟨or_rb2 h, fun x hx _ hm => by have h1 := (h.blk x.block (by rw [Sl.blk, hx]; rfl)).1; have h2 := hL _ hm; omega⟩
theorem scan_lens (l : List UInt8) : ∀ c : Option (List UInt8), ∀ f ∈ (Im.scan c l).out, f.length ≤ (c.getD []).length + l.length := by
  induction l with
  | nil => intro c f hf; simp [Im.scan, Im.fscan] at hf
  | cons x t ih =>
    intro c f hf
    have key : Im.scan c (x :: t) = ⟨(Im.fstep ⟨[], c⟩ x).out ++ (Im.scan (Im.fstep ⟨[], c⟩ x).cur t).out, (Im.scan (Im.fstep ⟨[], c⟩ x).cur t).cur⟩ := by
      show Im.fscan (Im.fstep ⟨[], c⟩ x) t = _
      exact Im.fscan_out _ _ _
    rw [key] at hf
    have hs : (∀ g ∈ (Im.fstep ⟨[], c⟩ x).out, g.length ≤ (c.getD []).length + 1) ∧ ((Im.fstep ⟨[], c⟩ x).cur.getD []).length ≤ (c.getD []).length + 1 := by
      unfold Im.fstep
      by_cases e : x = 126
      · rw [if_pos e]; simp
      · rw [if_neg e]
        by_cases e2 : x = 124
        · rw [if_pos e2]
          cases c <;> simp
        · rw [if_neg e2]
          cases c <;> simp
    rcases List.mem_append.1 hf with hf | hf
    · have := hs.1 f hf; simp only [List.length_cons]; omega
    · have := ih _ f hf; have := hs.2; simp only [List.length_cons]; omega
theorem rrun_len {win : Int} (hw : 0 ≤ win ∧ win ≤ 16) (l : List Tm.Tg) : ∀ s, Im.SOk win s → (∀ t ∈ l, t.ok = true) → (Im.run win s l).2.length ≤ 17 * l.length := by
  induction l with
  | nil => intro s _ _; simp [Im.run]
  | cons t r ih =>
    intro s hs ha
    have ht := ha t (by simp)
    show ((Im.acc win s t).2 ++ (Im.run win (Im.acc win s t).1 r).2).length ≤ _
    rw [List.length_append, List.length_cons]
    rcases Im.acc_spec hw.1 hs ht with ⟨_, _, e⟩ | ⟨_, h, h2, _⟩
    · rw [e]
      have := ih s hs (fun x hx => ha x (by simp [hx]))
      simp only [List.length_nil]
      omega
    · have h3 := ih _ h (fun x hx => ha x (by simp [hx]))
      have h4 := take_len win ((Im.ent s t.st).getD (Im.new t)) t
      have h5 := (Im.ent_ok hw.1 hs ht).1.len
      rw [h2]
      omega
theorem scan_count (l : List UInt8) : ∀ c : Option (List UInt8), ((Im.scan c l).out).length ≤ l.length := by
  induction l with
  | nil => intro c; simp [Im.scan, Im.fscan]
  | cons x r ih =>
    intro c
    unfold Im.scan
    rw [Im.fscan_cons, show Im.fstep ⟨[], c⟩ x = ⟨(Im.fstep ⟨[], c⟩ x).out, (Im.fstep ⟨[], c⟩ x).cur⟩ from rfl, Im.fscan_out]
    have h1 := ih (Im.fstep ⟨[], c⟩ x).cur
    have h2 : (Im.fstep ⟨[], c⟩ x).out.length ≤ 1 := by
      unfold Im.fstep
      split
      · simp
      · split
        · cases c <;> simp
        · simp
    simp only [List.length_append, List.length_cons]
    omega
theorem gets_few (fs : List (List UInt8)) : (Im.gets fs).length ≤ fs.length := List.length_filterMap_le _ _
noncomputable def rfeedF (k : Ik) (b : List UInt8) : Ik × List Tm.Tg := (⟨k.win, (Im.feed k.win k.tail k.es b).1, (Im.feed k.win k.tail k.es b).2.1⟩, (Im.feed k.win k.tail k.es b).2.2)
def RFe (L : List Nat) (r : Ik × List Tm.Tg) (w : World) (e : Ending) (w' : World) : Prop :=
  ∃ T' E' G : Sl, e = .returned (.tuple #[iv3 r.1.win T' E', G.v, .int .i64 0]) ∧ KA w' L T' E' r.1 ∧ TR w' G r.2 ∧ w.grownBy w' none
set_option maxRecDepth 100000 in
set_option maxHeartbeats 8000000 in
theorem rfeed_room (L : List Nat) (T E : Sl) (k : Ik) (A : Option Addr) (n c : Nat) (b : List UInt8) (w : World) (hL : ∀ b ∈ L, b < w.heap.size) (hk : KA w L T E k) (ho : k.ok = true) (hb : RB w A n b) (hc : n ≤ c) (hc2 : c ≤ 9223372036854775807) (hn : n ≤ 300000) :
    Calls Tryz.prog 21 #[iv3 k.win T E, .slice A n c] w (RFe L (rfeedF k b) w) := by
  have HK := Hi hk
  have HLL := Hi hL
  have HO := Hi ho
  have HB := Hi hb
  have HOK := Hi (Ik.ok_iff.1 ho)
  have HRM := Hi (show (Im.gets (Im.scan (Im.ofTail k.tail) b).out).length ≤ 300000 by
    have h1 := gets_few (Im.scan (Im.ofTail k.tail) b).out
    have h2 := scan_count b (Im.ofTail k.tail)
    have h3 := hb.1
    omega)
  clear hk ho hb hL
  obtain ⟨win, tl, es⟩ := k
  obtain ⟨Ta, Tn, Tc⟩ := T
  obtain ⟨Ea, En, Ec⟩ := E
  dsimp only at HRM HOK
  have htl : tl.length = Tn := HK.out.tl.1.1
  have ht4 : Tn ≤ 400 := by have := HOK.out.2.1; omega
  obtain ⟨IB, hIB, hzB, hszB, hbyB⟩ := parts_b
  dsimp only [iv3, Sl.v]
  obtain ⟨X, hX⟩ : ∃ X, X = w.heap.size := ⟨_, rfl⟩
  obtain ⟨w1, hw1⟩ : ∃ w1, w1 = w.alloc (Obj.cells #[.int .i64 win, .slice Ta Tn Tc, .slice Ea En Ec] 25) := ⟨_, rfl⟩
  obtain ⟨w2, hw2⟩ : ∃ w2, w2 = w1.alloc (Obj.cells #[.int .i64 0, .slice none 0 0, .slice none 0 0] 25) := ⟨_, rfl⟩
  have z1 : w1.heap.size = X + 1 := by subst hw1; subst hX; simp
  have z2 : w2.heap.size = X + 2 := by subst hw2; simp [z1]
  have g1 : w.grownBy w1 none := by subst hw1; exact grown_alloc _ _ _
  have g2 : w1.grownBy w2 none := by subst hw2; exact grown_alloc _ _ _
  have G := Hi (grown_trans g1 g2)
  have BX := Hi (show Tri w2 X (.int .i64 win) (.slice Ta Tn Tc) (.slice Ea En Ec) from (show Tri w1 X _ _ _ by subst hw1; subst hX; exact tri_made _ _ _ _ _).grown g2)
  have BZ := Hi (show Tri w2 (X + 1) (.int .i64 0) (.slice none 0 0) (.slice none 0 0) by subst hw2; rw [← z1]; exact tri_made _ _ _ _ _)
  have HZX := Hi (show w2.heap.size = X + 2 ∧ w.heap.size = X from ⟨z2, hX.symm⟩)
  have HK2 := Hi (HK.out.kr.grown G.out)
  have HELL := Hi HK.out.es
  have HVD := Hi (rvalid_ok ⟨Ta, Tn, Tc⟩ ⟨Ea, En, Ec⟩ ⟨win, tl, es⟩ w2 HK2.out HO.out)
  dsimp only [iv3, Sl.v] at HVD
  go_enter Tryz.func21, Tryz.ntmps21
  go_upto_region 1 with fail
  rw [← hw1, ← hw2]
  simp only [← hX]
  try simp only [z1]
  clear hX hw1 hw2 g1 g2 z1 z2 HK
  obtain ⟨⟨c0, c1, c2⟩, -⟩ := BX.out
  go_wp2_with fail
  refine HVD.out.mono ?_
  rintro e w3 ⟨rfl, g3⟩
  clear HVD c0 c1 c2
  have G := Hi (grown_trans G.out g3)
  have BX := Hi (BX.out.grown g3)
  have BZ := Hi (BZ.out.grown g3)
  have HK2 := Hi (HK2.out.grown g3)
  have HSZ := Hi (show X + 2 ≤ w3.heap.size by have h1 := g3.size; have h2 := HZX.out.1; omega)
  clear g3
  obtain ⟨wl, hwl⟩ : ∃ z, z = w3.alloc (Obj.cells #[] 5) := ⟨_, rfl⟩
  obtain ⟨bq, hbq⟩ : ∃ b, b = w3.heap.size := ⟨_, rfl⟩
  have gl : w3.grownBy wl none := by subst hwl; exact grown_alloc _ _ _
  have R0 := Hi (show OR bq wl 5 1 ⟨some ⟨bq, 0, none⟩, 0, 0⟩ [] from by subst hwl; subst hbq; exact or_lit0b w3)
  have HCT := Hi (show CR wl ⟨Ta, Tn, Tc⟩ (bvs tl) from crRB (HK2.out.grown gl).tl)
  have HLT := Hi (show (bvs tl).length = Tn * 1 by rw [Wr.bvs_len]; omega)
  have HCB := Hi (show CR wl ⟨A, n, c⟩ (bvs b) from crRB (HB.out.grown (grown_trans G.out gl)))
  have HLB := Hi (show (bvs b).length = n * 1 by rw [Wr.bvs_len]; have := HB.out.1; omega)
  have HBQ := Hi (show bq ≤ wl.heap.size by rw [hbq]; exact gl.size)
  have HBW := Hi (show w3.heap.size = bq from hbq.symm)
  have Gl := Hi (grown_trans G.out gl)
  have BXl := Hi (BX.out.grown gl)
  have BZl := Hi (BZ.out.grown gl)
  have HKl := Hi (HK2.out.grown gl)
  clear gl
  rw [hwl, hbq] at R0 HBQ
  rw [hwl] at HCT
  have BXa := BXl.out
  rw [hwl] at BXa
  obtain ⟨⟨c0, c1, c2⟩, -⟩ := BXa
  go_wp2_with (first
    | (at_builtin
       refine wpList_appV rfl (.tmp 21) (.tmp 23) 22 rfl (S := ⟨some ⟨w3.heap.size, 0, none⟩, 0, 0⟩) (V := ⟨Ta, Tn, Tc⟩) Tryz.underlying22 hIB hzB hszB hbyB (by rfl) (by omega) rfl rfl R0.out HBQ.out HLT.out HCT.out (Wr.bvs_one _) (by dsimp only; omega) (by dsimp only; omega) ?_
       intro f w5 hfn hf gf hfb
       rw [← hwl, ← hbq] at gf
       rw [← hwl, ← hbq] at hfb
       rw [← hbq] at hf
       have cf : Chg [bq] wl w5 := Chg.of gf (fun b hb => by injection hb with hb; subst hb; exact List.mem_singleton_self _)
       have F5 := Hi (show OR bq w5 5 1 f (bvs tl) from hf)
       have FN := Hi (show f.n = Tn by rw [hfn]; dsimp only; omega)
       have HN5 := Hi (show ∀ b, b < bq → b ∉ [bq] from fun b hb hm => by rw [List.mem_singleton] at hm; omega)
       have hbw := HBW.out
       have hsz := HSZ.out
       have G5 := Hi (cf.grown Gl.out (fun b hb => by rw [List.mem_singleton] at hb; have := HZX.out.2; omega))
       have GQ5 := Hi (show w3.grownBy w5 none from cf.grown (by rw [hwl]; exact grown_alloc _ _ _) (fun b hb => by rw [List.mem_singleton] at hb; omega))
       have HQ5 := Hi (show bq ≤ w5.heap.size by have := GQ5.out.size; omega)
       have HC5 := Hi (show CR w5 ⟨A, n, c⟩ (bvs b) from crRB (HB.out.grown G5.out))
       clear hfn hf gf hfb cf hbw hsz
       obtain ⟨fa, fn, fc⟩ := f
       dsimp only [Sl.v] at FN ⊢)
    | (at_builtin
       refine wpList_appV rfl (.tmp 24) (.tmp 25) 22 rfl (S := ⟨fa, fn, fc⟩) (V := ⟨A, n, c⟩) Tryz.underlying22 hIB hzB hszB hbyB (by rfl) (by omega) rfl rfl F5.out HQ5.out HLB.out HC5.out (Wr.bvs_one _) (by have := FN.out; dsimp only; omega) (by have := FN.out; dsimp only; omega) ?_
       intro r w6 hrn hr gr hrb
       have cr6 : Chg (Sl.blk ⟨fa, fn, fc⟩).toList w5 w6 := Chg.of gr (fun b hb => by simpa using hb)
       have hbw := HBW.out
       have hsz := HSZ.out
       have G6 := Hi (cr6.grown GQ5.out (fun b hb => by have := (F5.out.blk b (by simpa using hb)).1; omega))
       have R6 := Hi (show OR bq w6 5 1 r (bvs (tl ++ b)) by rw [Wr.bvs_append]; exact hr)
       have HRN := Hi (show r.n = Tn + n by rw [hrn]; have := FN.out; dsimp only; omega)
       clear hrn hr gr hrb cr6 hbw hsz
       obtain ⟨ra, rn, rc⟩ := r
       dsimp only [Sl.v] at HRN ⊢)
    | fail)
  have FRA := Hi (rframes_any ra rn rc (tl ++ b) w6 (or_rb2 R6.out) R6.out.fit.1 R6.out.fit.2 (by have := HRN.out; omega))
  refine FRA.out.mono ?_
  rintro e w7 ⟨⟨Fa, Fn, Fc⟩, ⟨Qa, Qn, Qc⟩, mm, xs, rfl, hxs, hsf, htq, g7, -⟩
  have hsc := Im.scan_of HOK.out.2.2.1 b
  rw [hsc] at hxs htq
  have HG37 := Hi (grown_trans G6.out g7)
  have HSF := Hi hsf
  have HQL := Hi htq.len
  have h6 : w3.heap.size ≤ w6.heap.size := G6.out.size
  have hsz := HSZ.out
  have HTQ := Hi (rl_of (L := X :: (X + 1) :: L) htq (fun b hb => by
    rcases List.mem_cons.1 hb with e | hb
    · omega
    · rcases List.mem_cons.1 hb with e | hb
      · omega
      · have h1 := HLL.out b hb; have h2 := HZX.out.2; omega))
  have HTF := Hi htq.fit
  have HFB := Hi (show ∀ b, b < X + 2 → b < w6.heap.size from fun b hb => by omega)
  have HLE := Hi (show ∀ x ∈ xs, x.2.length ≤ 400 + b.length from fun x hx => by
    have h1 : x.2 ∈ (Im.scan (Im.ofTail tl) b).out := by rw [← hxs]; exact List.mem_map_of_mem hx
    rw [← hsc] at h1
    have h2 := scan_lens _ _ _ h1
    have h3 := HOK.out.2.1
    simp only [List.length_append, Option.getD_none, List.length_nil] at h2
    omega)
  have HFD := Hi (show rfeedF ⟨win, tl, es⟩ b = (⟨win, Im.cut (Im.scan (Im.ofTail tl) b).cur, (Im.run win es (Im.gets (Im.scan (Im.ofTail tl) b).out)).1⟩, (Im.run win es (Im.gets (Im.scan (Im.ofTail tl) b).out)).2) from rfl)
  have HCT2 := Hi (Im.cut_tail HOK.out.2.2.1 b)
  have HXS := Hi hxs
  have HGO := Hi (Im.gets_ok (Im.scan (Im.ofTail tl) b).out)
  clear hsc hxs hsf htq h6 hsz FRA R6 HRN HBW R0 HCT HLT HCB HLB HBQ Gl BXl BZl HKl F5 FN HN5 G5 GQ5 HQ5 HC5
  generalize Im.scan (Im.ofTail tl) b = sc at *
  obtain ⟨fr, cur⟩ := sc
  dsimp only at HRM HXS HTQ HCT2 HGO HQL HFD
  dsimp only [Sl.v]
  have BX := Hi (BX.out.grown HG37.out)
  have BZ := Hi (BZ.out.grown HG37.out)
  have G := Hi (grown_trans G.out HG37.out)
  have HK2 := Hi (HK2.out.grown HG37.out)
  have hw7 : w6.heap.size ≤ w7.heap.size := g7.size
  have HSZ := Hi (show X + 2 ≤ w7.heap.size by have h1 := HFB.out (X + 1) (by omega); omega)
  have HEL := Hi (show EL w7 (X :: (X + 1) :: L) ⟨Ea, En, Ec⟩ es from HELL.out.step (M := []) (Chg.of0 G.out) (fun _ h => by cases h) (fun b hb => by
    have h2 := HZX.out.2
    rcases List.mem_cons.1 hb with e | hb
    · right; omega
    · rcases List.mem_cons.1 hb with e | hb
      · right; omega
      · exact .inl hb))
  clear G6 g7 HG37 c0 c1 c2 hw7 HK2 HELL hwl hbq
  clear wl bq
  have hql : (cur.getD []).length = Qn := by have := HQL.out; rw [Wr.bvs_len] at this; simpa using this
  have HQN := Hi hql
  clear hql HQL
  go_upto_if 33 with fail
  go_cut [8] (fun v wx => ∃ T2 : Sl, v = T2.v ∧ Hid (T2.fit ∧ RL wx (X :: (X + 1) :: L) T2.a T2.n (Im.cut cur)) ∧ Hid (w7.grownBy wx none))
  case first =>
    by_cases h4 : 400 < Qn
    · have h4' : (400 : Int) < (Qn : Int) := by omega
      have HC := Hi (show Im.cut cur = [] by unfold Im.cut; rw [if_neg (by have := HQN.out; omega)])
      go_wp2
      go_meet
      case rel => exact ⟨nilS, rfl, by rw [HC.out]; exact ⟨⟨by simp [nilS], by simp [nilS]⟩, RB.nil _ _, fun x hx => by cases hx⟩, Hi (grown_refl _ _)⟩
    · have h4' : ¬ (400 : Int) < (Qn : Int) := by omega
      have HC := Hi (show Im.cut cur = cur.getD [] by unfold Im.cut; rw [if_pos (by have := HQN.out; omega)])
      go_wp2
      go_meet
      case rel => exact ⟨⟨Qa, Qn, Qc⟩, rfl, by rw [HC.out]; exact ⟨HTF.out, HTQ.out⟩, Hi (grown_refl _ _)⟩
  case rest =>
    obtain ⟨⟨T2a, T2n, T2c⟩, rfl, HT2, GC⟩ := hcut
    dsimp only [Sl.v]
    obtain ⟨⟨c0, c1, c2⟩, cF⟩ := BX.out.grown GC.out
    have f0 := cF 0
    have f1 := cF 1
    have f2 := cF 2
    clear cF
    go_upto_region 8 with fail
    obtain ⟨w9, hw9⟩ : ∃ z, z = ((wc.setCell ⟨X, 0, none⟩ (.int .i64 win)).setCell ⟨X, 1, none⟩ (.slice T2a T2n T2c)).setCell ⟨X, 2, none⟩ (.slice Ea En Ec) := ⟨_, rfl⟩
    rw [← hw9]
    have gs : Chg [X] wc w9 := by subst hw9; exact (((Chg.refl [X] wc).set ⟨X, 0, none⟩ _ (by simp)).set ⟨X, 1, none⟩ _ (by simp)).set ⟨X, 2, none⟩ _ (by simp)
    have B9 := Hi (show Tri w9 X (.int .i64 win) (.slice T2a T2n T2c) (.slice Ea En Ec) by subst hw9; exact (((BX.out.grown GC.out).set0 _).set1 _).set2 _)
    have hXm : ∀ b ∈ [X], b ∈ (X :: (X + 1) :: L) ∨ wc.heap.size ≤ b := fun b hb => .inl (by rw [List.mem_singleton] at hb; rw [hb]; exact List.mem_cons_self)
    have K9 := Hi (show KA w9 (X :: (X + 1) :: L) ⟨T2a, T2n, T2c⟩ ⟨Ea, En, Ec⟩ ⟨win, Im.cut cur, es⟩ from ⟨HT2.out.1, HT2.out.2.step gs hXm (fun b hb => .inl hb), (HEL.out.step (M := []) (L' := (X :: (X + 1) :: L)) (Chg.of0 GC.out) (fun _ h => by cases h) (fun b hb => .inl hb)).step gs hXm (fun b hb => .inl hb)⟩)
    have C9 := Hi ((Chg.of0 (L := [X]) GC.out).trans gs)
    clear hw9 gs hXm c0 c1 c2 f0 f1 f2 HT2 GC HEL HTQ HTF BX
    go_wp2_with fail
    go_loopw [10, 42] (fun vo vi wr => ∃ (j : Nat) (T E O : Sl) (ej : List Im.Wt) (os : List Tm.Tg), vo = O.v ∧ vi = .int .i64 j ∧ j ≤ Fn ∧ Hid (Tri wr X (.int .i64 win) T.v E.v) ∧ Hid (KA wr (X :: (X + 1) :: (O.blk.toList ++ L)) T E ⟨win, Im.cut cur, ej⟩) ∧ Hid (TO (X + 2) wr (X :: (X + 1) :: (O.blk.toList ++ L)) O os) ∧ Hid (Im.run win es (Im.gets (fr.take j)) = (ej, os)) ∧ Hid (Chg [X] w7 wr) ∧ Hid (∀ b, O.blk = some b → w7.heap.size ≤ b)) (fun _ vi _ => Fn - (intOf vi).toNat)
    case atStart => exact ⟨0, ⟨T2a, T2n, T2c⟩, ⟨Ea, En, Ec⟩, nilS, es, [], rfl, rfl, by omega, B9, K9, Hi ⟨[], rfl, or_nil _ _ _ _, fun x hx => by cases hx⟩, Hi rfl, C9, Hi (fun b hb => by cases hb)⟩
    case round =>
      clear B9 K9 C9
      obtain ⟨j, ⟨Ta, Tn, Tc⟩, ⟨Ea, En, Ec⟩, ⟨Oa, On, Oc⟩, ej, os, rfl, rfl, hj, BJ, KJ, TJ, RJ, CJ, OJ⟩ := hrel
      dsimp only [Sl.v]
      have hFm : Fn ≤ 9223372036854775807 := by have h1 := HSF.out.row.fit.1; have h2 := HSF.out.row.fit.2; dsimp only at h1 h2; omega
      have HFL := Hi (show fr.length = Fn by have h1 := HSF.out.row.len; have h2 := congrArg List.length HXS.out; rw [List.length_map] at h1 h2; dsimp only at h1; omega)
      by_cases hlt : j < Fn
      · have hlt' : (j : Int) < (Fn : Int) := by omega
        have TJ0 := TJ
        have CJ0 := Hi (show X + 1 < wr.heap.size by have h1 := HSZ.out; have h2 := CJ.out.size; omega)
        have hxl : xs.length = Fn := by have h1 := HSF.out.row.len; rw [List.length_map] at h1; dsimp only at h1; omega
        obtain ⟨⟨⟨Sa, Sn, Sc⟩, l⟩, hxj⟩ : ∃ x, xs[j]? = some x := ⟨_, List.getElem?_eq_getElem (by omega)⟩
        have hmem := List.mem_of_getElem? hxj
        have hfj : fr[j]? = some l := by rw [← HXS.out, List.getElem?_map, hxj]; rfl
        have HTK := Hi (show Im.gets (fr.take (j + 1)) = Im.gets (fr.take j) ++ Im.gets [l] by rw [List.take_add_one, hfj, Option.toList_some, Im.gets_append])
        obtain ⟨fb, foff, hFa, hcf⟩ := HSF.out.row.cr j (.slice Sa Sn Sc) (by rw [List.getElem?_map, hxj]; rfl)
        dsimp only at hFa
        subst hFa
        have hfb := (HSF.out.row.blk fb rfl).1
        have hxw := HFB.out X (by omega)
        have hcf2 := CJ.out.cell hcf (fun hm => by rw [List.mem_singleton] at hm; dsimp only at hm; omega)
        have hsl := HSF.out.each _ hmem
        have hsj := hsl.chg CJ.out (fun b hb hm => by rw [List.mem_singleton] at hm; have := (hsl.blk b hb).1; omega)
        have hln := hsj.len
        rw [Wr.bvs_len] at hln
        dsimp only at hln
        have hle := HLE.out _ hmem
        dsimp only at hle
        have hbn := HB.out.1
        have DE := Hi (Wr.rdecY_any Sa Sn Sc l wr (or_rb2 hsj) (by omega))
        unfold Wr.RDec at DE
        clear hxl hxj hmem hfj hcf hfb hxw hsl hsj hln hle hbn
        obtain ⟨⟨c0, c1, c2⟩, -⟩ := BJ.out
        go_wp2_with fail
        refine DE.out.mono ?_
        rintro e wd ⟨gd, ⟨tst, tep, tsq, ttm, tkd, tvs⟩, VA, vm, vcv, er, rfl, hir, hm16, hdc, hcv, hfr⟩
        clear DE c0 c1 c2
        dsimp only [tv]
        have GE := Hi (rgets_one hdc)
        obtain ⟨B12, hB12⟩ : ∃ b, b = wd.heap.size := ⟨_, rfl⟩
        obtain ⟨wl, hwl⟩ : ∃ z, z = wd.alloc (Obj.cells #[.int .i64 tst, .int .i64 tep, .int .i64 tsq, .int .i64 ttm, .int .i64 tkd, .slice VA vm vcv] 28) := ⟨_, rfl⟩
        have gl : wd.grownBy wl none := by subst hwl; exact grown_alloc _ _ _
        have SY := Hi (show Wr.Six wl B12 (⟨tst, tep, tsq, ttm, tkd, tvs⟩ : Tm.Tg) (.slice VA vm vcv) by subst hwl; subst hB12; exact Wr.Six.made wd (⟨tst, tep, tsq, ttm, tkd, tvs⟩ : Tm.Tg) (.slice VA vm vcv))
        have GDL := Hi (grown_trans gd gl)
        have BJ := Hi (BJ.out.grown GDL.out)
        have KJ := Hi (KJ.out.grown GDL.out)
        have TJ := Hi (TJ.out.grown GDL.out)
        have CJ := Hi (CJ.out.trans (Chg.of0 GDL.out))
        have hwz : wr.heap.size ≤ wl.heap.size := GDL.out.size
        have HWZ := Hi (show ∀ b ∈ X :: (X + 1) :: ((Sl.blk ⟨Oa, On, Oc⟩).toList ++ L), b < wr.heap.size from fun b hb => by
          have h1 := CJ0.out
          rcases List.mem_cons.1 hb with e | hb
          · omega
          · rcases List.mem_cons.1 hb with e | hb
            · omega
            · rcases List.mem_append.1 hb with hb | hb
              · exact (TJ0.out.blk b (by simpa using hb)).2
              · have h2 := HLL.out b hb; have h3 := HZX.out.2; omega)
        have VIT := Hi (show VI wl (X :: (X + 1) :: ((Sl.blk ⟨Oa, On, Oc⟩).toList ++ L)) ⟨VA, vm, vcv⟩ tvs from ⟨⟨hcv.1, hcv.2⟩, by dsimp only; omega, hir.grown gl, fun b hb _ hm => by have h1 := hfr b hb; have h2 := HWZ.out b hm; omega⟩)
        clear gd gl hir hm16 hdc hcv hfr
        go_upto_region 12 with fail
        rw [← hwl]
        try simp only [← hB12]
        clear hwl hB12
        by_cases her : er = 0
        · subst her
          rw [if_pos rfl] at GE
          have HTM := Hi (show (⟨tst, tep, tsq, ttm, tkd, tvs⟩ : Tm.Tg) ∈ Im.gets fr by
            have h1 := HTK.out
            rw [GE.out] at h1
            have h2 : (⟨tst, tep, tsq, ttm, tkd, tvs⟩ : Tm.Tg) ∈ Im.gets (fr.take (j + 1)) := by rw [h1]; simp
            have h3 := Im.gets_append (fr.take (j + 1)) (fr.drop (j + 1))
            rw [List.take_append_drop] at h3
            rw [h3]; exact List.mem_append_left _ h2)
          have HOT := Hi (HGO.out _ HTM.out)
          have HRN2 := Hi (show Im.run win es (Im.gets (fr.take (j + 1))) = ((Im.acc win ej (⟨tst, tep, tsq, ttm, tkd, tvs⟩ : Tm.Tg)).1, os ++ (Im.acc win ej (⟨tst, tep, tsq, ttm, tkd, tvs⟩ : Tm.Tg)).2) by
            rw [HTK.out, GE.out, Im.run_append, RJ.out]
            simp [Im.run])
          have HSO := Hi (show Im.SOk win ej by
            have h1 := Im.run_ok HOK.out.1.1 (Im.gets (fr.take j)) es HOK.out.2.2.2 (Im.gets_ok _)
            rw [RJ.out] at h1; exact h1)
          have HKO := Hi (show (⟨win, Im.cut cur, ej⟩ : Ik).ok = true from Ik.ok_iff.2 ⟨HOK.out.1, HCT2.out.2, HCT2.out.1, HSO.out⟩)
          by_cases hroom : ej.length < 64 ∨ Im.ent ej tst ≠ none
          · have HEJ := Hi hroom
            clear hroom
            have AC := Hi (raccept_room (X :: (X + 1) :: ((Sl.blk ⟨Oa, On, Oc⟩).toList ++ L)) ⟨Ta, Tn, Tc⟩ ⟨Ea, En, Ec⟩ ⟨win, Im.cut cur, ej⟩ (⟨tst, tep, tsq, ttm, tkd, tvs⟩ : Tm.Tg) ⟨VA, vm, vcv⟩ wl (fun b hb => by have h1 := HWZ.out b hb; omega) KJ.out HKO.out VIT.out HOT.out HEJ.out)
            unfold AccA at AC
            generalize Im.acc win ej (⟨tst, tep, tsq, ttm, tkd, tvs⟩ : Tm.Tg) = ar at *
            obtain ⟨e2, g2⟩ := ar
            dsimp only [iv3, tv, Sl.v] at AC
            obtain ⟨⟨c0, c1, c2⟩, -⟩ := BJ.out
            obtain ⟨⟨t0, t1, t2, t3, t4, t5⟩, -⟩ := SY.out
            dsimp only at t0 t1 t2 t3 t4 t5
            go_wp2_with fail
            refine AC.out.mono ?_
            rintro e wa ⟨⟨T2a, T2n, T2c⟩, ⟨E2a, E2n, E2c⟩, ⟨Ga, Gn, Gc⟩, rfl, hka, htg, ga⟩
            clear AC c0 c1 c2 t0 t1 t2 t3 t4 t5 SY
            dsimp only [Sl.v]
            obtain ⟨B14, hB14⟩ : ∃ b, b = wa.heap.size := ⟨_, rfl⟩
            obtain ⟨wm, hwm⟩ : ∃ z, z = wa.alloc (Obj.cells #[.int .i64 win, .slice T2a T2n T2c, .slice E2a E2n E2c] 25) := ⟨_, rfl⟩
            have gm : wa.grownBy wm none := by subst hwm; exact grown_alloc _ _ _
            have B4 := Hi (show Tri wm B14 (.int .i64 win) (.slice T2a T2n T2c) (.slice E2a E2n E2c) by subst hwm; subst hB14; exact tri_made _ _ _ _ _)
            have HB14 := Hi (show wl.heap.size ≤ B14 by rw [hB14]; exact ga.size)
            have GAM := Hi (grown_trans ga gm)
            have BJ := Hi (BJ.out.grown GAM.out)
            have TJ := Hi (TJ.out.grown GAM.out)
            have CJ := Hi (CJ.out.trans (Chg.of0 GAM.out))
            have KA2 := Hi (hka.grown gm)
            have TG2 := Hi (htg.grown gm)
            clear ga gm hka htg
            go_upto_region 15 with fail
            rw [← hwm]
            try simp only [← hB14]
            clear hwm hB14
            have gd := Wr.grown_drew wm none
            refine wp_region_held_drew (S := fun w' => w'.cell? ⟨B14, 0, none⟩ = some (.int .i64 win) ∧ w'.cell? ⟨B14, 1, none⟩ = some (.slice T2a T2n T2c) ∧ w'.cell? ⟨B14, 2, none⟩ = some (.slice E2a E2n E2c)) (by kernel_rfl) ?_ (fun hHeld => ?_)
            · exact (B4.out.grown gd).1
            try simp only [Act.put, lsA, lsB, lsC]
            have B4 := Hi (B4.out.grown gd)
            have BJ := Hi (BJ.out.grown gd)
            have TJ := Hi (TJ.out.grown gd)
            have CJ := Hi (CJ.out.trans (Chg.of0 gd))
            have KA2 := Hi (KA2.out.grown gd)
            have TG2 := Hi (TG2.out.grown gd)
            clear gd
            generalize wm.drew = wn at *
            refine takeL (i := 0) (v := ?_) rfl (by kernel_rfl) (by kernel_rfl) (by kernel_rfl) (fun _ _ _ h => h) (Or.inl ⟨by rfl, ?_⟩) (by assumption) ?_
            rotate_left 1
            · intro w hSw; obtain ⟨s0, s1, s2⟩ := hSw; first | (go_simp; done) | (go_simp; with_reducible rfl)
            try simp only [Act.put, lsA, lsB, lsC]
            refine takeL (i := 1) (v := ?_) rfl (by kernel_rfl) (by kernel_rfl) (by kernel_rfl) (fun _ _ _ h => h) (Or.inl ⟨by rfl, ?_⟩) (by assumption) ?_
            rotate_left 1
            · intro w hSw; obtain ⟨s0, s1, s2⟩ := hSw; first | (go_simp; done) | (go_simp; with_reducible rfl)
            try simp only [Act.put, lsA, lsB, lsC]
            refine takeL (i := 2) (v := ?_) rfl (by kernel_rfl) (by kernel_rfl) (by kernel_rfl) (fun _ _ _ h => h) (Or.inl ⟨by rfl, ?_⟩) (by assumption) ?_
            rotate_left 1
            · intro w hSw; obtain ⟨s0, s1, s2⟩ := hSw; first | (go_simp; done) | (go_simp; with_reducible rfl)
            try simp only [Act.put, lsA, lsB, lsC]
            obtain ⟨us, hu1, hu2, hu3, hu4⟩ := TJ.out.off
            obtain ⟨gs, hv1, hv2, hv3, hv4⟩ := TG2.out.list
            have HUS := Hi (show us.map Prod.fst = os ∧ (∀ x ∈ us, VI wn (X :: (X + 1) :: ((Sl.blk ⟨Oa, On, Oc⟩).toList ++ L)) x.2 x.1.vs) ∧ gs.map Prod.fst = g2 ∧ ∀ x ∈ gs, VI wn (X :: (X + 1) :: ((Sl.blk ⟨Oa, On, Oc⟩).toList ++ L)) x.2 x.1.vs from ⟨hu1, hu3, hv1, hv3⟩)
            have HOU := Hi hu2
            have HCV := Hi hv2
            obtain ⟨IT, hIT, hzT, hszT, hbyT⟩ := parts_t
            have hbn := HB.out.1
            have hrl : os.length + g2.length ≤ 17 * 300000 := by
              have h1 := rrun_len HOK.out.1 (Im.gets (fr.take (j + 1))) es HOK.out.2.2.2 (Im.gets_ok _)
              rw [HRN2.out] at h1
              have h2 := gets_take fr (j + 1)
              have h3 := HRM.out
              rw [List.length_append] at h1
              omega
            have hul := congrArg List.length hu1
            have hvl := congrArg List.length hv1
            rw [List.length_map] at hul hvl
            dsimp only at hu4 hv4
            have HVL := Hi (show (f6 gs).length = Gn * 6 by rw [f6_len]; omega)
            have HF1 := Hi (show On + Gn ≤ 1000000000 by omega)
            have HF2 := Hi (show (On + Gn) * 64 ≤ 140737488355328 by omega)
            have HBS := Hi (show X + 2 ≤ wn.heap.size by have h1 := HSZ.out; have h2 := CJ.out.size; omega)
            clear hu1 hu2 hu3 hu4 hv1 hv2 hv3 hv4 hul hvl hrl hbn
            refine wpAnyH_ready (rs := [3]) (by kernel_rfl) (by simp) (consL rfl (fun K hK => ?_) AllReadyH.nil)
            refine step_appV rfl (.tmp 65) (.tmp 66) 30 rfl (S := ⟨Oa, On, Oc⟩) (V := ⟨Ga, Gn, Gc⟩) Tryz.underlying30 hIT hzT hszT hbyT (by rfl) (by omega) rfl rfl HOU.out HBS.out HVL.out HCV.out (f6_one gs) HF2.out HF1.out ?_
            intro r wk hrn hr gk hrb
            have c1 : Chg (Sl.blk ⟨Oa, On, Oc⟩).toList wn wk := Chg.of gk (fun b hb => by simpa using hb)
            have hwn : w7.heap.size ≤ wn.heap.size := CJ.out.size
            have hol : ∀ b ∈ (Sl.blk ⟨Oa, On, Oc⟩).toList, b < wr.heap.size ∧ w7.heap.size ≤ b := fun b hb => ⟨HWZ.out b (List.mem_cons_of_mem _ (List.mem_cons_of_mem _ (List.mem_append_left _ hb))), OJ.out b (by simpa using hb)⟩
            have hs7 := HSZ.out
            have h14 := HB14.out
            have B4 := Hi (B4.out.step c1 (fun hm => by have := hol _ hm; omega))
            have BJ := Hi (BJ.out.step c1 (fun hm => by have := hol _ hm; omega))
            have CJ := Hi (CJ.out.then c1 (fun b hb => .inr (hol b hb).2))
            have hr2 : OR (X + 2) wk 28 6 r (f6 (us ++ gs)) := by have e6 : f6 (us ++ gs) = f6 us ++ f6 gs := flat_app us gs; rw [e6]; exact hr
            have hLr : ∀ b ∈ X :: (X + 1) :: (r.blk.toList ++ L), b ∈ X :: (X + 1) :: ((Sl.blk ⟨Oa, On, Oc⟩).toList ++ L) ∨ wn.heap.size ≤ b := fun b hb => by
              rcases List.mem_cons.1 hb with e | hb
              · rw [e]; exact .inl List.mem_cons_self
              · rcases List.mem_cons.1 hb with e | hb
                · rw [e]; exact .inl (List.mem_cons_of_mem _ List.mem_cons_self)
                · rcases List.mem_append.1 hb with hb | hb
                  · rcases hrb b (by simpa using hb) with e | e
                    · exact .inl (List.mem_cons_of_mem _ (List.mem_cons_of_mem _ (List.mem_append_left _ (by simpa using e))))
                    · exact .inr (by omega)
                  · exact .inl (List.mem_cons_of_mem _ (List.mem_cons_of_mem _ (List.mem_append_right _ hb)))
            have TK := TO.grow HUS.out.2.1 HUS.out.2.2.2 hr2 gk (fun b hb => List.mem_cons_of_mem _ (List.mem_cons_of_mem _ (List.mem_append_left _ (by simpa using hb)))) hLr
            rw [HUS.out.1, HUS.out.2.2.1] at TK
            have TK := Hi TK
            have KK := Hi (KA2.out.step c1 (fun b hb => .inl (List.mem_cons_of_mem _ (List.mem_cons_of_mem _ (List.mem_append_left _ hb)))) hLr)
            have OK2 := Hi (show ∀ b, r.blk = some b → w7.heap.size ≤ b from fun b hb => by
              rcases hrb b hb with e | e
              · exact OJ.out b e
              · omega)
            clear hrn hr hr2 gk hrb c1 hwn hol hs7 h14 hLr
            obtain ⟨Ra, Rn, Rc⟩ := r
            dsimp only [Sl.v]
            refine hK.out _ _ ?_ (fun hHeld => ?_)
            · exact B4.out.1
            clear hK K
            try simp only [Act.put, lsA, lsB, lsC]
            obtain ⟨⟨m0, m1, m2⟩, mf⟩ := BJ.out
            have f0 := mf 0
            have f1 := mf 1
            have f2 := mf 2
            clear mf
            refine wpAnyH_ready (rs := [4]) (by kernel_rfl) (by simp) (consL rfl (fun K hK => ?_) AllReadyH.nil)
            go_simp
            have g2s : Chg [X] wk (((wk.setCell ⟨X, 0, none⟩ (.int .i64 win)).setCell ⟨X, 1, none⟩ (.slice T2a T2n T2c)).setCell ⟨X, 2, none⟩ (.slice E2a E2n E2c)) := (((Chg.refl [X] wk).set ⟨X, 0, none⟩ (.int .i64 win) (by simp)).set ⟨X, 1, none⟩ (.slice T2a T2n T2c) (by simp)).set ⟨X, 2, none⟩ (.slice E2a E2n E2c) (by simp)
            have hXm : ∀ b ∈ [X], b ∈ X :: (X + 1) :: ((Sl.blk ⟨Ra, Rn, Rc⟩).toList ++ L) ∨ wk.heap.size ≤ b := fun b hb => .inl (by rw [List.mem_singleton] at hb; rw [hb]; exact List.mem_cons_self)
            have BX2 := Hi (((BJ.out.set0 (.int .i64 win)).set1 (.slice T2a T2n T2c)).set2 (.slice E2a E2n E2c))
            have KX2 := Hi (KK.out.step g2s hXm (fun b hb => .inl hb))
            have TX2 := Hi (TK.out.step g2s (fun b hb hm => by rw [List.mem_singleton] at hm; have := (TK.out.blk b hb).1; omega) hXm (fun b hb => .inl hb))
            have CX2 := Hi (CJ.out.trans g2s)
            have B42 := B4.out.step g2s (fun hm => by rw [List.mem_singleton] at hm; have h1 := HB14.out; have h2 := CJ0.out; omega)
            refine hK.out _ _ ?_ (fun hHeld => ?_)
            · exact B42.1
            clear hK K B42 g2s hXm m0 m1 m2 f0 f1 f2
            try simp only [Act.put, lsA, lsB, lsC]
            refine takeL (i := 5) (v := ?_) rfl (by kernel_rfl) (by kernel_rfl) (by kernel_rfl) (fun _ _ _ h => h) (Or.inl ⟨by rfl, ?_⟩) (by assumption) ?_
            rotate_left 1
            · intro w hSw; obtain ⟨s0, s1, s2⟩ := hSw; first | (go_simp; done) | (go_simp; with_reducible rfl)
            try simp only [Act.put, lsA, lsB, lsC]
            refine wpAnyH_done (by kernel_rfl) ?_ _
            go_wp2
            go_roundw
            case rel => exact ⟨j + 1, ⟨T2a, T2n, T2c⟩, ⟨E2a, E2n, E2c⟩, ⟨Ra, Rn, Rc⟩, e2, os ++ g2, rfl, by go_num, by omega, BX2, KX2, TX2, HRN2, CX2, OK2⟩
            case measure => simp [intOf]; omega
          · have hno : ¬ ej.length < 64 ∧ Im.ent ej tst = none := ⟨fun h => hroom (.inl h), by
              rcases Classical.em (Im.ent ej tst = none) with h | h
              · exact h
              · exact absurd (.inr h) hroom⟩
            clear hroom
            have HA0 := Hi (show Im.acc win ej (⟨tst, tep, tsq, ttm, tkd, tvs⟩ : Tm.Tg) = (ej, []) by
              unfold Im.acc
              rw [decide_eq_true (show ej.length = 64 by have h1 := HSO.out.len; have h2 := hno.1; omega)]
              exact Im.put_full HSO.out.asc hno.2)
            have HRN3 := Hi (show Im.run win es (Im.gets (fr.take (j + 1))) = (ej, os) by rw [HRN2.out, HA0.out]; simp)
            have AC := Hi (raccept_bad (X :: (X + 1) :: ((Sl.blk ⟨Oa, On, Oc⟩).toList ++ L)) ⟨Ta, Tn, Tc⟩ ⟨Ea, En, Ec⟩ ⟨win, Im.cut cur, ej⟩ (⟨tst, tep, tsq, ttm, tkd, tvs⟩ : Tm.Tg) ⟨VA, vm, vcv⟩ wl (fun b hb => by have h1 := HWZ.out b hb; omega) KJ.out VIT.out 4 (by unfold accF; rw [if_pos HKO.out, if_pos HOT.out, if_neg (fun h => by rcases h with h | h; exact hno.1 h; exact h hno.2)]) (by omega))
            clear hno HA0 HRN2
            dsimp only [iv3, tv, Sl.v] at AC
            obtain ⟨⟨c0, c1, c2⟩, -⟩ := BJ.out
            obtain ⟨⟨t0, t1, t2, t3, t4, t5⟩, -⟩ := SY.out
            dsimp only at t0 t1 t2 t3 t4 t5
            go_wp2_with fail
            refine AC.out.mono ?_
            rintro e wa ⟨rfl, ga⟩
            clear AC c0 c1 c2 t0 t1 t2 t3 t4 t5 SY
            have BJ := Hi (BJ.out.grown ga)
            have KJ := Hi (KJ.out.grown ga)
            have TJ := Hi (TJ.out.grown ga)
            have CJ := Hi (CJ.out.trans (Chg.of0 ga))
            have GAL := Hi (grown_alloc wa (Obj.cells #[.int .i64 win, .slice Ta Tn Tc, .slice Ea En Ec] 25) none)
            have BJ := Hi (BJ.out.grown GAL.out)
            have KJ := Hi (KJ.out.grown GAL.out)
            have TJ := Hi (TJ.out.grown GAL.out)
            have CJ := Hi (CJ.out.trans (Chg.of0 GAL.out))
            clear ga
            dsimp only [nilS, Sl.v]
            go_wp2
            go_roundw
            case rel => exact ⟨j + 1, ⟨Ta, Tn, Tc⟩, ⟨Ea, En, Ec⟩, ⟨Oa, On, Oc⟩, ej, os, rfl, by go_num, by omega, BJ, KJ, TJ, HRN3, CJ, OJ⟩
            case measure => simp [intOf]; omega
        · have hb : (er != 0) = true := by simp [her]
          rw [if_neg her] at GE
          have HRN2 := Hi (show Im.run win es (Im.gets (fr.take (j + 1))) = (ej, os) by rw [HTK.out, GE.out, List.append_nil]; exact RJ.out)
          clear her
          go_wp2
          go_roundw
          case rel => exact ⟨j + 1, ⟨Ta, Tn, Tc⟩, ⟨Ea, En, Ec⟩, ⟨Oa, On, Oc⟩, ej, os, rfl, by go_num, by omega, BJ, KJ, TJ, HRN2, CJ, OJ⟩
          case measure => simp [intOf]; omega
      · obtain rfl : j = Fn := by omega
        have RJ2 := Hi (show Im.run win es (Im.gets fr) = (ej, os) by have := RJ.out; rwa [List.take_of_length_le (by rw [HFL.out]; exact Nat.le_refl _)] at this)
        have FIN := Hi (fun (wz : World) (gz : Chg [X + 1] wr wz) => show RFe L (rfeedF ⟨win, tl, es⟩ b) w (.returned (.tuple #[iv3 win ⟨Ta, Tn, Tc⟩ ⟨Ea, En, Ec⟩, Sl.v ⟨Oa, On, Oc⟩, .int .i64 0])) wz from by
          have hb2 : ∀ b ∈ [X + 1], b ∈ X :: (X + 1) :: ((Sl.blk ⟨Oa, On, Oc⟩).toList ++ L) ∨ wr.heap.size ≤ b := fun b hb => .inl (by rw [List.mem_singleton] at hb; subst hb; exact List.mem_cons_of_mem _ List.mem_cons_self)
          rw [HFD.out, RJ2.out]
          exact ⟨⟨Ta, Tn, Tc⟩, ⟨Ea, En, Ec⟩, ⟨Oa, On, Oc⟩, rfl, KJ.out.step gz hb2 (fun b hb => .inl (List.mem_cons_of_mem _ (List.mem_cons_of_mem _ (List.mem_append_right _ hb)))), (TJ.out.step gz (fun b hb hm => by rw [List.mem_singleton] at hm; have := (TJ.out.blk b hb).1; omega) hb2 (fun b hb => .inl hb)).tr, gz.grown (CJ.out.grown G.out (fun b hb => by rw [List.mem_singleton] at hb; have := HZX.out.2; omega)) (fun b hb => by rw [List.mem_singleton] at hb; have := HZX.out.2; omega)⟩)
        obtain ⟨⟨c0, c1, c2⟩, -⟩ := BJ.out
        dsimp only [Sl.v] at c1 c2
        obtain ⟨⟨z0, z1, z2⟩, zF⟩ := BZ.out.step CJ.out (fun hm => by rw [List.mem_singleton] at hm; omega)
        have y0 := zF 0
        have y1 := zF 1
        have y2 := zF 2
        clear zF
        go_wp2_with fail
        try simp only [Exit.inBlock, Exit.then]
        refine bodyPost_ret (v := .tuple #[iv3 win ⟨Ta, Tn, Tc⟩ ⟨Ea, En, Ec⟩, Sl.v ⟨Oa, On, Oc⟩, .int .i64 0]) ?hr rfl ?hE
        case hr =>
          rw [results_cell3 rfl]
          go_simp
          first | rfl | exact ⟨rfl, rfl⟩
        case hE =>
          exact FIN.out _ ((((Chg.refl _ wr).set ⟨X + 1, 0, none⟩ (.int .i64 win) (by simp)).set ⟨X + 1, 1, none⟩ (.slice Ta Tn Tc) (by simp)).set ⟨X + 1, 2, none⟩ (.slice Ea En Ec) (by simp))
theorem rfeed_ok (L : List Nat) (T E : Sl) (k : Ik) (A : Option Addr) (n c : Nat) (b : List UInt8) (w : World) (hL : ∀ b ∈ L, b < w.heap.size) (hk : KA w L T E k) (ho : k.ok = true) (hb : RB w A n b) (hc : n ≤ c) (hc2 : c ≤ 9223372036854775807) (hn : n ≤ 300000) (_hroom : k.es.length + (Im.gets (Im.scan (Im.ofTail k.tail) b).out).length < 64) :
    Calls Tryz.prog 21 #[iv3 k.win T E, .slice A n c] w (RFe L (rfeedF k b) w) := rfeed_room L T E k A n c b w hL hk ho hb hc hc2 hn
end Go.Proofs.YticmoaebegahgaaGreatDoor.Iw
