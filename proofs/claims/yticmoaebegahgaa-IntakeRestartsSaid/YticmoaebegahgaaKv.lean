/- The walk of IntakeRestarts. -/
import Derived.Test.YticmoaebegahgaaKu
namespace Go.Proofs.Yticmoaebegahgaa.Iw
open Go.ChangeShapes Go.WideShapes Go.ChangeAt Go.RowKit
open Wr (IR RB iv ivs bv bvs grown_trans grown_refl grown_alloc ret_int ret_bool tv Ret ret_mk)

theorem acc_nil (T E : Sl) (k : Ik) (t : Tm.Tg) (w : World) (h : KR w T E k) (hk : k.ok = true) (hv : t.vs = []) {r : Ik × List Tm.Tg × Int} (hr : accF k t = r) : Calls Try.prog 9 #[iv3 k.win T E, tv t (.slice none 0 0)] w (AccE r w) := by
  subst hr
  obtain ⟨h1, h2, h3, h4⟩ := Ik.ok_iff.1 hk
  have e1 : k.tail.length = T.n := h.tl.1
  have e2 : k.es.length = E.n := h.es.len
  have e3 := h4.len
  exact accept_pub T E k t nilS w h ⟨⟨by simp [nilS], by simp [nilS]⟩, by simp [nilS], by rw [hv]; exact IR.nil _ _, fun b hb => by cases hb⟩ (by omega) (by omega) (fun e he => by have := (h4.all e he).len; omega)
theorem accF_yes {k : Ik} {t : Tm.Tg} (hk : k.ok = true) (ht : t.ok = true) (hr : k.es.length < 64 ∨ Im.ent k.es t.st ≠ none) {s : List Im.Wt} {o : List Tm.Tg} (e : Im.acc k.win k.es t = (s, o)) : accF k t = (⟨k.win, k.tail, s⟩, o, 0) := by
  unfold accF
  rw [if_pos hk, if_pos ht, e, if_pos hr]
set_option maxRecDepth 100000 in
set_option maxHeartbeats 4000000 in
theorem restarts_any (A : Option Addr) (n c : Nat) (zs : List Int) (w : World) (hl : Wr.InRow w A n c zs) :
    Calls Try.prog 4 #[.slice A n c] w (Ret (.bool true) w) := by
  have HL := Lib.hid hl
  clear hl
  go_enter Try.func4, Try.ntmps4
  go_wp2_with fail
  refine (Wr.new_any _ _ _ _ w HL.out).mono ?_
  rintro e w1 ⟨rfl, g1, s1, z1⟩
  go_wp2_with fail
  refine (state_any w.heap.size w1 s1).mono ?_
  rintro e w2 ⟨⟨T0a, T0n, T0c⟩, ⟨E0a, E0n, E0c⟩, ⟨win, tl, es⟩, rfl, k0, ho, hlen, hep, g2⟩
  have C2 : Chg [w.heap.size] w1 w2 := Chg.of g2 (fun b hb => by injection hb with hb; subst hb; exact List.mem_singleton_self _)
  have G := Lib.hid (C2.grown g1 (fun b hb => by rw [List.mem_singleton] at hb; omega))
  have HR := Im.restart (Ik.ok_iff.1 ho).1.1 (Ik.ok_iff.1 ho).2.2.2 hlen hep
  obtain ⟨i1, i2, i3, i4⟩ := Ik.ok_iff.1 ho
  obtain ⟨r1, r2, r3, r4, r5, r6⟩ := HR
  have t0 := Im.tg_ok (ep := 200) (sq := 0) (by omega) (by omega)
  have t5 := Im.tg_ok (ep := 199) (sq := 5) (by omega) (by omega)
  have t1 := Im.tg_ok (ep := 200) (sq := 1) (by omega) (by omega)
  dsimp only at i1 i2 i3 i4 r1 r2 r3 r4 r5 r6
  have r7 : Im.ent (Im.acc win (Im.acc win es (Im.tg 200 0)).1 (Im.tg 200 1)).1 1 ≠ none := by
    rcases Im.acc_spec i1.1 r1 t1 with ⟨_, e, _⟩ | ⟨_, _, _, e⟩
    · exact absurd e r6
    · rw [e 1, if_pos (show (1 : Int) = (Im.tg 200 1).st from rfl)]; exact fun h => by cases h
  have AF1 := Lib.hid (accF_yes (k := ⟨win, tl, es⟩) (t := Im.tg 200 0) ho t0 (.inl hlen) (s := (Im.acc win es (Im.tg 200 0)).1) (o := (Im.acc win es (Im.tg 200 0)).2) rfl)
  have ok1 := Lib.hid (show (⟨win, tl, (Im.acc win es (Im.tg 200 0)).1⟩ : Ik).ok = true from Ik.ok_iff.2 ⟨i1, i2, i3, r1⟩)
  have ok3 := Lib.hid (show (⟨win, tl, (Im.acc win (Im.acc win es (Im.tg 200 0)).1 (Im.tg 200 1)).1⟩ : Ik).ok = true from Ik.ok_iff.2 ⟨i1, i2, i3, r3⟩)
  have AF2 := Lib.hid (accF_yes (k := ⟨win, tl, (Im.acc win es (Im.tg 200 0)).1⟩) (t := Im.tg 199 5) ok1.out t5 (.inr r6) r2)
  have AF3 := Lib.hid (accF_yes (k := ⟨win, tl, (Im.acc win es (Im.tg 200 0)).1⟩) (t := Im.tg 200 1) ok1.out t1 (.inr r6) (s := (Im.acc win (Im.acc win es (Im.tg 200 0)).1 (Im.tg 200 1)).1) (o := [Im.tg 200 1]) (by rw [← r4]))
  have AF4 := Lib.hid (accF_yes (k := ⟨win, tl, (Im.acc win (Im.acc win es (Im.tg 200 0)).1 (Im.tg 200 1)).1⟩) (t := Im.tg 200 1) ok3.out t1 (.inr r7) r5)
  have HO := Lib.hid ho
  generalize Im.acc win (Im.acc win es (Im.tg 200 0)).1 (Im.tg 200 1) = q3 at *
  obtain ⟨s3, o3⟩ := q3
  generalize Im.acc win es (Im.tg 200 0) = q1 at *
  obtain ⟨e1, o1⟩ := q1
  dsimp only at AF1 AF2 AF3 AF4 ok1 ok3
  have K0 := Lib.hid k0
  clear g1 s1 z1 k0 ho hlen hep g2 C2 i1 i2 i3 i4 r1 r2 r3 r4 r5 r6 r7 t0 t5 t1 HL
  dsimp only [iv3, Sl.v]
  obtain ⟨B0, hB0⟩ : ∃ b, b = w2.heap.size := ⟨_, rfl⟩
  obtain ⟨w3, hw3⟩ : ∃ z, z = w2.alloc (Obj.cells #[.int .i64 win, .slice T0a T0n T0c, .slice E0a E0n E0c] 29) := ⟨_, rfl⟩
  have g : w2.grownBy w3 none := by subst hw3; exact grown_alloc _ _ _
  have RB0 := Lib.hid (show Tri w3 B0 (.int .i64 win) (.slice T0a T0n T0c) (.slice E0a E0n E0c) by subst hw3; subst hB0; exact tri_made _ _ _ _ _)
  have G := Lib.hid (grown_trans G.out g)
  have K0 := Lib.hid (K0.out.grown g)
  clear g
  go_upto_region 2 with fail
  rw [← hw3]
  try simp only [← hB0]
  clear hw3 hB0
  have AC := Lib.hid (acc_nil ⟨T0a, T0n, T0c⟩ ⟨E0a, E0n, E0c⟩ ⟨win, tl, es⟩ (Im.tg 200 0) w3 K0.out HO.out rfl AF1.out)
  dsimp only [iv3, tv, Im.tg, Sl.v] at AC
  obtain ⟨⟨c0, c1, c2⟩, -⟩ := RB0.out
  go_wp2_with fail
  refine AC.out.mono ?_
  rintro e w4 ⟨⟨P1a, P1n, P1c⟩, ⟨Q1a, Q1n, Q1c⟩, ⟨V1a, V1n, V1c⟩, rfl, hk, -, ht, g⟩
  have K1 := Lib.hid hk.now
  have TV1 := Lib.hid ht.now
  have G := Lib.hid (grown_trans G.out g)
  clear AC c0 c1 c2 hk ht g
  dsimp only [iv3, Sl.v]
  obtain ⟨B1, hB1⟩ : ∃ b, b = w4.heap.size := ⟨_, rfl⟩
  obtain ⟨w5, hw5⟩ : ∃ z, z = w4.alloc (Obj.cells #[.int .i64 win, .slice P1a P1n P1c, .slice Q1a Q1n Q1c] 29) := ⟨_, rfl⟩
  have g : w4.grownBy w5 none := by subst hw5; exact grown_alloc _ _ _
  have RB1 := Lib.hid (show Tri w5 B1 (.int .i64 win) (.slice P1a P1n P1c) (.slice Q1a Q1n Q1c) by subst hw5; subst hB1; exact tri_made _ _ _ _ _)
  have G := Lib.hid (grown_trans G.out g)
  have K1 := Lib.hid (K1.out.grown g)
  clear g
  go_upto_region 3 with fail
  rw [← hw5]
  try simp only [← hB1]
  clear hw5 hB1
  have AC := Lib.hid (acc_nil ⟨P1a, P1n, P1c⟩ ⟨Q1a, Q1n, Q1c⟩ ⟨win, tl, e1⟩ (Im.tg 199 5) w5 K1.out ok1.out rfl AF2.out)
  dsimp only [iv3, tv, Im.tg, Sl.v] at AC
  obtain ⟨⟨c0, c1, c2⟩, -⟩ := RB1.out
  go_wp2_with fail
  refine AC.out.mono ?_
  rintro e w6 ⟨⟨P2a, P2n, P2c⟩, ⟨Q2a, Q2n, Q2c⟩, ⟨V2a, V2n, V2c⟩, rfl, hk, -, ht, g⟩
  have K2 := Lib.hid hk.now
  have TV2 := Lib.hid ht.now
  have G := Lib.hid (grown_trans G.out g)
  have K1 := Lib.hid (K1.out.grown g)
  have RB1 := Lib.hid (RB1.out.grown g)
  clear AC c0 c1 c2 hk ht g
  dsimp only [iv3, Sl.v]
  obtain ⟨B2, hB2⟩ : ∃ b, b = w6.heap.size := ⟨_, rfl⟩
  obtain ⟨w7, hw7⟩ : ∃ z, z = w6.alloc (Obj.cells #[.int .i64 win, .slice P2a P2n P2c, .slice Q2a Q2n Q2c] 29) := ⟨_, rfl⟩
  have g : w6.grownBy w7 none := by subst hw7; exact grown_alloc _ _ _
  have RB2 := Lib.hid (show Tri w7 B2 (.int .i64 win) (.slice P2a P2n P2c) (.slice Q2a Q2n Q2c) by subst hw7; subst hB2; exact tri_made _ _ _ _ _)
  have G := Lib.hid (grown_trans G.out g)
  have K1 := Lib.hid (K1.out.grown g)
  have K2 := Lib.hid (K2.out.grown g)
  have RB1 := Lib.hid (RB1.out.grown g)
  have TV2 := Lib.hid (TV2.out.grown g)
  clear g
  go_upto_region 4 with fail
  rw [← hw7]
  try simp only [← hB2]
  clear hw7 hB2
  have AC := Lib.hid (acc_nil ⟨P2a, P2n, P2c⟩ ⟨Q2a, Q2n, Q2c⟩ ⟨win, tl, e1⟩ (Im.tg 200 1) w7 K2.out ok1.out rfl AF3.out)
  dsimp only [iv3, tv, Im.tg, Sl.v] at AC
  obtain ⟨⟨c0, c1, c2⟩, -⟩ := RB2.out
  go_wp2_with fail
  refine AC.out.mono ?_
  rintro e w8 ⟨⟨P3a, P3n, P3c⟩, ⟨Q3a, Q3n, Q3c⟩, ⟨V3a, V3n, V3c⟩, rfl, hk, -, ht, g⟩
  have K3 := Lib.hid hk.now
  have TV3 := Lib.hid ht.now
  have G := Lib.hid (grown_trans G.out g)
  have K1 := Lib.hid (K1.out.grown g)
  have K2 := Lib.hid (K2.out.grown g)
  have TV2 := Lib.hid (TV2.out.grown g)
  have RB1 := Lib.hid (RB1.out.grown g)
  have RB2 := Lib.hid (RB2.out.grown g)
  clear AC c0 c1 c2 hk ht g
  dsimp only [iv3, Sl.v]
  obtain ⟨B3, hB3⟩ : ∃ b, b = w8.heap.size := ⟨_, rfl⟩
  obtain ⟨w9, hw9⟩ : ∃ z, z = w8.alloc (Obj.cells #[.int .i64 win, .slice P3a P3n P3c, .slice Q3a Q3n Q3c] 29) := ⟨_, rfl⟩
  have g : w8.grownBy w9 none := by subst hw9; exact grown_alloc _ _ _
  have RB3 := Lib.hid (show Tri w9 B3 (.int .i64 win) (.slice P3a P3n P3c) (.slice Q3a Q3n Q3c) by subst hw9; subst hB3; exact tri_made _ _ _ _ _)
  have G := Lib.hid (grown_trans G.out g)
  have K1 := Lib.hid (K1.out.grown g)
  have K2 := Lib.hid (K2.out.grown g)
  have K3 := Lib.hid (K3.out.grown g)
  have TV2 := Lib.hid (TV2.out.grown g)
  have TV3 := Lib.hid (TV3.out.grown g)
  have RB1 := Lib.hid (RB1.out.grown g)
  have RB2 := Lib.hid (RB2.out.grown g)
  clear g
  go_upto_region 5 with fail
  rw [← hw9]
  try simp only [← hB3]
  clear hw9 hB3
  have AC := Lib.hid (acc_nil ⟨P3a, P3n, P3c⟩ ⟨Q3a, Q3n, Q3c⟩ ⟨win, tl, s3⟩ (Im.tg 200 1) w9 K3.out ok3.out rfl AF4.out)
  dsimp only [iv3, tv, Im.tg, Sl.v] at AC
  obtain ⟨⟨c0, c1, c2⟩, -⟩ := RB3.out
  go_wp2_with fail
  refine AC.out.mono ?_
  rintro e wA ⟨⟨P4a, P4n, P4c⟩, ⟨Q4a, Q4n, Q4c⟩, ⟨V4a, V4n, V4c⟩, rfl, hk, -, ht, g⟩
  have K4 := Lib.hid hk.now
  have TV4 := Lib.hid ht.now
  have G := Lib.hid (grown_trans G.out g)
  have K1 := Lib.hid (K1.out.grown g)
  have K2 := Lib.hid (K2.out.grown g)
  have K3 := Lib.hid (K3.out.grown g)
  have TV2 := Lib.hid (TV2.out.grown g)
  have TV3 := Lib.hid (TV3.out.grown g)
  have RB1 := Lib.hid (RB1.out.grown g)
  have RB2 := Lib.hid (RB2.out.grown g)
  have RB3 := Lib.hid (RB3.out.grown g)
  clear AC c0 c1 c2 hk ht g
  dsimp only [iv3, Sl.v]
  obtain ⟨B4, hB4⟩ : ∃ b, b = wA.heap.size := ⟨_, rfl⟩
  obtain ⟨wB, hwB⟩ : ∃ z, z = wA.alloc (Obj.cells #[.int .i64 win, .slice P4a P4n P4c, .slice Q4a Q4n Q4c] 29) := ⟨_, rfl⟩
  have g : wA.grownBy wB none := by subst hwB; exact grown_alloc _ _ _
  have RB4 := Lib.hid (show Tri wB B4 (.int .i64 win) (.slice P4a P4n P4c) (.slice Q4a Q4n Q4c) by subst hwB; subst hB4; exact tri_made _ _ _ _ _)
  have G := Lib.hid (grown_trans G.out g)
  have K1 := Lib.hid (K1.out.grown g)
  have K2 := Lib.hid (K2.out.grown g)
  have K3 := Lib.hid (K3.out.grown g)
  have K4 := Lib.hid (K4.out.grown g)
  have TV2 := Lib.hid (TV2.out.grown g)
  have TV3 := Lib.hid (TV3.out.grown g)
  have TV4 := Lib.hid (TV4.out.grown g)
  have RB1 := Lib.hid (RB1.out.grown g)
  have RB2 := Lib.hid (RB2.out.grown g)
  have RB3 := Lib.hid (RB3.out.grown g)
  clear g
  go_upto_region 6 with fail
  rw [← hwB]
  try simp only [← hB4]
  clear hwB hB4
  have l2 : 0 = V2n := TV2.out.len
  have l3 : 1 = V3n := TV3.out.len
  have l4 : 0 = V4n := TV4.out.len
  subst l2
  subst l3
  subst l4
  have S1 := Lib.hid (same_eq ⟨P1a, P1n, P1c⟩ ⟨Q1a, Q1n, Q1c⟩ ⟨P2a, P2n, P2c⟩ ⟨Q2a, Q2n, Q2c⟩ ⟨win, tl, e1⟩ wB K1.out K2.out)
  dsimp only [iv3, Sl.v] at S1
  obtain ⟨⟨a0, a1, a2⟩, -⟩ := RB1.out
  obtain ⟨⟨b0, b1, b2⟩, -⟩ := RB2.out
  go_wp2_with fail
  refine S1.out.mono ?_
  rintro e wC ⟨rfl, g⟩
  have G := Lib.hid (grown_trans G.out g)
  have S3 := Lib.hid (same_eq ⟨P3a, P3n, P3c⟩ ⟨Q3a, Q3n, Q3c⟩ ⟨P4a, P4n, P4c⟩ ⟨Q4a, Q4n, Q4c⟩ ⟨win, tl, s3⟩ wC (K3.out.grown g) (K4.out.grown g))
  dsimp only [iv3, Sl.v] at S3
  clear a0 a1 a2 b0 b1 b2
  obtain ⟨⟨a0, a1, a2⟩, -⟩ := RB3.out.grown g
  obtain ⟨⟨b0, b1, b2⟩, -⟩ := RB4.out.grown g
  clear g
  go_wp2_with fail
  refine S3.out.mono ?_
  rintro e wD ⟨rfl, g⟩
  have G := Lib.hid (grown_trans G.out g)
  clear g a0 a1 a2 b0 b1 b2
  go_wp2_with fail
  refine (awake_any wD).mono ?_
  rintro e wE ⟨rfl, g⟩
  have G := Lib.hid (grown_trans G.out g)
  clear g
  go_wp2
  go_ret
  exact ret_mk rfl G.out
end Go.Proofs.Yticmoaebegahgaa.Iw
