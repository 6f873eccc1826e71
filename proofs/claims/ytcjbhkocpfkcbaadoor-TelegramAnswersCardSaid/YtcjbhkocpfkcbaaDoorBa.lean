/- The walk of TelegramBack. -/
import Derived.Test.YtcjbhkocpfkcbaaDoorTz
import Derived.Test.YtcjbhkocpfkcbaaDoorTv
namespace Go.Proofs.YtcjbhkocpfkcbaaDoor.Wr
open Go.ChangeShapes Go.WideShapes Go.ChangeAt Go.RowKit

/-- Decode returned t. -/
def DecOK (t : Tm.Tg) (w : World) (e : Ending) (w' : World) : Prop :=
  w.grownBy w' none ∧ ∃ (V : Option Addr) (m cv : Nat), e = .returned (.tuple #[tv t (.slice V m cv), .int .i64 0]) ∧ IR w' V m t.vs ∧ m ≤ 16
theorem dec_ok {t : Tm.Tg} (hk : t.ok = true) (A : Option Addr) (n c : Nat) (w : World) (h : RB w A n t.bytes) (hc : n ≤ c) (hc2 : c ≤ 9223372036854775807) (hn : n ≤ 1000000) (ht : Tabled w) :
    Calls Tryd.prog 24 #[.slice A n c] w (DecOK t w) := by
  refine (decode_any A n c _ w h hc hc2 hn ht).mono ?_
  rintro e w' ⟨hg, u, V, m, cv, er, rfl, hi, hm, hd⟩
  obtain ⟨rfl, rfl⟩ := Tm.dc_unique hd (Tm.dc_bytes hk)
  exact ⟨hg, V, m, cv, rfl, hi, hm⟩
/-- The same, with what is known of the slice. -/
def EncOC (t : Tm.Tg) (w : World) (e : Ending) (w' : World) : Prop :=
  ∃ A n c, e = .returned (.tuple #[.slice A n c, .int .i64 0]) ∧ RB w' A n t.bytes ∧ w.grownBy w' none ∧ n ≤ c ∧ c ≤ 9223372036854775807 ∧ n ≤ 300
theorem enc_oc {t : Tm.Tg} {V : Option Addr} {n cv : Nat} {w : World} (h : IR w V n t.vs) (hn : n ≤ 4611686018427387904) (hk : t.ok = true) (ht : Tabled w) :
    Calls Tryd.prog 11 #[tv t (.slice V n cv)] w (EncOC t w) := by
  refine (encode_any t V n cv w h hn ht).mono ?_
  rintro e w' ⟨A, m, c, rfl, hm⟩
  rw [encR_yes hk] at hm ⊢
  exact ⟨A, m, c, rfl, hm.rb, hm.gr, hm.shape.1, hm.shape.2.1, by have := Tm.Tg.bytes_len hk; have := hm.len; dsimp only at this; omega⟩
/-- Encode of what is not valid. -/
def EncNo (w : World) (e : Ending) (w' : World) : Prop := e = .returned (.tuple #[.slice none 0 0, .int .i64 9]) ∧ w.grownBy w' none
theorem enc_no {t : Tm.Tg} {V : Option Addr} {n cv : Nat} {w : World} (h : IR w V n t.vs) (hn : n ≤ 4611686018427387904) (hk : t.ok = false) :
    Calls Tryd.prog 11 #[tv t (.slice V n cv)] w (EncNo w) := by
  have hw0 : w.grownBy (w.alloc (tcells t (.slice V n cv))) none := World.grownBy_alloc _ _ _
  have HI := Lib.hid h
  have K := Lib.hid hk
  clear h hk
  unfold tv tcells at *
  go_enter Tryd.func11, Tryd.ntmps11
  go_wp2_with fail
  refine (valid_at (t := t) (HI.out.grown hw0) hn K.out).mono ?_
  rintro e w1 ⟨rfl, g1⟩
  have G1 := Lib.hid (grown_trans hw0 g1)
  clear g1 hw0
  go_wp2
  go_ret2
  exact ⟨rfl, G1.out⟩

set_option maxRecDepth 100000 in
set_option maxHeartbeats 4000000 in
theorem back_short (A B : Option Addr) (n c m d : Nat) (w : World) (ht : Tabled w) (hm : m ≤ 9223372036854775807) (h : 500 < m) :
    Calls Tryd.prog 4 #[.slice A n c, .slice B m d] w (TrueEnd w) := by
  have HA := Lib.hid (awake_any w ht)
  clear ht
  go_enter Tryd.func4, Tryd.ntmps4
  go_wp2_with fail
  refine HA.out.mono ?_; rintro e w' ⟨rfl, hg⟩
  have G := Lib.hid (grown_below hg)
  clear hg
  go_wp2
  go_ret
  exact ⟨rfl, G.out⟩

set_option maxRecDepth 100000 in
set_option maxHeartbeats 4000000 in
theorem back_long (A B : Option Addr) (n c m d : Nat) (l : List Int) (lb : List UInt8) (w : World) (ht : Tabled w) (hl : InRow w A n c l) (hb : InB w B m d lb) (h : m ≤ 500) :
    Calls Tryd.prog 4 #[.slice A n c, .slice B m d] w (TrueEnd w) := by
  have HT := Lib.hid (fun w' (g : w.grownBy w' none) => ht.grown g)
  have HL := Lib.hid hl
  have HB := Lib.hid hb.1
  obtain ⟨-, hb1, hb2⟩ := hb
  clear ht hl
  go_enter Tryd.func4, Tryd.ntmps4
  go_wp2_with fail
  refine (new_any _ _ _ _ w HL.out).mono ?_
  rintro e w1 ⟨rfl, g1, s1, -⟩
  have G1 := Lib.hid g1
  have S1 := Lib.hid s1
  clear g1 s1
  go_wp2_with fail
  refine (some_any w.heap.size w1 S1.out).mono ?_
  intro e w2 h2
  have h2 := tg_end G1.out (Nat.le_refl _) h2
  obtain ⟨t, A2, n2, c2, rfl, g2, o2, l2⟩ := h2
  have hn2 : n2 ≤ 17 := by have := o2.len; omega
  have GA : w2.grownBy (w2.alloc (tcells t (.slice A2 n2 c2))) none := World.grownBy_alloc _ _ _
  have GW := Lib.hid (grown_trans g2 GA)
  have CT := Lib.hid (Six.made w2 t (.slice A2 n2 c2))
  have IT := Lib.hid (o2.ir.grown GA)
  have HB := Lib.hid (HB.out.grown GW.out)
  clear G1 S1 g2 o2 l2 GA
  unfold tv
  go_wp2_with fail
  obtain ⟨X, hX⟩ : ∃ X, w2.heap.size = X := ⟨_, rfl⟩
  rw [hX] at CT ⊢
  unfold tcells at GW CT IT HB
  generalize (w2.alloc (Obj.cells #[.int .i64 t.st, .int .i64 t.ep, .int .i64 t.sq, .int .i64 t.tm, .int .i64 t.kd, .slice A2 n2 c2] 24)) = W at *
  clear hX
  by_cases hk : t.ok = true
  · have HK := Lib.hid hk
    clear hk
    refine (enc_oc IT.out (by omega) HK.out (HT.out _ GW.out)).mono ?_
    rintro e w3 ⟨A3, n3, c3, rfl, r3, g3, s1, s2, s3⟩
    have GW := Lib.hid (grown_trans GW.out g3)
    have CT := Lib.hid (CT.out.grown g3 (by simp))
    have IT := Lib.hid (IT.out.grown g3)
    have HB := Lib.hid (HB.out.grown g3)
    have R3 := Lib.hid r3
    clear r3 g3
    go_wp2_with fail
    refine (dec_ok HK.out A3 n3 c3 _ R3.out s1 s2 (by omega) (HT.out _ GW.out)).mono ?_
    rintro e w4 ⟨g4, V4, m4, v4, rfl, i4, hm4⟩
    have GA : w4.grownBy (w4.alloc (tcells t (.slice V4 m4 v4))) none := World.grownBy_alloc _ _ _
    have g4 := grown_trans g4 GA
    have GW := Lib.hid (grown_trans GW.out g4)
    have CT := Lib.hid (CT.out.grown g4 (by simp))
    have IT := Lib.hid (IT.out.grown g4)
    have HB := Lib.hid (HB.out.grown g4)
    have CU := Lib.hid (Six.made w4 t (.slice V4 m4 v4))
    have IU := Lib.hid (i4.grown GA)
    clear g4 GA i4 R3
    unfold tv
    go_wp2_with fail
    unfold tcells at GW HB CT CU IT IU
    generalize (w4.alloc (Obj.cells #[.int .i64 t.st, .int .i64 t.ep, .int .i64 t.sq, .int .i64 t.tm, .int .i64 t.kd, .slice V4 m4 v4] 24)) = W4 at *
    refine (decode_any B m d lb W4 HB.out hb1 hb2 (by omega) (HT.out _ GW.out)).mono ?_
    rintro e w6 ⟨g6, v, V6, m6, v6, er, rfl, i6, hm6, hd⟩
    have GA : w6.grownBy (w6.alloc (tcells v (.slice V6 m6 v6))) none := World.grownBy_alloc _ _ _
    have g6 := grown_trans g6 GA
    have GW := Lib.hid (grown_trans GW.out g6)
    have HB := Lib.hid (HB.out.grown g6)
    have CT := Lib.hid (CT.out.grown g6 (by simp))
    have IT := Lib.hid (IT.out.grown g6)
    have CU := Lib.hid (CU.out.grown g6 (by simp))
    have IU := Lib.hid (IU.out.grown g6)
    have CV := Lib.hid (Six.made w6 v (.slice V6 m6 v6))
    have IV := Lib.hid (i6.grown GA)
    clear g6 GA i6
    unfold tv
    go_wp2_with fail
    unfold tcells at GW HB CV IV CT IT CU IU
    generalize (w6.alloc (Obj.cells #[.int .i64 v.st, .int .i64 v.ep, .int .i64 v.sq, .int .i64 v.tm, .int .i64 v.kd, .slice V6 m6 v6] 24)) = W6 at *
    clear CV
    by_cases her : er = 0
    · subst her
      obtain ⟨hvk, hvb⟩ := Tm.dc_back hd
      clear hd
      refine (enc_oc (t := v) IV.out (by omega) hvk (HT.out _ GW.out)).mono ?_
      rintro e w7 ⟨A7, n7, c7, rfl, r7, g7, -, -, -⟩
      rw [hvb] at r7
      have GW := Lib.hid (grown_trans GW.out g7)
      have HB := Lib.hid (HB.out.grown g7)
      have CT := Lib.hid (CT.out.grown g7 (by simp))
      have IT := Lib.hid (IT.out.grown g7)
      have CU := Lib.hid (CU.out.grown g7 (by simp))
      have IU := Lib.hid (IU.out.grown g7)
      clear hvk hvb g7 IV
      have cx0 := conv_str w7 A7 n7 c7 lb r7
      have cy0 := conv_str w7 B m d lb HB.out
      obtain ⟨⟨z0, z1, z2, z3, z4, z5⟩, -⟩ := CT.out
      obtain ⟨⟨y0, y1, y2, y3, y4, y5⟩, -⟩ := CU.out
      go_wp2_with fail
      refine (same_at (Tm.same_self t) IT.out IU.out (by omega) (by omega)).mono ?_
      rintro e w8 ⟨rfl, g8⟩
      have GW := Lib.hid (grown_trans GW.out g8)
      go_wp2_with fail
      refine (awake_any _ (HT.out _ GW.out)).mono ?_
      rintro e w9 ⟨rfl, g9⟩
      have GF := Lib.hid (grown_below (grown_trans GW.out g9))
      clear g9
      go_wp2
      go_ret
      exact ⟨rfl, GF.out⟩
    · have e0 : (er == 0) = false := by rw [beq_eq_false_iff_ne]; exact her
      clear her hd
      refine (encode_any v V6 m6 v6 _ IV.out (by omega) (HT.out _ GW.out)).mono ?_
      rintro e w7 ⟨A7, n7, c7, rfl, hm7⟩
      have g7 := hm7.gr
      clear hm7
      have GW := Lib.hid (grown_trans GW.out g7)
      have CT := Lib.hid (CT.out.grown g7 (by simp))
      have IT := Lib.hid (IT.out.grown g7)
      have CU := Lib.hid (CU.out.grown g7 (by simp))
      have IU := Lib.hid (IU.out.grown g7)
      clear g7 IV
      generalize (encR v).2 = x7 at *
      obtain ⟨⟨z0, z1, z2, z3, z4, z5⟩, -⟩ := CT.out
      obtain ⟨⟨y0, y1, y2, y3, y4, y5⟩, -⟩ := CU.out
      go_wp2_with fail
      refine (same_at (Tm.same_self t) IT.out IU.out (by omega) (by omega)).mono ?_
      rintro e w8 ⟨rfl, g8⟩
      have GW := Lib.hid (grown_trans GW.out g8)
      go_wp2_with fail
      refine (awake_any _ (HT.out _ GW.out)).mono ?_
      rintro e w9 ⟨rfl, g9⟩
      have GF := Lib.hid (grown_below (grown_trans GW.out g9))
      clear g9
      go_wp2
      go_ret
      exact ⟨rfl, GF.out⟩
  · have hk := eq_false_of_ne_true hk
    have HK := Lib.hid hk
    clear hk
    refine (enc_no IT.out (by omega) HK.out).mono ?_
    rintro e w3 ⟨rfl, g3⟩
    have GW := Lib.hid (grown_trans GW.out g3)
    have CT := Lib.hid (CT.out.grown g3 (by simp))
    have IT := Lib.hid (IT.out.grown g3)
    have HB := Lib.hid (HB.out.grown g3)
    clear g3
    go_wp2_with fail
    refine (decode_any none 0 0 [] _ (RB.nil _ _) (by omega) (by omega) (by omega) (HT.out _ GW.out)).mono ?_
    rintro e w4 ⟨g4, u4, V4, m4, v4, e4, rfl, -, -, -⟩
    have GA : w4.grownBy (w4.alloc (tcells u4 (.slice V4 m4 v4))) none := World.grownBy_alloc _ _ _
    have g4 := grown_trans g4 GA
    have GW := Lib.hid (grown_trans GW.out g4)
    have CT := Lib.hid (CT.out.grown g4 (by simp))
    have IT := Lib.hid (IT.out.grown g4)
    have HB := Lib.hid (HB.out.grown g4)
    clear g4 GA
    unfold tv
    go_wp2_with fail
    unfold tcells at GW HB CT IT
    generalize (w4.alloc (Obj.cells #[.int .i64 u4.st, .int .i64 u4.ep, .int .i64 u4.sq, .int .i64 u4.tm, .int .i64 u4.kd, .slice V4 m4 v4] 24)) = W4 at *
    refine (decode_any B m d lb W4 HB.out hb1 hb2 (by omega) (HT.out _ GW.out)).mono ?_
    rintro e w6 ⟨g6, v, V6, m6, v6, er, rfl, i6, hm6, hd⟩
    have GA : w6.grownBy (w6.alloc (tcells v (.slice V6 m6 v6))) none := World.grownBy_alloc _ _ _
    have g6 := grown_trans g6 GA
    have GW := Lib.hid (grown_trans GW.out g6)
    have HB := Lib.hid (HB.out.grown g6)
    have CT := Lib.hid (CT.out.grown g6 (by simp))
    have IT := Lib.hid (IT.out.grown g6)
    have CV := Lib.hid (Six.made w6 v (.slice V6 m6 v6))
    have IV := Lib.hid (i6.grown GA)
    clear g6 GA i6
    unfold tv
    go_wp2_with fail
    unfold tcells at GW HB CV IV CT IT
    generalize (w6.alloc (Obj.cells #[.int .i64 v.st, .int .i64 v.ep, .int .i64 v.sq, .int .i64 v.tm, .int .i64 v.kd, .slice V6 m6 v6] 24)) = W6 at *
    clear CV
    by_cases her : er = 0
    · subst her
      obtain ⟨hvk, hvb⟩ := Tm.dc_back hd
      clear hd
      refine (enc_oc (t := v) IV.out (by omega) hvk (HT.out _ GW.out)).mono ?_
      rintro e w7 ⟨A7, n7, c7, rfl, r7, g7, -, -, -⟩
      rw [hvb] at r7
      have GW := Lib.hid (grown_trans GW.out g7)
      have HB := Lib.hid (HB.out.grown g7)
      have CT := Lib.hid (CT.out.grown g7 (by simp))
      have IT := Lib.hid (IT.out.grown g7)
      clear hvk hvb g7 IV
      have cx0 := conv_str w7 A7 n7 c7 lb r7
      have cy0 := conv_str w7 B m d lb HB.out
      obtain ⟨⟨z0, z1, z2, z3, z4, z5⟩, -⟩ := CT.out
      go_wp2_with fail
      refine (valid_at IT.out (by omega) HK.out).mono ?_
      rintro e w8 ⟨rfl, g8⟩
      have GW := Lib.hid (grown_trans GW.out g8)
      go_wp2_with fail
      refine (awake_any _ (HT.out _ GW.out)).mono ?_
      rintro e w9 ⟨rfl, g9⟩
      have GF := Lib.hid (grown_below (grown_trans GW.out g9))
      clear g9
      go_wp2
      go_ret
      exact ⟨rfl, GF.out⟩
    · have e0 : (er == 0) = false := by rw [beq_eq_false_iff_ne]; exact her
      clear her hd
      refine (encode_any v V6 m6 v6 _ IV.out (by omega) (HT.out _ GW.out)).mono ?_
      rintro e w7 ⟨A7, n7, c7, rfl, hm7⟩
      have g7 := hm7.gr
      clear hm7
      have GW := Lib.hid (grown_trans GW.out g7)
      have CT := Lib.hid (CT.out.grown g7 (by simp))
      have IT := Lib.hid (IT.out.grown g7)
      clear g7 IV
      generalize (encR v).2 = x7 at *
      obtain ⟨⟨z0, z1, z2, z3, z4, z5⟩, -⟩ := CT.out
      go_wp2_with fail
      refine (valid_at IT.out (by omega) HK.out).mono ?_
      rintro e w8 ⟨rfl, g8⟩
      have GW := Lib.hid (grown_trans GW.out g8)
      go_wp2_with fail
      refine (awake_any _ (HT.out _ GW.out)).mono ?_
      rintro e w9 ⟨rfl, g9⟩
      have GF := Lib.hid (grown_below (grown_trans GW.out g9))
      clear g9
      go_wp2
      go_ret
      exact ⟨rfl, GF.out⟩

theorem back_any (A B : Option Addr) (n c m d : Nat) (l : List Int) (lb : List UInt8) (w : World) (ht : Tabled w) (hl : InRow w A n c l) (hb : InB w B m d lb) :
    Calls Tryd.prog 4 #[.slice A n c, .slice B m d] w (TrueEnd w) := by
  by_cases h : 500 < m
  · exact back_short A B n c m d w ht (by have := hb.2; omega) h
  · exact back_long A B n c m d l lb w ht hl hb (by omega)
end Go.Proofs.YtcjbhkocpfkcbaaDoor.Wr
