/- The walk of TelegramDamage. -/
import Derived.Test.YtcjbhkocpfkcbaaDoorTy
namespace Go.Proofs.YtcjbhkocpfkcbaaDoor.Wr
open Go.ChangeShapes Go.WideShapes Go.ChangeAt Go.RowKit

def DecBad (w : World) (e : Ending) (w' : World) : Prop :=
  w.grownBy w' none ∧ ∃ (t : Tm.Tg) (V : Option Addr) (m cv : Nat) (er : Int), e = .returned (.tuple #[tv t (.slice V m cv), .int .i64 er]) ∧ er ≠ 0
theorem dec_bad {t : Tm.Tg} {i : Nat} {y : UInt8} (hi : i < t.inside.length) (hy : y ≠ t.inside.getD i 0) (A : Option Addr) (n c : Nat) (w : World) (h : RB w A n (Wm.frame (t.inside.set i y))) (hc : n ≤ c) (hc2 : c ≤ 9223372036854775807) (hn : n ≤ 1000000) (ht : Tabled w) :
    Calls Tryd.prog 24 #[.slice A n c] w (DecBad w) := by
  refine (decode_any A n c _ w h hc hc2 hn ht).mono ?_
  rintro e w' ⟨hg, u, V, m, cv, er, rfl, _, _, hd⟩
  exact ⟨hg, u, V, m, cv, er, rfl, Tm.dc_damage hi hy hd⟩

set_option maxRecDepth 100000 in
set_option maxHeartbeats 2000000 in
theorem damage_zero (A : Option Addr) (n c : Nat) (l : List Int) (p : Int) (w : World) (ht : Tabled w) (hl : InRow w A n c l) (hp1 : -9223372036854775808 ≤ p) (hp2 : p ≤ 9223372036854775807) :
    Calls Tryd.prog 5 #[.slice A n c, .int .i64 p, .int .u8 0] w (TrueEnd w) := by
  have HT := Lib.hid (fun w' (g : w.grownBy w' none) => ht.grown g)
  have HL := Lib.hid hl
  clear ht hl
  go_enter Tryd.func5, Tryd.ntmps5
  go_wp2_with fail
  refine (new_any _ _ _ _ w HL.out).mono ?_
  rintro e w1 ⟨rfl, g1, s1, -⟩
  have G1 := Lib.hid g1
  have S1 := Lib.hid s1
  clear g1 s1
  go_wp2_with fail
  refine (tg_new G1.out (Nat.le_refl _) S1.out (by omega) (by omega)).mono ?_
  rintro e w2 ⟨t, A2, n2, c2, rfl, g2, o2, ⟨-, k2, l2⟩⟩
  have G2 := Lib.hid g2
  have K2 := Lib.hid k2
  have hn2 : n2 ≤ 3 := by have := o2.len; omega
  have I2 := Lib.hid o2.ir
  have L2 := Lib.hid (Tm.Tg.len k2)
  clear G1 S1 g2 o2 k2 l2
  unfold tv
  go_wp2_with fail
  have GA : w2.grownBy (w2.alloc (tcells t (.slice A2 n2 c2))) none := World.grownBy_alloc _ _ _
  refine (rinside_any t A2 n2 c2 _ (I2.out.grown GA) (Tm.Tg.fits_of_ok K2.out) (by omega)).mono ?_
  rintro e w3 ⟨A3, N, c3, rfl, hm3⟩
  have M3 := Lib.hid (hm3.base (grown_trans G2.out GA))
  have HN : Hid (t.inside.length = N) := hm3.len
  have hN : 0 < N ∧ N ≤ 149 := by
    have h1 := HN.out
    have h2 := L2.out
    unfold Tm.Tg.inside at h1
    rw [Tm.shut_len] at h1; omega
  obtain ⟨hN0, hN1⟩ := hN
  clear hm3 GA I2 G2 L2 K2
  go_wp2_with fail
  refine (mod_pos p N _ (by omega) (by omega) hp1 hp2).mono ?_
  rintro e w' ⟨rfl, rfl⟩
  have hi0 := Int.emod_nonneg p (b := (N : Int)) (by omega)
  have hi1 := Int.emod_lt_of_pos p (b := (N : Int)) (by omega)
  obtain ⟨i, hi⟩ := Int.eq_ofNat_of_zero_le hi0
  rw [hi] at hi1 ⊢
  clear hi0 hi
  have hin : i < N := by omega
  obtain ⟨g, rfl, hg, hgl, c1, f1⟩ := M3.out.at0 i hin
  have HD := Lib.hid (fun (x z : UInt8) (e : t.inside.getD i 0 = x) (h : x ^^^ z ≠ x) => dec_bad (t := t) (i := i) (y := x ^^^ z) (by rw [HN.out]; exact hin) (by rw [e]; exact h))
  obtain ⟨x, hx⟩ : ∃ x, t.inside.getD i 0 = x := ⟨_, rfl⟩
  rw [hx] at c1
  have HX := Lib.hid (HD.out x 1 hx (xor_ne x 1 (by decide)))
  clear HD hx
  have E1 : bits .xor .u8 (x.toNat : Int) 1 = ((x ^^^ 1).toNat : Int) := xor8_any x 1
  have hxl := x.toNat_lt
  have hzl := (x ^^^ 1).toNat_lt
  have M4 := Lib.hid (M3.out.store i (x ^^^ 1) hg)
  generalize x ^^^ 1 = z at *
  go_wp2_with fail
  have hl4 : (t.inside.set i z).length = N := by rw [List.length_set]; exact HN.out
  refine (rstuff_any _ N c3 _ _ M4.out.rb (by omega)).mono ?_
  rintro e w5 ⟨A5, n5, c5, rfl, hm5⟩
  have h5 : n5 ≤ 1000000 := by
    have h1 := hm5.len
    have h2 := (Wm.esc_len (t.inside.set i z)).2
    rw [Wm.frame_len] at h1; omega
  obtain ⟨s1, s2, -⟩ := hm5.shape
  have G5 := Lib.hid (grown_trans M4.out.gr hm5.gr)
  have R5 := Lib.hid hm5.rb
  clear hm5 hl4 M4 M3 c1 f1
  go_wp2_with fail
  refine (HX.out A5 n5 c5 w5 R5.out s1 s2 h5 (HT.out _ G5.out)).mono ?_
  rintro e w6 ⟨g6, u, V, m, cv, er, rfl, her⟩
  have G6 : Hid (w.grownBy (w6.alloc (tcells u (.slice V m cv))) none) := grown_trans (grown_trans G5.out g6) (World.grownBy_alloc _ _ _)
  have e0 : (er != 0) = true := by rw [bne_iff_ne]; exact her
  clear her G5 R5 HX g6
  unfold tv
  unfold tcells at G6
  go_wp2_with fail
  refine (awake_any _ (HT.out _ G6.out)).mono ?_
  rintro e w7 ⟨rfl, g7⟩
  have GF := Lib.hid (grown_below (grown_trans G6.out g7))
  clear g7
  go_wp2
  go_ret
  exact ⟨rfl, GF.out⟩

set_option maxRecDepth 100000 in
set_option maxHeartbeats 2000000 in
theorem damage_one (A : Option Addr) (n c : Nat) (l : List Int) (p : Int) (w : World) (ht : Tabled w) (hl : InRow w A n c l) (hp1 : -9223372036854775808 ≤ p) (hp2 : p ≤ 9223372036854775807) :
    Calls Tryd.prog 5 #[.slice A n c, .int .i64 p, .int .u8 1] w (TrueEnd w) := by
  have HT := Lib.hid (fun w' (g : w.grownBy w' none) => ht.grown g)
  have HL := Lib.hid hl
  clear ht hl
  go_enter Tryd.func5, Tryd.ntmps5
  go_wp2_with fail
  refine (new_any _ _ _ _ w HL.out).mono ?_
  rintro e w1 ⟨rfl, g1, s1, -⟩
  have G1 := Lib.hid g1
  have S1 := Lib.hid s1
  clear g1 s1
  go_wp2_with fail
  refine (tg_new G1.out (Nat.le_refl _) S1.out (by omega) (by omega)).mono ?_
  rintro e w2 ⟨t, A2, n2, c2, rfl, g2, o2, ⟨-, k2, l2⟩⟩
  have G2 := Lib.hid g2
  have K2 := Lib.hid k2
  have hn2 : n2 ≤ 3 := by have := o2.len; omega
  have I2 := Lib.hid o2.ir
  have L2 := Lib.hid (Tm.Tg.len k2)
  clear G1 S1 g2 o2 k2 l2
  unfold tv
  go_wp2_with fail
  have GA : w2.grownBy (w2.alloc (tcells t (.slice A2 n2 c2))) none := World.grownBy_alloc _ _ _
  refine (rinside_any t A2 n2 c2 _ (I2.out.grown GA) (Tm.Tg.fits_of_ok K2.out) (by omega)).mono ?_
  rintro e w3 ⟨A3, N, c3, rfl, hm3⟩
  have M3 := Lib.hid (hm3.base (grown_trans G2.out GA))
  have HN : Hid (t.inside.length = N) := hm3.len
  have hN : 0 < N ∧ N ≤ 149 := by
    have h1 := HN.out
    have h2 := L2.out
    unfold Tm.Tg.inside at h1
    rw [Tm.shut_len] at h1; omega
  obtain ⟨hN0, hN1⟩ := hN
  clear hm3 GA I2 G2 L2 K2
  go_wp2_with fail
  refine (mod_pos p N _ (by omega) (by omega) hp1 hp2).mono ?_
  rintro e w' ⟨rfl, rfl⟩
  have hi0 := Int.emod_nonneg p (b := (N : Int)) (by omega)
  have hi1 := Int.emod_lt_of_pos p (b := (N : Int)) (by omega)
  obtain ⟨i, hi⟩ := Int.eq_ofNat_of_zero_le hi0
  rw [hi] at hi1 ⊢
  clear hi0 hi
  have hin : i < N := by omega
  obtain ⟨g, rfl, hg, hgl, c1, f1⟩ := M3.out.at0 i hin
  have HD := Lib.hid (fun (x z : UInt8) (e : t.inside.getD i 0 = x) (h : x ^^^ z ≠ x) => dec_bad (t := t) (i := i) (y := x ^^^ z) (by rw [HN.out]; exact hin) (by rw [e]; exact h))
  obtain ⟨x, hx⟩ : ∃ x, t.inside.getD i 0 = x := ⟨_, rfl⟩
  rw [hx] at c1
  have HX := Lib.hid (HD.out x 1 hx (xor_ne x 1 (by decide)))
  clear HD hx
  have E1 : bits .xor .u8 (x.toNat : Int) 1 = ((x ^^^ 1).toNat : Int) := xor8_any x 1
  have hxl := x.toNat_lt
  have hzl := (x ^^^ 1).toNat_lt
  have M4 := Lib.hid (M3.out.store i (x ^^^ 1) hg)
  generalize x ^^^ 1 = z at *
  go_wp2_with fail
  have hl4 : (t.inside.set i z).length = N := by rw [List.length_set]; exact HN.out
  refine (rstuff_any _ N c3 _ _ M4.out.rb (by omega)).mono ?_
  rintro e w5 ⟨A5, n5, c5, rfl, hm5⟩
  have h5 : n5 ≤ 1000000 := by
    have h1 := hm5.len
    have h2 := (Wm.esc_len (t.inside.set i z)).2
    rw [Wm.frame_len] at h1; omega
  obtain ⟨s1, s2, -⟩ := hm5.shape
  have G5 := Lib.hid (grown_trans M4.out.gr hm5.gr)
  have R5 := Lib.hid hm5.rb
  clear hm5 hl4 M4 M3 c1 f1
  go_wp2_with fail
  refine (HX.out A5 n5 c5 w5 R5.out s1 s2 h5 (HT.out _ G5.out)).mono ?_
  rintro e w6 ⟨g6, u, V, m, cv, er, rfl, her⟩
  have G6 : Hid (w.grownBy (w6.alloc (tcells u (.slice V m cv))) none) := grown_trans (grown_trans G5.out g6) (World.grownBy_alloc _ _ _)
  have e0 : (er != 0) = true := by rw [bne_iff_ne]; exact her
  clear her G5 R5 HX g6
  unfold tv
  unfold tcells at G6
  go_wp2_with fail
  refine (awake_any _ (HT.out _ G6.out)).mono ?_
  rintro e w7 ⟨rfl, g7⟩
  have GF := Lib.hid (grown_below (grown_trans G6.out g7))
  clear g7
  go_wp2
  go_ret
  exact ⟨rfl, GF.out⟩

set_option maxRecDepth 100000 in
set_option maxHeartbeats 2000000 in
theorem damage_more (A : Option Addr) (n c : Nat) (l : List Int) (p : Int) (y : UInt8) (hy : 1 < y.toNat) (w : World) (ht : Tabled w) (hl : InRow w A n c l) (hp1 : -9223372036854775808 ≤ p) (hp2 : p ≤ 9223372036854775807) :
    Calls Tryd.prog 5 #[.slice A n c, .int .i64 p, .int .u8 (y.toNat : Int)] w (TrueEnd w) := by
  have HT := Lib.hid (fun w' (g : w.grownBy w' none) => ht.grown g)
  have HL := Lib.hid hl
  have HY : Hid (y ≠ 0) := by
    intro e; subst e; exact absurd hy (by decide)
  have hyl := y.toNat_lt
  clear ht hl
  go_enter Tryd.func5, Tryd.ntmps5
  go_wp2_with fail
  refine (new_any _ _ _ _ w HL.out).mono ?_
  rintro e w1 ⟨rfl, g1, s1, -⟩
  have G1 := Lib.hid g1
  have S1 := Lib.hid s1
  clear g1 s1
  go_wp2_with fail
  refine (tg_new G1.out (Nat.le_refl _) S1.out (by omega) (by omega)).mono ?_
  rintro e w2 ⟨t, A2, n2, c2, rfl, g2, o2, ⟨-, k2, l2⟩⟩
  have G2 := Lib.hid g2
  have K2 := Lib.hid k2
  have hn2 : n2 ≤ 3 := by have := o2.len; omega
  have I2 := Lib.hid o2.ir
  have L2 := Lib.hid (Tm.Tg.len k2)
  clear G1 S1 g2 o2 k2 l2
  unfold tv
  go_wp2_with fail
  have GA : w2.grownBy (w2.alloc (tcells t (.slice A2 n2 c2))) none := World.grownBy_alloc _ _ _
  refine (rinside_any t A2 n2 c2 _ (I2.out.grown GA) (Tm.Tg.fits_of_ok K2.out) (by omega)).mono ?_
  rintro e w3 ⟨A3, N, c3, rfl, hm3⟩
  have M3 := Lib.hid (hm3.base (grown_trans G2.out GA))
  have HN : Hid (t.inside.length = N) := hm3.len
  have hN : 0 < N ∧ N ≤ 149 := by
    have h1 := HN.out
    have h2 := L2.out
    unfold Tm.Tg.inside at h1
    rw [Tm.shut_len] at h1; omega
  obtain ⟨hN0, hN1⟩ := hN
  clear hm3 GA I2 G2 L2 K2
  go_wp2_with fail
  refine (mod_pos p N _ (by omega) (by omega) hp1 hp2).mono ?_
  rintro e w' ⟨rfl, rfl⟩
  have hi0 := Int.emod_nonneg p (b := (N : Int)) (by omega)
  have hi1 := Int.emod_lt_of_pos p (b := (N : Int)) (by omega)
  obtain ⟨i, hi⟩ := Int.eq_ofNat_of_zero_le hi0
  rw [hi] at hi1 ⊢
  clear hi0 hi
  have hin : i < N := by omega
  obtain ⟨g, rfl, hg, hgl, c1, f1⟩ := M3.out.at0 i hin
  have HD := Lib.hid (fun (x z : UInt8) (e : t.inside.getD i 0 = x) (h : x ^^^ z ≠ x) => dec_bad (t := t) (i := i) (y := x ^^^ z) (by rw [HN.out]; exact hin) (by rw [e]; exact h))
  obtain ⟨x, hx⟩ : ∃ x, t.inside.getD i 0 = x := ⟨_, rfl⟩
  rw [hx] at c1
  have HX := Lib.hid (HD.out x y hx (xor_ne x y HY.out))
  clear HD hx
  have E1 : bits .xor .u8 (x.toNat : Int) (y.toNat : Int) = ((x ^^^ y).toNat : Int) := xor8_any x y
  have hxl := x.toNat_lt
  have hzl := (x ^^^ y).toNat_lt
  have M4 := Lib.hid (M3.out.store i (x ^^^ y) hg)
  generalize x ^^^ y = z at *
  go_wp2_with fail
  have hl4 : (t.inside.set i z).length = N := by rw [List.length_set]; exact HN.out
  refine (rstuff_any _ N c3 _ _ M4.out.rb (by omega)).mono ?_
  rintro e w5 ⟨A5, n5, c5, rfl, hm5⟩
  have h5 : n5 ≤ 1000000 := by
    have h1 := hm5.len
    have h2 := (Wm.esc_len (t.inside.set i z)).2
    rw [Wm.frame_len] at h1; omega
  obtain ⟨s1, s2, -⟩ := hm5.shape
  have G5 := Lib.hid (grown_trans M4.out.gr hm5.gr)
  have R5 := Lib.hid hm5.rb
  clear hm5 hl4 M4 M3 c1 f1
  go_wp2_with fail
  refine (HX.out A5 n5 c5 w5 R5.out s1 s2 h5 (HT.out _ G5.out)).mono ?_
  rintro e w6 ⟨g6, u, V, m, cv, er, rfl, her⟩
  have G6 : Hid (w.grownBy (w6.alloc (tcells u (.slice V m cv))) none) := grown_trans (grown_trans G5.out g6) (World.grownBy_alloc _ _ _)
  have e0 : (er != 0) = true := by rw [bne_iff_ne]; exact her
  clear her G5 R5 HX g6
  unfold tv
  unfold tcells at G6
  go_wp2_with fail
  refine (awake_any _ (HT.out _ G6.out)).mono ?_
  rintro e w7 ⟨rfl, g7⟩
  have GF := Lib.hid (grown_below (grown_trans G6.out g7))
  clear g7
  go_wp2
  go_ret
  exact ⟨rfl, GF.out⟩

theorem damage_any (A : Option Addr) (n c : Nat) (l : List Int) (p : Int) (y : UInt8) (w : World) (ht : Tabled w) (hl : InRow w A n c l) (hp1 : -9223372036854775808 ≤ p) (hp2 : p ≤ 9223372036854775807) :
    Calls Tryd.prog 5 #[.slice A n c, .int .i64 p, .int .u8 (y.toNat : Int)] w (TrueEnd w) := by
  by_cases h0 : y.toNat = 0
  · rw [h0]; exact damage_zero A n c l p w ht hl hp1 hp2
  · by_cases h1 : y.toNat = 1
    · rw [h1]; exact damage_one A n c l p w ht hl hp1 hp2
    · exact damage_more A n c l p y (by omega) w ht hl hp1 hp2
end Go.Proofs.YtcjbhkocpfkcbaaDoor.Wr
