/- The walk of WireSums. -/
import Derived.Test.YtibbmbedmalapaaDoorAwake
import Derived.Test.YtibbmbedmalapaaDoorKeep
namespace Go.Proofs.YtibbmbedmalapaaDoor
open Go.ChangeShapes Go.WideShapes Go.ChangeAt Go.RowKit

/-- What came in: a slice of bytes. -/
def InB (w : World) (A : Option Addr) (n c : Nat) (l : List UInt8) : Prop := RB w A n l ∧ n ≤ c ∧ c ≤ 9223372036854775807

theorem bvs_set (l : List UInt8) (i : Nat) (y : UInt8) : bvs (l.set i y) = (bvs l).set i (bv y) := by simp [bvs, List.map_set]
theorem Made.store {w0 w : World} {g n c : Nat} {l : List UInt8} (h : Made w0 w (some ⟨g, 0, none⟩) n c l) (i : Nat) (y : UInt8) (hg : w0.heap.size ≤ g) :
    Made w0 (w.setCell ⟨g, i, none⟩ (.int .u8 (y.toNat : Int))) (some ⟨g, 0, none⟩) n c (l.set i y) := by
  obtain ⟨h1, h2⟩ := h.own.stored i (bv y)
  exact ⟨by rw [bvs_set]; exact h1, grown_off h.gr h2 hg⟩
theorem xor8_any (x y : UInt8) : bits .xor .u8 (x.toNat : Int) (y.toNat : Int) = ((x ^^^ y).toNat : Int) := by
  have h := u8_xor_nat x.toNat y.toNat x.toNat_lt y.toNat_lt
  rw [UInt8.toNat_xor]; exact h
theorem xor_ne (x y : UInt8) (h : y ≠ 0) : x ^^^ y ≠ x := by
  intro e
  apply h
  have := congrArg (x ^^^ ·) e
  simpa [← UInt8.xor_assoc] using this

def TrueEnd (w : World) (e : Ending) (w' : World) : Prop := e = .returned (.bool true) ∧ Below w.heap.size w w'

theorem sums_short (A : Option Addr) (n c : Nat) (p : Int) (y : Nat) (w : World) (ht : Tabled w) (hn : n ≤ 9223372036854775807) (h : 300 < n ∨ n = 0 ∨ y = 0) :
    Calls Tryd.prog 6 #[.slice A n c, .int .i64 p, .int .u8 (y : Int)] w (TrueEnd w) := by
  have HA := Lib.hid (awake_any w ht)
  clear ht
  by_cases h1 : 300 < n
  · clear h
    go_enter Tryd.func6, Tryd.ntmps6
    go_wp2_with fail
    refine HA.out.mono ?_; rintro e w' ⟨rfl, hg⟩
    have G := Lib.hid (grown_below hg)
    clear hg
    go_wp2
    go_ret
    exact ⟨rfl, G.out⟩
  · by_cases h2 : n = 0
    · subst h2
      clear h
      go_enter Tryd.func6, Tryd.ntmps6
      go_wp2_with fail
      refine HA.out.mono ?_; rintro e w' ⟨rfl, hg⟩
      have G := Lib.hid (grown_below hg)
      clear hg
      go_wp2
      go_ret
      exact ⟨rfl, G.out⟩
    · obtain rfl : y = 0 := by omega
      have d2 : ((n : Int) == 0) = false := by rw [beq_eq_false_iff_ne]; omega
      clear h h2
      go_enter Tryd.func6, Tryd.ntmps6
      go_wp2_with fail
      refine HA.out.mono ?_; rintro e w' ⟨rfl, hg⟩
      have G := Lib.hid (grown_below hg)
      clear hg
      go_wp2
      go_ret
      exact ⟨rfl, G.out⟩

set_option maxHeartbeats 1000000 in
theorem sums_long (A : Option Addr) (n c : Nat) (l : List UInt8) (p : Int) (y : UInt8) (w : World) (ht : Tabled w) (hb : InB w A n c l) (h1 : n ≤ 300) (h2 : 0 < n) (hy : y ≠ 0) (hp1 : -9223372036854775808 ≤ p) (hp2 : p ≤ 9223372036854775807) :
    Calls Tryd.prog 6 #[.slice A n c, .int .i64 p, .int .u8 (y.toNat : Int)] w (TrueEnd w) := by
  obtain ⟨hb, _, _⟩ := hb
  have HB := Lib.hid hb
  have HT := Lib.hid ht
  have d2 : ((n : Int) == 0) = false := by rw [beq_eq_false_iff_ne]; omega
  have hy0 : ¬ y.toNat = 0 := fun e => hy (UInt8.toNat_inj.1 (by rw [e]; rfl))
  have d3 : (((y.toNat : Nat) : Int) == 0) = false := by rw [beq_eq_false_iff_ne]; omega
  have HY := Lib.hid hy
  have hyl := y.toNat_lt
  clear hb ht hy hy0
  have M0 := Lib.hid (made_lit w w #[] 0 [] rfl rfl (grown_refl _ _) (by omega))
  go_enter Tryd.func6, Tryd.ntmps6
  go_wp2_with (at_builtin; refine wpList_app rfl (.tmp 21) (.tmp 22) rfl rfl rfl M0.out (HB.out.grown (grown_alloc _ _ _)) (by omega) n (by omega) ?_; intro A2 c2 w2 hm2 _; have M2 := Lib.hid hm2; clear hm2)
  refine (mod_pos p n _ (by omega) (by omega) hp1 hp2).mono ?_
  rintro e w' ⟨rfl, rfl⟩
  have hi0 := Int.emod_nonneg p (b := (n : Int)) (by omega)
  have hi1 := Int.emod_lt_of_pos p (b := (n : Int)) (by omega)
  obtain ⟨i, hi⟩ := Int.eq_ofNat_of_zero_le hi0
  rw [hi] at hi1 ⊢
  clear hi0 hi
  have hin : i < n := by omega
  obtain ⟨g, rfl, hg, hgl, c1, f1⟩ := M2.out.at0 i hin
  have HN := Lib.hid (show Wm.crc l ≠ Wm.crc (([] ++ l).set i (([] ++ l).getD i 0 ^^^ y)) from by
    rw [List.nil_append]
    exact Wm.crc_set l i (by rw [HB.out.1]; exact hin) _ (by
      have : l.getD i 0 = l[i]'(by rw [HB.out.1]; exact hin) := by simp [List.getD, show i < l.length by rw [HB.out.1]; exact hin]
      rw [← this]; exact xor_ne _ _ HY.out))
  generalize ([] ++ l).getD i 0 = x at *
  have E1 := xor8_any x y
  have hxl := x.toNat_lt
  have hzl := (x ^^^ y).toNat_lt
  have M3 := Lib.hid (M2.out.store i (x ^^^ y) hg)
  generalize x ^^^ y = z at *
  go_wp2_with fail
  refine (sum_any A n c l _ (HB.out.grown M3.out.gr) (HT.out.grown M3.out.gr) (by omega)).mono ?_
  rintro e w' ⟨rfl, rfl⟩
  go_wp2_with fail
  refine (sum_any _ n c2 _ _ M3.out.rb (HT.out.grown M3.out.gr) (by omega)).mono ?_
  rintro e w' ⟨rfl, rfl⟩
  have dn : (((Wm.crc l : Nat) : Int) != ((Wm.crc (([] ++ l).set i z) : Nat) : Int)) = true := by rw [bne_iff_ne]; have := HN.out; omega
  have dn2 : (((Wm.crc l : Nat) : Int) == ((Wm.crc (([] ++ l).set i z) : Nat) : Int)) = false := by rw [beq_eq_false_iff_ne]; have := HN.out; omega
  have HA := Lib.hid (awake_any _ (HT.out.grown M3.out.gr))
  generalize Wm.crc l = r1 at *
  generalize Wm.crc (([] ++ l).set i z) = r2 at *
  go_wp2_with fail
  refine HA.out.mono ?_; rintro e w' ⟨rfl, hg3⟩
  have G := Lib.hid (grown_below (grown_trans M3.out.gr hg3))
  clear hg3
  go_wp2
  go_ret
  exact ⟨rfl, G.out⟩

theorem sums_walk (A : Option Addr) (n c : Nat) (l : List UInt8) (p : Int) (y : UInt8) (w : World) (ht : Tabled w) (hb : InB w A n c l) (hp1 : -9223372036854775808 ≤ p) (hp2 : p ≤ 9223372036854775807) :
    Calls Tryd.prog 6 #[.slice A n c, .int .i64 p, .int .u8 (y.toNat : Int)] w (TrueEnd w) := by
  by_cases h : 300 < n ∨ n = 0 ∨ y.toNat = 0
  · exact sums_short A n c p y.toNat w ht (by have := hb.2; omega) h
  · exact sums_long A n c l p y w ht hb (by omega) (by omega) (fun e => h (.inr (.inr (by rw [e]; rfl)))) hp1 hp2
end Go.Proofs.YtibbmbedmalapaaDoor
