/- The walks of RoundTurns, RoundBetween and RoundRoots. -/
import Derived.Test.YtkpmhgikcipedaaAwake
namespace Go.Proofs.Ytkpmhgikcipedaa
open Go.ChangeShapes Go.WideShapes Go.ChangeAt Go.RowKit

theorem down_ok {a b : Int} (h1 : -2305843009213693952 ≤ a) (h2 : a ≤ 2305843009213693952) (h3 : 1 ≤ b) (h4 : b ≤ 1099511627776) : Rd.down a b = a / b := by unfold Rd.down; rw [Rd.ok_mk h1 h2 h3 h4]; rfl
theorem up_ok {a b : Int} (h1 : -2305843009213693952 ≤ a) (h2 : a ≤ 2305843009213693952) (h3 : 1 ≤ b) (h4 : b ≤ 1099511627776) : Rd.up a b = -(-a / b) := by unfold Rd.up; rw [Rd.ok_mk h1 h2 h3 h4]; rfl
theorem half_ok {a b : Int} (h1 : -2305843009213693952 ≤ a) (h2 : a ≤ 2305843009213693952) (h3 : 1 ≤ b) (h4 : b ≤ 1099511627776) : Rd.half a b = (2 * a + b) / (2 * b) := by unfold Rd.half; rw [Rd.ok_mk h1 h2 h3 h4]; rfl

theorem turns_half (n m d : Int) (hd : 1 ≤ d) : (2 * (n + m * d) + d) / (2 * d) = (2 * n + d) / (2 * d) + m := by
  rw [show 2 * (n + m * d) + d = (2 * n + d) + m * (2 * d) by rw [Int.mul_add, ← Int.mul_assoc, ← Int.mul_assoc, Int.mul_comm 2 m]; omega]
  exact Int.add_mul_ediv_right _ _ (by omega)
theorem turns_up (n m d : Int) (hd : 1 ≤ d) : -(-(n + m * d) / d) = -(-n / d) + m := by
  rw [show -(n + m * d) = -n + (-m) * d by rw [Int.neg_mul]; omega, Int.add_mul_ediv_right _ _ (by omega)]; omega

theorem half_range (n d : Int) (hd : 1 ≤ d) (k : Int) (hk : 0 ≤ k) (h1 : -k ≤ n) (h2 : n ≤ k) : -k - 1 ≤ (2 * n + d) / (2 * d) ∧ (2 * n + d) / (2 * d) ≤ k + 1 := by
  have e : n / d ≤ (2 * n + d) / (2 * d) ∧ (2 * n + d) / (2 * d) ≤ n / d + 1 := by
    by_cases h : d ≤ 2 * (n - n / d * d)
    · have := Rd.half_more n d hd h; omega
    · have := Rd.half_same n d hd (by omega); omega
  have := Rd.ediv_range n d hd k hk h1 h2
  omega

set_option maxHeartbeats 1000000 in
theorem turns_walk (n a1 m : Int) (w0 : (Lit.int .i32 n).wf = true) (w1 : (Lit.int .u16 a1).wf = true) (w2 : (Lit.int .i16 m).wf = true) (w : World) :
    Calls Try.prog 8 #[.int .i32 n, .int .u16 a1, .int .i16 m] w fun e w' => e = .returned (.bool true) ∧ Below w.heap.size w w' := by
  have b0 := bounds_i32 w0
  have b1 := bounds_u16 w1
  have b2 := bounds_i16 w2
  clear w0 w1 w2
  have hmd : -2147483648 ≤ m * (1 + a1) ∧ m * (1 + a1) ≤ 2147483648 := by
    constructor
    · have := Int.mul_le_mul_of_nonneg_right (show -32768 ≤ m by omega) (show 0 ≤ 1 + a1 by omega)
      have : (-32768 : Int) * 65536 ≤ -32768 * (1 + a1) := by omega
      omega
    · have := Int.mul_le_mul_of_nonneg_right (show m ≤ 32768 by omega) (show 0 ≤ 1 + a1 by omega)
      omega
  have hd0 := down_any (-n) (1 + a1) w
  have hu0 := up_any n (1 + a1) w
  have hd1 := down_any (n + m * (1 + a1)) (1 + a1) w
  have hd2 := down_any n (1 + a1) w
  have hu1 := up_any (n + m * (1 + a1)) (1 + a1) w
  have hh1 := half_any (n + m * (1 + a1)) (1 + a1) w
  have hh2 := half_any n (1 + a1) w
  rw [down_ok (by omega) (by omega) (by omega) (by omega)] at hd0 hd1 hd2
  rw [up_ok (by omega) (by omega) (by omega) (by omega)] at hu0 hu1
  rw [half_ok (by omega) (by omega) (by omega) (by omega)] at hh1 hh2
  rw [Int.add_mul_ediv_right _ _ (by omega)] at hd1
  rw [turns_up n m _ (by omega)] at hu1
  rw [turns_half n m _ (by omega)] at hh1
  have r1 := Rd.ediv_range n (1 + a1) (by omega) 2147483648 (by omega) (by omega) (by omega)
  have r2 := Rd.ediv_range (-n) (1 + a1) (by omega) 2147483648 (by omega) (by omega) (by omega)
  have r3 := half_range n (1 + a1) (by omega) 2147483648 (by omega) (by omega) (by omega)
  generalize n / (1 + a1) = D at *
  generalize -n / (1 + a1) = U at *
  generalize (2 * n + (1 + a1)) / (2 * (1 + a1)) = H at *
  have A0 := Lib.hid hd0
  have A1 := Lib.hid hu0
  have A2 := Lib.hid hd1
  have A3 := Lib.hid hd2
  have A4 := Lib.hid hu1
  have A5 := Lib.hid hh1
  have A6 := Lib.hid hh2
  clear hd0 hu0 hd1 hd2 hu1 hh1 hh2
  go_enter Try.func8, Try.ntmps8
  go_wp2_with fail
  refine A0.out.mono ?_; rintro e w' ⟨rfl, rfl⟩
  go_wp2_with fail
  refine A1.out.mono ?_; rintro e w' ⟨rfl, rfl⟩
  go_wp2_with fail
  refine A2.out.mono ?_; rintro e w' ⟨rfl, rfl⟩
  go_wp2_with fail
  refine A3.out.mono ?_; rintro e w' ⟨rfl, rfl⟩
  go_wp2_with fail
  refine A4.out.mono ?_; rintro e w' ⟨rfl, rfl⟩
  go_wp2_with fail
  refine A1.out.mono ?_; rintro e w' ⟨rfl, rfl⟩
  go_wp2_with fail
  refine A5.out.mono ?_; rintro e w' ⟨rfl, rfl⟩
  go_wp2_with fail
  refine A6.out.mono ?_; rintro e w' ⟨rfl, rfl⟩
  go_wp2_with fail
  refine (awake_any _).mono ?_; rintro e w' ⟨rfl, hg⟩
  have G := Lib.hid (grown_below hg)
  clear hg
  go_wp2
  go_ret
  exact ⟨rfl, G.out⟩

theorem up_between (n d : Int) (hd : 1 ≤ d) : n ≤ -(-n / d) * d ∧ (-(-n / d) - 1) * d < n := by
  have e := Int.mul_ediv_add_emod (-n) d
  have l := Int.emod_lt_of_pos (-n) (b := d) (by omega)
  have l2 := Int.emod_nonneg (-n) (b := d) (by omega)
  rw [Int.mul_comm] at e
  rw [Int.sub_mul, Int.neg_mul]
  omega
theorem half_between (n d : Int) (hd : 1 ≤ d) : 2 * (n - (2 * n + d) / (2 * d) * d) < d ∧ -d ≤ 2 * (n - (2 * n + d) / (2 * d) * d) := by
  have e := Int.mul_ediv_add_emod n d
  have l := Int.emod_lt_of_pos n (b := d) (by omega)
  have l2 := Int.emod_nonneg n (b := d) (by omega)
  rw [Int.mul_comm] at e
  by_cases h : d ≤ 2 * (n - n / d * d)
  · rw [← Rd.half_more n d hd h, Int.add_mul]; omega
  · rw [← Rd.half_same n d hd (by omega)]; omega

set_option maxHeartbeats 1000000 in
theorem between_walk (n a1 : Int) (w0 : (Lit.int .i32 n).wf = true) (w1 : (Lit.int .u16 a1).wf = true) (w : World) :
    Calls Try.prog 4 #[.int .i32 n, .int .u16 a1] w fun e w' => e = .returned (.bool true) ∧ Below w.heap.size w w' := by
  have b0 := bounds_i32 w0
  have b1 := bounds_u16 w1
  clear w0 w1
  have hd0 := down_any n (1 + a1) w
  have hu0 := up_any n (1 + a1) w
  have hh0 := half_any n (1 + a1) w
  rw [down_ok (by omega) (by omega) (by omega) (by omega)] at hd0
  rw [up_ok (by omega) (by omega) (by omega) (by omega)] at hu0
  rw [half_ok (by omega) (by omega) (by omega) (by omega)] at hh0
  have r1 := Rd.ediv_range n (1 + a1) (by omega) 2147483648 (by omega) (by omega) (by omega)
  have r2 := Rd.ediv_range (-n) (1 + a1) (by omega) 2147483648 (by omega) (by omega) (by omega)
  have r3 := half_range n (1 + a1) (by omega) 2147483648 (by omega) (by omega) (by omega)
  have k0 := Int.mul_ediv_add_emod n (1 + a1)
  have k1 := Int.emod_lt_of_pos n (b := 1 + a1) (by omega)
  have k2 := Int.emod_nonneg n (b := 1 + a1) (by omega)
  rw [Int.mul_comm] at k0
  obtain ⟨u1, u2⟩ := up_between n (1 + a1) (by omega)
  obtain ⟨m1, m2⟩ := half_between n (1 + a1) (by omega)
  have l1 : n / (1 + a1) * (1 + a1) ≤ n := by omega
  have l2 : n - 65537 ≤ n / (1 + a1) * (1 + a1) := by omega
  have l3 : n < (n / (1 + a1) + 1) * (1 + a1) := by rw [Int.add_mul]; omega
  have l4 : (n / (1 + a1) + 1) * (1 + a1) ≤ n + 65537 := by rw [Int.add_mul]; omega
  have u3 : -(-n / (1 + a1)) * (1 + a1) ≤ n + 65537 := by rw [Int.sub_mul] at u2; omega
  have u4 : n - 65537 ≤ (-(-n / (1 + a1)) - 1) * (1 + a1) := by rw [Int.sub_mul]; omega
  have r4 : -2147483648 ≤ -(-n / (1 + a1)) ∧ -(-n / (1 + a1)) ≤ 2147483648 := by omega
  have hm1 : n - 65537 ≤ (2 * n + (1 + a1)) / (2 * (1 + a1)) * (1 + a1) ∧ (2 * n + (1 + a1)) / (2 * (1 + a1)) * (1 + a1) ≤ n + 65537 := by omega
  clear k0 k1 k2 r2
  generalize n / (1 + a1) = D at *
  generalize -(-n / (1 + a1)) = U at *
  generalize (2 * n + (1 + a1)) / (2 * (1 + a1)) = H at *
  have A0 := Lib.hid hd0
  have A1 := Lib.hid hu0
  have A2 := Lib.hid hh0
  clear hd0 hu0 hh0
  go_enter Try.func4, Try.ntmps4
  go_wp2_with fail
  refine A0.out.mono ?_; rintro e w' ⟨rfl, rfl⟩
  go_wp2_with fail
  refine A1.out.mono ?_; rintro e w' ⟨rfl, rfl⟩
  go_wp2_with fail
  refine A2.out.mono ?_; rintro e w' ⟨rfl, rfl⟩
  go_wp2_with fail
  refine (awake_any _).mono ?_; rintro e w' ⟨rfl, hg⟩
  have G := Lib.hid (grown_below hg)
  clear hg
  go_wp2
  go_ret
  exact ⟨rfl, G.out⟩

theorem root_sq (n r s : Int) (h : IsRoot n r) (k : IsRootUp n s) : (s = r ↔ r * r = n) ∧ r ≤ s ∧ s ≤ r + 1 := by
  obtain ⟨a, b, c, d⟩ := h
  obtain ⟨a', b', c', d'⟩ := k
  have h1 : r ≤ s := by
    by_cases h : r ≤ s
    · exact h
    · have : (s + 1) * (s + 1) ≤ r * r := Int.mul_le_mul (by omega) (by omega) (by omega) (by omega)
      have e : (s + 1) * (s + 1) = s * s + 2 * s + 1 := by rw [Int.add_mul, Int.mul_add]; omega
      omega
  have h2 : s ≤ r + 1 := by
    by_cases h : s ≤ r + 1
    · exact h
    · have := d' (by omega)
      have : (r + 1) * (r + 1) ≤ (s - 1) * (s - 1) := Int.mul_le_mul (by omega) (by omega) (by omega) (by omega)
      omega
  refine ⟨⟨fun e => ?_, fun e => ?_⟩, h1, h2⟩
  · subst e; omega
  · by_cases h : s = r
    · exact h
    · have : s = r + 1 := by omega
      subst this
      have := d' (by omega)
      rw [show r + 1 - 1 = r by omega] at this
      omega

set_option maxHeartbeats 1000000 in
theorem roots_walk (n : Int) (w0 : (Lit.int .u64 n).wf = true) (w : World) :
    Calls Try.prog 5 #[.int .u64 n] w fun e w' => e = .returned (.bool true) ∧ Below w.heap.size w w' := by
  have b0 := bounds_u64 w0
  clear w0
  go_enter Try.func5, Try.ntmps5
  go_wp2_with fail
  have x0 : 0 ≤ n % 4611686018427387904 := by omega
  have x1 : n % 4611686018427387904 ≤ 4611686018427387903 := by omega
  generalize n % 4611686018427387904 = x at *
  refine (root_yes x _ x0 (by omega)).mono ?_
  rintro e w1 ⟨r, hr, rfl, hb1⟩
  have B1 := Lib.hid hb1
  have HR := Lib.hid hr
  clear hb1 hr
  go_wp2_with fail
  refine (rootUp_yes x _ x0 (by omega)).mono ?_
  rintro e w2 ⟨s, hs, rfl, hb2⟩
  have B2 := Lib.hid (B1.out.trans (hb2.mono B1.out.size))
  clear hb2
  obtain ⟨h1, h2, h3⟩ := root_sq x r s HR.out hs
  obtain ⟨a1, a2, a3, a4⟩ := HR.out
  have a5 : r < 2147483648 := by
    by_cases e : r = 2147483648
    · subst e; omega
    · omega
  have a6 := sq_bd r a1 a2
  have a7 := sq_bd (r + 1) (by omega) (by omega)
  clear hs a2
  by_cases e : s = r
  · have e2 := h1.1 e
    have e3 : (r * r == x) = true := by simpa using e2
    have E3 := Lib.hid e3
    subst e
    clear h1 e2 e3
    have e4 := E3.out
    go_wp2_with fail
    refine (awake_any _).mono ?_; rintro e w' ⟨rfl, hg⟩
    have G := Lib.hid (B2.out.trans ((grown_below hg).mono B2.out.size))
    clear hg
    go_wp2
    go_ret
    exact ⟨rfl, G.out⟩
  · have e2 : (r * r == x) = false := by rw [beq_eq_false_iff_ne]; exact fun h => e (h1.2 h)
    have e3 : (s == r) = false := by rw [beq_eq_false_iff_ne]; exact e
    clear h1 e
    go_wp2_with fail
    refine (awake_any _).mono ?_; rintro e w' ⟨rfl, hg⟩
    have G := Lib.hid (B2.out.trans ((grown_below hg).mono B2.out.size))
    clear hg
    go_wp2
    go_ret
    exact ⟨rfl, G.out⟩
end Go.Proofs.Ytkpmhgikcipedaa
