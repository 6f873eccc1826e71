import Derived.Test.YticmoaebegahgaaGreatDoorRows
import Derived.WalkKit
import Derived.ProofKit
import Derived.OpenShut
import Derived.Outline
import Derived.Lib.Hide
import Derived.Below
import Derived.Maps.AppendAt
import Derived.Deep.AppendLies
import Derived.Laws.OwnMore
import Derived.Laws.AppendOwnNone
import Derived.Laws.IdiomStrings
import Derived.Laws.BytesArg
import Derived.Laws.BitsAllLaws
import Derived.IntWalk
import Derived.Deep.QuietTactic
import Derived.BigQuiet
import Derived.Test.YticmoaebegahgaaGreatDoorAl
set_option linter.all false
namespace Go.Proofs.YticmoaebegahgaaGreatDoor.Wm
def fold (n : Int) : Nat := if 0 ≤ n then (2 * n).toNat else (-2 * n - 1).toNat
def unf (u : Nat) : Int := if u % 2 = 0 then ((u / 2 : Nat) : Int) else -((u / 2 : Nat) : Int) - 1
theorem fold_cast (n : Int) : ((fold n : Nat) : Int) = if 0 ≤ n then 2 * n else -2 * n - 1 := by
  unfold fold; split <;> omega
theorem unf_fold (n : Int) : unf (fold n) = n := by
  unfold unf fold; split <;> split <;> omega
theorem fold_lt (n : Int) (h1 : -9223372036854775808 ≤ n) (h2 : n ≤ 9223372036854775807) : fold n < 18446744073709551616 := by
  unfold fold; split <;> omega
theorem unf_range (u : Nat) (h : u < 18446744073709551616) : -9223372036854775808 ≤ unf u ∧ unf u ≤ 9223372036854775807 := by
  unfold unf; split <;> omega
def enc (u : Nat) : List UInt8 := if u < 128 then [UInt8.ofNat u] else UInt8.ofNat (u % 128 + 128) :: enc (u / 128)
termination_by u
decreasing_by omega
theorem enc_small (u : Nat) (h : u < 128) : enc u = [UInt8.ofNat u] := by rw [enc, if_pos h]
theorem enc_big (u : Nat) (h : 128 ≤ u) : enc u = UInt8.ofNat (u % 128 + 128) :: enc (u / 128) := by rw [enc, if_neg (by omega)]
theorem enc_pos (u : Nat) : 0 < (enc u).length := by
  rw [enc]; split <;> simp
theorem enc_len (j : Nat) : ∀ u, u < 128 ^ (j + 1) → (enc u).length ≤ j + 1 := by
  induction j with
  | zero => intro u h; rw [enc_small u (by simpa using h)]; simp
  | succ j ih =>
    intro u h
    by_cases h1 : u < 128
    · rw [enc_small u h1]; simp
    · rw [enc_big u (by omega), List.length_cons]
      have := ih (u / 128) (by rw [Nat.pow_succ] at h; omega)
      omega
theorem enc_ten (u : Nat) (h : u < 18446744073709551616) : (enc u).length ≤ 10 := enc_len 9 u (by omega)
inductive Res where
  | short : Res
  | form : Res
  | ok : Nat → Nat → Res
def dec : List UInt8 → Nat → Nat → Res
  | [], k, _ => if k = 10 then .form else .short
  | x :: t, k, U => if k = 10 then .form else if k = 9 ∧ 1 < x.toNat then .form else if x.toNat < 128 then (if x.toNat = 0 ∧ 0 < k then .form else .ok (U + x.toNat % 128 * 2 ^ (7 * k)) (k + 1))
    else dec t (k + 1) (U + x.toNat % 128 * 2 ^ (7 * k))
theorem dec_ten (l : List UInt8) (U : Nat) : dec l 10 U = .form := by
  cases l <;> simp [dec]
theorem dec_nil (k U : Nat) (h : k < 10) : dec [] k U = .short := by
  simp [dec]; omega
theorem dec_high (x : UInt8) (t : List UInt8) (k U : Nat) (h : k < 10) (h9 : k = 9 → x.toNat ≤ 1) (hx : 128 ≤ x.toNat) : dec (x :: t) k U = dec t (k + 1) (U + x.toNat % 128 * 2 ^ (7 * k)) := by
  rw [dec, if_neg (by omega), if_neg (by omega), if_neg (by omega)]
theorem dec_high9 (x : UInt8) (t : List UInt8) (k U V : Nat) (h : k < 10) (hx : 128 ≤ x.toNat) (hV : k < 9 → V = U + x.toNat % 128 * 2 ^ (7 * k)) : dec (x :: t) k U = dec t (k + 1) V := by
  by_cases h9 : k = 9
  · subst h9
    rw [dec_ten, dec, if_neg (by omega), if_pos (by omega)]
  · rw [hV (by omega)]
    exact dec_high x t k U h (by omega) hx
theorem dec_last (x : UInt8) (t : List UInt8) (k U : Nat) (h : k < 10) (hx : x.toNat < 128) :
    dec (x :: t) k U = if (k = 9 ∧ 1 < x.toNat) ∨ (x.toNat = 0 ∧ 0 < k) then .form else .ok (U + x.toNat * 2 ^ (7 * k)) (k + 1) := by
  have e : x.toNat % 128 = x.toNat := Nat.mod_eq_of_lt hx
  rw [dec, if_neg (by omega), e, if_pos hx]
  by_cases h1 : k = 9 ∧ 1 < x.toNat
  · rw [if_pos h1, if_pos (.inl h1)]
  · rw [if_neg h1]
    by_cases h2 : x.toNat = 0 ∧ 0 < k
    · rw [if_pos h2, if_pos (.inr h2)]
    · rw [if_neg h2, if_neg (fun h => h.elim h1 h2)]
theorem acc_lt (x : UInt8) (k U : Nat) (hU : U < 2 ^ (7 * k)) : U + x.toNat % 128 * 2 ^ (7 * k) < 2 ^ (7 * (k + 1)) := by
  have h : x.toNat % 128 ≤ 127 := by omega
  have := Nat.mul_le_mul_right (2 ^ (7 * k)) h
  have e : 2 ^ (7 * (k + 1)) = 128 * 2 ^ (7 * k) := by rw [show 7 * (k + 1) = 7 * k + 7 by omega, Nat.pow_add]; omega
  omega
theorem ofNat_toNat (n : Nat) (h : n < 256) : (UInt8.ofNat n).toNat = n := by
  rw [UInt8.toNat_ofNat']; omega
theorem dec_enc (rest : List UInt8) (j : Nat) : ∀ (k u U : Nat), k + j = 9 → u * 2 ^ (7 * k) < 18446744073709551616 → (0 < k → 0 < u) → dec (enc u ++ rest) k U = .ok (U + u * 2 ^ (7 * k)) (k + (enc u).length) := by
  induction j with
  | zero =>
    intro k u U hk hu h0
    obtain rfl : k = 9 := by omega
    have hu2 : u ≤ 1 := by
      have e : (2 : Nat) ^ (7 * 9) = 9223372036854775808 := by decide
      rw [e] at hu; omega
    rw [enc_small u (by omega)]
    show dec (UInt8.ofNat u :: ([] ++ rest)) 9 U = _
    rw [dec_last _ _ _ _ (by omega) (by rw [ofNat_toNat u (by omega)]; omega), ofNat_toNat u (by omega)]
    have := h0 (by omega)
    rw [if_neg (by omega)]; rfl
  | succ j ih =>
    intro k u U hk hu h0
    by_cases h : u < 128
    · rw [enc_small u h]
      show dec (UInt8.ofNat u :: ([] ++ rest)) k U = _
      rw [dec_last _ _ _ _ (by omega) (by rw [ofNat_toNat u (by omega)]; omega), ofNat_toNat u (by omega)]
      rw [if_neg (by omega)]; rfl
    · rw [enc_big u (by omega)]
      show dec (UInt8.ofNat (u % 128 + 128) :: (enc (u / 128) ++ rest)) k U = _
      have ex : (UInt8.ofNat (u % 128 + 128)).toNat = u % 128 + 128 := ofNat_toNat _ (by omega)
      rw [dec_high _ _ _ _ (by omega) (by omega) (by rw [ex]; omega), ex]
      have e2 : (2 : Nat) ^ (7 * (k + 1)) = 128 * 2 ^ (7 * k) := by rw [show 7 * (k + 1) = 7 * k + 7 by omega, Nat.pow_add]; omega
      have e3 : u = 128 * (u / 128) + u % 128 := by omega
      have e4 : u * 2 ^ (7 * k) = (u / 128) * (128 * 2 ^ (7 * k)) + u % 128 * 2 ^ (7 * k) := by
        conv => lhs; rw [e3]
        rw [Nat.add_mul, Nat.mul_comm 128 (u / 128), Nat.mul_assoc]
      rw [ih (k + 1) (u / 128) _ (by omega) (by rw [e2]; omega) (by omega)]
      rw [e2, List.length_cons, show (u % 128 + 128) % 128 = u % 128 by omega]
      congr 1 <;> omega
def ires (p : Int) : Res → Int × Int × Int
  | .short => (0, 0, 2)
  | .form => (0, 0, 3)
  | .ok u n => (unf u, p + n, 0)
def intR (l : List UInt8) (p : Int) : Int × Int × Int := if p < 0 ∨ (l.length : Int) < p then (0, 0, 1) else ires p (dec (l.drop p.toNat) 0 0)
theorem intR_enc (pre rest : List UInt8) (n : Int) (h1 : -9223372036854775808 ≤ n) (h2 : n ≤ 9223372036854775807) :
    intR (pre ++ (enc (fold n) ++ rest)) pre.length = (n, (pre.length : Int) + (enc (fold n)).length, 0) := by
  unfold intR
  rw [if_neg (by simp; omega), Int.toNat_natCast, List.drop_left, dec_enc rest 9 0 (fold n) 0 (by omega) (by have := fold_lt n h1 h2; omega) (by omega)]
  simp [ires, unf_fold]
def mark (x : UInt8) : Bool := x == 126 || x == 124 || x == 125
def esc : List UInt8 → List UInt8
  | [] => []
  | x :: t => (if mark x then [125, x ^^^ 32] else [x]) ++ esc t
def frame (l : List UInt8) : List UInt8 := 126 :: (esc l ++ [124])
theorem esc_append (a b : List UInt8) : esc (a ++ b) = esc a ++ esc b := by
  induction a with
  | nil => rfl
  | cons x t ih => simp [esc, ih]
theorem esc_snoc (a : List UInt8) (x : UInt8) : esc (a ++ [x]) = esc a ++ (if mark x then [125, x ^^^ 32] else [x]) := by
  rw [esc_append]; simp [esc]
theorem esc_len (a : List UInt8) : a.length ≤ (esc a).length ∧ (esc a).length ≤ 2 * a.length := by
  induction a with
  | nil => simp [esc]
  | cons x t ih => rw [esc]; split <;> simp <;> omega
theorem frame_len (a : List UInt8) : (frame a).length = (esc a).length + 2 := by simp [frame]
theorem xor32 (x : UInt8) : (x ^^^ 32) ^^^ 32 = x := by rw [UInt8.xor_assoc]; simp
theorem mark_cases {x : UInt8} (h : mark x = true) : x = 126 ∨ x = 124 ∨ x = 125 := by
  simp [mark] at h; rcases h with (h | h) | h <;> simp [h]
theorem mark_not {x : UInt8} (h : mark x = false) : x ≠ 126 ∧ x ≠ 124 ∧ x ≠ 125 := by
  simp [mark] at h; exact ⟨h.1.1, h.1.2, h.2⟩
theorem esc_inner (a : List UInt8) : ∀ x ∈ esc a, x ≠ 126 ∧ x ≠ 124 := by
  induction a with
  | nil => simp [esc]
  | cons y t ih =>
    intro x hx
    rw [esc, List.mem_append] at hx
    rcases hx with hx | hx
    · by_cases h : mark y = true
      · rw [if_pos h] at hx
        rcases mark_cases h with rfl | rfl | rfl <;> simp at hx <;> rcases hx with rfl | rfl <;> decide
      · rw [if_neg h] at hx
        simp at hx; subst hx
        have := mark_not (by simpa using h)
        exact ⟨this.1, this.2.1⟩
    · exact ih x hx
def un (out : List UInt8) : Bool → List UInt8 → Option (List UInt8)
  | true, [] => none
  | false, [] => some out
  | true, c :: t => if mark (c ^^^ 32) then un (out ++ [c ^^^ 32]) false t else none
  | false, c :: t => if c = 125 then un out true t else if mark c then none else un (out ++ [c]) false t
theorem un_esc (a : List UInt8) : ∀ out, un out false (esc a) = some (out ++ a) := by
  induction a with
  | nil => intro out; simp [esc, un]
  | cons x t ih =>
    intro out
    by_cases h : mark x = true
    · rw [esc, if_pos h]
      show un out false (125 :: (x ^^^ 32) :: esc t) = _
      rw [un, if_pos rfl, un, xor32, if_pos h, ih]
      simp
    · rw [esc, if_neg h]
      show un out false (x :: esc t) = _
      have := mark_not (by simpa using h)
      rw [un, if_neg this.2.2, if_neg h, ih]
      simp
theorem un_some : ∀ (l : List UInt8) (out m : List UInt8) (e : Bool), un out e l = some m → ∃ r, m = out ++ r ∧ (if e then 125 :: l else l) = esc r := by
  intro l
  induction l with
  | nil =>
    intro out m e h
    cases e
    · rw [un] at h; injection h with h; exact ⟨[], by simp [h], by simp [esc]⟩
    · rw [un] at h; cases h
  | cons c t ih =>
    intro out m e h
    cases e
    · rw [un] at h
      by_cases h1 : c = 125
      · rw [if_pos h1] at h
        obtain ⟨r, hr, he⟩ := ih _ _ _ h
        exact ⟨r, hr, by simpa [h1] using he⟩
      · rw [if_neg h1] at h
        by_cases h2 : mark c = true
        · rw [if_pos h2] at h; cases h
        · rw [if_neg h2] at h
          obtain ⟨r, hr, he⟩ := ih _ _ _ h
          refine ⟨c :: r, by rw [hr]; simp, ?_⟩
          rw [esc, if_neg h2]
          simpa using he
    · rw [un] at h
      by_cases h2 : mark (c ^^^ 32) = true
      · rw [if_pos h2] at h
        obtain ⟨r, hr, he⟩ := ih _ _ _ h
        refine ⟨(c ^^^ 32) :: r, by rw [hr]; simp, ?_⟩
        rw [esc, if_pos h2, xor32]
        simpa using he
      · rw [if_neg h2] at h; cases h
def loose : List UInt8 → List UInt8
  | [] => []
  | [_] => []
  | x :: y :: t => if x = 125 then (y ^^^ 32) :: loose t else x :: loose (y :: t)
theorem loose_esc (a : List UInt8) (z : UInt8) : loose (esc a ++ [z]) = a := by
  induction a with
  | nil => simp [esc, loose]
  | cons x t ih =>
    by_cases h : mark x = true
    · rw [esc, if_pos h]
      show loose (125 :: (x ^^^ 32) :: (esc t ++ [z])) = _
      rw [loose, if_pos rfl, xor32, ih]
    · rw [esc, if_neg h]
      show loose (x :: (esc t ++ [z])) = _
      have hm := mark_not (by simpa using h)
      cases hl : esc t ++ [z] with
      | nil => simp at hl
      | cons y s => rw [loose, if_neg hm.2.2, ← hl, ih]
def unst (b : List UInt8) : List UInt8 × Int :=
  if b.length < 2 then ([], 2) else if frame (loose (b.drop 1)) = b then (loose (b.drop 1), 0) else ([], 3)
theorem loose_frame (a : List UInt8) : loose ((frame a).drop 1) = a := by
  show loose (esc a ++ [124]) = a
  exact loose_esc a _
theorem unst_frame (a : List UInt8) : unst (frame a) = (a, 0) := by
  unfold unst
  rw [if_neg (by rw [frame_len]; omega), loose_frame, if_pos rfl]
theorem unst_ok {b : List UInt8} (h : (unst b).2 = 0) : frame (unst b).1 = b := by
  unfold unst at h ⊢
  by_cases h1 : b.length < 2
  · rw [if_pos h1] at h; simp at h
  · rw [if_neg h1] at h ⊢
    by_cases h2 : frame (loose (b.drop 1)) = b
    · rw [if_pos h2]; exact h2
    · rw [if_neg h2] at h; simp at h
theorem unst_short (b : List UInt8) (h : b.length < 2) : unst b = ([], 2) := by unfold unst; rw [if_pos h]
theorem unst_ends (b : List UInt8) (h : 2 ≤ b.length) (hb : b.getD 0 0 ≠ 126 ∨ b.getD (b.length - 1) 0 ≠ 124) : unst b = ([], 3) := by
  unfold unst
  rw [if_neg (by omega), if_neg]
  intro e
  rcases hb with hb | hb
  · apply hb; rw [← e]; rfl
  · apply hb
    rw [← e]
    have : (frame (loose (b.drop 1))).getD ((frame (loose (b.drop 1))).length - 1) 0 = 124 := by
      rw [frame_len]
      show (126 :: (esc _ ++ [124])).getD ((esc _).length + 1) 0 = 124
      simp
    exact this
theorem unst_mid (m : List UInt8) : unst (126 :: (m ++ [124])) = match un [] false m with | some r => (r, 0) | none => ([], 3) := by
  have hl : ¬ (126 :: (m ++ [124]) : List UInt8).length < 2 := by simp
  cases h : un [] false m with
  | some r =>
    obtain ⟨r', hr, he⟩ := un_some m [] r false h
    have he : m = esc r := by simp at hr; subst hr; simpa using he
    subst he
    exact unst_frame r
  | none =>
    unfold unst
    rw [if_neg hl, if_neg]
    intro e
    have : esc (loose ((126 :: (m ++ [124])).drop 1)) = m := by
      have e' : (126 :: (esc (loose ((126 :: (m ++ [124])).drop 1)) ++ [124]) : List UInt8) = 126 :: (m ++ [124]) := e
      injection e' with _ e'
      exact List.append_cancel_right e'
    rw [← this, un_esc] at h
    cases h
end Go.Proofs.YticmoaebegahgaaGreatDoor.Wm
namespace Go.Proofs.YticmoaebegahgaaGreatDoor.Wm
def tab (i : Nat) : Nat := [0, 498536548, 997073096, 651767980, 1994146192, 1802195444, 1303535960, 1342533948, 3988292384, 4027552580, 3604390888, 3412177804, 2607071920, 2262029012, 2685067896, 3183342108].getD i 0
def bit (r : Nat) : Nat := if r &&& 1 = 1 then (r / 2) ^^^ 3988292384 else r / 2
def nib (r : Nat) : Nat := (r / 16) ^^^ tab (r &&& 15)
def upd (r : Nat) (c : UInt8) : Nat := nib (nib (r ^^^ c.toNat))
def reg (l : List UInt8) : Nat := l.foldl upd 4294967295
def crc (l : List UInt8) : Nat := 4294967295 - reg l
theorem tab_lt : ∀ i, i < 16 → tab i < 4294967296 := by decide
theorem and15_lt (r : Nat) : r &&& 15 < 16 := by have := @Nat.and_le_right r 15; omega
theorem and15_mod (r : Nat) : r &&& 15 = r % 16 := Nat.and_two_pow_sub_one_eq_mod r 4
theorem and1_mod (r : Nat) : r &&& 1 = r % 2 := Nat.and_two_pow_sub_one_eq_mod r 1
theorem xor_lt {a b : Nat} (ha : a < 4294967296) (hb : b < 4294967296) : a ^^^ b < 4294967296 := Nat.xor_lt_two_pow (n := 32) ha hb
theorem nib_lt (r : Nat) (h : r < 4294967296) : nib r < 4294967296 := xor_lt (by omega) (tab_lt _ (and15_lt r))
theorem upd_lt (r : Nat) (c : UInt8) (h : r < 4294967296) : upd r c < 4294967296 := nib_lt _ (nib_lt _ (xor_lt h (by have := c.toNat_lt; omega)))
theorem foldl_lt (l : List UInt8) : ∀ r, r < 4294967296 → l.foldl upd r < 4294967296 := by
  induction l with
  | nil => exact fun _ h => h
  | cons c t ih => exact fun r h => ih _ (upd_lt r c h)
theorem reg_lt (l : List UInt8) : reg l < 4294967296 := foldl_lt l _ (by omega)
theorem reg_snoc (l : List UInt8) (c : UInt8) : reg (l ++ [c]) = upd (reg l) c := by unfold reg; rw [List.foldl_append]; rfl
theorem bit_xor (a b : Nat) : bit (a ^^^ b) = bit a ^^^ bit b := by
  have d : (a ^^^ b) / 2 = a / 2 ^^^ b / 2 := by
    have := Nat.shiftRight_xor_distrib (a := a) (b := b) (i := 1)
    simpa [Nat.shiftRight_eq_div_pow] using this
  have p : (a ^^^ b) % 2 = (a % 2 + b % 2) % 2 := by
    have h1 := Nat.testBit_xor a b 0
    simp only [Nat.testBit_zero] at h1
    rcases Nat.mod_two_eq_zero_or_one a with ha | ha <;> rcases Nat.mod_two_eq_zero_or_one b with hb | hb <;> rcases Nat.mod_two_eq_zero_or_one (a ^^^ b) with hc | hc <;> simp [ha, hb, hc] at h1 ⊢
  unfold bit
  rw [and1_mod, and1_mod, and1_mod, d, p]
  rcases Nat.mod_two_eq_zero_or_one a with ha | ha <;> rcases Nat.mod_two_eq_zero_or_one b with hb | hb <;> simp [ha, hb]
  · rw [Nat.xor_assoc]
  · rw [Nat.xor_assoc, Nat.xor_assoc, Nat.xor_comm 3988292384]
  · rw [Nat.xor_assoc, Nat.xor_comm 3988292384, Nat.xor_assoc, Nat.xor_self, Nat.xor_zero]
theorem bit_even (h : Nat) : bit (2 * h) = h := by
  unfold bit; rw [and1_mod, if_neg (by omega)]; omega
def bits4 (r : Nat) : Nat := bit (bit (bit (bit r)))
theorem bits4_xor (a b : Nat) : bits4 (a ^^^ b) = bits4 a ^^^ bits4 b := by unfold bits4; rw [bit_xor, bit_xor, bit_xor, bit_xor]
theorem bits4_high (h : Nat) : bits4 (16 * h) = h := by
  unfold bits4
  rw [show 16 * h = 2 * (2 * (2 * (2 * h))) by omega, bit_even, bit_even, bit_even, bit_even]
theorem bits4_low : ∀ i, i < 16 → bits4 i = tab i := by decide
theorem split16 (r : Nat) : r = 16 * (r / 16) ^^^ (r &&& 15) := by
  have h : 16 * (r / 16) + r % 16 = 16 * (r / 16) ^^^ r % 16 := by
    apply Nat.eq_of_testBit_eq
    intro i
    rw [Nat.testBit_xor, Nat.testBit_two_pow_mul_add (i := 4) (r / 16) (Nat.mod_lt r (by omega)), show 16 = 2 ^ 4 by rfl, Nat.testBit_two_pow_mul, Nat.testBit_mod_two_pow]
    by_cases hi : i < 4
    · simp [hi, show ¬ 4 ≤ i by omega]
    · simp [hi, show 4 ≤ i by omega]
  rw [and15_mod, ← h]; omega
theorem bits4_nib (r : Nat) : bits4 r = nib r := by
  conv => lhs; rw [split16 r]
  rw [bits4_xor, bits4_high, bits4_low _ (and15_lt r)]; rfl
def bitsN : Nat → Nat → Nat
  | 0, r => r
  | k + 1, r => bit (bitsN k r)
theorem bits8 (r : Nat) : bitsN 8 r = nib (nib r) := by
  rw [← bits4_nib, ← bits4_nib]; rfl
theorem bit_lt (r : Nat) (h : r < 4294967296) : bit r < 4294967296 := by
  unfold bit; split
  · exact xor_lt (by omega) (by omega)
  · omega
theorem bitsN_lt (k r : Nat) (h : r < 4294967296) : bitsN k r < 4294967296 := by
  induction k with
  | zero => exact h
  | succ k ih => exact bit_lt _ ih
end Go.Proofs.YticmoaebegahgaaGreatDoor.Wm
namespace Go.Proofs.YticmoaebegahgaaGreatDoor.Wr
open Go.ChangeShapes Go.WideShapes Go.ChangeAt Go.RowKit
theorem ret_int {k : IntKind} {a b : Int} (h : a = b) : Ending.returned (.int k a) = .returned (.int k b) := by rw [h]
theorem ret_bool {a b : Bool} (h : a = b) : Ending.returned (.bool a) = .returned (.bool b) := by rw [h]
theorem grown_refl (w : World) (row : Option Nat) : w.grownBy w row := ⟨rfl, rfl, rfl, Nat.le_refl _, fun _ _ _ => rfl⟩
theorem grown_drewN (w : World) (q : Nat) (row : Option Nat) : w.grownBy (w.drewN q) row := ⟨rfl, rfl, rfl, Nat.le_refl _, fun _ _ _ => rfl⟩
theorem grown_drew (w : World) (row : Option Nat) : w.grownBy w.drew row := ⟨rfl, rfl, rfl, Nat.le_refl _, fun _ _ _ => rfl⟩
theorem grown_trans {a b c : World} {row : Option Nat} (h : a.grownBy b row) (k : b.grownBy c row) : a.grownBy c row :=
  ⟨k.os.trans h.os, k.tape.trans h.tape, k.output.trans h.output, Nat.le_trans h.size k.size, fun i hi hr => (k.block i (Nat.lt_of_lt_of_le hi h.size) hr).trans (h.block i hi hr)⟩
theorem grown_weak {a b : World} (row : Option Nat) (h : a.grownBy b none) : a.grownBy b row := ⟨h.os, h.tape, h.output, h.size, fun i hi _ => h.block i hi (by simp)⟩
theorem grown_below {a b : World} (h : a.grownBy b none) : Below a.heap.size a b := ⟨h.os, h.tape, h.output, h.size, fun i hi => h.block i hi (by simp)⟩
theorem grown_alloc (w : World) (o : Obj) (row : Option Nat) : w.grownBy (w.alloc o) row := World.grownBy_alloc _ _ _
theorem grown_off {w wr w' : World} {B : Nat} (h : w.grownBy wr none) (k : wr.grownBy w' (some B)) (hB : w.heap.size ≤ B) : w.grownBy w' none :=
  ⟨k.os.trans h.os, k.tape.trans h.tape, k.output.trans h.output, Nat.le_trans h.size k.size, fun i hi _ => (k.block i (Nat.lt_of_lt_of_le hi h.size) (by intro e; injection e with e; omega)).trans (h.block i hi (by simp))⟩
theorem grown_row {w wr w' : World} {row : Option Nat} (h : w.grownBy wr none) (k : wr.grownBy w' row) (hB : ∀ b, row = some b → w.heap.size ≤ b) : w.grownBy w' none := by
  cases row with
  | none => exact grown_trans h k
  | some b => exact grown_off h k (hB b rfl)
theorem addr_add (a : Addr) (b off : Nat) (h : a = ⟨b, off, none⟩) (i : Nat) : a.add i = ⟨b, off + i, none⟩ := by subst h; unfold Addr.add; split <;> simp_all
def bv (x : UInt8) : Value := .int .u8 (x.toNat : Int)
def bvs (l : List UInt8) : List Value := l.map bv
theorem bvs_len (l : List UInt8) : (bvs l).length = l.length := by simp [bvs]
theorem bvs_get (l : List UInt8) (i : Nat) (h : i < l.length) : (bvs l)[i]? = some (bv (l.getD i 0)) := by simp [bvs, List.getD, h]
theorem bvs_append (a b : List UInt8) : bvs (a ++ b) = bvs a ++ bvs b := by simp [bvs]
theorem bvs_one (l : List UInt8) : ∀ u ∈ bvs l, u.oneCell' = true := by
  intro u hu
  simp [bvs] at hu
  obtain ⟨x, _, rfl⟩ := hu
  rfl
def RB (w : World) (A : Option Addr) (n : Nat) (l : List UInt8) : Prop :=
  l.length = n ∧ ∀ i, i < n → ∃ b off, A = some ⟨b, off, none⟩ ∧ w.cell? ⟨b, off + i, none⟩ = some (.int .u8 ((l.getD i 0).toNat : Int))
theorem RB.grown {w w' : World} {A : Option Addr} {n : Nat} {l : List UInt8} (h : RB w A n l) (hg : w.grownBy w' none) : RB w' A n l :=
  ⟨h.1, fun i hi => by obtain ⟨b, off, e, hc⟩ := h.2 i hi; exact ⟨b, off, e, hg.cell hc (by simp)⟩⟩
theorem RB.nil (w : World) (A : Option Addr) : RB w A 0 [] := ⟨rfl, fun i hi => absurd hi (by omega)⟩
theorem RB.news {w : World} {b off n : Nat} {l : List UInt8} (h : RB w (some ⟨b, off, none⟩) n l) : ∀ j u, (bvs l)[j]? = some u → w.cell? ((⟨b, off, none⟩ : Addr).add j) = some u := by
  intro j u hu
  have hj : j < n := by
    rw [← h.1]
    have := (List.getElem?_eq_some_iff.1 hu).1
    rw [bvs_len] at this; exact this
  obtain ⟨b', off', e, hc⟩ := h.2 j hj
  injection e with e
  injection e with e1 e2
  subst e1; subst e2
  rw [addr_add _ b off rfl, hc, ← hu, bvs_get l j (by rw [h.1]; exact hj)]
  rfl
theorem conv_str (w : World) (A : Option Addr) (n c : Nat) (l : List UInt8) (h : RB w A n l) :
    (convert 22 9 (.slice A n c)).run Tryz.prog w = .ok (.string ⟨l.toArray⟩) w := by
  obtain ⟨rfl, h2⟩ := h
  cases A with
  | none =>
    have : l = [] := by
      cases l with
      | nil => rfl
      | cons x t => obtain ⟨b, off, e, _⟩ := h2 0 (by simp); cases e
    subst this
    exact run_convert_bytes_nil w 22 5 Tryz.underlying22 Tryz.underlying5 _ c 9 Tryz.underlying9
  | some a =>
    refine run_convert_bytes_back w 22 9 5 a c l Tryz.underlying22 Tryz.underlying5 Tryz.underlying9 (fun j hj => ?_)
    obtain ⟨b, off, e, hc⟩ := h2 j hj
    injection e with e
    subst e
    rw [addr_add _ b off rfl, hc]
    simp [List.getD, hj]
theorem info5 : (Tryz.prog.info? 5).map (fun i => (i.zero, i.size, i.bytes)) = some (some (.int .u8 0), 1, 1) := by kernel_rfl
theorem info_parts5 : ∃ i, Tryz.prog.info? 5 = some i ∧ i.zero = some (.int .u8 0) ∧ i.size = 1 ∧ i.bytes = 1 := by
  obtain ⟨i, hi, hz⟩ := Option.map_eq_some_iff.1 info5
  simp only [Prod.mk.injEq] at hz
  exact ⟨i, hi, hz.1, hz.2.1, hz.2.2⟩
structure Made (w0 w : World) (A : Option Addr) (n c : Nat) (l : List UInt8) : Prop where
  own : w.ownsRow w0.heap.size 5 1 (.slice A n c) n (bvs l)
  gr : w0.grownBy w none
section
variable {w0 w w' : World} {A : Option Addr} {n c : Nat} {l : List UInt8}
theorem Made.len (h : Made w0 w A n c l) : l.length = n := by have := h.own.1; rw [bvs_len] at this; omega
theorem Made.shape (h : Made w0 w A n c l) : n ≤ c ∧ c ≤ 9223372036854775807 ∧ (0 < n → ∃ g, A = some ⟨g, 0, none⟩ ∧ w0.heap.size ≤ g ∧ g < w.heap.size) := by
  rcases h.own.2 with ⟨e, rfl⟩ | ⟨g, cap, cur, e, hb, hg, hc, hm, _⟩
  · injection e with e1 e2 e3
    subst e3; exact ⟨by omega, by omega, fun h => absurd h (by omega)⟩
  · injection e with e1 e2 e3
    subst e3
    exact ⟨hc, by unfold maxLen at hm; exact hm, fun _ => ⟨g, e1, hb, (Array.getElem?_eq_some_iff.1 hg).1⟩⟩
theorem Made.at0 (h : Made w0 w A n c l) (i : Nat) (hi : i < n) : ∃ g, A = some ⟨g, 0, none⟩ ∧ w0.heap.size ≤ g ∧ g < w.heap.size ∧ w.cell? ⟨g, i, none⟩ = some (.int .u8 ((l.getD i 0).toNat : Int)) ∧ w.frozen? ⟨g, i, none⟩ = false := by
  obtain ⟨_, _, h3⟩ := h.shape
  obtain ⟨g, rfl, hb, hl⟩ := h3 (by omega)
  exact ⟨g, rfl, hb, hl, by rw [h.own.cellAt i (by omega), bvs_get l i (by rw [h.len]; exact hi)]; rfl, h.own.frozenAt i⟩
theorem Made.rb (h : Made w0 w A n c l) : RB w A n l :=
  ⟨h.len, fun i hi => by obtain ⟨g, e, _, _, hc, _⟩ := h.at0 i hi; exact ⟨g, 0, e, by rw [Nat.zero_add]; exact hc⟩⟩
theorem Made.row (h : Made w0 w A n c l) : ∀ k, (Value.slice A n c).ownBlock = some k → w0.heap.size ≤ k ∧ k < w.heap.size := h.own.lt
theorem Made.keep (h : Made w0 w A n c l) (hg : w.grownBy w' none) : Made w0 w' A n c l :=
  ⟨h.own.kept hg (by cases (Value.slice A n c).ownBlock <;> simp), grown_trans h.gr hg⟩
theorem Made.alloc (h : Made w0 w A n c l) (o : Obj) : Made w0 (w.alloc o) A n c l := h.keep (grown_alloc _ _ _)
end
theorem made_nil (w0 w : World) (h : w0.grownBy w none) : Made w0 w none 0 0 [] := ⟨World.ownsRow_nil _ _ _ _, h⟩
theorem made_lit (w0 w : World) (cs : Array Value) (n : Nat) (l : List UInt8) (hl : cs.toList = bvs l) (hn : l.length = n) (hg : w0.grownBy w none) (hs : n ≤ 1000) : Made w0 (w.alloc (.cells cs 5)) (some ⟨w.heap.size, 0, none⟩) n n l := by
  refine ⟨?_, grown_trans hg (grown_alloc _ _ _)⟩
  have hsz : cs.size = n * 1 := by rw [← Array.length_toList, hl, bvs_len]; omega
  have := World.ownsRow_lit (base := w0.heap.size) (e := 5) (size := 1) w cs n hg.size (by unfold maxLen; omega) hsz
  rw [hl] at this
  exact this
theorem rb_lit (w : World) (cs : Array Value) (n : Nat) (l : List UInt8) (hl : cs.toList = bvs l) (hn : l.length = n) (hs : n ≤ 1000) : RB (w.alloc (.cells cs 5)) (some ⟨w.heap.size, 0, none⟩) n l :=
  (made_lit w w cs n l hl hn (grown_refl _ _) hs).rb
section
variable {P : Program}
set_option maxRecDepth 4000 in
theorem app_run {w0 w : World} {A B : Option Addr} {n c m d : Nat} {l news : List UInt8} (hm : Made w0 w A n c l) (hr : RB w B m news) (hb : n + m ≤ 140737488355328) (ty : TypeId) :
    ∃ A' c' w', (Builtin.append_ #[22, 22] ty #[.slice A n c, .slice B m d]).run Tryz.prog w = .ok (.slice A' (n + m) c') w' ∧ Made w0 w' A' (n + m) c' (l ++ news) ∧ w.grownBy w' (Value.slice A n c).ownBlock := by
  obtain ⟨i, hi, hz, hs, hby⟩ := info_parts5
  cases B with
  | none =>
    have h0 : m = 0 := by
      rcases Nat.eq_zero_or_pos m with h0 | h0
      · exact h0
      · obtain ⟨b, off, e, _⟩ := hr.2 0 h0; cases e
    subst h0
    obtain rfl : news = [] := List.eq_nil_of_length_eq_zero hr.1
    refine ⟨A, c, w, ?_, by simpa using hm, grown_refl _ _⟩
    rcases hm.own.2 with ⟨e, hn⟩ | ⟨g, cap, cur, e, _, _, hnc, _⟩
    · injection e with e1 e2 e3
      subst e1; subst e3; subst hn
      simp [Builtin.append_, run_underlying Tryz.underlying22, sizeOf, typeInfo, hi, Builtin.lenOf, Builtin.firstCells]
    · injection e with e1 e2 e3
      subst e1; subst e3
      simp [Builtin.append_, run_underlying Tryz.underlying22, sizeOf, typeInfo, hi, Builtin.lenOf, Builtin.firstCells, hnc, storeCells]
  | some p =>
    have hnews : ∀ j u, (bvs news)[j]? = some u → w.cell? (p.add j) = some u := by
      rcases Nat.eq_zero_or_pos m with h0 | h0
      · intro j u hu
        obtain rfl : news = [] := List.eq_nil_of_length_eq_zero (by rw [hr.1, h0])
        simp [bvs] at hu
      · obtain ⟨b, off, e, _⟩ := hr.2 0 h0
        injection e with e
        subst e
        exact hr.news
    obtain ⟨v', w', hrun, hown, hg, _, _⟩ := run_append_own_at (P := Tryz.prog) w w0.heap.size 22 ty 5 i (.int .u8 0) 1 1 Tryz.underlying22 hi hz hs hby rfl (by omega) (.slice A n c) n (bvs l) hm.own p m d (bvs news)
      (by rw [bvs_len, hr.1]; omega) hnews (bvs_one _) (by unfold maxLen; omega) (by omega) hm.gr.size
    have hown' : w'.ownsRow w0.heap.size 5 1 v' (n + m) (bvs (l ++ news)) := by rw [bvs_append]; exact hown
    have hg' := grown_row hm.gr hg (fun k hk => (hm.row k hk).1)
    rcases hown'.2 with ⟨e, hn⟩ | ⟨g, cap, cur, e, _⟩
    · subst e
      exact ⟨none, 0, w', by rw [hn]; exact hrun, ⟨by rw [hn] at hown' ⊢; exact hown', hg'⟩, hg⟩
    · subst e
      exact ⟨_, cap, w', hrun, ⟨hown', hg'⟩, hg⟩
theorem wpList_app {w0 w : World} {ops : Array Oper} {rest : List Oper} {o : Oper} {a : Act} {Q : Exit → Act → World → Prop} (hgd : o.guard = none) (s x : Operand)
    (ho : o.op = .call { callee := .builtin .append, args := #[s, x], argTypes := #[22, 22] }) {A B : Option Addr} {n c m d : Nat} {l news : List UInt8} (hs : a.eval s = .slice A n c) (hx : a.eval x = .slice B m d)
    (hm : Made w0 w A n c l) (hr : RB w B m news) (hb : n + m ≤ 140737488355328) (N : Nat) (hN : n + m = N)
    (h : ∀ A' c' w', Made w0 w' A' N c' (l ++ news) → w.grownBy w' (Value.slice A n c).ownBlock → wpList Tryz.prog ops Q rest (a.put o.dst (.slice A' N c')) w') : wpList Tryz.prog ops Q (o :: rest) a w := by
  subst hN
  refine wpList_plain hgd fun K hK => ?_
  obtain ⟨A', c', w', hrun, h2, h3⟩ := app_run (d := d) hm hr hb o.type
  unfold Oper.wp execOp
  simp only [ho, resolve, invoke, builtin, Sem.run_bind, Sem.run_pure, Result.andThen_ok, List.map_toArray, List.map_cons, List.map_nil, hs, hx, hrun]
  exact hK _ _ (h A' c' w' h2 h3)
theorem wpList_mk {w : World} {ops : Array Oper} {rest : List Oper} {o : Oper} {a : Act} {Q : Exit → Act → World → Prop} (hgd : o.guard = none) (lo co : Operand) (hop : o.op = Op.makeSlice 22 lo co)
    (C : Int) (n : Nat) (hl : a.eval lo = .int .i64 0) (hc : a.eval co = .int .i64 C) (hC : C = (n : Int)) (hn : n ≤ 281474976710656)
    (h : ∀ w', Made w w' (some ⟨w.heap.size, 0, none⟩) 0 n [] → wpList Tryz.prog ops Q rest (a.put o.dst (.slice (some ⟨w.heap.size, 0, none⟩) 0 n)) w') : wpList Tryz.prog ops Q (o :: rest) a w := by
  obtain ⟨i, hi, hz, hs, hby⟩ := info_parts5
  refine wpList_make_own w hgd lo co 22 hop w.heap.size 5 i (.int .u8 0) 1 Tryz.underlying22 hi hz hs .i64 .i64 C n hl hc hC (by rw [hby]; omega) (by unfold maxLen; omega) (Nat.le_refl _) ?_
  intro w' ho hg
  exact h w' ⟨ho, hg⟩
end
def OwnEnd (l : List UInt8) (w : World) (e : Ending) (w' : World) : Prop := ∃ A n c, e = .returned (.slice A n c) ∧ Made w w' A n c l
end Go.Proofs.YticmoaebegahgaaGreatDoor.Wr
namespace Go.Proofs.YticmoaebegahgaaGreatDoor.Wr
open Go.ChangeShapes Go.WideShapes Go.ChangeAt Go.RowKit
theorem rfold_any (n : Int) (w : World) (h1 : -9223372036854775808 ≤ n) (h2 : n ≤ 9223372036854775807) :
    Calls Tryz.prog 66 #[.int .i64 n] w fun e w' => e = .returned (.int .u64 ((Wm.fold n : Nat) : Int)) ∧ w = w' := by
  have H := Hi (Wm.fold_cast n)
  by_cases h : 0 ≤ n
  · go_enter Tryz.func66, Tryz.ntmps66
    go_wp2
    go_ret
    refine ⟨ret_int ?_, rfl⟩
    rw [H.out, if_pos h]; try omega
  · go_enter Tryz.func66, Tryz.ntmps66
    go_wp2
    go_ret
    refine ⟨ret_int ?_, rfl⟩
    rw [H.out, if_neg (by omega)]; try omega
theorem runfold_any (u : Nat) (w : World) (h2 : u < 18446744073709551616) :
    Calls Tryz.prog 83 #[.int .u64 (u : Int)] w fun e w' => e = .returned (.int .i64 (Wm.unf u)) ∧ w = w' := by
  have H := Hi (show Wm.unf u = if u % 2 = 0 then ((u / 2 : Nat) : Int) else -((u / 2 : Nat) : Int) - 1 from rfl)
  by_cases h : u % 2 = 0
  · have hd : (((u : Nat) : Int) % 2 == 0) = true := by rw [beq_iff_eq]; omega
    have h := Hi h
    go_enter Tryz.func83, Tryz.ntmps83
    go_wp2
    go_ret
    refine ⟨ret_int ?_, rfl⟩
    rw [H.out, if_pos h.out]; omega
  · have hd : (((u : Nat) : Int) % 2 == 0) = false := by rw [beq_eq_false_iff_ne]; omega
    have h := Hi h
    go_enter Tryz.func83, Tryz.ntmps83
    go_wp2
    go_ret
    refine ⟨ret_int ?_, rfl⟩
    rw [H.out, if_neg h.out]; omega
theorem unfold_bits (u : Nat) (h2 : u < 18446744073709551616) : bits .xor .i64 ((u : Int) / 2) (wrap64 (-wrap64 (bits .and .u64 (u : Int) 1))) = Wm.unf u := by
  have e : bits .and .u64 (u : Int) 1 = ((u % 2 : Nat) : Int) := by
    have := u64_and_nat u 1 h2 (by omega)
    rw [Wm.and1_mod] at this
    exact this
  rw [e]
  unfold Wm.unf
  by_cases h : u % 2 = 0
  · rw [if_pos h, h, show wrap64 (-wrap64 ((0 : Nat) : Int)) = 0 by decide +kernel]
    show IntKind.i64.wrap ((BitVec.ofInt 64 ((u : Int) / 2) ^^^ BitVec.ofInt 64 0).toNat : Int) = _
    rw [show BitVec.ofInt 64 0 = 0#64 by rfl, BitVec.xor_zero, show ((u : Int) / 2) = ((u / 2 : Nat) : Int) by omega, ofInt_u64 _ (by omega), IntKind.wrap_i64]
    omega
  · rw [if_neg h, show u % 2 = 1 by omega, show wrap64 (-wrap64 ((1 : Nat) : Int)) = -1 by decide +kernel]
    show IntKind.i64.wrap ((BitVec.ofInt 64 ((u : Int) / 2) ^^^ BitVec.ofInt 64 (-1)).toNat : Int) = _
    rw [show BitVec.ofInt 64 (-1) = BitVec.allOnes 64 by rfl, BitVec.xor_allOnes, BitVec.toNat_not, show ((u : Int) / 2) = ((u / 2 : Nat) : Int) by omega, ofInt_u64 _ (by omega), IntKind.wrap_i64]
    omega
theorem unfold_any (u : Nat) (w : World) (h2 : u < 18446744073709551616) :
    Calls Tryz.prog 103 #[.int .u64 (u : Int)] w fun e w' => e = .returned (.int .i64 (Wm.unf u)) ∧ w = w' := by
  have H := Hi (unfold_bits u h2)
  go_enter Tryz.func103, Tryz.ntmps103
  go_wp2
  go_ret
  exact ⟨ret_int H.out, rfl⟩
theorem mark_dec (x : UInt8) : Wm.mark x = (decide (x.toNat = 126) || decide (x.toNat = 124) || decide (x.toNat = 125)) := by
  have e (k : UInt8) : (x == k) = decide (x.toNat = k.toNat) := by rw [Bool.eq_iff_iff]; simp [UInt8.toNat_inj]
  unfold Wm.mark
  rw [e, e, e]; rfl
theorem mark_any (x : UInt8) (w : World) :
    Calls Tryz.prog 97 #[.int .u8 (x.toNat : Int)] w fun e w' => e = .returned (.bool (Wm.mark x)) ∧ w = w' := by
  have H := Hi (mark_dec x)
  generalize Wm.mark x = b at *
  have hb := x.toNat_lt
  generalize x.toNat = k at *
  by_cases h1 : k = 126
  · subst h1
    go_enter Tryz.func97, Tryz.ntmps97
    go_wp2
    go_ret
    exact ⟨ret_bool (by rw [H.out]; rfl), rfl⟩
  · by_cases h2 : k = 124
    · subst h2
      go_enter Tryz.func97, Tryz.ntmps97
      go_wp2
      go_ret
      exact ⟨ret_bool (by rw [H.out]; rfl), rfl⟩
    · have d1 : ((k : Int) == 126) = false := by rw [beq_eq_false_iff_ne]; omega
      have d2 : ((k : Int) == 124) = false := by rw [beq_eq_false_iff_ne]; omega
      by_cases h3 : k = 125
      · subst h3
        go_enter Tryz.func97, Tryz.ntmps97
        go_wp2
        go_ret
        exact ⟨ret_bool (by rw [H.out]; rfl), rfl⟩
      · have d3 : ((k : Int) == 125) = false := by rw [beq_eq_false_iff_ne]; omega
        have H' := Hi (show b = false by rw [H.out]; simp [h1, h2, h3])
        clear h1 h2 h3 H
        go_enter Tryz.func97, Tryz.ntmps97
        go_wp2
        go_ret
        exact ⟨ret_bool H'.out.symm, rfl⟩
theorem rmark_any (x : UInt8) (w : World) :
    Calls Tryz.prog 43 #[.int .u8 (x.toNat : Int)] w fun e w' => e = .returned (.bool (Wm.mark x)) ∧ w = w' := by
  have H := Hi (mark_dec x)
  generalize Wm.mark x = b at *
  have hb := x.toNat_lt
  generalize x.toNat = k at *
  by_cases h1 : k = 126
  · subst h1
    go_enter Tryz.func43, Tryz.ntmps43
    go_wp2
    go_ret
    exact ⟨ret_bool (by rw [H.out]; rfl), rfl⟩
  · by_cases h2 : k = 124
    · subst h2
      go_enter Tryz.func43, Tryz.ntmps43
      go_wp2
      go_ret
      exact ⟨ret_bool (by rw [H.out]; rfl), rfl⟩
    · have d1 : ((k : Int) == 126) = false := by rw [beq_eq_false_iff_ne]; omega
      have d2 : ((k : Int) == 124) = false := by rw [beq_eq_false_iff_ne]; omega
      by_cases h3 : k = 125
      · subst h3
        go_enter Tryz.func43, Tryz.ntmps43
        go_wp2
        go_ret
        exact ⟨ret_bool (by rw [H.out]; rfl), rfl⟩
      · have d3 : ((k : Int) == 125) = false := by rw [beq_eq_false_iff_ne]; omega
        have H' := Hi (show b = false by rw [H.out]; simp [h1, h2, h3])
        clear h1 h2 h3 H
        go_enter Tryz.func43, Tryz.ntmps43
        go_wp2
        go_ret
        exact ⟨ret_bool H'.out.symm, rfl⟩
def endB (k : Nat) (x : UInt8) : Bool := !(decide ((k = 9 ∧ 1 < x.toNat) ∨ (x.toNat = 0 ∧ 0 < k)))
theorem ends_any (k : Nat) (x : UInt8) (w : World) (hk : k ≤ 9) :
    Calls Tryz.prog 102 #[.int .i64 (k : Int), .int .u8 (x.toNat : Int)] w fun e w' => e = .returned (.bool (endB k x)) ∧ w = w' := by
  have H := Hi (show endB k x = !(decide ((k = 9 ∧ 1 < x.toNat) ∨ (x.toNat = 0 ∧ 0 < k))) from rfl)
  generalize endB k x = b at *
  have hb := x.toNat_lt
  generalize x.toNat = c at *
  by_cases h9 : k = 9
  · subst h9
    by_cases h1 : 1 < c
    · have H' := Hi (show b = false by rw [H.out]; simp [h1])
      go_enter Tryz.func102, Tryz.ntmps102
      go_wp2
      go_ret
      exact ⟨ret_bool H'.out.symm, rfl⟩
    · by_cases h0 : c = 0
      · subst h0
        have H' := Hi (show b = false by rw [H.out]; simp)
        go_enter Tryz.func102, Tryz.ntmps102
        go_wp2
        go_ret
        exact ⟨ret_bool H'.out.symm, rfl⟩
      · obtain rfl : c = 1 := by omega
        have H' := Hi (show b = true by rw [H.out]; simp)
        clear h1 h0
        go_enter Tryz.func102, Tryz.ntmps102
        go_wp2
        go_ret
        exact ⟨ret_bool H'.out.symm, rfl⟩
  · have d9 : ((k : Int) == 9) = false := by rw [beq_eq_false_iff_ne]; omega
    by_cases h0 : c = 0
    · subst h0
      by_cases hk0 : k = 0
      · subst hk0
        have H' := Hi (show b = true by rw [H.out]; simp)
        clear d9 h9
        go_enter Tryz.func102, Tryz.ntmps102
        go_wp2
        go_ret
        exact ⟨ret_bool H'.out.symm, rfl⟩
      · have H' := Hi (show b = false by rw [H.out]; simp; omega)
        have d0 : ((k : Int) == 0) = false := by rw [beq_eq_false_iff_ne]; omega
        clear h9
        go_enter Tryz.func102, Tryz.ntmps102
        go_wp2
        go_ret
        exact ⟨ret_bool H'.out.symm, rfl⟩
    · have H' := Hi (show b = true by rw [H.out]; simp [h9, h0])
      have d0 : ((c : Int) == 0) = false := by rw [beq_eq_false_iff_ne]; omega
      have d0' : ((c : Int) != 0) = true := by rw [bne_iff_ne]; omega
      clear h9
      go_enter Tryz.func102, Tryz.ntmps102
      go_wp2
      go_ret
      exact ⟨ret_bool H'.out.symm, rfl⟩
end Go.Proofs.YticmoaebegahgaaGreatDoor.Wr
namespace Go.Proofs.YticmoaebegahgaaGreatDoor.Wr
open Go.ChangeShapes Go.WideShapes Go.ChangeAt Go.RowKit
def Tabled (w : World) : Prop := ∀ i, i < 16 → w.cell? ⟨1, i, none⟩ = some (.int .u32 ((Wm.tab i : Nat) : Int))
theorem Tabled.grown {w w' : World} (h : Tabled w) (hg : w.grownBy w' none) : Tabled w' := fun i hi => hg.cell (h i hi) (by simp)
theorem xor32_nat (a b c : Nat) (ha : a < 4294967296) (hb : b < 4294967296) (h : a ^^^ b = c) : bits .xor .u32 (a : Int) (b : Int) = (c : Int) := by rw [u32_xor_nat a b ha hb, h]
theorem and32_nat (a c : Nat) (ha : a < 4294967296) (h : a &&& 15 = c) : bits .and .u32 (a : Int) 15 = (c : Int) := by
  have := u32_and_nat a 15 ha (by omega)
  rw [h] at this; exact this
theorem and32_one (a : Nat) (ha : a < 4294967296) : bits .and .u32 (a : Int) 1 = ((a % 2 : Nat) : Int) := by
  have := u32_and_nat a 1 ha (by omega)
  rw [Wm.and1_mod] at this; exact this
theorem not32 (a : Nat) (h : a < 4294967296) : bits .xor .u32 IntKind.u32.max (a : Int) = ((4294967295 - a : Nat) : Int) := by
  have e := congrArg BitVec.toNat (BitVec.xor_allOnes (x := BitVec.ofNat 32 a))
  rw [BitVec.toNat_xor, BitVec.toNat_not, BitVec.toNat_ofNat, BitVec.toNat_allOnes, Nat.mod_eq_of_lt (by omega)] at e
  have e : a ^^^ 4294967295 = 4294967295 - a := by simpa using e
  exact xor32_nat 4294967295 a _ (by omega) h (by rw [Nat.xor_comm, e])
theorem take_snoc (l : List UInt8) (k : Nat) (h : k < l.length) : l.take (k + 1) = l.take k ++ [l.getD k 0] := by
  rw [List.take_succ_eq_append_getElem h]; simp [List.getD, h]
set_option maxHeartbeats 400000 in
theorem sum_any (A : Option Addr) (n c : Nat) (l : List UInt8) (w : World) (h : RB w A n l) (ht : Tabled w) (hn : n ≤ 9223372036854775807) :
    Calls Tryz.prog 98 #[.slice A n c] w fun e w' => e = .returned (.int .u32 ((Wm.crc l : Nat) : Int)) ∧ w = w' := by
  obtain ⟨hl, hc⟩ := h
  have HL := Hi hl
  have HC := Hi hc
  have HT := Hi ht
  clear hl hc ht
  go_enter Tryz.func98, Tryz.ntmps98
  go_wp2
  go_loop [3, 8] (fun r i => ∃ k : Nat, i = .int .i64 k ∧ k ≤ n ∧ r = .int .u32 ((Wm.reg (l.take k) : Nat) : Int)) (fun _ i => n - (intOf i).toNat)
  case atStart => exact ⟨0, rfl, by omega, rfl⟩
  case round =>
    obtain ⟨k, rfl, hk, rfl⟩ := hrel
    have hr := Wm.reg_lt (l.take k)
    by_cases hlt : k < n
    · obtain ⟨b, off, rfl, c1⟩ := HC.out k hlt
      have HS := Hi (show Wm.reg (l.take (k + 1)) = Wm.upd (Wm.reg (l.take k)) (l.getD k 0) by rw [take_snoc l k (by rw [HL.out]; exact hlt), Wm.reg_snoc])
      generalize l.getD k 0 = x at *
      generalize Wm.reg (l.take k) = r at *
      have hx := x.toNat_lt
      obtain ⟨a, ha⟩ : ∃ a, r ^^^ x.toNat = a := ⟨_, rfl⟩
      obtain ⟨b1, hb1⟩ : ∃ b, Wm.nib a = b := ⟨_, rfl⟩
      obtain ⟨b2, hb2⟩ : ∃ b, Wm.nib b1 = b := ⟨_, rfl⟩
      obtain ⟨i1, hi1⟩ : ∃ b, a &&& 15 = b := ⟨_, rfl⟩
      obtain ⟨i2, hi2⟩ : ∃ b, b1 &&& 15 = b := ⟨_, rfl⟩
      have ha2 : a < 4294967296 := by rw [← ha]; exact Wm.xor_lt hr (by omega)
      have hb12 : b1 < 4294967296 := by rw [← hb1]; exact Wm.nib_lt _ ha2
      have hi1' : i1 < 16 := by rw [← hi1]; exact Wm.and15_lt _
      have hi2' : i2 < 16 := by rw [← hi2]; exact Wm.and15_lt _
      have d1 := HT.out i1 hi1'
      have d2 := HT.out i2 hi2'
      have t1 := Wm.tab_lt i1 hi1'
      have t2 := Wm.tab_lt i2 hi2'
      have E1 := xor32_nat r x.toNat a hr (by omega) ha
      have E2 := and32_nat a i1 ha2 hi1
      have E3 : bits .xor .u32 ((a : Int) / 16) ((Wm.tab i1 : Nat) : Int) = (b1 : Int) := xor32_nat (a / 16) (Wm.tab i1) b1 (by omega) t1 (by rw [← hb1, ← hi1]; rfl)
      have E4 := and32_nat b1 i2 hb12 hi2
      have E5 : bits .xor .u32 ((b1 : Int) / 16) ((Wm.tab i2 : Nat) : Int) = (b2 : Int) := xor32_nat (b1 / 16) (Wm.tab i2) b2 (by omega) t2 (by rw [← hb2, ← hi2]; rfl)
      have HS' := Hi (show Wm.reg (l.take (k + 1)) = b2 by rw [HS.out, ← hb2, ← hb1, ← ha]; rfl)
      generalize Wm.tab i1 = u1 at *
      generalize Wm.tab i2 = u2 at *
      clear ha hb1 hb2 hi1 hi2 HS
      go_wp2
      go_round
      case rel => exact ⟨k + 1, by go_num, by omega, by rw [HS'.out]⟩
      case measure => simp [intOf]; omega
    · obtain rfl : k = n := by omega
      go_wp2
      go_ret
      refine ⟨ret_int ?_, rfl⟩
      have e : l.take k = l := List.take_of_length_le (by rw [HL.out]; omega)
      rw [e] at hr ⊢
      exact not32 _ hr
set_option maxHeartbeats 800000 in
theorem rsum_any (A : Option Addr) (n c : Nat) (l : List UInt8) (w : World) (h : RB w A n l) (hn : n ≤ 9223372036854775807) :
    Calls Tryz.prog 67 #[.slice A n c] w fun e w' => e = .returned (.int .u32 ((Wm.crc l : Nat) : Int)) ∧ w = w' := by
  obtain ⟨hl, hc⟩ := h
  have HL := Hi hl
  have HC := Hi hc
  clear hl hc
  go_enter Tryz.func67, Tryz.ntmps67
  go_wp2
  go_loop [3, 4, 5, 6, 9] (fun r _ _ _ i => ∃ k : Nat, i = .int .i64 k ∧ k ≤ n ∧ r = .int .u32 ((Wm.reg (l.take k) : Nat) : Int)) (fun _ _ _ _ i => n - (intOf i).toNat)
  case atStart => exact ⟨0, rfl, by omega, rfl⟩
  case round =>
    obtain ⟨k, rfl, hk, rfl⟩ := hrel
    have hr := Wm.reg_lt (l.take k)
    by_cases hlt : k < n
    · obtain ⟨b, off, rfl, c1⟩ := HC.out k hlt
      have HS := Hi (show Wm.reg (l.take (k + 1)) = Wm.upd (Wm.reg (l.take k)) (l.getD k 0) by rw [take_snoc l k (by rw [HL.out]; exact hlt), Wm.reg_snoc])
      generalize l.getD k 0 = x at *
      generalize Wm.reg (l.take k) = r at *
      have hx := x.toNat_lt
      obtain ⟨a, ha⟩ : ∃ a, r ^^^ x.toNat = a := ⟨_, rfl⟩
      have ha2 : a < 4294967296 := by rw [← ha]; exact Wm.xor_lt hr (by omega)
      have E1 := xor32_nat r x.toNat a hr (by omega) ha
      have HS' := Hi (show Wm.reg (l.take (k + 1)) = Wm.bitsN 8 a by rw [HS.out, Wm.bits8, ← ha]; rfl)
      clear ha HS
      go_wp2
      go_loop [3, 5, 6] (fun r j _ => ∃ i : Nat, j = .int .i64 i ∧ i ≤ 8 ∧ r = .int .u32 ((Wm.bitsN i a : Nat) : Int)) (fun _ j _ => 8 - (intOf j).toNat)
      case atStart => exact ⟨0, rfl, by omega, rfl⟩
      case round =>
        obtain ⟨i, rfl, hi, rfl⟩ := hrel
        have hb := Wm.bitsN_lt i a ha2
        by_cases hlt2 : i < 8
        · have HB := Hi (show Wm.bitsN (i + 1) a = Wm.bit (Wm.bitsN i a) from rfl)
          generalize Wm.bitsN i a = v at *
          have E2 := and32_one v hb
          by_cases h1 : v % 2 = 1
          · have HB' := Hi (show Wm.bitsN (i + 1) a = (v / 2) ^^^ 3988292384 by rw [HB.out]; unfold Wm.bit; rw [Wm.and1_mod, if_pos h1])
            have d1 : (((v % 2 : Nat) : Int) == 1) = true := by rw [h1]; rfl
            have E3 : bits .xor .u32 ((v : Int) / 2) 3988292384 = ((v / 2 ^^^ 3988292384 : Nat) : Int) := xor32_nat (v / 2) 3988292384 _ (by omega) (by omega) rfl
            generalize v / 2 ^^^ 3988292384 = z at *
            rw [h1] at E2
            clear HB h1 d1
            go_wp2
            go_round
            case rel => exact ⟨i + 1, by go_num, by omega, by rw [HB'.out]⟩
            case measure => simp [intOf]; omega
          · have h1 : v % 2 = 0 := by omega
            have HB' := Hi (show Wm.bitsN (i + 1) a = v / 2 by rw [HB.out]; unfold Wm.bit; rw [Wm.and1_mod, if_neg (by omega)])
            rw [h1] at E2
            clear HB h1
            go_wp2
            go_round
            case rel => exact ⟨i + 1, by go_num, by omega, by rw [HB'.out]; go_num⟩
            case measure => simp [intOf]; omega
        · obtain rfl : i = 8 := by omega
          rw [← HS'.out]
          go_wp2
          go_round
          case rel => exact ⟨k + 1, by go_num, by omega, rfl⟩
          case measure => simp [intOf]; omega
    · obtain rfl : k = n := by omega
      go_wp2
      go_ret
      refine ⟨ret_int ?_, rfl⟩
      have e : l.take k = l := List.take_of_length_le (by rw [HL.out]; omega)
      rw [e] at hr ⊢
      exact not32 _ hr
end Go.Proofs.YticmoaebegahgaaGreatDoor.Wr
namespace Go.Proofs.YticmoaebegahgaaGreatDoor.Wr
open Go.ChangeShapes Go.WideShapes Go.ChangeAt Go.RowKit
theorem xor8 (x : UInt8) : bits .xor .u8 (x.toNat : Int) 32 = ((x ^^^ 32).toNat : Int) := by
  have h := u8_xor_nat x.toNat 32 x.toNat_lt (by omega)
  rw [UInt8.toNat_xor]; exact h
theorem esc_take (l : List UInt8) (k : Nat) (h : k < l.length) : (126 :: Wm.esc (l.take k)) ++ (if Wm.mark (l.getD k 0) then [125, l.getD k 0 ^^^ 32] else [l.getD k 0]) = 126 :: Wm.esc (l.take (k + 1)) := by
  rw [take_snoc l k h, Wm.esc_snoc]; rfl
theorem frame_eq (l : List UInt8) (n : Nat) (h : l.length = n) : (126 :: Wm.esc (l.take n)) ++ [124] = Wm.frame l := by
  rw [List.take_of_length_le (by omega)]; rfl
theorem mark_yes (x : UInt8) (w : World) (h : Wm.mark x = true) : Calls Tryz.prog 97 #[.int .u8 (x.toNat : Int)] w fun e w' => e = .returned (.bool true) ∧ w = w' := by
  have := mark_any x w
  rw [h] at this; exact this
theorem mark_no (x : UInt8) (w : World) (h : Wm.mark x = false) : Calls Tryz.prog 97 #[.int .u8 (x.toNat : Int)] w fun e w' => e = .returned (.bool false) ∧ w = w' := by
  have := mark_any x w
  rw [h] at this; exact this
theorem rmark_yes (x : UInt8) (w : World) (h : Wm.mark x = true) : Calls Tryz.prog 43 #[.int .u8 (x.toNat : Int)] w fun e w' => e = .returned (.bool true) ∧ w = w' := by
  have := rmark_any x w
  rw [h] at this; exact this
theorem rmark_no (x : UInt8) (w : World) (h : Wm.mark x = false) : Calls Tryz.prog 43 #[.int .u8 (x.toNat : Int)] w fun e w' => e = .returned (.bool false) ∧ w = w' := by
  have := rmark_any x w
  rw [h] at this; exact this
set_option maxHeartbeats 1600000 in
theorem rstuff_any (A : Option Addr) (n c : Nat) (l : List UInt8) (w : World) (h : RB w A n l) (hn : n ≤ 1000000) :
    Calls Tryz.prog 22 #[.slice A n c] w (OwnEnd (Wm.frame l) w) := by
  obtain ⟨hl, hc⟩ := h
  have HL := Hi hl
  have HC := Hi hc
  clear hl hc
  have M2 := Hi (made_lit w w #[.int .u8 126] 1 [126] rfl rfl (grown_refl _ _) (by omega))
  go_enter Tryz.func22, Tryz.ntmps22
  go_wp2
  go_loopw [3, 4, 8] (fun v _ i wr => ∃ (k N c : Nat) (A : Option Addr), i = .int .i64 k ∧ k ≤ n ∧ v = .slice A N c ∧ N ≤ 2 * k + 1 ∧ Hid (Made w wr A N c (126 :: Wm.esc (l.take k)))) (fun _ _ i _ => n - (intOf i).toNat)
  case atStart => exact ⟨0, 1, 1, _, rfl, by omega, rfl, by omega, M2⟩
  case round =>
    obtain ⟨k, N, c3, A3, rfl, hk, rfl, hN, M3⟩ := hrel
    by_cases hlt : k < n
    · obtain ⟨b, off, rfl, cc⟩ := HC.out k hlt
      have c1 := M3.out.gr.cell cc (by simp)
      have HE := Hi (esc_take l k (by rw [HL.out]; exact hlt))
      generalize l.getD k 0 = x at *
      have E1 := xor8 x
      clear cc
      by_cases hmk : Wm.mark x = true
      · have HE' := Hi (show 126 :: Wm.esc (l.take k) ++ [125, x ^^^ 32] = 126 :: Wm.esc (l.take (k + 1)) by rw [← HE.out, if_pos hmk])
        have HM := Hi hmk
        clear hmk
        go_wp2_with fail
        refine (rmark_yes x _ HM.out).mono ?_
        rintro e w' ⟨rfl, rfl⟩
        go_wp2_with (at_builtin; refine wpList_app rfl (.tmp 16) (.tmp 22) rfl rfl rfl (M3.out.alloc _) (rb_lit _ _ 2 [125, x ^^^ 32] rfl rfl (by omega)) (by omega) (N + 2) rfl ?_; intro A4 c4 w4 hm4 _; have M4 := Hi hm4; clear hm4)
        go_roundw
        case rel => exact ⟨k + 1, N + 2, c4, A4, by go_num, by omega, rfl, by omega, by rw [← HE'.out]; exact M4⟩
        case measure => simp [intOf]; omega
      · have hmk := eq_false_of_ne_true hmk
        have HE' := Hi (show 126 :: Wm.esc (l.take k) ++ [x] = 126 :: Wm.esc (l.take (k + 1)) by rw [← HE.out, if_neg (by simp [hmk])])
        have HM := Hi hmk
        clear hmk
        go_wp2_with fail
        refine (rmark_no x _ HM.out).mono ?_
        rintro e w' ⟨rfl, rfl⟩
        go_wp2_with (at_builtin; refine wpList_app rfl (.tmp 24) (.tmp 29) rfl rfl rfl (M3.out.alloc _) (rb_lit _ _ 1 [x] rfl rfl (by omega)) (by omega) (N + 1) rfl ?_; intro A4 c4 w4 hm4 _; have M4 := Hi hm4; clear hm4)
        go_roundw
        case rel => exact ⟨k + 1, N + 1, c4, A4, by go_num, by omega, rfl, by omega, by rw [← HE'.out]; exact M4⟩
        case measure => simp [intOf]; omega
    · obtain rfl : k = n := by omega
      go_wp2_with (at_builtin; refine wpList_app rfl (.tmp 32) (.tmp 33) rfl rfl rfl (M3.out.alloc _) (rb_lit _ _ 1 [124] rfl rfl (by omega)) (by omega) (N + 1) rfl ?_; intro A4 c4 w4 hm4 _; have M4 := Hi hm4; clear hm4)
      go_ret
      exact ⟨A4, N + 1, c4, rfl, by rw [← frame_eq l k HL.out]; exact M4.out⟩
end Go.Proofs.YticmoaebegahgaaGreatDoor.Wr
