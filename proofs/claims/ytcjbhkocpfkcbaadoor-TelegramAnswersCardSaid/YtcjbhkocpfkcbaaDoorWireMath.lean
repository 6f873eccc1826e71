/- Plain mathematics of layer 2: folded numbers and their bytes, frames, the checksum. -/
namespace Go.Proofs.YtcjbhkocpfkcbaaDoor.Wm

/-! ## Folded numbers -/
def fold (n : Int) : Nat := if 0 ≤ n then (2 * n).toNat else (-2 * n - 1).toNat
def unf (u : Nat) : Int := if u % 2 = 0 then ((u / 2 : Nat) : Int) else -((u / 2 : Nat) : Int) - 1

theorem fold_cast (n : Int) : ((fold n : Nat) : Int) = if 0 ≤ n then 2 * n else -2 * n - 1 := by
  unfold fold; split <;> omega
theorem unf_fold (n : Int) : unf (fold n) = n := by
  unfold unf fold; split <;> split <;> omega
theorem fold_lt (n : Int) (h1 : -9223372036854775808 ≤ n) (h2 : n ≤ 9223372036854775807) : fold n < 18446744073709551616 := by
  unfold fold; split <;> omega
theorem unf_range (u : Nat) (h : u < 18446744073709551616) : -9223372036854775808 ≤ unf u ∧ unf u ≤ 9223372036854775807 := by
  unfold unf; split <;> omega

/-! ## The bytes of a number -/
def enc (u : Nat) : List UInt8 := if u < 128 then [UInt8.ofNat u] else UInt8.ofNat (u % 128 + 128) :: enc (u / 128)
termination_by u
decreasing_by omega

theorem enc_small (u : Nat) (h : u < 128) : enc u = [UInt8.ofNat u] := by rw [enc, if_pos h]
theorem enc_big (u : Nat) (h : 128 ≤ u) : enc u = UInt8.ofNat (u % 128 + 128) :: enc (u / 128) := by rw [enc, if_neg (by omega)]
theorem enc_pos (u : Nat) : 0 < (enc u).length := by
  rw [enc]; split <;> simp
theorem enc_len (j : Nat) : ∀ u, u < 128 ^ (j + 1) → (enc u).length ≤ j + 1 := by
  induction j with
  | zero => intro u h; rw [enc_small u (by simpa using h)]; simp
  | succ j ih =>
    intro u h
    by_cases h1 : u < 128
    · rw [enc_small u h1]; simp
    · rw [enc_big u (by omega), List.length_cons]
      have := ih (u / 128) (by rw [Nat.pow_succ] at h; omega)
      omega
theorem enc_ten (u : Nat) (h : u < 18446744073709551616) : (enc u).length ≤ 10 := enc_len 9 u (by omega)

inductive Res where
  | short : Res
  | form : Res
  | ok : Nat → Nat → Res

def dec : List UInt8 → Nat → Nat → Res
  | [], k, _ => if k = 10 then .form else .short
  | x :: t, k, U => if k = 10 then .form else if k = 9 ∧ 1 < x.toNat then .form else if x.toNat < 128 then (if x.toNat = 0 ∧ 0 < k then .form else .ok (U + x.toNat % 128 * 2 ^ (7 * k)) (k + 1))
    else dec t (k + 1) (U + x.toNat % 128 * 2 ^ (7 * k))

theorem dec_ten (l : List UInt8) (U : Nat) : dec l 10 U = .form := by
  cases l <;> simp [dec]
theorem dec_nil (k U : Nat) (h : k < 10) : dec [] k U = .short := by
  simp [dec]; omega
theorem dec_high (x : UInt8) (t : List UInt8) (k U : Nat) (h : k < 10) (h9 : k = 9 → x.toNat ≤ 1) (hx : 128 ≤ x.toNat) : dec (x :: t) k U = dec t (k + 1) (U + x.toNat % 128 * 2 ^ (7 * k)) := by
  rw [dec, if_neg (by omega), if_neg (by omega), if_neg (by omega)]
theorem dec_high9 (x : UInt8) (t : List UInt8) (k U V : Nat) (h : k < 10) (hx : 128 ≤ x.toNat) (hV : k < 9 → V = U + x.toNat % 128 * 2 ^ (7 * k)) : dec (x :: t) k U = dec t (k + 1) V := by
  by_cases h9 : k = 9
  · subst h9
    rw [dec_ten, dec, if_neg (by omega), if_pos (by omega)]
  · rw [hV (by omega)]
    exact dec_high x t k U h (by omega) hx
theorem dec_last (x : UInt8) (t : List UInt8) (k U : Nat) (h : k < 10) (hx : x.toNat < 128) :
    dec (x :: t) k U = if (k = 9 ∧ 1 < x.toNat) ∨ (x.toNat = 0 ∧ 0 < k) then .form else .ok (U + x.toNat * 2 ^ (7 * k)) (k + 1) := by
  have e : x.toNat % 128 = x.toNat := Nat.mod_eq_of_lt hx
  rw [dec, if_neg (by omega), e, if_pos hx]
  by_cases h1 : k = 9 ∧ 1 < x.toNat
  · rw [if_pos h1, if_pos (.inl h1)]
  · rw [if_neg h1]
    by_cases h2 : x.toNat = 0 ∧ 0 < k
    · rw [if_pos h2, if_pos (.inr h2)]
    · rw [if_neg h2, if_neg (fun h => h.elim h1 h2)]

/-- What is known of the number on the way. -/
theorem acc_lt (x : UInt8) (k U : Nat) (hU : U < 2 ^ (7 * k)) : U + x.toNat % 128 * 2 ^ (7 * k) < 2 ^ (7 * (k + 1)) := by
  have h : x.toNat % 128 ≤ 127 := by omega
  have := Nat.mul_le_mul_right (2 ^ (7 * k)) h
  have e : 2 ^ (7 * (k + 1)) = 128 * 2 ^ (7 * k) := by rw [show 7 * (k + 1) = 7 * k + 7 by omega, Nat.pow_add]; omega
  omega
theorem ofNat_toNat (n : Nat) (h : n < 256) : (UInt8.ofNat n).toNat = n := by
  rw [UInt8.toNat_ofNat']; omega

theorem dec_enc (rest : List UInt8) (j : Nat) : ∀ (k u U : Nat), k + j = 9 → u * 2 ^ (7 * k) < 18446744073709551616 → (0 < k → 0 < u) → dec (enc u ++ rest) k U = .ok (U + u * 2 ^ (7 * k)) (k + (enc u).length) := by
  induction j with
  | zero =>
    intro k u U hk hu h0
    obtain rfl : k = 9 := by omega
    have hu2 : u ≤ 1 := by
      have e : (2 : Nat) ^ (7 * 9) = 9223372036854775808 := by decide
      rw [e] at hu; omega
    rw [enc_small u (by omega)]
    show dec (UInt8.ofNat u :: ([] ++ rest)) 9 U = _
    rw [dec_last _ _ _ _ (by omega) (by rw [ofNat_toNat u (by omega)]; omega), ofNat_toNat u (by omega)]
    have := h0 (by omega)
    rw [if_neg (by omega)]; rfl
  | succ j ih =>
    intro k u U hk hu h0
    by_cases h : u < 128
    · rw [enc_small u h]
      show dec (UInt8.ofNat u :: ([] ++ rest)) k U = _
      rw [dec_last _ _ _ _ (by omega) (by rw [ofNat_toNat u (by omega)]; omega), ofNat_toNat u (by omega)]
      rw [if_neg (by omega)]; rfl
    · rw [enc_big u (by omega)]
      show dec (UInt8.ofNat (u % 128 + 128) :: (enc (u / 128) ++ rest)) k U = _
      have ex : (UInt8.ofNat (u % 128 + 128)).toNat = u % 128 + 128 := ofNat_toNat _ (by omega)
      rw [dec_high _ _ _ _ (by omega) (by omega) (by rw [ex]; omega), ex]
      have e2 : (2 : Nat) ^ (7 * (k + 1)) = 128 * 2 ^ (7 * k) := by rw [show 7 * (k + 1) = 7 * k + 7 by omega, Nat.pow_add]; omega
      have e3 : u = 128 * (u / 128) + u % 128 := by omega
      have e4 : u * 2 ^ (7 * k) = (u / 128) * (128 * 2 ^ (7 * k)) + u % 128 * 2 ^ (7 * k) := by
        conv => lhs; rw [e3]
        rw [Nat.add_mul, Nat.mul_comm 128 (u / 128), Nat.mul_assoc]
      rw [ih (k + 1) (u / 128) _ (by omega) (by rw [e2]; omega) (by omega)]
      rw [e2, List.length_cons, show (u % 128 + 128) % 128 = u % 128 by omega]
      congr 1 <;> omega

theorem dec_cut (j : Nat) : ∀ (k u U i : Nat), k + j = 9 → u * 2 ^ (7 * k) < 18446744073709551616 → i < (enc u).length → dec ((enc u).take i) k U = .short := by
  induction j with
  | zero =>
    intro k u U i hk hu hi
    obtain rfl : k = 9 := by omega
    have hu2 : u ≤ 1 := by
      have e : (2 : Nat) ^ (7 * 9) = 9223372036854775808 := by decide
      rw [e] at hu; omega
    rw [enc_small u (by omega)] at hi ⊢
    obtain rfl : i = 0 := by simpa using hi
    exact dec_nil _ _ (by omega)
  | succ j ih =>
    intro k u U i hk hu hi
    by_cases h : u < 128
    · rw [enc_small u h] at hi ⊢
      obtain rfl : i = 0 := by simpa using hi
      exact dec_nil _ _ (by omega)
    · rw [enc_big u (by omega)] at hi ⊢
      cases i with
      | zero => exact dec_nil _ _ (by omega)
      | succ i =>
        rw [List.take_succ_cons]
        have ex : (UInt8.ofNat (u % 128 + 128)).toNat = u % 128 + 128 := ofNat_toNat _ (by omega)
        rw [dec_high _ _ _ _ (by omega) (by omega) (by rw [ex]; omega)]
        have e2 : (2 : Nat) ^ (7 * (k + 1)) = 128 * 2 ^ (7 * k) := by rw [show 7 * (k + 1) = 7 * k + 7 by omega, Nat.pow_add]; omega
        refine ih (k + 1) (u / 128) _ i (by omega) ?_ (by simpa using hi)
        rw [e2]
        have e3 : u = 128 * (u / 128) + u % 128 := by omega
        have e4 : u * 2 ^ (7 * k) = (u / 128) * (128 * 2 ^ (7 * k)) + u % 128 * 2 ^ (7 * k) := by
          conv => lhs; rw [e3]
          rw [Nat.add_mul, Nat.mul_comm 128 (u / 128), Nat.mul_assoc]
        omega

def ires (p : Int) : Res → Int × Int × Int
  | .short => (0, 0, 2)
  | .form => (0, 0, 3)
  | .ok u n => (unf u, p + n, 0)
/-- What Int returns. -/
def intR (l : List UInt8) (p : Int) : Int × Int × Int := if p < 0 ∨ (l.length : Int) < p then (0, 0, 1) else ires p (dec (l.drop p.toNat) 0 0)

theorem intR_enc (pre rest : List UInt8) (n : Int) (h1 : -9223372036854775808 ≤ n) (h2 : n ≤ 9223372036854775807) :
    intR (pre ++ (enc (fold n) ++ rest)) pre.length = (n, (pre.length : Int) + (enc (fold n)).length, 0) := by
  unfold intR
  rw [if_neg (by simp; omega), Int.toNat_natCast, List.drop_left, dec_enc rest 9 0 (fold n) 0 (by omega) (by have := fold_lt n h1 h2; omega) (by omega)]
  simp [ires, unf_fold]
theorem intR_cut (pre : List UInt8) (n : Int) (i : Nat) (h1 : -9223372036854775808 ≤ n) (h2 : n ≤ 9223372036854775807) (hi : i < (enc (fold n)).length) :
    intR (pre ++ (enc (fold n)).take i) pre.length = (0, 0, 2) := by
  unfold intR
  rw [if_neg (by simp; omega), Int.toNat_natCast, List.drop_left, dec_cut 9 0 (fold n) 0 i (by omega) (by have := fold_lt n h1 h2; omega) hi]
  rfl

/-! ## Frames -/
def mark (x : UInt8) : Bool := x == 126 || x == 124 || x == 125
def esc : List UInt8 → List UInt8
  | [] => []
  | x :: t => (if mark x then [125, x ^^^ 32] else [x]) ++ esc t
def frame (l : List UInt8) : List UInt8 := 126 :: (esc l ++ [124])

theorem esc_append (a b : List UInt8) : esc (a ++ b) = esc a ++ esc b := by
  induction a with
  | nil => rfl
  | cons x t ih => simp [esc, ih]
theorem esc_snoc (a : List UInt8) (x : UInt8) : esc (a ++ [x]) = esc a ++ (if mark x then [125, x ^^^ 32] else [x]) := by
  rw [esc_append]; simp [esc]
theorem esc_len (a : List UInt8) : a.length ≤ (esc a).length ∧ (esc a).length ≤ 2 * a.length := by
  induction a with
  | nil => simp [esc]
  | cons x t ih => rw [esc]; split <;> simp <;> omega
theorem frame_len (a : List UInt8) : (frame a).length = (esc a).length + 2 := by simp [frame]
theorem xor32 (x : UInt8) : (x ^^^ 32) ^^^ 32 = x := by rw [UInt8.xor_assoc]; simp
theorem mark_cases {x : UInt8} (h : mark x = true) : x = 126 ∨ x = 124 ∨ x = 125 := by
  simp [mark] at h; rcases h with (h | h) | h <;> simp [h]
theorem mark_not {x : UInt8} (h : mark x = false) : x ≠ 126 ∧ x ≠ 124 ∧ x ≠ 125 := by
  simp [mark] at h; exact ⟨h.1.1, h.1.2, h.2⟩
/-- No byte of what stands inside is a start or an end. -/
theorem esc_inner (a : List UInt8) : ∀ x ∈ esc a, x ≠ 126 ∧ x ≠ 124 := by
  induction a with
  | nil => simp [esc]
  | cons y t ih =>
    intro x hx
    rw [esc, List.mem_append] at hx
    rcases hx with hx | hx
    · by_cases h : mark y = true
      · rw [if_pos h] at hx
        rcases mark_cases h with rfl | rfl | rfl <;> simp at hx <;> rcases hx with rfl | rfl <;> decide
      · rw [if_neg h] at hx
        simp at hx; subst hx
        have := mark_not (by simpa using h)
        exact ⟨this.1, this.2.1⟩
    · exact ih x hx

/-- The reading of what stands in a frame, byte by byte. -/
def un (out : List UInt8) : Bool → List UInt8 → Option (List UInt8)
  | true, [] => none
  | false, [] => some out
  | true, c :: t => if mark (c ^^^ 32) then un (out ++ [c ^^^ 32]) false t else none
  | false, c :: t => if c = 125 then un out true t else if mark c then none else un (out ++ [c]) false t

theorem un_esc (a : List UInt8) : ∀ out, un out false (esc a) = some (out ++ a) := by
  induction a with
  | nil => intro out; simp [esc, un]
  | cons x t ih =>
    intro out
    by_cases h : mark x = true
    · rw [esc, if_pos h]
      show un out false (125 :: (x ^^^ 32) :: esc t) = _
      rw [un, if_pos rfl, un, xor32, if_pos h, ih]
      simp
    · rw [esc, if_neg h]
      show un out false (x :: esc t) = _
      have := mark_not (by simpa using h)
      rw [un, if_neg this.2.2, if_neg h, ih]
      simp
theorem un_some : ∀ (l : List UInt8) (out m : List UInt8) (e : Bool), un out e l = some m → ∃ r, m = out ++ r ∧ (if e then 125 :: l else l) = esc r := by
  intro l
  induction l with
  | nil =>
    intro out m e h
    cases e
    · rw [un] at h; injection h with h; exact ⟨[], by simp [h], by simp [esc]⟩
    · rw [un] at h; cases h
  | cons c t ih =>
    intro out m e h
    cases e
    · rw [un] at h
      by_cases h1 : c = 125
      · rw [if_pos h1] at h
        obtain ⟨r, hr, he⟩ := ih _ _ _ h
        exact ⟨r, hr, by simpa [h1] using he⟩
      · rw [if_neg h1] at h
        by_cases h2 : mark c = true
        · rw [if_pos h2] at h; cases h
        · rw [if_neg h2] at h
          obtain ⟨r, hr, he⟩ := ih _ _ _ h
          refine ⟨c :: r, by rw [hr]; simp, ?_⟩
          rw [esc, if_neg h2]
          simpa using he
    · rw [un] at h
      by_cases h2 : mark (c ^^^ 32) = true
      · rw [if_pos h2] at h
        obtain ⟨r, hr, he⟩ := ih _ _ _ h
        refine ⟨(c ^^^ 32) :: r, by rw [hr]; simp, ?_⟩
        rw [esc, if_pos h2, xor32]
        simpa using he
      · rw [if_neg h2] at h; cases h

/-- The reading without a look at what it reads. -/
def loose : List UInt8 → List UInt8
  | [] => []
  | [_] => []
  | x :: y :: t => if x = 125 then (y ^^^ 32) :: loose t else x :: loose (y :: t)
theorem loose_esc (a : List UInt8) (z : UInt8) : loose (esc a ++ [z]) = a := by
  induction a with
  | nil => simp [esc, loose]
  | cons x t ih =>
    by_cases h : mark x = true
    · rw [esc, if_pos h]
      show loose (125 :: (x ^^^ 32) :: (esc t ++ [z])) = _
      rw [loose, if_pos rfl, xor32, ih]
    · rw [esc, if_neg h]
      show loose (x :: (esc t ++ [z])) = _
      have hm := mark_not (by simpa using h)
      cases hl : esc t ++ [z] with
      | nil => simp at hl
      | cons y s => rw [loose, if_neg hm.2.2, ← hl, ih]

/-- What Unstuff returns: the bytes and the error. -/
def unst (b : List UInt8) : List UInt8 × Int :=
  if b.length < 2 then ([], 2) else if frame (loose (b.drop 1)) = b then (loose (b.drop 1), 0) else ([], 3)
theorem loose_frame (a : List UInt8) : loose ((frame a).drop 1) = a := by
  show loose (esc a ++ [124]) = a
  exact loose_esc a _
theorem unst_frame (a : List UInt8) : unst (frame a) = (a, 0) := by
  unfold unst
  rw [if_neg (by rw [frame_len]; omega), loose_frame, if_pos rfl]
theorem unst_ok {b : List UInt8} (h : (unst b).2 = 0) : frame (unst b).1 = b := by
  unfold unst at h ⊢
  by_cases h1 : b.length < 2
  · rw [if_pos h1] at h; simp at h
  · rw [if_neg h1] at h ⊢
    by_cases h2 : frame (loose (b.drop 1)) = b
    · rw [if_pos h2]; exact h2
    · rw [if_neg h2] at h; simp at h
/-- By the two ends and what stands between them. -/
theorem unst_short (b : List UInt8) (h : b.length < 2) : unst b = ([], 2) := by unfold unst; rw [if_pos h]
theorem unst_ends (b : List UInt8) (h : 2 ≤ b.length) (hb : b.getD 0 0 ≠ 126 ∨ b.getD (b.length - 1) 0 ≠ 124) : unst b = ([], 3) := by
  unfold unst
  rw [if_neg (by omega), if_neg]
  intro e
  rcases hb with hb | hb
  · apply hb; rw [← e]; rfl
  · apply hb
    rw [← e]
    have : (frame (loose (b.drop 1))).getD ((frame (loose (b.drop 1))).length - 1) 0 = 124 := by
      rw [frame_len]
      show (126 :: (esc _ ++ [124])).getD ((esc _).length + 1) 0 = 124
      simp
    exact this
theorem unst_mid (m : List UInt8) : unst (126 :: (m ++ [124])) = match un [] false m with | some r => (r, 0) | none => ([], 3) := by
  have hl : ¬ (126 :: (m ++ [124]) : List UInt8).length < 2 := by simp
  cases h : un [] false m with
  | some r =>
    obtain ⟨r', hr, he⟩ := un_some m [] r false h
    have he : m = esc r := by simp at hr; subst hr; simpa using he
    subst he
    exact unst_frame r
  | none =>
    unfold unst
    rw [if_neg hl, if_neg]
    intro e
    have : esc (loose ((126 :: (m ++ [124])).drop 1)) = m := by
      have e' : (126 :: (esc (loose ((126 :: (m ++ [124])).drop 1)) ++ [124]) : List UInt8) = 126 :: (m ++ [124]) := e
      injection e' with _ e'
      exact List.append_cancel_right e'
    rw [← this, un_esc] at h
    cases h
end Go.Proofs.YtcjbhkocpfkcbaaDoor.Wm
