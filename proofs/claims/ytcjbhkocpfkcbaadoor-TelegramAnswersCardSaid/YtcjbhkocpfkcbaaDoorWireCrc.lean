/- Plain mathematics of the checksum: by bits, by four bits at once, and that it changes with a byte. -/
namespace Go.Proofs.YtcjbhkocpfkcbaaDoor.Wm

def tab (i : Nat) : Nat := [0, 498536548, 997073096, 651767980, 1994146192, 1802195444, 1303535960, 1342533948, 3988292384, 4027552580, 3604390888, 3412177804, 2607071920, 2262029012, 2685067896, 3183342108].getD i 0
/-- One bit. -/
def bit (r : Nat) : Nat := if r &&& 1 = 1 then (r / 2) ^^^ 3988292384 else r / 2
/-- Four bits. -/
def nib (r : Nat) : Nat := (r / 16) ^^^ tab (r &&& 15)
def upd (r : Nat) (c : UInt8) : Nat := nib (nib (r ^^^ c.toNat))
def reg (l : List UInt8) : Nat := l.foldl upd 4294967295
def crc (l : List UInt8) : Nat := 4294967295 - reg l

theorem tab_lt : ∀ i, i < 16 → tab i < 4294967296 := by decide
theorem tab_top : ∀ i, i < 16 → ∀ j, j < 16 → tab i / 268435456 = tab j / 268435456 → i = j := by decide
theorem and15_lt (r : Nat) : r &&& 15 < 16 := by have := @Nat.and_le_right r 15; omega
theorem and15_mod (r : Nat) : r &&& 15 = r % 16 := Nat.and_two_pow_sub_one_eq_mod r 4
theorem and1_mod (r : Nat) : r &&& 1 = r % 2 := Nat.and_two_pow_sub_one_eq_mod r 1
theorem xor_lt {a b : Nat} (ha : a < 4294967296) (hb : b < 4294967296) : a ^^^ b < 4294967296 := Nat.xor_lt_two_pow (n := 32) ha hb
theorem nib_lt (r : Nat) (h : r < 4294967296) : nib r < 4294967296 := xor_lt (by omega) (tab_lt _ (and15_lt r))
theorem upd_lt (r : Nat) (c : UInt8) (h : r < 4294967296) : upd r c < 4294967296 := nib_lt _ (nib_lt _ (xor_lt h (by have := c.toNat_lt; omega)))
theorem foldl_lt (l : List UInt8) : ∀ r, r < 4294967296 → l.foldl upd r < 4294967296 := by
  induction l with
  | nil => exact fun _ h => h
  | cons c t ih => exact fun r h => ih _ (upd_lt r c h)
theorem reg_lt (l : List UInt8) : reg l < 4294967296 := foldl_lt l _ (by omega)
theorem reg_snoc (l : List UInt8) (c : UInt8) : reg (l ++ [c]) = upd (reg l) c := by unfold reg; rw [List.foldl_append]; rfl

theorem xor_cancel {a b c : Nat} (h : a ^^^ c = b ^^^ c) : a = b := by
  have := congrArg (· ^^^ c) h
  simpa [Nat.xor_assoc] using this
theorem xor_cancel' {a b c : Nat} (h : c ^^^ a = c ^^^ b) : a = b := by
  rw [Nat.xor_comm c, Nat.xor_comm c] at h; exact xor_cancel h

theorem nib_inj (r s : Nat) (hr : r < 4294967296) (hs : s < 4294967296) (h : nib r = nib s) : r = s := by
  unfold nib at h
  have d : ∀ a b : Nat, (a ^^^ b) / 268435456 = a / 268435456 ^^^ b / 268435456 := fun a b => by
    have := Nat.shiftRight_xor_distrib (a := a) (b := b) (i := 28)
    simpa [Nat.shiftRight_eq_div_pow] using this
  have e := congrArg (· / 268435456) h
  simp only [d] at e
  rw [show r / 16 / 268435456 = 0 by omega, show s / 16 / 268435456 = 0 by omega, Nat.zero_xor, Nat.zero_xor] at e
  have e2 := tab_top _ (and15_lt r) _ (and15_lt s) e
  rw [e2] at h
  have h := xor_cancel h
  rw [and15_mod, and15_mod] at e2
  omega

theorem upd_inj (r s : Nat) (c : UInt8) (hr : r < 4294967296) (hs : s < 4294967296) (h : upd r c = upd s c) : r = s := by
  have hc := c.toNat_lt
  have k1 : r ^^^ c.toNat < 4294967296 := xor_lt hr (by omega)
  have k2 : s ^^^ c.toNat < 4294967296 := xor_lt hs (by omega)
  exact xor_cancel (nib_inj _ _ k1 k2 (nib_inj _ _ (nib_lt _ k1) (nib_lt _ k2) h))
theorem upd_byte (r : Nat) (c d : UInt8) (hr : r < 4294967296) (h : upd r c = upd r d) : c = d := by
  have hc := c.toNat_lt
  have hd := d.toNat_lt
  have k1 : r ^^^ c.toNat < 4294967296 := xor_lt hr (by omega)
  have k2 : r ^^^ d.toNat < 4294967296 := xor_lt hr (by omega)
  exact UInt8.toNat_inj.1 (xor_cancel' (nib_inj _ _ k1 k2 (nib_inj _ _ (nib_lt _ k1) (nib_lt _ k2) h)))
theorem foldl_inj (l : List UInt8) : ∀ r s, r < 4294967296 → s < 4294967296 → l.foldl upd r = l.foldl upd s → r = s := by
  induction l with
  | nil => exact fun _ _ _ _ h => h
  | cons c t ih => exact fun r s hr hs h => upd_inj r s c hr hs (ih _ _ (upd_lt r c hr) (upd_lt s c hs) h)

theorem crc_set (l : List UInt8) (i : Nat) (hi : i < l.length) (x : UInt8) (hx : x ≠ l[i]) : crc l ≠ crc (l.set i x) := by
  intro h
  have h1 := reg_lt l
  have h2 := reg_lt (l.set i x)
  have h : reg l = reg (l.set i x) := by unfold crc at h; omega
  unfold reg at h
  rw [List.set_eq_take_append_cons_drop, if_pos hi] at h
  conv at h => lhs; rw [← List.take_append_drop i l, List.drop_eq_getElem_cons hi]
  rw [List.foldl_append, List.foldl_append, List.foldl_cons, List.foldl_cons] at h
  have hl := foldl_lt (l.take i) 4294967295 (by omega)
  have := upd_byte _ _ _ hl (foldl_inj _ _ _ (upd_lt _ _ hl) (upd_lt _ _ hl) h)
  exact hx this.symm

/-! ## Four bits at once are four single bits -/
theorem bit_xor (a b : Nat) : bit (a ^^^ b) = bit a ^^^ bit b := by
  have d : (a ^^^ b) / 2 = a / 2 ^^^ b / 2 := by
    have := Nat.shiftRight_xor_distrib (a := a) (b := b) (i := 1)
    simpa [Nat.shiftRight_eq_div_pow] using this
  have p : (a ^^^ b) % 2 = (a % 2 + b % 2) % 2 := by
    have h1 := Nat.testBit_xor a b 0
    simp only [Nat.testBit_zero] at h1
    rcases Nat.mod_two_eq_zero_or_one a with ha | ha <;> rcases Nat.mod_two_eq_zero_or_one b with hb | hb <;> rcases Nat.mod_two_eq_zero_or_one (a ^^^ b) with hc | hc <;> simp [ha, hb, hc] at h1 ⊢
  unfold bit
  rw [and1_mod, and1_mod, and1_mod, d, p]
  rcases Nat.mod_two_eq_zero_or_one a with ha | ha <;> rcases Nat.mod_two_eq_zero_or_one b with hb | hb <;> simp [ha, hb]
  · rw [Nat.xor_assoc]
  · rw [Nat.xor_assoc, Nat.xor_assoc, Nat.xor_comm 3988292384]
  · rw [Nat.xor_assoc, Nat.xor_comm 3988292384, Nat.xor_assoc, Nat.xor_self, Nat.xor_zero]
theorem bit_even (h : Nat) : bit (2 * h) = h := by
  unfold bit; rw [and1_mod, if_neg (by omega)]; omega
def bits4 (r : Nat) : Nat := bit (bit (bit (bit r)))
theorem bits4_xor (a b : Nat) : bits4 (a ^^^ b) = bits4 a ^^^ bits4 b := by unfold bits4; rw [bit_xor, bit_xor, bit_xor, bit_xor]
theorem bits4_high (h : Nat) : bits4 (16 * h) = h := by
  unfold bits4
  rw [show 16 * h = 2 * (2 * (2 * (2 * h))) by omega, bit_even, bit_even, bit_even, bit_even]
theorem bits4_low : ∀ i, i < 16 → bits4 i = tab i := by decide
theorem split16 (r : Nat) : r = 16 * (r / 16) ^^^ (r &&& 15) := by
  have h : 16 * (r / 16) + r % 16 = 16 * (r / 16) ^^^ r % 16 := by
    apply Nat.eq_of_testBit_eq
    intro i
    rw [Nat.testBit_xor, Nat.testBit_two_pow_mul_add (i := 4) (r / 16) (Nat.mod_lt r (by omega)), show 16 = 2 ^ 4 by rfl, Nat.testBit_two_pow_mul, Nat.testBit_mod_two_pow]
    by_cases hi : i < 4
    · simp [hi, show ¬ 4 ≤ i by omega]
    · simp [hi, show 4 ≤ i by omega]
  rw [and15_mod, ← h]; omega
theorem bits4_nib (r : Nat) : bits4 r = nib r := by
  conv => lhs; rw [split16 r]
  rw [bits4_xor, bits4_high, bits4_low _ (and15_lt r)]; rfl

def bitsN : Nat → Nat → Nat
  | 0, r => r
  | k + 1, r => bit (bitsN k r)
theorem bits8 (r : Nat) : bitsN 8 r = nib (nib r) := by
  rw [← bits4_nib, ← bits4_nib]; rfl
theorem bit_lt (r : Nat) (h : r < 4294967296) : bit r < 4294967296 := by
  unfold bit; split
  · exact xor_lt (by omega) (by omega)
  · omega
theorem bitsN_lt (k r : Nat) (h : r < 4294967296) : bitsN k r < 4294967296 := by
  induction k with
  | zero => exact h
  | succ k ih => exact bit_lt _ ih
theorem crc_awake : crc [49, 50, 51, 52, 53, 54, 55, 56, 57] = 3421780262 := by decide +kernel
end Go.Proofs.YtcjbhkocpfkcbaaDoor.Wm
