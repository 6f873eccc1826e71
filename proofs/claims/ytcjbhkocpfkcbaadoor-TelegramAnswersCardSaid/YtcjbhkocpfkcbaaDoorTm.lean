/- Plain mathematics of layer 9: telegrams, their numbers and their bytes. -/
import Derived.Test.YtcjbhkocpfkcbaaDoorWireMath
import Derived.Test.YtcjbhkocpfkcbaaDoorWireCrc
namespace Go.Proofs.YtcjbhkocpfkcbaaDoor.Tm

def I64 (n : Int) : Prop := -9223372036854775808 ≤ n ∧ n ≤ 9223372036854775807
/-- The bytes of some numbers. -/
def body : List Int → List UInt8
  | [] => []
  | n :: t => Wm.enc (Wm.fold n) ++ body t
theorem body_append (a b : List Int) : body (a ++ b) = body a ++ body b := by
  induction a with
  | nil => rfl
  | cons n t ih => simp [body, ih]
theorem body_snoc (a : List Int) (n : Int) : body (a ++ [n]) = body a ++ Wm.enc (Wm.fold n) := by simp [body_append, body]

/-! ## What is read are the bytes of what was read -/
theorem enc_x (x : UInt8) (h : x.toNat < 128) : Wm.enc x.toNat = [x] := by
  rw [Wm.enc_small _ h]; congr 1; exact UInt8.toNat_inj.1 (by rw [Wm.ofNat_toNat _ (by omega)])
theorem pow7b (k : Nat) (h : k < 9) : (2 : Nat) ^ (7 * k) * 128 ≤ 9223372036854775808 ∧ ∃ q, 18446744073709551616 = q * (2 ^ (7 * k) * 128) := by
  have e : (2 : Nat) ^ (7 * k) * 128 = 2 ^ (7 * k + 7) := by rw [Nat.pow_add]
  rw [e]
  refine ⟨?_, 2 ^ (64 - (7 * k + 7)), ?_⟩
  · have : (2 : Nat) ^ (7 * k + 7) ≤ 2 ^ 63 := Nat.pow_le_pow_right (by omega) (by omega)
    omega
  · rw [← Nat.pow_add, show 64 - (7 * k + 7) + (7 * k + 7) = 64 by omega]

theorem dec_inv : ∀ (l : List UInt8) (k U u m : Nat), k ≤ 10 → Wm.dec l k U = .ok u m →
    ∃ v r, u = U + v * 2 ^ (7 * k) ∧ m = k + (Wm.enc v).length ∧ l = Wm.enc v ++ r ∧ (0 < k → 0 < v) ∧ v * 2 ^ (7 * k) < 18446744073709551616
  | [], k, U, u, m, _, h => by
    unfold Wm.dec at h
    split at h <;> cases h
  | x :: t, k, U, u, m, hk, h => by
    unfold Wm.dec at h
    split at h
    · cases h
    split at h
    · cases h
    split at h
    · split at h
      · cases h
      · rename_i h10 h9 hx h0
        injection h with hu hm
        rw [Nat.mod_eq_of_lt hx] at hu
        refine ⟨x.toNat, t, hu.symm, by rw [enc_x x hx]; simpa using hm.symm, by rw [enc_x x hx]; rfl, by omega, ?_⟩
        by_cases e : k = 9
        · subst e
          have : x.toNat ≤ 1 := by omega
          have := Nat.mul_le_mul_right (2 ^ (7 * 9)) this
          omega
        · have h1 := (pow7b k (by omega)).1
          have h2 := Nat.mul_le_mul_right (2 ^ (7 * k)) (show x.toNat ≤ 127 by omega)
          omega
    · rename_i h10 h9 hx
      obtain ⟨v, r, hu, hm, hl, hv, hr⟩ := dec_inv t (k + 1) _ u m (by omega) h
      have hv := hv (by omega)
      have hk9 : k < 9 := by
        by_cases e : k = 9
        · subst e
          rw [Wm.dec_ten] at h; cases h
        · omega
      obtain ⟨p1, q, p2⟩ := pow7b k hk9
      have e7 : (2 : Nat) ^ (7 * (k + 1)) = 2 ^ (7 * k) * 128 := by rw [show 7 * (k + 1) = 7 * k + 7 by omega, Nat.pow_add]
      rw [e7] at hu hr
      have hxl := x.toNat_lt
      have hV : x.toNat % 128 + 128 * v = 128 * v + x.toNat % 128 := by omega
      have ee : Wm.enc (128 * v + x.toNat % 128) = x :: Wm.enc v := by
        rw [Wm.enc_big _ (by omega), show (128 * v + x.toNat % 128) / 128 = v by omega, show (128 * v + x.toNat % 128) % 128 + 128 = x.toNat by omega]
        congr 1; exact UInt8.toNat_inj.1 (by rw [Wm.ofNat_toNat _ (by omega)])
      have em : (128 * v + x.toNat % 128) * 2 ^ (7 * k) = x.toNat % 128 * 2 ^ (7 * k) + v * (2 ^ (7 * k) * 128) := by
        rw [Nat.add_mul, Nat.mul_comm 128 v, Nat.mul_assoc, Nat.mul_comm 128]; omega
      refine ⟨128 * v + x.toNat % 128, r, by rw [em]; omega, by rw [ee, List.length_cons]; omega, by rw [ee, hl]; rfl, by omega, ?_⟩
      rw [em]
      generalize hP : 2 ^ (7 * k) * 128 = P at *
      have h3 : x.toNat % 128 * 2 ^ (7 * k) < P := by
        have h2 := Nat.mul_le_mul_right (2 ^ (7 * k)) (show x.toNat % 128 ≤ 127 by omega)
        have : 0 < 2 ^ (7 * k) := Nat.pow_pos (by omega)
        omega
      have hvq : v < q := Nat.lt_of_mul_lt_mul_right (by rw [← p2]; exact hr)
      have h4 : v * P + P ≤ q * P := by
        have := Nat.mul_le_mul_right P (show v + 1 ≤ q by omega)
        rw [Nat.add_mul] at this; omega
      omega

theorem fold_unf (u : Nat) : Wm.fold (Wm.unf u) = u := by
  unfold Wm.fold Wm.unf; split <;> split <;> omega

/-- Int returns no error: what stands there are the bytes of its number. -/
theorem intR_ok {l : List UInt8} {p : Nat} {n q er : Int} (h : Wm.intR l (p : Int) = (n, q, er)) (h0 : er = 0) :
    I64 n ∧ q = ((p + (Wm.enc (Wm.fold n)).length : Nat) : Int) ∧ ∃ r, l.drop p = Wm.enc (Wm.fold n) ++ r := by
  subst h0
  unfold Wm.intR at h
  split at h
  · simp at h
  · rw [Int.toNat_natCast] at h
    cases hd : Wm.dec (l.drop p) 0 0 with
    | short => rw [hd] at h; simp [Wm.ires] at h
    | form => rw [hd] at h; simp [Wm.ires] at h
    | ok u m =>
      rw [hd] at h
      simp [Wm.ires] at h
      obtain ⟨v, r, hu, hm, hl, _, hr⟩ := dec_inv _ 0 0 u m (by omega) hd
      have e : u = v := by omega
      subst e
      obtain ⟨rfl, rfl⟩ := h
      have hu2 : u < 18446744073709551616 := by simpa using hr
      refine ⟨Wm.unf_range u hu2, ?_, r, ?_⟩
      · rw [fold_unf]; omega
      · rw [fold_unf]; exact hl
/-- The bytes of a number stand there: Int returns it. -/
theorem intR_at {l r : List UInt8} {p : Nat} {n : Int} (hp : p ≤ l.length) (hn : I64 n) (h : l.drop p = Wm.enc (Wm.fold n) ++ r) :
    Wm.intR l (p : Int) = (n, ((p + (Wm.enc (Wm.fold n)).length : Nat) : Int), 0) := by
  have e : l = l.take p ++ (Wm.enc (Wm.fold n) ++ r) := by rw [← h, List.take_append_drop]
  have hl : (l.take p).length = p := by rw [List.length_take]; omega
  have := Wm.intR_enc (l.take p) r n hn.1 hn.2
  rw [← e, hl] at this
  rw [this]; simp
theorem intR_range {l : List UInt8} {p : Nat} {n q er : Int} (h : Wm.intR l (p : Int) = (n, q, er)) (hp : p ≤ 1000000) : I64 n ∧ 0 ≤ q ∧ q ≤ 1000010 ∧ 0 ≤ er ∧ er ≤ 3 := by
  by_cases h0 : er = 0
  · obtain ⟨h1, h2, _⟩ := intR_ok h h0
    have := Wm.enc_ten _ (Wm.fold_lt n h1.1 h1.2)
    exact ⟨h1, by omega, by omega, by omega, by omega⟩
  · unfold Wm.intR at h
    unfold I64
    split at h
    · simp only [Prod.mk.injEq] at h; omega
    · cases hd : Wm.dec (l.drop (p : Int).toNat) 0 0 with
      | short => rw [hd] at h; simp only [Wm.ires, Prod.mk.injEq] at h; omega
      | form => rw [hd] at h; simp only [Wm.ires, Prod.mk.injEq] at h; omega
      | ok u m => rw [hd] at h; simp only [Wm.ires, Prod.mk.injEq] at h; omega

theorem enc_prefix {n m : Int} {r s : List UInt8} (hn : I64 n) (hm : I64 m) (h : Wm.enc (Wm.fold n) ++ r = Wm.enc (Wm.fold m) ++ s) : n = m ∧ r = s := by
  have h1 := intR_at (l := Wm.enc (Wm.fold n) ++ r) (p := 0) (by omega) hn rfl
  have h2 := intR_at (l := Wm.enc (Wm.fold n) ++ r) (p := 0) (by omega) hm (by rw [h]; rfl)
  rw [h1] at h2
  have e : n = m := congrArg (·.1) h2
  subst e
  exact ⟨rfl, List.append_cancel_left h⟩
theorem body_prefix : ∀ {a b : List Int} {r s : List UInt8}, (∀ n ∈ a, I64 n) → (∀ n ∈ b, I64 n) → a.length = b.length → body a ++ r = body b ++ s → a = b ∧ r = s
  | [], [], r, s, _, _, _, h => ⟨rfl, h⟩
  | [], _ :: _, r, s, _, _, h, _ => by simp at h
  | _ :: _, [], r, s, _, _, h, _ => by simp at h
  | n :: t, m :: u, r, s, ha, hb, hl, h => by
    simp only [body, List.append_assoc] at h
    obtain ⟨e, h1⟩ := enc_prefix (ha n (by simp)) (hb m (by simp)) h
    subst e
    obtain ⟨e, rfl⟩ := body_prefix (fun x hx => ha x (List.mem_cons_of_mem _ hx)) (fun x hx => hb x (List.mem_cons_of_mem _ hx)) (by simpa using hl) h1
    subst e
    exact ⟨rfl, rfl⟩
theorem body_nil {a : List Int} (h : body a = []) : a = [] := by
  cases a with
  | nil => rfl
  | cons n t =>
    have h1 := congrArg List.length h
    have := Wm.enc_pos (Wm.fold n)
    simp only [body, List.length_append, List.length_nil] at h1; omega
theorem body_inj : ∀ {a b : List Int}, (∀ n ∈ a, I64 n) → (∀ n ∈ b, I64 n) → body a = body b → a = b
  | [], b, _, _, h => (body_nil h.symm).symm
  | a, [], _, _, h => body_nil h
  | n :: t, m :: u, ha, hb, h => by
    simp only [body] at h
    obtain ⟨e, h1⟩ := enc_prefix (ha n (by simp)) (hb m (by simp)) h
    subst e
    rw [body_inj (fun x hx => ha x (List.mem_cons_of_mem _ hx)) (fun x hx => hb x (List.mem_cons_of_mem _ hx)) h1]

/-! ## The sum at the end -/
def four (c : Nat) : List UInt8 := [UInt8.ofNat c, UInt8.ofNat (c / 256), UInt8.ofNat (c / 65536), UInt8.ofNat (c / 16777216)]
def shut (b : List UInt8) : List UInt8 := b ++ four (Wm.crc b)
theorem four_len (c : Nat) : (four c).length = 4 := rfl
theorem shut_len (b : List UInt8) : (shut b).length = b.length + 4 := by simp [shut, four]
theorem crc_lt (b : List UInt8) : Wm.crc b < 4294967296 := by unfold Wm.crc; omega
theorem of_nat_inj {a b : Nat} (h : UInt8.ofNat a = UInt8.ofNat b) : a % 256 = b % 256 := by
  have := congrArg UInt8.toNat h
  simpa [UInt8.toNat_ofNat'] using this
theorem four_inj {c d : Nat} (hc : c < 4294967296) (hd : d < 4294967296) (h : four c = four d) : c = d := by
  unfold four at h
  simp only [List.cons.injEq, and_true] at h
  obtain ⟨h0, h1, h2, h3⟩ := h
  have h0 := of_nat_inj h0
  have h1 := of_nat_inj h1
  have h2 := of_nat_inj h2
  have h3 := of_nat_inj h3
  omega
theorem split4 {y y' z z' : List UInt8} (h : y ++ z = y' ++ z') (hz : z.length = 4) (hz' : z'.length = 4) : y = y' ∧ z = z' :=
  List.append_inj' h (by omega)
theorem shut_inj {y y' : List UInt8} (h : shut y = shut y') : y = y' := (split4 h rfl rfl).1

/-! ## Telegrams -/
structure Tg where
  st : Int
  ep : Int
  sq : Int
  tm : Int
  kd : Int
  vs : List Int
def upTo (n m : Int) : Bool := decide (0 ≤ n ∧ n ≤ m)
def inN (v : Int) : Bool := decide (-9007199254740992 ≤ v ∧ v ≤ 9007199254740992)
def Tg.ok (t : Tg) : Bool := upTo t.st 255 && (upTo t.ep 255 && (upTo t.sq 2147483648 && (upTo t.tm 1099511627776 && (upTo t.kd 63 && (upTo t.vs.length 16 && t.vs.all inN)))))
def Tg.nums (t : Tg) : List Int := t.st :: t.ep :: t.sq :: t.tm :: t.kd :: (t.vs.length : Int) :: t.vs
def Tg.inside (t : Tg) : List UInt8 := shut (body t.nums)
def Tg.bytes (t : Tg) : List UInt8 := Wm.frame t.inside
def zero : Tg := ⟨0, 0, 0, 0, 0, []⟩
/-- All numbers of it fit. -/
def Tg.fits (t : Tg) : Prop := I64 t.st ∧ I64 t.ep ∧ I64 t.sq ∧ I64 t.tm ∧ I64 t.kd ∧ ∀ v ∈ t.vs, I64 v

theorem upTo_iff {n m : Int} : upTo n m = true ↔ 0 ≤ n ∧ n ≤ m := by simp [upTo]
theorem inN_iff {v : Int} : inN v = true ↔ -9007199254740992 ≤ v ∧ v ≤ 9007199254740992 := by simp [inN]
theorem Tg.ok_iff (t : Tg) : t.ok = true ↔ (0 ≤ t.st ∧ t.st ≤ 255) ∧ (0 ≤ t.ep ∧ t.ep ≤ 255) ∧ (0 ≤ t.sq ∧ t.sq ≤ 2147483648) ∧ (0 ≤ t.tm ∧ t.tm ≤ 1099511627776) ∧ (0 ≤ t.kd ∧ t.kd ≤ 63) ∧ t.vs.length ≤ 16 ∧ ∀ v ∈ t.vs, -9007199254740992 ≤ v ∧ v ≤ 9007199254740992 := by
  unfold Tg.ok
  simp only [Bool.and_eq_true, upTo_iff, List.all_eq_true, inN_iff]
  constructor
  · rintro ⟨h1, h2, h3, h4, h5, h6, h7⟩; exact ⟨h1, h2, h3, h4, h5, by omega, h7⟩
  · rintro ⟨h1, h2, h3, h4, h5, h6, h7⟩; exact ⟨h1, h2, h3, h4, h5, by omega, h7⟩
theorem Tg.fits_of_ok {t : Tg} (h : t.ok = true) : t.fits := by
  rw [Tg.ok_iff] at h
  obtain ⟨h1, h2, h3, h4, h5, h6, h7⟩ := h
  unfold Tg.fits I64
  exact ⟨by omega, by omega, by omega, by omega, by omega, fun v hv => by have := h7 v hv; omega⟩
theorem Tg.nums_fit {t : Tg} (h : t.fits) (hl : t.vs.length ≤ 16) : ∀ n ∈ t.nums, I64 n := by
  obtain ⟨h1, h2, h3, h4, h5, h6⟩ := h
  intro n hn
  simp only [Tg.nums, List.mem_cons] at hn
  rcases hn with rfl | rfl | rfl | rfl | rfl | rfl | hn
  · exact h1
  · exact h2
  · exact h3
  · exact h4
  · exact h5
  · unfold I64; omega
  · exact h6 n hn
theorem Tg.nums_ok {t : Tg} (h : t.ok = true) : ∀ n ∈ t.nums, I64 n := Tg.nums_fit (Tg.fits_of_ok h) ((Tg.ok_iff t).1 h).2.2.2.2.2.1
theorem Tg.nums_inj {t u : Tg} (h : t.nums = u.nums) : t = u := by
  cases t; cases u
  simp only [Tg.nums, List.cons.injEq] at h
  obtain ⟨rfl, rfl, rfl, rfl, rfl, _, rfl⟩ := h
  rfl
theorem Tg.bytes_inj {t u : Tg} (ht : t.ok = true) (hu : u.ok = true) (h : t.bytes = u.bytes) : t = u := by
  have h1 := Wm.unst_frame t.inside
  have h2 := Wm.unst_frame u.inside
  unfold Tg.bytes at h
  rw [h, h2] at h1
  have e : u.inside = t.inside := congrArg (·.1) h1
  exact Tg.nums_inj (body_inj (Tg.nums_ok ht) (Tg.nums_ok hu) (shut_inj e.symm))

theorem enc_le (n : Int) (j : Nat) (h1 : 0 ≤ 2 * n + 1 → (2 * n).toNat < 128 ^ (j + 1)) (h2 : n < 0 → (-2 * n - 1).toNat < 128 ^ (j + 1)) : (Wm.enc (Wm.fold n)).length ≤ j + 1 := by
  refine Wm.enc_len j _ ?_
  unfold Wm.fold
  split
  · exact h1 (by omega)
  · exact h2 (by omega)
theorem body_len {vs : List Int} (h : ∀ v ∈ vs, -9007199254740992 ≤ v ∧ v ≤ 9007199254740992) : (body vs).length ≤ 8 * vs.length := by
  induction vs with
  | nil => simp [body]
  | cons v t ih =>
    have h1 := ih (fun x hx => h x (by simp [hx]))
    have h2 := h v (by simp)
    have h3 := enc_le v 7 (fun _ => by omega) (fun _ => by omega)
    simp only [body, List.length_append, List.length_cons]; omega
theorem body_len10 {vs : List Int} (h : ∀ v ∈ vs, I64 v) : (body vs).length ≤ 10 * vs.length := by
  induction vs with
  | nil => simp [body]
  | cons v t ih =>
    have h1 := ih (fun x hx => h x (by simp [hx]))
    have h2 := h v (by simp)
    have h3 := Wm.enc_ten _ (Wm.fold_lt v h2.1 h2.2)
    simp only [body, List.length_append, List.length_cons]; omega
theorem Tg.len {t : Tg} (h : t.ok = true) : (body t.nums).length ≤ 145 := by
  obtain ⟨h1, h2, h3, h4, h5, h6, h7⟩ := (Tg.ok_iff t).1 h
  have k1 := enc_le t.st 1 (fun _ => by omega) (fun _ => by omega)
  have k2 := enc_le t.ep 1 (fun _ => by omega) (fun _ => by omega)
  have k3 := enc_le t.sq 4 (fun _ => by omega) (fun _ => by omega)
  have k4 := enc_le t.tm 5 (fun _ => by omega) (fun _ => by omega)
  have k5 := enc_le t.kd 0 (fun _ => by omega) (fun _ => by omega)
  have k6 := enc_le (t.vs.length : Int) 0 (fun _ => by omega) (fun _ => by omega)
  have k7 := body_len h7
  simp only [Tg.nums, body, List.length_append]; omega
theorem Tg.bytes_len {t : Tg} (h : t.ok = true) : t.bytes.length ≤ 300 := by
  have h1 := Tg.len h
  have h2 := (Wm.esc_len t.inside).2
  have h3 : t.inside.length = (body t.nums).length + 4 := shut_len _
  unfold Tg.bytes
  rw [Wm.frame_len]; omega

/-! ## What Decode returns -/
inductive Dc (l : List UInt8) : Tg → Int → Prop
  | limit : 400 < l.length → Dc l zero 4
  | fr (er : Int) : l.length ≤ 400 → (Wm.unst l).2 = er → er ≠ 0 → Dc l zero er
  | short (x : List UInt8) : l.length ≤ 400 → Wm.unst l = (x, 0) → x.length < 4 → Dc l zero 2
  | sum (y z : List UInt8) : l.length ≤ 400 → Wm.unst l = (y ++ z, 0) → z.length = 4 → z ≠ four (Wm.crc y) → Dc l zero 5
  | form (y : List UInt8) : l.length ≤ 400 → Wm.unst l = (shut y, 0) → (∀ t : Tg, t.ok = true → y ≠ body t.nums) → Dc l zero 3
  | good (t : Tg) : l.length ≤ 400 → Wm.unst l = (t.inside, 0) → t.ok = true → Dc l t 0

theorem dc_unique {l : List UInt8} {t u : Tg} {a b : Int} (h : Dc l t a) (k : Dc l u b) : t = u ∧ a = b := by
  cases h with
  | limit h1 => cases k with
    | limit => exact ⟨rfl, rfl⟩
    | _ => omega
  | fr _ h1 h2 h3 =>
    cases k with
    | limit => omega
    | fr _ k1 k2 k3 => exact ⟨rfl, h2.symm.trans k2⟩
    | short x k1 k2 => rw [k2] at h2; exact absurd h2.symm h3
    | sum y z k1 k2 => rw [k2] at h2; exact absurd h2.symm h3
    | form y k1 k2 => rw [k2] at h2; exact absurd h2.symm h3
    | good _ k1 k2 => rw [k2] at h2; exact absurd h2.symm h3
  | short x h1 h2 h3 =>
    cases k with
    | limit => omega
    | fr _ k1 k2 k3 => rw [h2] at k2; exact absurd k2.symm k3
    | short => exact ⟨rfl, rfl⟩
    | sum y z k1 k2 k3 => rw [h2] at k2; injection k2 with e; subst e; simp only [List.length_append] at h3; omega
    | form y k1 k2 => rw [h2] at k2; injection k2 with e; subst e; rw [shut_len] at h3; omega
    | good _ k1 k2 => rw [h2] at k2; injection k2 with e; subst e; unfold Tg.inside at h3; rw [shut_len] at h3; omega
  | sum y z h1 h2 h3 h4 =>
    cases k with
    | limit => omega
    | fr _ k1 k2 k3 => rw [h2] at k2; exact absurd k2.symm k3
    | short x k1 k2 k3 => rw [h2] at k2; injection k2 with e; subst e; simp only [List.length_append] at k3; omega
    | sum => exact ⟨rfl, rfl⟩
    | form y' k1 k2 =>
      rw [h2] at k2; injection k2 with e
      obtain ⟨rfl, rfl⟩ := split4 e h3 rfl
      exact absurd rfl h4
    | good _ k1 k2 =>
      rw [h2] at k2; injection k2 with e
      obtain ⟨rfl, rfl⟩ := split4 e h3 rfl
      exact absurd rfl h4
  | form y h1 h2 h3 =>
    cases k with
    | limit => omega
    | fr _ k1 k2 k3 => rw [h2] at k2; exact absurd k2.symm k3
    | short x k1 k2 k3 => rw [h2] at k2; injection k2 with e; subst e; rw [shut_len] at k3; omega
    | sum y' z k1 k2 k3 k4 =>
      rw [h2] at k2; injection k2 with e
      obtain ⟨rfl, rfl⟩ := split4 e.symm k3 rfl
      exact absurd rfl k4
    | form => exact ⟨rfl, rfl⟩
    | good _ k1 k2 k3 =>
      rw [h2] at k2; injection k2 with e
      exact absurd (shut_inj e) (h3 _ k3)
  | good _ h1 h2 h3 =>
    cases k with
    | limit => omega
    | fr _ k1 k2 k3 => rw [h2] at k2; exact absurd k2.symm k3
    | short x k1 k2 k3 => rw [h2] at k2; injection k2 with e; subst e; unfold Tg.inside at k3; rw [shut_len] at k3; omega
    | sum y' z k1 k2 k3 k4 =>
      rw [h2] at k2; injection k2 with e
      obtain ⟨rfl, rfl⟩ := split4 e.symm k3 rfl
      exact absurd rfl k4
    | form y k1 k2 k3 =>
      rw [h2] at k2; injection k2 with e
      exact absurd (shut_inj e.symm) (k3 _ h3)
    | good _ k1 k2 k3 =>
      rw [h2] at k2; injection k2 with e
      exact ⟨Tg.nums_inj (body_inj (Tg.nums_ok h3) (Tg.nums_ok k3) (shut_inj e)), rfl⟩

theorem dc_bytes {t : Tg} (h : t.ok = true) : Dc t.bytes t 0 := .good t (by have := Tg.bytes_len h; omega) (Wm.unst_frame _) h
theorem dc_back {l : List UInt8} {t : Tg} (h : Dc l t 0) : t.ok = true ∧ t.bytes = l := by
  cases h with
  | fr _ h1 h2 h3 => exact absurd rfl h3
  | good _ h1 h2 h3 =>
    refine ⟨h3, ?_⟩
    have e := Wm.unst_ok (b := l) (by rw [h2])
    rw [h2] at e
    exact e
theorem dc_damage {t u : Tg} {er : Int} {i : Nat} {y : UInt8} (hi : i < t.inside.length) (hy : y ≠ t.inside.getD i 0) (h : Dc (Wm.frame (t.inside.set i y)) u er) : er ≠ 0 := by
  rintro rfl
  obtain ⟨hu, hb⟩ := dc_back h
  have h1 := Wm.unst_frame u.inside
  unfold Tg.bytes at hb
  rw [hb, Wm.unst_frame] at h1
  have e : t.inside.set i y = u.inside := congrArg (·.1) h1
  clear h1 hb h
  unfold Tg.inside at e hi hy
  generalize body t.nums = B at *
  generalize body u.nums = C at *
  rw [shut_len] at hi
  unfold shut at e hy
  by_cases hB : i < B.length
  · rw [List.set_append_left _ _ hB] at e
    obtain ⟨e1, e2⟩ := split4 e rfl rfl
    have e3 := four_inj (crc_lt _) (crc_lt _) e2
    refine Wm.crc_set B i hB y ?_ (by rw [e1]; exact e3)
    intro h
    apply hy
    rw [h]
    simp [List.getD_eq_getElem?_getD, List.getElem?_append_left hB, List.getElem?_eq_getElem hB]
  · rw [List.set_append_right _ _ (by omega)] at e
    obtain ⟨e1, e2⟩ := split4 e (by rw [List.length_set]; rfl) rfl
    subst e1
    apply hy
    have h4 : i - B.length < (four (Wm.crc B)).length := by rw [four_len]; omega
    have := congrArg (fun l => l.getD (i - B.length) 0) e2
    simp only [List.getD_eq_getElem?_getD] at this ⊢
    rw [List.getElem?_set_self h4] at this
    rw [List.getElem?_append_right (by omega)]
    exact this

/-! ## Orders -/
def before (t u : Tg) : Bool := decide (t.st = u.st ∧ (t.ep < u.ep ∨ t.ep = u.ep ∧ t.sq < u.sq))
def same (t u : Tg) : Bool := decide (t.st = u.st ∧ t.ep = u.ep ∧ t.sq = u.sq ∧ t.tm = u.tm ∧ t.kd = u.kd ∧ t.vs = u.vs)
theorem same_iff (t u : Tg) : same t u = true ↔ t = u := by
  cases t; cases u
  simp [same]
theorem same_self (t : Tg) : same t t = true := (same_iff t t).2 rfl
end Go.Proofs.YtcjbhkocpfkcbaaDoor.Tm
