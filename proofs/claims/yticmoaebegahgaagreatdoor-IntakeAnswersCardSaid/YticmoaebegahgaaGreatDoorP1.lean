import Derived.Test.YticmoaebegahgaaGreatDoorW1
set_option linter.all false
namespace Go.Proofs.YticmoaebegahgaaGreatDoor.Tm
def I64 (n : Int) : Prop := -9223372036854775808 ≤ n ∧ n ≤ 9223372036854775807
def body : List Int → List UInt8
  | [] => []
  | n :: t => Wm.enc (Wm.fold n) ++ body t
theorem body_append (a b : List Int) : body (a ++ b) = body a ++ body b := by
  induction a with
  | nil => rfl
  | cons n t ih => simp [body, ih]
theorem body_snoc (a : List Int) (n : Int) : body (a ++ [n]) = body a ++ Wm.enc (Wm.fold n) := by simp [body_append, body]
theorem enc_x (x : UInt8) (h : x.toNat < 128) : Wm.enc x.toNat = [x] := by
  rw [Wm.enc_small _ h]; congr 1; exact UInt8.toNat_inj.1 (by rw [Wm.ofNat_toNat _ (by omega)])
theorem pow7b (k : Nat) (h : k < 9) : (2 : Nat) ^ (7 * k) * 128 ≤ 9223372036854775808 ∧ ∃ q, 18446744073709551616 = q * (2 ^ (7 * k) * 128) := by
  have e : (2 : Nat) ^ (7 * k) * 128 = 2 ^ (7 * k + 7) := by rw [Nat.pow_add]
  rw [e]
  refine ⟨?_, 2 ^ (64 - (7 * k + 7)), ?_⟩
  · have : (2 : Nat) ^ (7 * k + 7) ≤ 2 ^ 63 := Nat.pow_le_pow_right (by omega) (by omega)
    omega
  · rw [← Nat.pow_add, show 64 - (7 * k + 7) + (7 * k + 7) = 64 by omega]
theorem dec_inv : ∀ (l : List UInt8) (k U u m : Nat), k ≤ 10 → Wm.dec l k U = .ok u m →
    ∃ v r, u = U + v * 2 ^ (7 * k) ∧ m = k + (Wm.enc v).length ∧ l = Wm.enc v ++ r ∧ (0 < k → 0 < v) ∧ v * 2 ^ (7 * k) < 18446744073709551616
  | [], k, U, u, m, _, h => by
    unfold Wm.dec at h
    split at h <;> cases h
  | x :: t, k, U, u, m, hk, h => by
    unfold Wm.dec at h
    split at h
    · cases h
    split at h
    · cases h
    split at h
    · split at h
      · cases h
      · rename_i h10 h9 hx h0
        injection h with hu hm
        rw [Nat.mod_eq_of_lt hx] at hu
        refine ⟨x.toNat, t, hu.symm, by rw [enc_x x hx]; simpa using hm.symm, by rw [enc_x x hx]; rfl, by omega, ?_⟩
        by_cases e : k = 9
        · subst e
          have : x.toNat ≤ 1 := by omega
          have := Nat.mul_le_mul_right (2 ^ (7 * 9)) this
          omega
        · have h1 := (pow7b k (by omega)).1
          have h2 := Nat.mul_le_mul_right (2 ^ (7 * k)) (show x.toNat ≤ 127 by omega)
          omega
    · rename_i h10 h9 hx
      obtain ⟨v, r, hu, hm, hl, hv, hr⟩ := dec_inv t (k + 1) _ u m (by omega) h
      have hv := hv (by omega)
      have hk9 : k < 9 := by
        by_cases e : k = 9
        · subst e
          rw [Wm.dec_ten] at h; cases h
        · omega
      obtain ⟨p1, q, p2⟩ := pow7b k hk9
      have e7 : (2 : Nat) ^ (7 * (k + 1)) = 2 ^ (7 * k) * 128 := by rw [show 7 * (k + 1) = 7 * k + 7 by omega, Nat.pow_add]
      rw [e7] at hu hr
      have hxl := x.toNat_lt
      have hV : x.toNat % 128 + 128 * v = 128 * v + x.toNat % 128 := by omega
      have ee : Wm.enc (128 * v + x.toNat % 128) = x :: Wm.enc v := by
        rw [Wm.enc_big _ (by omega), show (128 * v + x.toNat % 128) / 128 = v by omega, show (128 * v + x.toNat % 128) % 128 + 128 = x.toNat by omega]
        congr 1; exact UInt8.toNat_inj.1 (by rw [Wm.ofNat_toNat _ (by omega)])
      have em : (128 * v + x.toNat % 128) * 2 ^ (7 * k) = x.toNat % 128 * 2 ^ (7 * k) + v * (2 ^ (7 * k) * 128) := by
        rw [Nat.add_mul, Nat.mul_comm 128 v, Nat.mul_assoc, Nat.mul_comm 128]; omega
      refine ⟨128 * v + x.toNat % 128, r, by rw [em]; omega, by rw [ee, List.length_cons]; omega, by rw [ee, hl]; rfl, by omega, ?_⟩
      rw [em]
      generalize hP : 2 ^ (7 * k) * 128 = P at *
      have h3 : x.toNat % 128 * 2 ^ (7 * k) < P := by
        have h2 := Nat.mul_le_mul_right (2 ^ (7 * k)) (show x.toNat % 128 ≤ 127 by omega)
        have : 0 < 2 ^ (7 * k) := Nat.pow_pos (by omega)
        omega
      have hvq : v < q := Nat.lt_of_mul_lt_mul_right (by rw [← p2]; exact hr)
      have h4 : v * P + P ≤ q * P := by
        have := Nat.mul_le_mul_right P (show v + 1 ≤ q by omega)
        rw [Nat.add_mul] at this; omega
      omega
theorem fold_unf (u : Nat) : Wm.fold (Wm.unf u) = u := by
  unfold Wm.fold Wm.unf; split <;> split <;> omega
theorem intR_ok {l : List UInt8} {p : Nat} {n q er : Int} (h : Wm.intR l (p : Int) = (n, q, er)) (h0 : er = 0) :
    I64 n ∧ q = ((p + (Wm.enc (Wm.fold n)).length : Nat) : Int) ∧ ∃ r, l.drop p = Wm.enc (Wm.fold n) ++ r := by
  subst h0
  unfold Wm.intR at h
  split at h
  · simp at h
  · rw [Int.toNat_natCast] at h
    cases hd : Wm.dec (l.drop p) 0 0 with
    | short => rw [hd] at h; simp [Wm.ires] at h
    | form => rw [hd] at h; simp [Wm.ires] at h
    | ok u m =>
      rw [hd] at h
      simp [Wm.ires] at h
      obtain ⟨v, r, hu, hm, hl, _, hr⟩ := dec_inv _ 0 0 u m (by omega) hd
      have e : u = v := by omega
      subst e
      obtain ⟨rfl, rfl⟩ := h
      have hu2 : u < 18446744073709551616 := by simpa using hr
      refine ⟨Wm.unf_range u hu2, ?_, r, ?_⟩
      · rw [fold_unf]; omega
      · rw [fold_unf]; exact hl
theorem intR_at {l r : List UInt8} {p : Nat} {n : Int} (hp : p ≤ l.length) (hn : I64 n) (h : l.drop p = Wm.enc (Wm.fold n) ++ r) :
    Wm.intR l (p : Int) = (n, ((p + (Wm.enc (Wm.fold n)).length : Nat) : Int), 0) := by
  have e : l = l.take p ++ (Wm.enc (Wm.fold n) ++ r) := by rw [← h, List.take_append_drop]
  have hl : (l.take p).length = p := by rw [List.length_take]; omega
  have := Wm.intR_enc (l.take p) r n hn.1 hn.2
  rw [← e, hl] at this
  rw [this]; simp
theorem enc_prefix {n m : Int} {r s : List UInt8} (hn : I64 n) (hm : I64 m) (h : Wm.enc (Wm.fold n) ++ r = Wm.enc (Wm.fold m) ++ s) : n = m ∧ r = s := by
  have h1 := intR_at (l := Wm.enc (Wm.fold n) ++ r) (p := 0) (by omega) hn rfl
  have h2 := intR_at (l := Wm.enc (Wm.fold n) ++ r) (p := 0) (by omega) hm (by rw [h]; rfl)
  rw [h1] at h2
  have e : n = m := congrArg (·.1) h2
  subst e
  exact ⟨rfl, List.append_cancel_left h⟩
theorem body_prefix : ∀ {a b : List Int} {r s : List UInt8}, (∀ n ∈ a, I64 n) → (∀ n ∈ b, I64 n) → a.length = b.length → body a ++ r = body b ++ s → a = b ∧ r = s
  | [], [], r, s, _, _, _, h => ⟨rfl, h⟩
  | [], _ :: _, r, s, _, _, h, _ => by simp at h
  | _ :: _, [], r, s, _, _, h, _ => by simp at h
  | n :: t, m :: u, r, s, ha, hb, hl, h => by
    simp only [body, List.append_assoc] at h
    obtain ⟨e, h1⟩ := enc_prefix (ha n (by simp)) (hb m (by simp)) h
    subst e
    obtain ⟨e, rfl⟩ := body_prefix (fun x hx => ha x (List.mem_cons_of_mem _ hx)) (fun x hx => hb x (List.mem_cons_of_mem _ hx)) (by simpa using hl) h1
    subst e
    exact ⟨rfl, rfl⟩
theorem body_nil {a : List Int} (h : body a = []) : a = [] := by
  cases a with
  | nil => rfl
  | cons n t =>
    have h1 := congrArg List.length h
    have := Wm.enc_pos (Wm.fold n)
    simp only [body, List.length_append, List.length_nil] at h1; omega
theorem body_inj : ∀ {a b : List Int}, (∀ n ∈ a, I64 n) → (∀ n ∈ b, I64 n) → body a = body b → a = b
  | [], b, _, _, h => (body_nil h.symm).symm
  | a, [], _, _, h => body_nil h
  | n :: t, m :: u, ha, hb, h => by
    simp only [body] at h
    obtain ⟨e, h1⟩ := enc_prefix (ha n (by simp)) (hb m (by simp)) h
    subst e
    rw [body_inj (fun x hx => ha x (List.mem_cons_of_mem _ hx)) (fun x hx => hb x (List.mem_cons_of_mem _ hx)) h1]
def four (c : Nat) : List UInt8 := [UInt8.ofNat c, UInt8.ofNat (c / 256), UInt8.ofNat (c / 65536), UInt8.ofNat (c / 16777216)]
def shut (b : List UInt8) : List UInt8 := b ++ four (Wm.crc b)
theorem four_len (c : Nat) : (four c).length = 4 := rfl
theorem shut_len (b : List UInt8) : (shut b).length = b.length + 4 := by simp [shut, four]
theorem crc_lt (b : List UInt8) : Wm.crc b < 4294967296 := by unfold Wm.crc; omega
theorem split4 {y y' z z' : List UInt8} (h : y ++ z = y' ++ z') (hz : z.length = 4) (hz' : z'.length = 4) : y = y' ∧ z = z' :=
  List.append_inj' h (by omega)
theorem shut_inj {y y' : List UInt8} (h : shut y = shut y') : y = y' := (split4 h rfl rfl).1
structure Tg where
  st : Int
  ep : Int
  sq : Int
  tm : Int
  kd : Int
  vs : List Int
def upTo (n m : Int) : Bool := decide (0 ≤ n ∧ n ≤ m)
def inN (v : Int) : Bool := decide (-9007199254740992 ≤ v ∧ v ≤ 9007199254740992)
def Tg.ok (t : Tg) : Bool := upTo t.st 255 && (upTo t.ep 255 && (upTo t.sq 2147483648 && (upTo t.tm 1099511627776 && (upTo t.kd 63 && (upTo t.vs.length 16 && t.vs.all inN)))))
def Tg.nums (t : Tg) : List Int := t.st :: t.ep :: t.sq :: t.tm :: t.kd :: (t.vs.length : Int) :: t.vs
def Tg.inside (t : Tg) : List UInt8 := shut (body t.nums)
def Tg.bytes (t : Tg) : List UInt8 := Wm.frame t.inside
def zero : Tg := ⟨0, 0, 0, 0, 0, []⟩
def Tg.fits (t : Tg) : Prop := I64 t.st ∧ I64 t.ep ∧ I64 t.sq ∧ I64 t.tm ∧ I64 t.kd ∧ ∀ v ∈ t.vs, I64 v
theorem upTo_iff {n m : Int} : upTo n m = true ↔ 0 ≤ n ∧ n ≤ m := by simp [upTo]
theorem inN_iff {v : Int} : inN v = true ↔ -9007199254740992 ≤ v ∧ v ≤ 9007199254740992 := by simp [inN]
theorem Tg.ok_iff (t : Tg) : t.ok = true ↔ (0 ≤ t.st ∧ t.st ≤ 255) ∧ (0 ≤ t.ep ∧ t.ep ≤ 255) ∧ (0 ≤ t.sq ∧ t.sq ≤ 2147483648) ∧ (0 ≤ t.tm ∧ t.tm ≤ 1099511627776) ∧ (0 ≤ t.kd ∧ t.kd ≤ 63) ∧ t.vs.length ≤ 16 ∧ ∀ v ∈ t.vs, -9007199254740992 ≤ v ∧ v ≤ 9007199254740992 := by
  unfold Tg.ok
  simp only [Bool.and_eq_true, upTo_iff, List.all_eq_true, inN_iff]
  constructor
  · rintro ⟨h1, h2, h3, h4, h5, h6, h7⟩; exact ⟨h1, h2, h3, h4, h5, by omega, h7⟩
  · rintro ⟨h1, h2, h3, h4, h5, h6, h7⟩; exact ⟨h1, h2, h3, h4, h5, by omega, h7⟩
theorem Tg.fits_of_ok {t : Tg} (h : t.ok = true) : t.fits := by
  rw [Tg.ok_iff] at h
  obtain ⟨h1, h2, h3, h4, h5, h6, h7⟩ := h
  unfold Tg.fits I64
  exact ⟨by omega, by omega, by omega, by omega, by omega, fun v hv => by have := h7 v hv; omega⟩
theorem Tg.nums_fit {t : Tg} (h : t.fits) (hl : t.vs.length ≤ 16) : ∀ n ∈ t.nums, I64 n := by
  obtain ⟨h1, h2, h3, h4, h5, h6⟩ := h
  intro n hn
  simp only [Tg.nums, List.mem_cons] at hn
  rcases hn with rfl | rfl | rfl | rfl | rfl | rfl | hn
  · exact h1
  · exact h2
  · exact h3
  · exact h4
  · exact h5
  · unfold I64; omega
  · exact h6 n hn
theorem Tg.nums_ok {t : Tg} (h : t.ok = true) : ∀ n ∈ t.nums, I64 n := Tg.nums_fit (Tg.fits_of_ok h) ((Tg.ok_iff t).1 h).2.2.2.2.2.1
theorem Tg.nums_inj {t u : Tg} (h : t.nums = u.nums) : t = u := by
  cases t; cases u
  simp only [Tg.nums, List.cons.injEq] at h
  obtain ⟨rfl, rfl, rfl, rfl, rfl, _, rfl⟩ := h
  rfl
theorem Tg.bytes_inj {t u : Tg} (ht : t.ok = true) (hu : u.ok = true) (h : t.bytes = u.bytes) : t = u := by
  have h1 := Wm.unst_frame t.inside
  have h2 := Wm.unst_frame u.inside
  unfold Tg.bytes at h
  rw [h, h2] at h1
  have e : u.inside = t.inside := congrArg (·.1) h1
  exact Tg.nums_inj (body_inj (Tg.nums_ok ht) (Tg.nums_ok hu) (shut_inj e.symm))
theorem enc_le (n : Int) (j : Nat) (h1 : 0 ≤ 2 * n + 1 → (2 * n).toNat < 128 ^ (j + 1)) (h2 : n < 0 → (-2 * n - 1).toNat < 128 ^ (j + 1)) : (Wm.enc (Wm.fold n)).length ≤ j + 1 := by
  refine Wm.enc_len j _ ?_
  unfold Wm.fold
  split
  · exact h1 (by omega)
  · exact h2 (by omega)
theorem body_len {vs : List Int} (h : ∀ v ∈ vs, -9007199254740992 ≤ v ∧ v ≤ 9007199254740992) : (body vs).length ≤ 8 * vs.length := by
  induction vs with
  | nil => simp [body]
  | cons v t ih =>
    have h1 := ih (fun x hx => h x (by simp [hx]))
    have h2 := h v (by simp)
    have h3 := enc_le v 7 (fun _ => by omega) (fun _ => by omega)
    simp only [body, List.length_append, List.length_cons]; omega
theorem body_len10 {vs : List Int} (h : ∀ v ∈ vs, I64 v) : (body vs).length ≤ 10 * vs.length := by
  induction vs with
  | nil => simp [body]
  | cons v t ih =>
    have h1 := ih (fun x hx => h x (by simp [hx]))
    have h2 := h v (by simp)
    have h3 := Wm.enc_ten _ (Wm.fold_lt v h2.1 h2.2)
    simp only [body, List.length_append, List.length_cons]; omega
theorem Tg.len {t : Tg} (h : t.ok = true) : (body t.nums).length ≤ 145 := by
  obtain ⟨h1, h2, h3, h4, h5, h6, h7⟩ := (Tg.ok_iff t).1 h
  have k1 := enc_le t.st 1 (fun _ => by omega) (fun _ => by omega)
  have k2 := enc_le t.ep 1 (fun _ => by omega) (fun _ => by omega)
  have k3 := enc_le t.sq 4 (fun _ => by omega) (fun _ => by omega)
  have k4 := enc_le t.tm 5 (fun _ => by omega) (fun _ => by omega)
  have k5 := enc_le t.kd 0 (fun _ => by omega) (fun _ => by omega)
  have k6 := enc_le (t.vs.length : Int) 0 (fun _ => by omega) (fun _ => by omega)
  have k7 := body_len h7
  simp only [Tg.nums, body, List.length_append]; omega
theorem Tg.bytes_len {t : Tg} (h : t.ok = true) : t.bytes.length ≤ 300 := by
  have h1 := Tg.len h
  have h2 := (Wm.esc_len t.inside).2
  have h3 : t.inside.length = (body t.nums).length + 4 := shut_len _
  unfold Tg.bytes
  rw [Wm.frame_len]; omega
inductive Dc (l : List UInt8) : Tg → Int → Prop
  | limit : 400 < l.length → Dc l zero 4
  | fr (er : Int) : l.length ≤ 400 → (Wm.unst l).2 = er → er ≠ 0 → Dc l zero er
  | short (x : List UInt8) : l.length ≤ 400 → Wm.unst l = (x, 0) → x.length < 4 → Dc l zero 2
  | sum (y z : List UInt8) : l.length ≤ 400 → Wm.unst l = (y ++ z, 0) → z.length = 4 → z ≠ four (Wm.crc y) → Dc l zero 5
  | form (y : List UInt8) : l.length ≤ 400 → Wm.unst l = (shut y, 0) → (∀ t : Tg, t.ok = true → y ≠ body t.nums) → Dc l zero 3
  | good (t : Tg) : l.length ≤ 400 → Wm.unst l = (t.inside, 0) → t.ok = true → Dc l t 0
theorem dc_unique {l : List UInt8} {t u : Tg} {a b : Int} (h : Dc l t a) (k : Dc l u b) : t = u ∧ a = b := by
  cases h with
  | limit h1 => cases k with
    | limit => exact ⟨rfl, rfl⟩
    | _ => omega
  | fr _ h1 h2 h3 =>
    cases k with
    | limit => omega
    | fr _ k1 k2 k3 => exact ⟨rfl, h2.symm.trans k2⟩
    | short x k1 k2 => rw [k2] at h2; exact absurd h2.symm h3
    | sum y z k1 k2 => rw [k2] at h2; exact absurd h2.symm h3
    | form y k1 k2 => rw [k2] at h2; exact absurd h2.symm h3
    | good _ k1 k2 => rw [k2] at h2; exact absurd h2.symm h3
  | short x h1 h2 h3 =>
    cases k with
    | limit => omega
    | fr _ k1 k2 k3 => rw [h2] at k2; exact absurd k2.symm k3
    | short => exact ⟨rfl, rfl⟩
    | sum y z k1 k2 k3 => rw [h2] at k2; injection k2 with e; subst e; simp only [List.length_append] at h3; omega
    | form y k1 k2 => rw [h2] at k2; injection k2 with e; subst e; rw [shut_len] at h3; omega
    | good _ k1 k2 => rw [h2] at k2; injection k2 with e; subst e; unfold Tg.inside at h3; rw [shut_len] at h3; omega
  | sum y z h1 h2 h3 h4 =>
    cases k with
    | limit => omega
    | fr _ k1 k2 k3 => rw [h2] at k2; exact absurd k2.symm k3
    | short x k1 k2 k3 => rw [h2] at k2; injection k2 with e; subst e; simp only [List.length_append] at k3; omega
    | sum => exact ⟨rfl, rfl⟩
    | form y' k1 k2 =>
      rw [h2] at k2; injection k2 with e
      obtain ⟨rfl, rfl⟩ := split4 e h3 rfl
      exact absurd rfl h4
    | good _ k1 k2 =>
      rw [h2] at k2; injection k2 with e
      obtain ⟨rfl, rfl⟩ := split4 e h3 rfl
      exact absurd rfl h4
  | form y h1 h2 h3 =>
    cases k with
    | limit => omega
    | fr _ k1 k2 k3 => rw [h2] at k2; exact absurd k2.symm k3
    | short x k1 k2 k3 => rw [h2] at k2; injection k2 with e; subst e; rw [shut_len] at k3; omega
    | sum y' z k1 k2 k3 k4 =>
      rw [h2] at k2; injection k2 with e
      obtain ⟨rfl, rfl⟩ := split4 e.symm k3 rfl
      exact absurd rfl k4
    | form => exact ⟨rfl, rfl⟩
    | good _ k1 k2 k3 =>
      rw [h2] at k2; injection k2 with e
      exact absurd (shut_inj e) (h3 _ k3)
  | good _ h1 h2 h3 =>
    cases k with
    | limit => omega
    | fr _ k1 k2 k3 => rw [h2] at k2; exact absurd k2.symm k3
    | short x k1 k2 k3 => rw [h2] at k2; injection k2 with e; subst e; unfold Tg.inside at k3; rw [shut_len] at k3; omega
    | sum y' z k1 k2 k3 k4 =>
      rw [h2] at k2; injection k2 with e
      obtain ⟨rfl, rfl⟩ := split4 e.symm k3 rfl
      exact absurd rfl k4
    | form y k1 k2 k3 =>
      rw [h2] at k2; injection k2 with e
      exact absurd (shut_inj e.symm) (k3 _ h3)
    | good _ k1 k2 k3 =>
      rw [h2] at k2; injection k2 with e
      exact ⟨Tg.nums_inj (body_inj (Tg.nums_ok h3) (Tg.nums_ok k3) (shut_inj e)), rfl⟩
theorem dc_bytes {t : Tg} (h : t.ok = true) : Dc t.bytes t 0 := .good t (by have := Tg.bytes_len h; omega) (Wm.unst_frame _) h
theorem dc_back {l : List UInt8} {t : Tg} (h : Dc l t 0) : t.ok = true ∧ t.bytes = l := by
  cases h with
  | fr _ h1 h2 h3 => exact absurd rfl h3
  | good _ h1 h2 h3 =>
    refine ⟨h3, ?_⟩
    have e := Wm.unst_ok (b := l) (by rw [h2])
    rw [h2] at e
    exact e
def before (t u : Tg) : Bool := decide (t.st = u.st ∧ (t.ep < u.ep ∨ t.ep = u.ep ∧ t.sq < u.sq))
def same (t u : Tg) : Bool := decide (t.st = u.st ∧ t.ep = u.ep ∧ t.sq = u.sq ∧ t.tm = u.tm ∧ t.kd = u.kd ∧ t.vs = u.vs)
theorem same_iff (t u : Tg) : same t u = true ↔ t = u := by
  cases t; cases u
  simp [same]
theorem same_self (t : Tg) : same t t = true := (same_iff t t).2 rfl
end Go.Proofs.YticmoaebegahgaaGreatDoor.Tm
namespace Go.Proofs.YticmoaebegahgaaGreatDoor.Im
open Tm
structure Fs where
  out : List (List UInt8)
  cur : Option (List UInt8)
def fstep (s : Fs) (x : UInt8) : Fs :=
  if x = 126 then ⟨s.out, some [126]⟩
  else if x = 124 then ⟨s.out ++ (s.cur.map (· ++ [124])).toList, none⟩
  else ⟨s.out, s.cur.map (· ++ [x])⟩
def fscan (s : Fs) (l : List UInt8) : Fs := l.foldl fstep s
theorem fscan_nil (s : Fs) : fscan s [] = s := rfl
theorem fscan_cons (s : Fs) (x : UInt8) (l : List UInt8) : fscan s (x :: l) = fscan (fstep s x) l := rfl
theorem fscan_append (s : Fs) (a b : List UInt8) : fscan s (a ++ b) = fscan (fscan s a) b := List.foldl_append
def scan (c : Option (List UInt8)) (l : List UInt8) : Fs := fscan ⟨[], c⟩ l
theorem fstep_out (o : List (List UInt8)) (c : Option (List UInt8)) (x : UInt8) : fstep ⟨o, c⟩ x = ⟨o ++ (fstep ⟨[], c⟩ x).out, (fstep ⟨[], c⟩ x).cur⟩ := by
  unfold fstep
  split
  · simp
  · split <;> simp
theorem fscan_out (o : List (List UInt8)) (c : Option (List UInt8)) (l : List UInt8) : fscan ⟨o, c⟩ l = ⟨o ++ (scan c l).out, (scan c l).cur⟩ := by
  induction l generalizing o c with
  | nil => simp [scan, fscan]
  | cons x t ih =>
    unfold scan
    rw [fscan_cons, fscan_cons, fstep_out, ih, show fstep ⟨[], c⟩ x = ⟨(fstep ⟨[], c⟩ x).out, (fstep ⟨[], c⟩ x).cur⟩ from rfl, ih]
    simp [List.append_assoc]
theorem scan_append (c : Option (List UInt8)) (a b : List UInt8) : scan c (a ++ b) = ⟨(scan c a).out ++ (scan (scan c a).cur b).out, (scan (scan c a).cur b).cur⟩ := by
  unfold scan
  rw [fscan_append]
  exact fscan_out _ _ _
def IsTail (c : List UInt8) : Prop := ∃ r, c = 126 :: r ∧ ∀ x ∈ r, x ≠ 126 ∧ x ≠ 124
theorem isTail_one : IsTail [126] := ⟨[], rfl, by intro x h; cases h⟩
theorem isTail_snoc {c : List UInt8} (h : IsTail c) {x : UInt8} (h1 : x ≠ 126) (h2 : x ≠ 124) : IsTail (c ++ [x]) := by
  obtain ⟨r, rfl, hr⟩ := h
  refine ⟨r ++ [x], rfl, fun y hy => ?_⟩
  rcases List.mem_append.1 hy with hy | hy
  · exact hr y hy
  · obtain rfl : y = x := by simpa using hy
    exact ⟨h1, h2⟩
theorem scan_plain (c r : List UInt8) (h : ∀ x ∈ r, x ≠ 126 ∧ x ≠ 124) : scan (some c) r = ⟨[], some (c ++ r)⟩ := by
  induction r generalizing c with
  | nil => simp [scan, fscan]
  | cons x t ih =>
    have h1 := h x (by simp)
    have : fstep ⟨[], some c⟩ x = ⟨[], some (c ++ [x])⟩ := by simp [fstep, h1.1, h1.2]
    unfold scan at ih ⊢
    rw [fscan_cons, this, ih _ (fun y hy => h y (by simp [hy]))]
    simp
theorem scan_tail {c : List UInt8} (h : IsTail c) : scan none c = ⟨[], some c⟩ := by
  obtain ⟨r, rfl, hr⟩ := h
  have : fstep ⟨[], none⟩ 126 = ⟨[], some [126]⟩ := by simp [fstep]
  unfold scan
  rw [fscan_cons, this]
  exact scan_plain [126] r hr
theorem fstep_tail {o : List (List UInt8)} {c : Option (List UInt8)} (h : ∀ t, c = some t → IsTail t) (x : UInt8) : ∀ t, (fstep ⟨o, c⟩ x).cur = some t → IsTail t := by
  intro t
  unfold fstep
  split
  · intro e; injection e with e; subst e; exact isTail_one
  · split
    · intro e; cases e
    · intro e
      cases c with
      | none => cases e
      | some c => injection e with e; subst e; exact isTail_snoc (h c rfl) ‹_› ‹_›
theorem fscan_tail (l : List UInt8) : ∀ (s : Fs), (∀ t, s.cur = some t → IsTail t) → ∀ t, (fscan s l).cur = some t → IsTail t := by
  induction l with
  | nil => intro s h; exact h
  | cons x r ih => intro s h; rw [fscan_cons]; exact ih _ (fstep_tail h x)
def ofTail (c : List UInt8) : Option (List UInt8) := if c = [] then none else some c
def cut (c : Option (List UInt8)) : List UInt8 := if (c.getD []).length ≤ 400 then c.getD [] else []
theorem scan_of {c : List UInt8} (h : c = [] ∨ IsTail c) (b : List UInt8) : scan none (c ++ b) = scan (ofTail c) b := by
  rcases h with rfl | h
  · rfl
  · rw [scan_append, scan_tail h]
    have : ofTail c = some c := by
      obtain ⟨r, rfl, _⟩ := h
      rfl
    rw [this]
    rfl
noncomputable def dec (f : List UInt8) : Option Tg := by
  classical
  exact if h : ∃ t, t.ok = true ∧ t.bytes = f then some h.choose else none
theorem dec_bytes {t : Tg} (h : t.ok = true) : dec t.bytes = some t := by
  have hx : ∃ u : Tg, u.ok = true ∧ u.bytes = t.bytes := ⟨t, h, rfl⟩
  unfold dec
  rw [dif_pos hx]
  congr 1
  exact Tg.bytes_inj hx.choose_spec.1 h hx.choose_spec.2
theorem dec_some {f : List UInt8} {t : Tg} (h : dec f = some t) : t.ok = true ∧ t.bytes = f := by
  unfold dec at h
  split at h
  · rename_i hx
    injection h with h
    rw [← h]; exact hx.choose_spec
  · cases h
theorem dec_dc {f : List UInt8} {t : Tg} {er : Int} (h : Dc f t er) : dec f = if er = 0 then some t else none := by
  by_cases e : er = 0
  · subst e
    obtain ⟨h1, h2⟩ := dc_back h
    rw [if_pos rfl, ← h2]; exact dec_bytes h1
  · rw [if_neg e]
    cases hd : dec f with
    | none => rfl
    | some u =>
      obtain ⟨h1, h2⟩ := dec_some hd
      rw [← h2] at h
      exact absurd (dc_unique h (dc_bytes h1)).2 e
noncomputable def gets (l : List (List UInt8)) : List Tg := l.filterMap dec
theorem gets_append (a b : List (List UInt8)) : gets (a ++ b) = gets a ++ gets b := List.filterMap_append
theorem cut_tail {c : List UInt8} (hc : c = [] ∨ IsTail c) (a : List UInt8) : (cut (scan (ofTail c) a).cur = [] ∨ IsTail (cut (scan (ofTail c) a).cur)) ∧ (cut (scan (ofTail c) a).cur).length ≤ 400 := by
  have h0 : ∀ t, ofTail c = some t → IsTail t := by
    intro t e
    rcases hc with rfl | h
    · cases e
    · obtain ⟨r, rfl, hr⟩ := h
      injection e with e; subst e; exact ⟨r, rfl, hr⟩
  cases e : (scan (ofTail c) a).cur with
  | none => exact ⟨.inl rfl, by simp [cut]⟩
  | some t =>
    have ht := fscan_tail a ⟨[], ofTail c⟩ h0 t e
    by_cases hl : t.length ≤ 400
    · have : cut (some t) = t := if_pos hl
      rw [this]; exact ⟨.inr ht, hl⟩
    · have : cut (some t) = [] := if_neg hl
      rw [this]; exact ⟨.inl rfl, by simp⟩
end Go.Proofs.YticmoaebegahgaaGreatDoor.Im
namespace Go.Proofs.YticmoaebegahgaaGreatDoor.Im
open Tm
structure Wt where
  st : Int
  ep : Int
  nx : Int
  held : List Tg
def give : List Tg → Int → List Tg × Int × List Tg
  | [], n => ([], n, [])
  | t :: r, n => if t.sq = n then ((give r (n + 1)).1, (give r (n + 1)).2.1, t :: (give r (n + 1)).2.2) else (t :: r, n, [])
def lows (q : Int) (l : List Tg) : List Tg := l.takeWhile fun t => decide (t.sq < q)
def highs (q : Int) (l : List Tg) : List Tg := l.dropWhile fun t => decide (t.sq < q)
def dup (q : Int) (l : List Tg) : Bool := match highs q l with
  | [] => false
  | t :: _ => decide (t.sq = q)
def settle (win st ep nx : Int) (held out : List Tg) : Wt × List Tg :=
  if win < ((give held nx).1.length : Int) then
    (⟨st, ep, (give (give held nx).1 ((give held nx).1.headD zero).sq).2.1, (give (give held nx).1 ((give held nx).1.headD zero).sq).1⟩,
      out ++ (give held nx).2.2 ++ (give (give held nx).1 ((give held nx).1.headD zero).sq).2.2)
  else (⟨st, ep, (give held nx).2.1, (give held nx).1⟩, out ++ (give held nx).2.2)
def take (win : Int) (w : Wt) (t : Tg) : Wt × List Tg :=
  if t.ep < w.ep ∨ t.ep = w.ep ∧ t.sq < w.nx then (w, [])
  else if w.ep < t.ep then settle win w.st t.ep 0 [t] w.held
  else if dup t.sq w.held = true then (w, [])
  else settle win w.st w.ep w.nx (lows t.sq w.held ++ t :: highs t.sq w.held) []
def Asc : Int → List Tg → Prop
  | _, [] => True
  | n, t :: r => n < t.sq ∧ Asc t.sq r
theorem Asc.weak {n m : Int} {l : List Tg} (h : Asc n l) (k : m ≤ n) : Asc m l := by
  cases l with
  | nil => trivial
  | cons t r => exact ⟨by have := h.1; omega, h.2⟩
theorem Asc.all {n : Int} {l : List Tg} (h : Asc n l) : ∀ t ∈ l, n < t.sq := by
  induction l generalizing n with
  | nil => intro t ht; cases ht
  | cons x r ih =>
    intro t ht
    rcases List.mem_cons.1 ht with rfl | ht
    · exact h.1
    · have := ih h.2 t ht; have := h.1; omega
theorem asc_insert {n q : Int} {l : List Tg} {t : Tg} (h : Asc n l) (ht : t.sq = q) (hn : n < q) (hd : dup q l = false) : Asc n (lows q l ++ t :: highs q l) := by
  induction l generalizing n with
  | nil => exact ⟨by omega, trivial⟩
  | cons x r ih =>
    by_cases hx : x.sq < q
    · have e1 : lows q (x :: r) = x :: lows q r := by simp [lows, hx]
      have e2 : highs q (x :: r) = highs q r := by simp [highs, hx]
      have hd' : dup q r = false := by unfold dup at hd ⊢; rwa [e2] at hd
      rw [e1, e2]
      exact ⟨h.1, ih h.2 hx hd'⟩
    · have e1 : lows q (x :: r) = [] := by simp [lows, hx]
      have e2 : highs q (x :: r) = x :: r := by simp [highs, hx]
      have hne : x.sq ≠ q := by
        unfold dup at hd; rw [e2] at hd; simpa using hd
      rw [e1, e2]
      exact ⟨by omega, by omega, h.2⟩
theorem mem_insert {q : Int} {l : List Tg} {t y : Tg} : y ∈ lows q l ++ t :: highs q l ↔ y = t ∨ y ∈ l := by
  have : lows q l ++ highs q l = l := List.takeWhile_append_dropWhile
  constructor
  · intro h
    rcases List.mem_append.1 h with h | h
    · exact .inr (this ▸ List.mem_append_left _ h)
    · rcases List.mem_cons.1 h with rfl | h
      · exact .inl rfl
      · exact .inr (this ▸ List.mem_append_right _ h)
  · intro h
    rcases h with rfl | h
    · simp
    · rw [← this] at h
      rcases List.mem_append.1 h with h | h <;> simp [h]
theorem len_insert {q : Int} {l : List Tg} {t : Tg} : (lows q l ++ t :: highs q l).length = l.length + 1 := by
  have h : (lows q l ++ highs q l).length = l.length := congrArg List.length List.takeWhile_append_dropWhile
  rw [List.length_append] at h ⊢
  simp only [List.length_cons]; omega
def Run : Int → List Tg → Prop
  | _, [] => True
  | n, t :: r => t.sq = n ∧ Run (n + 1) r
theorem give_spec (l : List Tg) : ∀ n, Asc (n - 1) l → l = (give l n).2.2 ++ (give l n).1 ∧ Asc (give l n).2.1 (give l n).1 ∧ Run n (give l n).2.2 ∧ (give l n).2.1 = n + ((give l n).2.2.length : Int) := by
  induction l with
  | nil => intro n _; exact ⟨rfl, trivial, trivial, by simp [give]⟩
  | cons t r ih =>
    intro n h
    by_cases e : t.sq = n
    · have h2 : Asc (n + 1 - 1) r := by rw [← e]; exact h.2.weak (by omega)
      obtain ⟨i1, i2, i3, i4⟩ := ih (n + 1) h2
      unfold give
      rw [if_pos e]
      refine ⟨by simp only [List.cons_append]; rw [← i1], i2, ⟨e, i3⟩, ?_⟩
      show (give r (n + 1)).2.1 = _
      rw [i4]; simp only [List.length_cons]; omega
    · unfold give
      rw [if_neg e]
      exact ⟨rfl, ⟨by have := h.1; show n < t.sq; omega, h.2⟩, trivial, by simp⟩
def le2 (e q e' q' : Int) : Prop := e < e' ∨ e = e' ∧ q ≤ q'
def Up : Int → Int → List Tg → Int → Int → Prop
  | e, q, [], e', q' => le2 e q e' q'
  | e, q, t :: r, e', q' => le2 e q t.ep t.sq ∧ Up t.ep (t.sq + 1) r e' q'
theorem le2_trans {a b c d e f : Int} (h : le2 a b c d) (k : le2 c d e f) : le2 a b e f := by unfold le2 at *; omega
theorem Up.from {a b e q e' q' : Int} {l : List Tg} (h : le2 a b e q) (k : Up e q l e' q') : Up a b l e' q' := by
  cases l with
  | nil => exact le2_trans h k
  | cons t r => exact ⟨le2_trans h k.1, k.2⟩
theorem Up.append {e q e' q' e'' q'' : Int} {a b : List Tg} (h : Up e q a e' q') (k : Up e' q' b e'' q'') : Up e q (a ++ b) e'' q'' := by
  induction a generalizing e q with
  | nil => exact Up.from h k
  | cons t r ih => exact ⟨h.1, ih h.2⟩
theorem up_run {e n : Int} {l : List Tg} (h : Run n l) (he : ∀ t ∈ l, t.ep = e) : Up e n l e (n + l.length) := by
  induction l generalizing n with
  | nil => exact .inr ⟨rfl, by simp⟩
  | cons t r ih =>
    have h1 := he t (by simp)
    have := ih h.2 (fun x hx => he x (by simp [hx]))
    refine ⟨.inr ⟨h1.symm, by rw [h.1]; omega⟩, ?_⟩
    rw [h1, h.1]
    rw [show n + ((t :: r).length : Int) = n + 1 + (r.length : Int) by simp only [List.length_cons]; omega]
    exact this
theorem up_asc {e n e' : Int} {l : List Tg} (h : Asc n l) (he : ∀ t ∈ l, t.ep = e) (hlt : e < e') : Up e (n + 1) l e' 0 := by
  induction l generalizing n with
  | nil => exact .inl hlt
  | cons t r ih =>
    have h1 := he t (by simp)
    refine ⟨.inr ⟨h1.symm, by have := h.1; omega⟩, ?_⟩
    rw [h1]
    exact ih h.2 (fun x hx => he x (by simp [hx]))
structure WOk (win : Int) (w : Wt) : Prop where
  asc : Asc w.nx w.held
  all : ∀ t ∈ w.held, t.ok = true ∧ t.st = w.st ∧ t.ep = w.ep
  len : (w.held.length : Int) ≤ win
  s0 : 0 ≤ w.st ∧ w.st ≤ 255
  e0 : 0 ≤ w.ep ∧ w.ep ≤ 255
  n0 : 0 ≤ w.nx ∧ w.nx ≤ 2147483649
theorem sq_le {t : Tg} (h : t.ok = true) : 0 ≤ t.sq ∧ t.sq ≤ 2147483648 := ((Tg.ok_iff t).1 h).2.2.1
theorem settle_spec {win st ep nx : Int} {held out : List Tg} (hw : 0 ≤ win) (h : Asc (nx - 1) held) (ha : ∀ t ∈ held, t.ok = true ∧ t.st = st ∧ t.ep = ep) (hl : (held.length : Int) ≤ win + 1)
    (hs : 0 ≤ st ∧ st ≤ 255) (he : 0 ≤ ep ∧ ep ≤ 255) (hn : 0 ≤ nx ∧ nx ≤ 2147483649) :
    WOk win (settle win st ep nx held out).1 ∧ ∃ g, (settle win st ep nx held out).2 = out ++ g ∧ Up ep nx g ep (settle win st ep nx held out).1.nx ∧ (∀ t ∈ g, t ∈ held) ∧
      (settle win st ep nx held out).1.st = st ∧ (settle win st ep nx held out).1.ep = ep := by
  obtain ⟨g1, g2, g3, g4⟩ := give_spec held nx h
  generalize hG : give held nx = G at *
  obtain ⟨h1, n1, o1⟩ := G
  dsimp only at g1 g2 g3 g4
  have m1 : ∀ t ∈ h1, t ∈ held := fun t ht => g1 ▸ List.mem_append_right _ ht
  have k1 : ∀ t ∈ o1, t ∈ held := fun t ht => g1 ▸ List.mem_append_left _ ht
  have l1 : o1.length + h1.length = held.length := by rw [← List.length_append, ← g1]
  have run_last : ∀ (l : List Tg) (n : Int), Run n l → l ≠ [] → ∃ t ∈ l, t.sq = n + l.length - 1 := by
    intro l
    induction l with
    | nil => intro n _ h; exact absurd rfl h
    | cons x r ih =>
      intro n hr _
      by_cases e : r = []
      · subst e; exact ⟨x, by simp, by have := hr.1; simp; omega⟩
      · obtain ⟨t, ht, hq⟩ := ih (n + 1) hr.2 e
        exact ⟨t, by simp [ht], by simp only [List.length_cons]; omega⟩
  have bnd : ∀ (l : List Tg) (n : Int), Run n l → (∀ t ∈ l, t ∈ held) → 0 ≤ n ∧ n ≤ 2147483649 → 0 ≤ n + l.length ∧ n + l.length ≤ 2147483649 := by
    intro l n hr hm hb
    by_cases e : l = []
    · subst e; simpa using hb
    · obtain ⟨t, ht, hq⟩ := run_last l n hr e
      have := sq_le (ha t (hm t ht)).1
      omega
  have u1 : Up ep nx o1 ep n1 := by rw [g4]; exact up_run g3 (fun t ht => (ha t (k1 t ht)).2.2)
  have b1 : 0 ≤ n1 ∧ n1 ≤ 2147483649 := by rw [g4]; exact bnd o1 nx g3 k1 hn
  unfold settle
  rw [hG]
  dsimp only
  by_cases hc : win < (h1.length : Int)
  · rw [if_pos hc]
    cases h1 with
    | nil => simp at hc; omega
    | cons x r =>
      have hx : n1 < x.sq := g2.1
      have hA : Asc (x.sq - 1) (x :: r) := ⟨by omega, g2.2⟩
      obtain ⟨p1, p2, p3, p4⟩ := give_spec (x :: r) x.sq hA
      have hne : (give (x :: r) x.sq).2.2.length ≠ 0 := by unfold give; simp
      simp only [List.headD_cons]
      generalize hH : give (x :: r) x.sq = H at *
      obtain ⟨h2, n2, o2⟩ := H
      dsimp only at p1 p2 p3 p4 hne ⊢
      have m2 : ∀ t ∈ h2, t ∈ held := fun t ht => m1 t (p1 ▸ List.mem_append_right _ ht)
      have k2 : ∀ t ∈ o2, t ∈ held := fun t ht => m1 t (p1 ▸ List.mem_append_left _ ht)
      have l2 : o2.length + h2.length = (x :: r).length := by rw [← List.length_append, ← p1]
      have bx := sq_le (ha x (m1 x (by simp))).1
      have b2 : 0 ≤ n2 ∧ n2 ≤ 2147483649 := by rw [p4]; exact bnd o2 x.sq p3 k2 (by omega)
      refine ⟨⟨p2, fun t ht => ha t (m2 t ht), by show (h2.length : Int) ≤ win; omega, hs, he, b2⟩, o1 ++ o2, by rw [List.append_assoc], ?_, ?_, by simp⟩
      · refine u1.append (Up.from (e := ep) (q := x.sq) (.inr ⟨rfl, by omega⟩) ?_)
        rw [p4]; exact up_run p3 (fun t ht => (ha t (k2 t ht)).2.2)
      · intro t ht
        rcases List.mem_append.1 ht with ht | ht
        · exact k1 t ht
        · exact k2 t ht
  · rw [if_neg hc]
    exact ⟨⟨g2, fun t ht => ha t (m1 t ht), by show (h1.length : Int) ≤ win; omega, hs, he, b1⟩, o1, rfl, u1, k1, by simp⟩
theorem take_spec {win : Int} {w : Wt} {t : Tg} (hw : 0 ≤ win) (h : WOk win w) (ht : t.ok = true) (hst : t.st = w.st) :
    WOk win (take win w t).1 ∧ Up w.ep w.nx (take win w t).2 (take win w t).1.ep (take win w t).1.nx ∧ (∀ y ∈ (take win w t).2, y.st = w.st) ∧ (take win w t).1.st = w.st := by
  obtain ⟨t1, t2, t3, _, _, _, _⟩ := (Tg.ok_iff t).1 ht
  unfold take
  by_cases c1 : t.ep < w.ep ∨ t.ep = w.ep ∧ t.sq < w.nx
  · rw [if_pos c1]
    exact ⟨h, .inr ⟨rfl, Int.le_refl _⟩, (fun y hy => by cases hy), rfl⟩
  · rw [if_neg c1]
    by_cases c2 : w.ep < t.ep
    · rw [if_pos c2]
      obtain ⟨k1, g, k2, k3, k4, k5, k6⟩ := settle_spec (win := win) (st := w.st) (ep := t.ep) (nx := 0) (held := [t]) (out := w.held) hw ⟨by omega, trivial⟩
        (fun y hy => by obtain rfl : y = t := by simpa using hy
                        exact ⟨ht, hst, rfl⟩) (by simp; omega) h.s0 t2 (by omega)
      refine ⟨k1, ?_, ?_, k5⟩
      · rw [k2, k6]; exact (Up.from (.inr ⟨rfl, by omega⟩) (up_asc h.asc (fun y hy => (h.all y hy).2.2) c2)).append k3
      · intro y hy
        rw [k2] at hy
        rcases List.mem_append.1 hy with hy | hy
        · exact (h.all y hy).2.1
        · have := k4 y hy
          obtain rfl : y = t := by simpa using this
          exact hst
    · rw [if_neg c2]
      by_cases c3 : dup t.sq w.held = true
      · rw [if_pos c3]
        exact ⟨h, .inr ⟨rfl, Int.le_refl _⟩, (fun y hy => by cases hy), rfl⟩
      · rw [if_neg c3]
        have hep : t.ep = w.ep := by omega
        have hnx : w.nx ≤ t.sq := by omega
        have hall : ∀ y ∈ lows t.sq w.held ++ t :: highs t.sq w.held, y.ok = true ∧ y.st = w.st ∧ y.ep = w.ep := by
          intro y hy
          rcases mem_insert.1 hy with rfl | hy
          · exact ⟨ht, hst, hep⟩
          · exact h.all y hy
        obtain ⟨k1, g, k2, k3, k4, k5, k6⟩ := settle_spec (win := win) (st := w.st) (ep := w.ep) (nx := w.nx) (out := []) hw
          (asc_insert (h.asc.weak (by omega) : Asc (w.nx - 1) w.held) rfl (by omega) (eq_false_of_ne_true c3)) hall (by rw [len_insert]; have := h.len; omega) h.s0 h.e0 h.n0
        refine ⟨k1, ?_, ?_, k5⟩
        · rw [k2, k6, List.nil_append]; exact k3
        · intro y hy
          rw [k2, List.nil_append] at hy
          exact (hall y (k4 y hy)).2.1
end Go.Proofs.YticmoaebegahgaaGreatDoor.Im
namespace Go.Proofs.YticmoaebegahgaaGreatDoor.Im
open Tm
def new (t : Tg) : Wt := ⟨t.st, t.ep, 0, []⟩
def put (win : Int) (full : Bool) : List Wt → Tg → List Wt × List Tg
  | [], t => if full = true then ([], []) else ([(take win (new t) t).1], (take win (new t) t).2)
  | w :: r, t =>
    if w.st < t.st then (w :: (put win full r t).1, (put win full r t).2)
    else if w.st = t.st then ((take win w t).1 :: r, (take win w t).2)
    else if full = true then (w :: r, []) else ((take win (new t) t).1 :: w :: r, (take win (new t) t).2)
def acc (win : Int) (s : List Wt) (t : Tg) : List Wt × List Tg := put win (decide (s.length = 64)) s t
def run (win : Int) : List Wt → List Tg → List Wt × List Tg
  | s, [] => (s, [])
  | s, t :: r => ((run win (acc win s t).1 r).1, (acc win s t).2 ++ (run win (acc win s t).1 r).2)
theorem run_append (win : Int) (a b : List Tg) : ∀ s, run win s (a ++ b) = ((run win (run win s a).1 b).1, (run win s a).2 ++ (run win (run win s a).1 b).2) := by
  induction a with
  | nil => intro s; rfl
  | cons t r ih => intro s; simp only [List.cons_append, run, ih, List.append_assoc]
def ent : List Wt → Int → Option Wt
  | [], _ => none
  | w :: r, k => if w.st = k then some w else ent r k
def SAsc : Int → List Wt → Prop
  | _, [] => True
  | n, w :: r => n < w.st ∧ SAsc w.st r
theorem SAsc.none {n k : Int} {l : List Wt} (h : SAsc n l) (hk : k ≤ n) : ent l k = none := by
  induction l generalizing n with
  | nil => rfl
  | cons w r ih =>
    have := h.1
    unfold ent
    rw [if_neg (by omega)]
    exact ih h.2 (by omega)
theorem ent_mem {l : List Wt} {k : Int} {w : Wt} (h : ent l k = some w) : w ∈ l ∧ w.st = k := by
  induction l with
  | nil => cases h
  | cons x r ih =>
    unfold ent at h
    split at h
    · injection h with h; subst h; exact ⟨by simp, ‹_›⟩
    · obtain ⟨h1, h2⟩ := ih h; exact ⟨by simp [h1], h2⟩
theorem settle_st (win st ep nx : Int) (held out : List Tg) : (settle win st ep nx held out).1.st = st := by unfold settle; split <;> rfl
theorem take_st (win : Int) (w : Wt) (t : Tg) : (take win w t).1.st = w.st := by
  unfold take
  split
  · rfl
  · split
    · exact settle_st _ _ _ _ _ _
    · split
      · rfl
      · exact settle_st _ _ _ _ _ _
theorem put_full {win n : Int} {s : List Wt} {t : Tg} (h : SAsc n s) (hf : ent s t.st = none) : put win true s t = (s, []) := by
  induction s generalizing n with
  | nil => simp [put]
  | cons w r ih =>
    unfold ent at hf
    split at hf
    · cases hf
    · rename_i c2
      show (if w.st < t.st then _ else _) = _
      by_cases c1 : w.st < t.st
      · rw [if_pos c1, ih h.2 hf]
      · rw [if_neg c1, if_neg c2]; rfl
theorem put_spec {win n : Int} {full : Bool} {s : List Wt} {t : Tg} (h : SAsc n s) (hn : n < t.st) (hf : full = false ∨ ent s t.st ≠ none) :
    SAsc n (put win full s t).1 ∧ (put win full s t).2 = (take win ((ent s t.st).getD (new t)) t).2 ∧
    (∀ k, ent (put win full s t).1 k = if k = t.st then some (take win ((ent s t.st).getD (new t)) t).1 else ent s k) ∧
    (∀ w ∈ (put win full s t).1, w = (take win ((ent s t.st).getD (new t)) t).1 ∨ w ∈ s) ∧
    (put win full s t).1.length = s.length + (if ent s t.st = none then 1 else 0) := by
  have hnew : (take win (new t) t).1.st = t.st := take_st _ _ _
  induction s generalizing n with
  | nil =>
    have hf : full = false := by rcases hf with h | h; exact h; exact absurd rfl h
    subst hf
    refine ⟨⟨by show n < (take win (new t) t).1.st; omega, trivial⟩, rfl, fun k => ?_, fun w hw => ?_, rfl⟩
    · show ent [(take win (new t) t).1] k = _
      unfold ent
      rw [hnew]
      by_cases e : k = t.st
      · subst e; rw [if_pos rfl, if_pos rfl]; rfl
      · rw [if_neg (fun h => e h.symm), if_neg e]; rfl
    · left; simpa [put, ent] using hw
  | cons w r ih =>
    by_cases c1 : w.st < t.st
    · have e1 : ent (w :: r) t.st = ent r t.st := by
        show (if w.st = t.st then _ else _) = _
        rw [if_neg (by omega)]
      have e2 : put win full (w :: r) t = (w :: (put win full r t).1, (put win full r t).2) := by
        show (if w.st < t.st then _ else _) = _
        rw [if_pos c1]
      rw [e1] at hf ⊢
      obtain ⟨i1, i2, i3, i4, i5⟩ := ih h.2 c1 hf
      rw [e2]
      refine ⟨⟨h.1, i1⟩, i2, fun k => ?_, fun x hx => ?_, ?_⟩
      · show (if w.st = k then _ else _) = _
        by_cases e : w.st = k
        · subst e
          rw [if_pos rfl, if_neg (by omega)]
          show _ = if w.st = w.st then _ else _
          rw [if_pos rfl]
        · rw [if_neg e, i3 k]
          by_cases e' : k = t.st
          · rw [if_pos e', if_pos e']
          · rw [if_neg e', if_neg e']
            show _ = if w.st = k then _ else _
            rw [if_neg e]
      · rcases List.mem_cons.1 hx with rfl | hx
        · exact .inr (by simp)
        · rcases i4 x hx with h | h
          · exact .inl h
          · exact .inr (by simp [h])
      · simp only [List.length_cons, i5]; omega
    · by_cases c2 : w.st = t.st
      · have e1 : ent (w :: r) t.st = some w := by
          show (if w.st = t.st then _ else _) = _
          rw [if_pos c2]
        have e2 : put win full (w :: r) t = ((take win w t).1 :: r, (take win w t).2) := by
          show (if w.st < t.st then _ else _) = _
          rw [if_neg c1, if_pos c2]
        have e3 : (take win w t).1.st = w.st := take_st _ _ _
        rw [e1, e2]
        refine ⟨⟨by rw [e3]; exact h.1, by rw [e3]; exact h.2⟩, rfl, fun k => ?_, fun x hx => ?_, by simp⟩
        · show (if (take win w t).1.st = k then _ else _) = _
          rw [e3, c2]
          by_cases e : k = t.st
          · subst e; rw [if_pos rfl, if_pos rfl]; rfl
          · rw [if_neg (fun h => e h.symm), if_neg e]
            show _ = if w.st = k then _ else _
            rw [if_neg (by omega)]
        · rcases List.mem_cons.1 hx with rfl | hx
          · exact .inl rfl
          · exact .inr (by simp [hx])
      · have e1 : ent (w :: r) t.st = none := by
          show (if w.st = t.st then _ else _) = _
          rw [if_neg c2]
          exact h.2.none (by omega)
        have hf : full = false := by rcases hf with h | h; exact h; exact absurd e1 h
        subst hf
        have e2 : put win false (w :: r) t = ((take win (new t) t).1 :: w :: r, (take win (new t) t).2) := by
          show (if w.st < t.st then _ else _) = _
          rw [if_neg c1, if_neg c2]; rfl
        rw [e1, e2]
        refine ⟨⟨by rw [hnew]; exact hn, by rw [hnew]; omega, h.2⟩, rfl, fun k => ?_, fun x hx => ?_, by simp⟩
        · show (if (take win (new t) t).1.st = k then _ else _) = _
          rw [hnew]
          by_cases e : k = t.st
          · subst e; rw [if_pos rfl, if_pos rfl]; rfl
          · rw [if_neg (fun h => e h.symm), if_neg e]
        · rcases List.mem_cons.1 hx with rfl | hx
          · exact .inl rfl
          · exact .inr hx
structure SOk (win : Int) (s : List Wt) : Prop where
  asc : SAsc (-1) s
  all : ∀ w ∈ s, WOk win w
  len : s.length ≤ 64
theorem sok_nil (win : Int) : SOk win [] := ⟨trivial, (fun w h => by cases h), by simp⟩
theorem new_ok {win : Int} (hw : 0 ≤ win) {t : Tg} (h : t.ok = true) : WOk win (new t) := by
  obtain ⟨t1, t2, _⟩ := (Tg.ok_iff t).1 h
  exact ⟨trivial, (fun y hy => by cases hy), by simpa [new] using hw, t1, t2, by simp [new]⟩
theorem ent_ok {win : Int} (hw : 0 ≤ win) {s : List Wt} {t : Tg} (hs : SOk win s) (h : t.ok = true) : WOk win ((ent s t.st).getD (new t)) ∧ ((ent s t.st).getD (new t)).st = t.st := by
  cases e : ent s t.st with
  | none => exact ⟨new_ok hw h, rfl⟩
  | some w => exact ⟨hs.all w (ent_mem e).1, (ent_mem e).2⟩
theorem acc_spec {win : Int} (hw : 0 ≤ win) {s : List Wt} {t : Tg} (hs : SOk win s) (ht : t.ok = true) :
    (s.length = 64 ∧ ent s t.st = none ∧ acc win s t = (s, [])) ∨
    ((s.length < 64 ∨ ent s t.st ≠ none) ∧ SOk win (acc win s t).1 ∧ (acc win s t).2 = (take win ((ent s t.st).getD (new t)) t).2 ∧
      ∀ k, ent (acc win s t).1 k = if k = t.st then some (take win ((ent s t.st).getD (new t)) t).1 else ent s k) := by
  have h0 := ((Tg.ok_iff t).1 ht).1
  by_cases c : s.length = 64 ∧ ent s t.st = none
  · refine .inl ⟨c.1, c.2, ?_⟩
    unfold acc
    rw [show decide (s.length = 64) = true by simpa using c.1]
    exact put_full hs.asc c.2
  · have hf : decide (s.length = 64) = false ∨ ent s t.st ≠ none := by
      by_cases e : s.length = 64
      · exact .inr (fun h => c ⟨e, h⟩)
      · exact .inl (by simpa using e)
    obtain ⟨i1, i2, i3, i4, i5⟩ := put_spec (win := win) (full := decide (s.length = 64)) hs.asc (by omega) hf
    refine .inr ⟨?_, ⟨i1, fun w hx => ?_, ?_⟩, i2, i3⟩
    · have := hs.len
      by_cases e : s.length = 64
      · exact .inr (fun h => c ⟨e, h⟩)
      · exact .inl (by omega)
    · rcases i4 w hx with rfl | hx
      · obtain ⟨k1, k2⟩ := ent_ok hw hs ht
        exact (take_spec hw k1 ht k2.symm).1
      · exact hs.all w hx
    · show (put win (decide (s.length = 64)) s t).1.length ≤ 64
      rw [i5]
      have := hs.len
      by_cases e : s.length = 64
      · have : ent s t.st ≠ none := fun h => c ⟨e, h⟩
        rw [if_neg this]; omega
      · split <;> omega
theorem run_ok {win : Int} (hw : 0 ≤ win) (l : List Tg) : ∀ s, SOk win s → (∀ t ∈ l, t.ok = true) → SOk win (run win s l).1 := by
  induction l with
  | nil => intro s h _; exact h
  | cons t r ih =>
    intro s hs ha
    refine ih _ ?_ (fun x hx => ha x (by simp [hx]))
    rcases acc_spec hw hs (ha t (by simp)) with ⟨_, _, e⟩ | ⟨_, h, _⟩
    · rw [e]; exact hs
    · exact h
end Go.Proofs.YticmoaebegahgaaGreatDoor.Im
namespace Go.Proofs.YticmoaebegahgaaGreatDoor.Im
open Tm
noncomputable def feed (win : Int) (c : List UInt8) (s : List Wt) (b : List UInt8) : List UInt8 × List Wt × List Tg :=
  (cut (scan (ofTail c) b).cur, (run win s (gets (scan (ofTail c) b).out)).1, (run win s (gets (scan (ofTail c) b).out)).2)
theorem gets_ok (l : List (List UInt8)) : ∀ t ∈ gets l, t.ok = true := by
  intro t ht
  obtain ⟨f, _, h⟩ := List.mem_filterMap.1 ht
  exact (dec_some h).1
theorem scan_noise {l : List UInt8} (h : ∀ x ∈ l, x ≠ 126) : scan none l = ⟨[], none⟩ := by
  induction l with
  | nil => rfl
  | cons x t ih =>
    have hx := h x (by simp)
    have : fstep ⟨[], none⟩ x = ⟨[], none⟩ := by
      unfold fstep
      rw [if_neg hx]
      split <;> rfl
    unfold scan at ih ⊢
    rw [fscan_cons, this]
    exact ih (fun y hy => h y (by simp [hy]))
structure LOk (win : Int) (came : Int → Prop) (f : Int) (mk : Int → Tg) (w : Wt) : Prop where
  ep : ∀ q, (mk q).ep = w.ep ∧ (mk q).sq = q
  nx : w.nx = f
  asc : Asc f w.held
  all : ∀ y ∈ w.held, y = mk y.sq
  mem : ∀ q, (∃ y ∈ w.held, y.sq = q) ↔ came q ∧ f < q
  low : ∀ q, 0 ≤ q → q < f → came q
  not : ¬ came f
  top : ∀ q, came q → 0 ≤ q ∧ q ≤ f + win
  f0 : 0 ≤ f
theorem take_older {win : Int} {w : Wt} {t : Tg} (h : t.ep < w.ep ∨ t.ep = w.ep ∧ t.sq < w.nx) : take win w t = (w, []) := if_pos h
end Go.Proofs.YticmoaebegahgaaGreatDoor.Im
