/- Plain mathematics of package piece: pieces as litres. No program is named here. -/
import Derived.WalkKit
namespace Go.Proofs.Ytafkagaakjfkoaa.Fm

abbrev Pc := Int × Int
def zp : Pc := (0, 0)
/-- The litres of pieces. -/
def lit : List Pc → List Int
  | [] => []
  | p :: f => List.replicate p.2.toNat p.1 ++ lit f
def put (b : Int) : List Pc → List Pc
  | [] => [(b, 1)]
  | p :: r => if p.1 = b then (b, p.2 + 1) :: r else (b, 1) :: p :: r
theorem put_cons (b : Int) (p : Pc) (r : List Pc) : put b (p :: r) = if p.1 = b then (b, p.2 + 1) :: r else (b, 1) :: p :: r := rfl
/-- The merged pieces of a list of litres. -/
def mer : List Int → List Pc
  | [] => []
  | b :: l => put b (mer l)
def vol : List Pc → Int
  | [] => 0
  | p :: f => p.2 + vol f
def of (b : Int) : List Pc → Int
  | [] => 0
  | p :: f => (if p.1 = b then p.2 else 0) + of b f
/-- No volume is negative. -/
def Pos (f : List Pc) : Prop := ∀ p ∈ f, 0 ≤ p.2
/-- Merged: each piece has a volume, and no two neighbours have the same batch. -/
def Mgd : List Pc → Prop
  | [] => True
  | p :: f => 1 ≤ p.2 ∧ (∀ q, f.head? = some q → q.1 ≠ p.1) ∧ Mgd f

theorem Pos.nil : Pos [] := fun _ h => by cases h
theorem Pos.tail {p : Pc} {f : List Pc} (h : Pos (p :: f)) : 0 ≤ p.2 ∧ Pos f := ⟨h p (by simp), fun q hq => h q (by simp [hq])⟩
theorem Pos.app {f g : List Pc} (h : Pos f) (k : Pos g) : Pos (f ++ g) := fun p hp => by
  rcases List.mem_append.1 hp with e | e
  · exact h p e
  · exact k p e
theorem Pos.one {p : Pc} (h : 0 ≤ p.2) : Pos [p] := fun q hq => by rw [List.mem_singleton] at hq; subst hq; exact h
theorem Pos.take {f : List Pc} (h : Pos f) (k : Nat) : Pos (f.take k) := fun p hp => h p (List.mem_of_mem_take hp)
theorem Mgd.pos {f : List Pc} (h : Mgd f) : Pos f := by
  induction f with
  | nil => exact Pos.nil
  | cons p r ih =>
    intro q hq
    rcases List.mem_cons.1 hq with rfl | e
    · have := h.1; omega
    · exact ih h.2.2 q e
theorem Mgd.one {f : List Pc} (h : Mgd f) : ∀ p ∈ f, 1 ≤ p.2 := by
  induction f with
  | nil => intro p hp; cases hp
  | cons p r ih =>
    intro q hq
    rcases List.mem_cons.1 hq with rfl | e
    · exact h.1
    · exact ih h.2.2 q e

theorem lit_app (f g : List Pc) : lit (f ++ g) = lit f ++ lit g := by
  induction f with
  | nil => rfl
  | cons p r ih => simp only [List.cons_append, lit, ih, List.append_assoc]
theorem lit_one (p : Pc) : lit [p] = List.replicate p.2.toNat p.1 := by simp [lit]
theorem vol_app (f g : List Pc) : vol (f ++ g) = vol f + vol g := by
  induction f with
  | nil => simp [vol]
  | cons p r ih => simp only [List.cons_append, vol, ih]; omega
theorem vol_one (p : Pc) : vol [p] = p.2 := by simp [vol]
theorem vol_pos {f : List Pc} (h : Pos f) : 0 ≤ vol f := by
  induction f with
  | nil => simp [vol]
  | cons p r ih => have := h.tail; have := ih this.2; simp only [vol]; omega
theorem lit_len {f : List Pc} (h : Pos f) : ((lit f).length : Int) = vol f := by
  induction f with
  | nil => rfl
  | cons p r ih =>
    obtain ⟨h1, h2⟩ := h.tail
    have := ih h2
    simp only [lit, vol, List.length_append, List.length_replicate]
    omega
theorem of_app (b : Int) (f g : List Pc) : of b (f ++ g) = of b f + of b g := by
  induction f with
  | nil => simp [of]
  | cons p r ih => simp only [List.cons_append, of, ih]; omega
theorem of_lit (b : Int) {f : List Pc} (h : Pos f) : of b f = ((lit f).count b : Int) := by
  induction f with
  | nil => rfl
  | cons p r ih =>
    obtain ⟨h1, h2⟩ := h.tail
    simp only [of, lit, List.count_append, List.count_replicate, ih h2]
    by_cases e : p.1 = b
    · subst e; simp; omega
    · have : (p.1 == b) = false := by simpa using e
      simp [e]
theorem lit_mem {f : List Pc} {b : Int} (h : b ∈ lit f) : ∃ p ∈ f, p.1 = b ∧ 1 ≤ p.2 := by
  induction f with
  | nil => cases h
  | cons p r ih =>
    rcases List.mem_append.1 h with e | e
    · obtain ⟨h1, h2⟩ := List.mem_replicate.1 e
      exact ⟨p, by simp, h2.symm, by omega⟩
    · obtain ⟨q, h1, h2⟩ := ih e
      exact ⟨q, by simp [h1], h2⟩

/-! ## Merged pieces are known by their litres -/
theorem lit_put {b : Int} {f : List Pc} (h : Pos f) : lit (put b f) = b :: lit f := by
  cases f with
  | nil => rfl
  | cons p r =>
    rw [put_cons]
    have := h.tail.1
    split
    · rename_i e
      subst e
      simp only [lit]
      rw [show (p.2 + 1).toNat = p.2.toNat + 1 by omega, List.replicate_succ, List.cons_append]
    · simp only [lit]
      rw [show (1 : Int).toNat = 1 by rfl, List.replicate_one, List.singleton_append]
theorem put_mgd {b : Int} {f : List Pc} (h : Mgd f) : Mgd (put b f) := by
  cases f with
  | nil => exact ⟨by simp, fun q hq => by simp at hq, trivial⟩
  | cons p r =>
    rw [put_cons]
    split
    · rename_i e
      subst e
      exact ⟨by have := h.1; dsimp only; omega, h.2.1, h.2.2⟩
    · rename_i e
      exact ⟨by simp, fun q hq => by simp at hq; subst hq; exact e, h⟩
theorem mer_mgd (l : List Int) : Mgd (mer l) := by
  induction l with
  | nil => trivial
  | cons b l ih => exact put_mgd ih
theorem lit_mer (l : List Int) : lit (mer l) = l := by
  induction l with
  | nil => rfl
  | cons b l ih => rw [mer, lit_put (mer_mgd l).pos, ih]
theorem put_head (b : Int) (f : List Pc) : ∃ n, (put b f).head? = some (b, n) := by
  cases f with
  | nil => exact ⟨1, rfl⟩
  | cons p r =>
    rw [put_cons]
    split
    · exact ⟨_, rfl⟩
    · exact ⟨_, rfl⟩
theorem mer_rep (b : Int) (n : Nat) (f : List Pc) (h : ∀ q, f.head? = some q → q.1 ≠ b) (e : mer (lit f) = f) : mer (List.replicate (n + 1) b ++ lit f) = (b, (n : Int) + 1) :: f := by
  induction n with
  | zero =>
    rw [List.replicate_one, List.singleton_append, mer, e]
    cases f with
    | nil => rfl
    | cons q r => rw [put_cons, if_neg (h q rfl)]; simp
  | succ n ih =>
    rw [List.replicate_succ, List.cons_append, mer, ih]
    rw [put_cons]
    rw [if_pos rfl]
    simp
theorem mer_lit {f : List Pc} (h : Mgd f) : mer (lit f) = f := by
  induction f with
  | nil => rfl
  | cons p r ih =>
    obtain ⟨h1, h2, h3⟩ := h
    obtain ⟨n, hn⟩ : ∃ n : Nat, p.2 = (n : Int) + 1 := ⟨(p.2 - 1).toNat, by omega⟩
    have := mer_rep p.1 n r h2 (ih h3)
    simp only [lit]
    rw [show p.2.toNat = n + 1 by omega, this, ← hn]
theorem mgd_ext {f g : List Pc} (h : Mgd f) (k : Mgd g) (e : lit f = lit g) : f = g := by rw [← mer_lit h, ← mer_lit k, e]

/-! ## How many pieces -/
theorem put_len (b : Int) (f : List Pc) : (put b f).length ≤ f.length + 1 ∧ f.length ≤ (put b f).length := by
  cases f with
  | nil => simp [put]
  | cons p r => rw [put_cons]; split <;> simp
theorem mer_app_len (l m : List Int) : (mer (l ++ m)).length ≤ (mer l).length + (mer m).length := by
  induction l with
  | nil => simp [mer]
  | cons b l ih =>
    rw [List.cons_append, mer, mer]
    cases l with
    | nil => have h := put_len b (mer m); have e : (mer ([] ++ m)).length = (mer m).length := rfl; have e2 : (put b (mer [])).length = 1 := rfl; rw [e2]; have e3 : ([] ++ m : List Int) = m := rfl; rw [e3]; omega
    | cons c l =>
      -- the head of what stands behind b is c in both
      have key : ∀ x : List Int, (put b (mer (c :: x))).length = (mer (c :: x)).length + (if c = b then 0 else 1) := by
        intro x
        obtain ⟨n, hn⟩ := put_head c (mer x)
        rw [mer]
        cases hp : put c (mer x) with
        | nil => rw [hp] at hn; cases hn
        | cons q r =>
          rw [hp] at hn
          simp at hn
          subst hn
          rw [put_cons]
          simp only
          split <;> simp
      rw [List.cons_append] at ih ⊢
      rw [key, key]
      omega
theorem mer_drop_len (l : List Int) : ∀ k, (mer (l.drop k)).length ≤ (mer l).length := by
  induction l with
  | nil => intro k; simp
  | cons b l ih =>
    intro k
    cases k with
    | zero => simp
    | succ k =>
      rw [List.drop_succ_cons, mer]
      have := ih k
      have := (put_len b (mer l)).2
      omega
theorem put_le {b : Int} {x y : List Int} (h : (mer x).length ≤ (mer y).length) (hd : x.head? = y.head? ∨ x = []) : (mer (b :: x)).length ≤ (mer (b :: y)).length := by
  cases x with
  | nil =>
    have : 1 ≤ (mer (b :: y)).length := by
      obtain ⟨n, hn⟩ := put_head b (mer y)
      rw [mer]
      cases hp : put b (mer y) with
      | nil => rw [hp] at hn; cases hn
      | cons q r => simp
    simpa [mer, put] using this
  | cons c x =>
    rcases hd with hd | hd
    · cases y with
      | nil => simp at hd
      | cons d y =>
        simp at hd
        subst hd
        have key : ∀ x : List Int, (mer (b :: c :: x)).length = (mer (c :: x)).length + (if c = b then 0 else 1) := by
          intro x
          obtain ⟨n, hn⟩ := put_head c (mer x)
          rw [mer, mer]
          cases hp : put c (mer x) with
          | nil => rw [hp] at hn; cases hn
          | cons q r =>
            rw [hp] at hn
            simp at hn
            subst hn
            rw [put_cons]
            simp only
            split <;> simp
        rw [key, key]
        omega
    · cases hd
theorem mer_take_len (l : List Int) : ∀ k, (mer (l.take k)).length ≤ (mer l).length := by
  induction l with
  | nil => intro k; simp
  | cons b l ih =>
    intro k
    cases k with
    | zero => simp [mer]
    | succ k =>
      rw [List.take_succ_cons]
      refine put_le (ih k) ?_
      cases k with
      | zero => right; simp
      | succ k =>
        cases l with
        | nil => right; simp
        | cons c l => left; simp
theorem mer_le (l : List Int) : (mer l).length ≤ l.length := by
  induction l with
  | nil => simp [mer]
  | cons b l ih => have := (put_len b (mer l)).1; rw [mer, List.length_cons]; omega

theorem mer_rep_len (n : Nat) (b : Int) : (mer (List.replicate n b)).length ≤ 1 := by
  cases n with
  | zero => simp [mer]
  | succ n =>
    have h := mer_rep b n [] (fun q hq => by cases hq) rfl
    simp only [lit, List.append_nil] at h
    rw [h]; simp
theorem mer_lit_len (f : List Pc) : (mer (lit f)).length ≤ f.length := by
  induction f with
  | nil => simp [lit, mer]
  | cons p r ih =>
    have h1 := mer_app_len (List.replicate p.2.toNat p.1) (lit r)
    have h2 := mer_rep_len p.2.toNat p.1
    simp only [lit, List.length_cons]
    omega

/-! ## Valid fills -/
def proper (b : Int) : Bool := decide (0 ≤ b) && decide (b < 1000)
/-- One piece of a valid fill. -/
def okp (p : Pc) : Prop := 0 ≤ p.1 ∧ p.1 < 1000 ∧ 1 ≤ p.2 ∧ p.2 ≤ 1000000
structure Val (f : List Pc) : Prop where
  len : f.length ≤ 200
  ok : ∀ p ∈ f, okp p
  mgd : Mgd f
  vol : vol f ≤ 1000000
noncomputable def valid (f : List Pc) : Bool := @decide (Val f) (Classical.propDecidable _)
theorem valid_iff {f : List Pc} : valid f = true ↔ Val f := @decide_eq_true_iff (Val f) (Classical.propDecidable _)
theorem valid_yes {f : List Pc} (h : Val f) : valid f = true := valid_iff.2 h
theorem valid_no {f : List Pc} (h : ¬ Val f) : valid f = false := by
  cases e : valid f with
  | false => rfl
  | true => exact absurd (valid_iff.1 e) h
theorem Val.pos {f : List Pc} (h : Val f) : Pos f := h.mgd.pos
theorem Val.nil : Val [] := ⟨by simp, fun p hp => (by cases hp), trivial, by show (0 : Int) ≤ 1000000; omega⟩
theorem mgd_snoc {f : List Pc} {p : Pc} (h : Mgd f) (hp : 1 ≤ p.2) (hl : ∀ q, f.getLast? = some q → q.1 ≠ p.1) : Mgd (f ++ [p]) := by
  induction f with
  | nil => exact ⟨hp, fun q hq => by simp at hq, trivial⟩
  | cons a r ih =>
    obtain ⟨h1, h2, h3⟩ := h
    refine ⟨h1, ?_, ?_⟩
    · intro q hq
      cases r with
      | nil => simp at hq; subst hq; exact (hl a rfl).symm
      | cons c r => exact h2 q (by simpa using hq)
    · refine ih h3 fun q hq => hl q ?_
      cases r with
      | nil => cases hq
      | cons c r => rw [List.getLast?_cons_cons]; exact hq
theorem mgd_front {f g : List Pc} (h : Mgd (f ++ g)) : Mgd f := by
  induction f with
  | nil => trivial
  | cons a r ih =>
    obtain ⟨h1, h2, h3⟩ := h
    refine ⟨h1, fun q hq => h2 q ?_, ih h3⟩
    cases r with
    | nil => cases hq
    | cons c r => simpa using hq
theorem mgd_back {f g : List Pc} (h : Mgd (f ++ g)) : Mgd g := by
  induction f with
  | nil => exact h
  | cons a r ih => exact ih h.2.2
theorem mgd_at {f : List Pc} (h : Mgd f) (i : Nat) (h0 : 0 < i) (hi : i < f.length) : (f.getD i zp).1 ≠ (f.getD (i - 1) zp).1 := by
  obtain ⟨j, rfl⟩ : ∃ j, i = j + 1 := ⟨i - 1, by omega⟩
  have e : f.drop j = f[j] :: f[j + 1] :: f.drop (j + 2) := by rw [List.drop_eq_getElem_cons (by omega), List.drop_eq_getElem_cons hi]
  have hm : Mgd (f.drop j) := by
    refine mgd_back (f := f.take j) ?_
    rw [List.take_append_drop]; exact h
  rw [e] at hm
  have := hm.2.1 _ rfl
  simpa [List.getD_eq_getElem?_getD, List.getElem?_eq_getElem hi, List.getElem?_eq_getElem (show j < f.length by omega)] using this
/-- Merged as far as it has been looked at. -/
theorem mgd_next {f : List Pc} {i : Nat} (h : Mgd (f.take i)) (hi : i < f.length) (h1 : 1 ≤ (f.getD i zp).2) (h2 : 0 < i → (f.getD i zp).1 ≠ (f.getD (i - 1) zp).1) : Mgd (f.take (i + 1)) := by
  have e : f.take (i + 1) = f.take i ++ [f.getD i zp] := by
    rw [List.take_add_one, List.getElem?_eq_getElem hi]
    simp [List.getD_eq_getElem?_getD, List.getElem?_eq_getElem hi]
  rw [e]
  refine mgd_snoc h h1 fun q hq => ?_
  rcases Nat.eq_zero_or_pos i with rfl | h0
  · simp at hq
  · have hl : (f.take i).getLast? = some (f.getD (i - 1) zp) := by
      rw [List.getLast?_eq_getElem?, List.length_take, Nat.min_eq_left (by omega), List.getElem?_take, if_pos (by omega)]
      simp [List.getD_eq_getElem?_getD, List.getElem?_eq_getElem (show i - 1 < f.length by omega)]
    rw [hl] at hq
    injection hq with hq
    subst hq
    exact (h2 h0).symm
theorem take_next {f : List Pc} {i : Nat} (hi : i < f.length) : f.take (i + 1) = f.take i ++ [f.getD i zp] := by
  rw [List.take_add_one, List.getElem?_eq_getElem hi]
  simp [List.getD_eq_getElem?_getD, List.getElem?_eq_getElem hi]
theorem getD_mem {f : List Pc} {i : Nat} (hi : i < f.length) : f.getD i zp ∈ f := by
  simp [List.getD_eq_getElem?_getD, List.getElem?_eq_getElem hi]
theorem val_mer {l : List Int} (h1 : (mer l).length ≤ 200) (h2 : ∀ b ∈ l, 0 ≤ b ∧ b < 1000) (h3 : l.length ≤ 1000000) : Val (mer l) := by
  have hp := (mer_mgd l).pos
  have hv : vol (mer l) = (l.length : Int) := by rw [← lit_len hp, lit_mer]
  refine ⟨h1, fun p hm => ?_, mer_mgd l, by omega⟩
  have ho := (mer_mgd l).one p hm
  have hb : p.1 ∈ l := by
    rw [← lit_mer l]
    obtain ⟨a, b, e⟩ := List.append_of_mem hm
    rw [e, lit_app]
    refine List.mem_append_right _ (List.mem_append_left _ (List.mem_replicate.2 ⟨by omega, rfl⟩))
  have hle : p.2 ≤ vol (mer l) := by
    obtain ⟨a, b, e⟩ := List.append_of_mem hm
    rw [e] at hp ⊢
    rw [vol_app, vol]
    have h5 := vol_pos (f := a) (fun q hq => hp q (List.mem_append_left _ hq))
    have h6 := vol_pos (f := b) (fun q hq => hp q (List.mem_append_right _ (by simp [hq])))
    omega
  obtain ⟨h5, h6⟩ := h2 _ hb
  exact ⟨h5, h6, ho, by omega⟩
theorem Val.lits {f : List Pc} (h : Val f) : ∀ b ∈ lit f, 0 ≤ b ∧ b < 1000 := by
  intro b hb
  obtain ⟨p, hp, e, _⟩ := lit_mem hb
  have := h.ok p hp
  rw [← e]; exact ⟨this.1, this.2.1⟩
theorem Val.litlen {f : List Pc} (h : Val f) : (lit f).length ≤ 1000000 := by have := lit_len h.pos; have := h.vol; omega

/-! ## Joining, one piece after another -/
def jstep (out : List Pc) (p : Pc) : List Pc :=
  if p.2 = 0 then out else
    match out.getLast? with
    | none => [p]
    | some q => if q.1 = p.1 then out.dropLast ++ [(q.1, q.2 + p.2)] else out ++ [p]
theorem jstep_mer {l : List Int} {p : Pc} (h : 0 ≤ p.2) : jstep (mer l) p = mer (l ++ List.replicate p.2.toNat p.1) := by
  unfold jstep
  split
  · rename_i e; rw [e]; simp
  · rename_i e
    split
    · rename_i hn
      rw [List.getLast?_eq_none_iff] at hn
      have hl : l = [] := by rw [← lit_mer l, hn]; rfl
      subst hl
      rw [List.nil_append]
      refine mgd_ext ⟨by omega, fun q hq => (by cases hq), trivial⟩ (mer_mgd _) ?_
      rw [lit_mer, lit_one]
    · rename_i q hq
      have hd : mer l = (mer l).dropLast ++ [q] := by
        obtain ⟨hne, e2⟩ := List.getLast?_eq_some_iff.1 hq
        rw [e2]; simp
      split
      · rename_i eb
        have hm := mer_mgd l
        rw [hd] at hm
        have hq1 := hm.one q (by simp)
        refine mgd_ext ?_ (mer_mgd _) ?_
        · refine mgd_snoc (mgd_front hm) (by dsimp only; omega) fun x hx => ?_
          have key : ∀ (a : List Pc), Mgd (a ++ [q]) → ∀ x, a.getLast? = some x → x.1 ≠ q.1 := by
            intro a ha x hx
            obtain ⟨c, rfl⟩ := List.getLast?_eq_some_iff.1 hx
            rw [List.append_assoc] at ha
            have := (mgd_back ha).2.1 q rfl
            exact this.symm
          exact key _ hm x hx
        · rw [lit_mer, lit_app, lit_one]
          have e3 : l = lit (mer l).dropLast ++ List.replicate q.2.toNat q.1 := by
            have := congrArg lit hd
            rw [lit_mer, lit_app, lit_one] at this
            exact this
          conv => rhs; rw [e3, List.append_assoc, ← eb]
          congr 1
          rw [show (q.2 + p.2).toNat = q.2.toNat + p.2.toNat by omega, List.replicate_append_replicate]
      · rename_i eb
        refine mgd_ext (mgd_snoc (mer_mgd l) (by omega) fun x hx => ?_) (mer_mgd _) ?_
        · rw [hq] at hx; injection hx with hx; subst hx; exact eb
        · rw [lit_app, lit_mer, lit_mer, lit_one]
theorem join_next {f : List Pc} {i : Nat} (hi : i < f.length) (h : Pos f) : jstep (mer (lit (f.take i))) (f.getD i zp) = mer (lit (f.take (i + 1))) := by
  rw [jstep_mer (h _ (getD_mem hi)), take_next hi, lit_app, lit_one]

/-! ## Splitting -/
def left (k : Int) : List Pc → Int
  | [] => k
  | p :: f => left (k - min k p.2) f
def cutA (k : Int) : List Pc → List Pc
  | [] => []
  | p :: f => (p.1, min k p.2) :: cutA (k - min k p.2) f
def cutB (k : Int) : List Pc → List Pc
  | [] => []
  | p :: f => (p.1, p.2 - min k p.2) :: cutB (k - min k p.2) f
theorem left_snoc (f : List Pc) (p : Pc) : ∀ k, left k (f ++ [p]) = left k f - min (left k f) p.2 := by
  induction f with
  | nil => intro k; rfl
  | cons a r ih => intro k; simp only [List.cons_append, left, ih]
theorem cutA_snoc (f : List Pc) (p : Pc) : ∀ k, cutA k (f ++ [p]) = cutA k f ++ [(p.1, min (left k f) p.2)] := by
  induction f with
  | nil => intro k; rfl
  | cons a r ih => intro k; simp only [List.cons_append, cutA, left, ih]
theorem cutB_snoc (f : List Pc) (p : Pc) : ∀ k, cutB k (f ++ [p]) = cutB k f ++ [(p.1, p.2 - min (left k f) p.2)] := by
  induction f with
  | nil => intro k; rfl
  | cons a r ih => intro k; simp only [List.cons_append, cutB, left, ih]
theorem cut_len (f : List Pc) : ∀ k, (cutA k f).length = f.length ∧ (cutB k f).length = f.length := by
  induction f with
  | nil => intro k; exact ⟨rfl, rfl⟩
  | cons a r ih => intro k; simp only [cutA, cutB, List.length_cons, (ih _).1, (ih _).2]; exact ⟨trivial, trivial⟩
theorem left_range (f : List Pc) (h : Pos f) : ∀ k, 0 ≤ k → 0 ≤ left k f ∧ left k f ≤ k := by
  induction f with
  | nil => intro k hk; exact ⟨hk, Int.le_refl _⟩
  | cons a r ih =>
    intro k hk
    obtain ⟨h1, h2⟩ := h.tail
    have := ih h2 (k - min k a.2) (by omega)
    simp only [left]
    omega
theorem cut_pos (f : List Pc) (h : Pos f) : ∀ k, 0 ≤ k → Pos (cutA k f) ∧ Pos (cutB k f) := by
  induction f with
  | nil => intro k _; exact ⟨Pos.nil, Pos.nil⟩
  | cons a r ih =>
    intro k hk
    obtain ⟨h1, h2⟩ := h.tail
    obtain ⟨h3, h4⟩ := ih h2 (k - min k a.2) (by omega)
    exact ⟨Pos.app (f := [_]) (Pos.one (by dsimp only; omega)) h3, Pos.app (f := [_]) (Pos.one (by dsimp only; omega)) h4⟩
theorem cut_lit (f : List Pc) (h : Pos f) : ∀ k, 0 ≤ k → lit (cutA k f) = (lit f).take k.toNat ∧ lit (cutB k f) = (lit f).drop k.toNat := by
  induction f with
  | nil => intro k _; simp [cutA, cutB, lit]
  | cons a r ih =>
    intro k hk
    obtain ⟨h1, h2⟩ := h.tail
    obtain ⟨h3, h4⟩ := ih h2 (k - min k a.2) (by omega)
    simp only [cutA, cutB, lit, h3, h4]
    rw [List.take_append, List.drop_append, List.length_replicate, List.take_replicate, List.drop_replicate]
    have e1 : (min k a.2).toNat = min k.toNat a.2.toNat := by omega
    have e2 : (a.2 - min k a.2).toNat = a.2.toNat - k.toNat := by omega
    have e3 : (k - min k a.2).toNat = k.toNat - a.2.toNat := by omega
    rw [e1, e2, e3]
    exact ⟨rfl, rfl⟩

/-! ## Places -/
/-- The litre with the number k. -/
def at_ (l : List Int) (k : Int) : Int := if k < 0 then -1 else l.getD k.toNat (-1)
theorem at_neg (l : List Int) {k : Int} (h : k < 0) : at_ l k = -1 := if_pos h
theorem at_end {l : List Int} {k : Int} (h : (l.length : Int) ≤ k) : at_ l k = -1 := by
  unfold at_
  rw [if_neg (by omega), List.getD_eq_getElem?_getD, List.getElem?_eq_none (by omega)]; rfl
theorem vol_take_le {f : List Pc} (h : Pos f) (k : Nat) : 0 ≤ vol (f.take k) ∧ vol (f.take k) ≤ vol f := by
  have e := vol_app (f.take k) (f.drop k)
  rw [List.take_append_drop] at e
  have h1 := vol_pos (h.take k)
  have h2 := vol_pos (f := f.drop k) (fun p hp => h p (List.mem_of_mem_drop hp))
  omega
theorem vol_next {f : List Pc} {k : Nat} (hk : k < f.length) : vol (f.take (k + 1)) = vol (f.take k) + (f.getD k zp).2 := by rw [take_next hk, vol_app, vol_one]
theorem of_next (b : Int) {f : List Pc} {k : Nat} (hk : k < f.length) : of b (f.take (k + 1)) = of b (f.take k) + (if (f.getD k zp).1 = b then (f.getD k zp).2 else 0) := by
  rw [take_next hk, of_app]; simp [of]
theorem of_range (b : Int) {f : List Pc} (h : Pos f) : 0 ≤ of b f ∧ of b f ≤ vol f := by
  induction f with
  | nil => simp [of, vol]
  | cons p r ih =>
    obtain ⟨h1, h2⟩ := h.tail
    have := ih h2
    simp only [of, vol]
    split <;> omega
theorem at_here {f : List Pc} (h : Pos f) {k : Nat} (hk : k < f.length) {x : Int} (h1 : vol (f.take k) ≤ x) (h2 : x < vol (f.take k) + (f.getD k zp).2) : at_ (lit f) x = (f.getD k zp).1 := by
  have h0 := vol_pos (h.take k)
  unfold at_
  rw [if_neg (by omega)]
  have e : f = f.take k ++ (f.getD k zp :: f.drop (k + 1)) := by
    conv => lhs; rw [← List.take_append_drop k f, List.drop_eq_getElem_cons hk]
    simp [List.getD_eq_getElem?_getD, List.getElem?_eq_getElem hk]
  have hl := lit_len (h.take k)
  rw [List.getD_eq_getElem?_getD]
  conv => lhs; rw [e, lit_app, lit]
  rw [List.getElem?_append_right (by omega), List.getElem?_append_left (by rw [List.length_replicate]; omega), List.getElem?_replicate, if_pos (by omega)]
  rfl

/-! ## Pushing -/
/-- The new fill and what leaves, as litres. -/
def shift (f g : List Int) (back : Bool) : List Int × List Int :=
  if back then ((f ++ g).drop g.length, (f ++ g).take g.length) else ((g ++ f).take f.length, (g ++ f).drop f.length)
theorem shift_len (f g : List Int) (back : Bool) : (shift f g back).1.length = f.length ∧ (shift f g back).2.length = g.length := by
  unfold shift
  cases back <;> simp
theorem shift_mem {f g : List Int} {back : Bool} {b : Int} (h : b ∈ (shift f g back).1 ∨ b ∈ (shift f g back).2) : b ∈ f ∨ b ∈ g := by
  unfold shift at h
  cases back
  · rcases h with h | h
    · have := List.mem_of_mem_take h; simpa [Or.comm] using this
    · have := List.mem_of_mem_drop h; simpa [Or.comm] using this
  · rcases h with h | h
    · have := List.mem_of_mem_drop h; simpa using this
    · have := List.mem_of_mem_take h; simpa using this
theorem shift_count (f g : List Int) (back : Bool) (b : Int) : f.count b + g.count b = (shift f g back).1.count b + (shift f g back).2.count b := by
  unfold shift
  cases back
  · simp only [Bool.false_eq_true, if_false]
    have h := congrArg (List.count b) (List.take_append_drop f.length (g ++ f))
    rw [List.count_append, List.count_append] at h; omega
  · simp only [if_true]
    have h := congrArg (List.count b) (List.take_append_drop g.length (f ++ g))
    rw [List.count_append, List.count_append] at h; omega
/-- What has left comes back. -/
theorem shift_undo (f g : List Int) (back : Bool) : shift (shift f g back).1 (shift f g back).2 (!back) = (f, g) := by
  have h1 := (shift_len f g back).1
  have h2 := (shift_len f g back).2
  cases back
  · unfold shift at *
    simp only [Bool.false_eq_true, if_false, Bool.not_false, if_true, List.take_append_drop] at *
    rw [h2]
    simp
  · unfold shift at *
    simp only [Bool.false_eq_true, if_false, Bool.not_true, if_true, List.take_append_drop] at *
    rw [h1]
    simp
theorem shift_nil (f : List Int) (back : Bool) : shift f [] back = (f, []) := by
  unfold shift; cases back <;> simp
theorem shift_all (f g : List Int) (back : Bool) (h : f.length = g.length) : shift f g back = (g, f) := by
  unfold shift
  cases back
  · simp [h]
  · simp [← h]
theorem shift_pieces (f g : List Int) (back : Bool) : (mer (shift f g back).1).length ≤ (mer f).length + (mer g).length ∧ (mer (shift f g back).2).length ≤ (mer f).length + (mer g).length := by
  have e := mer_app_len f g
  have e2 := mer_app_len g f
  unfold shift
  cases back
  · simp only [Bool.false_eq_true, if_false]
    have := mer_take_len (g ++ f) f.length
    have := mer_drop_len (g ++ f) f.length
    omega
  · simp only [if_true]
    have := mer_take_len (f ++ g) g.length
    have := mer_drop_len (f ++ g) g.length
    omega
/-- In two parts: behind each other. -/
theorem shift_two_back (f g h : List Int) : (shift (shift f g true).1 h true).1 = (shift f (g ++ h) true).1 ∧ (shift f g true).2 ++ (shift (shift f g true).1 h true).2 = (shift f (g ++ h) true).2 := by
  unfold shift
  simp only [if_true, List.length_append]
  have e : List.drop g.length (f ++ g) ++ h = List.drop g.length (f ++ (g ++ h)) := by
    rw [← List.append_assoc f g h, List.drop_append_of_le_length (l₁ := f ++ g) (by simp)]
  refine ⟨?_, ?_⟩
  · rw [e, List.drop_drop]
  · rw [e, ← List.append_assoc f g h]
    rw [show List.take g.length (f ++ g) = List.take g.length (f ++ g ++ h) by rw [List.take_append_of_le_length (l₁ := f ++ g) (by simp)]]
    rw [List.append_assoc f g h, ← List.take_add]
theorem shift_two_front (f g h : List Int) : (shift (shift f h false).1 g false).1 = (shift f (g ++ h) false).1 ∧ (shift (shift f h false).1 g false).2 ++ (shift f h false).2 = (shift f (g ++ h) false).2 := by
  unfold shift
  simp only [Bool.false_eq_true, if_false, List.length_take, List.length_append]
  have hm : min f.length (h.length + f.length) = f.length := by omega
  rw [hm]
  have hlen : ∀ x : List Int, f.length ≤ (x ++ f).length := fun x => by simp
  -- A = h ++ f
  generalize hA : h ++ f = A
  have hl : f.length ≤ A.length := by rw [← hA]; simp
  generalize f.length = n at *
  rw [List.append_assoc, hA]
  refine ⟨?_, ?_⟩
  · rw [List.take_append, List.take_append, List.take_take]
    congr 2; omega
  · rw [List.drop_append, List.drop_append]
    have e : List.drop (n - g.length) (List.take n A) ++ List.drop n A = List.drop (n - g.length) A := by
      conv => rhs; rw [← List.take_append_drop n A]
      rw [List.drop_append_of_le_length]
      rw [List.length_take]; omega
    rw [List.append_assoc, e]
end Go.Proofs.Ytafkagaakjfkoaa.Fm
