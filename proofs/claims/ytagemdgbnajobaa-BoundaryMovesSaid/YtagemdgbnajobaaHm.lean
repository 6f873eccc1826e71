/- Plain mathematics of package boundary. No program is named here. -/
import Derived.Test.YtagemdgbnajobaaFm
namespace Go.Proofs.Ytagemdgbnajobaa.Bm
open Fm (Pc zp lit mer vol of Pos Mgd Val)

/-! ## Boundaries -/
abbrev Bd := Int × Int × Int
def zb : Bd := (0, 0, 0)
/-- The boundary behind the piece with the number i. -/
def bd (f : List Pc) (i : Nat) : Bd := (vol (f.take (i + 1)), (f.getD i zp).1, (f.getD (i + 1) zp).1)
/-- The first k boundaries. -/
def bds (f : List Pc) (k : Nat) : List Bd := (List.range k).map (bd f)
/-- The boundaries of a fill. -/
def bnd (f : List Pc) : List Bd := bds f (f.length - 1)
theorem bds_zero (f : List Pc) : bds f 0 = [] := rfl
theorem bds_next (f : List Pc) (k : Nat) : bds f (k + 1) = bds f k ++ [bd f k] := by unfold bds; rw [List.range_succ, List.map_append]; rfl
theorem bds_len (f : List Pc) (k : Nat) : (bds f k).length = k := by unfold bds; simp
theorem bnd_len (f : List Pc) : (bnd f).length = f.length - 1 := bds_len _ _
theorem bds_get (f : List Pc) {k i : Nat} (h : i < k) : (bds f k).getD i zb = bd f i := by
  unfold bds
  simp [List.getD_eq_getElem?_getD, h]
theorem bnd_get (f : List Pc) {i : Nat} (h : i + 1 < f.length) : (bnd f).getD i zb = bd f i := bds_get f (by omega)

/-- On both sides of a boundary lie its batches. -/
theorem bd_sides {f : List Pc} (h : Mgd f) {i : Nat} (hi : i + 1 < f.length) :
    Fm.at_ (lit f) ((bd f i).1 - 1) = (bd f i).2.1 ∧ Fm.at_ (lit f) (bd f i).1 = (bd f i).2.2 ∧ (bd f i).2.1 ≠ (bd f i).2.2 := by
  have e1 := Fm.vol_next (f := f) (k := i) (by omega)
  have y1 := h.one _ (Fm.getD_mem (f := f) (i := i) (by omega))
  have y2 := h.one _ (Fm.getD_mem (f := f) (i := i + 1) (by omega))
  refine ⟨Fm.at_here h.pos (k := i) (by omega) ?_ ?_, Fm.at_here h.pos (k := i + 1) (by omega) ?_ ?_, ?_⟩
  · show vol (f.take i) ≤ vol (f.take (i + 1)) - 1; omega
  · show vol (f.take (i + 1)) - 1 < _; omega
  · exact Int.le_refl _
  · show vol (f.take (i + 1)) < _; omega
  · have := Fm.mgd_at h (i + 1) (by omega) (by omega)
    exact fun e => this e.symm

/-! ## What is ahead -/
/-- The litres ahead of the first one of the batch b, s more ahead of the list. -/
def ahd (b : Int) : Int → List Pc → Option Int
  | _, [] => none
  | s, p :: r => if p.1 = b then some s else ahd b (s + p.2) r
theorem ahd_app (b : Int) (f : List Pc) (p : Pc) : ∀ s, ahd b s (f ++ [p]) = (match ahd b s f with | some n => some n | none => if p.1 = b then some (s + vol f) else none) := by
  induction f with
  | nil => intro s; simp [ahd, vol]
  | cons q r ih =>
    intro s
    simp only [List.cons_append, ahd]
    split
    · rfl
    · rw [ih, vol, Int.add_assoc]
theorem ahd_none {b : Int} {f : List Pc} : ∀ {s}, ahd b s f = none → ∀ p ∈ f, p.1 ≠ b := by
  induction f with
  | nil => intro s _ p hp; cases hp
  | cons q r ih =>
    intro s h p hp
    rw [ahd] at h
    split at h
    · cases h
    · rename_i hq
      rcases List.mem_cons.1 hp with rfl | e
      · exact hq
      · exact ih h p e
theorem none_ahd {b : Int} {f : List Pc} (h : ∀ p ∈ f, p.1 ≠ b) : ∀ s, ahd b s f = none := by
  induction f with
  | nil => intro s; rfl
  | cons q r ih =>
    intro s
    rw [ahd, if_neg (h q (by simp)), ih fun p hp => h p (by simp [hp])]
theorem ahd_lit {b : Int} {f : List Pc} (h : ∀ p ∈ f, 1 ≤ p.2) : ∀ {s n}, ahd b s f = some n → ∃ m : Nat, n = s + m ∧ m < (lit f).length ∧ b ∉ (lit f).take m ∧ (lit f)[m]? = some b := by
  induction f with
  | nil => intro s n hn; cases hn
  | cons q r ih =>
    intro s n hn
    have hq := h q (by simp)
    rw [ahd] at hn
    split at hn
    · rename_i e
      cases hn
      obtain ⟨k, hk⟩ : ∃ k : Nat, q.2.toNat = k + 1 := ⟨q.2.toNat - 1, by omega⟩
      refine ⟨0, by omega, ?_, by simp, ?_⟩
      · simp only [lit, List.length_append, List.length_replicate]; omega
      · simp only [lit, hk, List.replicate_succ, List.cons_append]
        simp [e]
    · rename_i e
      obtain ⟨m, h1, h2, h3, h4⟩ := ih (fun p hp => h p (by simp [hp])) hn
      refine ⟨q.2.toNat + m, by omega, ?_, ?_, ?_⟩
      · simp only [lit, List.length_append, List.length_replicate]; omega
      · simp only [lit]
        rw [List.take_append, List.length_replicate, show q.2.toNat + m - q.2.toNat = m by omega]
        intro hb
        rcases List.mem_append.1 hb with x | x
        · have := List.mem_of_mem_take x
          exact e (List.mem_replicate.1 this).2.symm
        · exact h3 x
      · simp only [lit]
        rw [List.getElem?_append_right (by rw [List.length_replicate]; omega), List.length_replicate, show q.2.toNat + m - q.2.toNat = m by omega]
        exact h4

/-! ## Turned round -/
theorem lit_reverse (f : List Pc) : lit f.reverse = (lit f).reverse := by
  induction f with
  | nil => rfl
  | cons p r ih => rw [List.reverse_cons, Fm.lit_app, ih, Fm.lit_one, lit, List.reverse_append, List.reverse_replicate]
theorem vol_reverse (f : List Pc) : vol f.reverse = vol f := by
  induction f with
  | nil => rfl
  | cons p r ih => rw [List.reverse_cons, Fm.vol_app, ih, Fm.vol_one, vol]; omega
theorem mgd_reverse {f : List Pc} (h : Mgd f) : Mgd f.reverse := by
  induction f with
  | nil => trivial
  | cons p r ih =>
    rw [List.reverse_cons]
    refine Fm.mgd_snoc (ih h.2.2) h.1 fun q hq => ?_
    rw [List.getLast?_reverse] at hq
    exact h.2.1 q hq
theorem val_reverse {f : List Pc} (h : Val f) : Val f.reverse :=
  ⟨by rw [List.length_reverse]; exact h.len, fun p hp => h.ok p (List.mem_reverse.1 hp), mgd_reverse h.mgd, by rw [vol_reverse]; exact h.vol⟩
theorem getD_reverse {f : List Pc} {i : Nat} (h : i < f.length) : f.reverse.getD i zp = f.getD (f.length - 1 - i) zp := by
  rw [List.getD_eq_getElem?_getD, List.getD_eq_getElem?_getD, List.getElem?_reverse h]
theorem vol_turned {f : List Pc} {k : Nat} (hk : k ≤ f.length) : vol (f.reverse.take k) = vol f - vol (f.take (f.length - k)) := by
  have e : f.reverse.take k = (f.drop (f.length - k)).reverse := by
    rw [List.reverse_drop]
    congr 1; omega
  rw [e, vol_reverse]
  have := Fm.vol_app (f.take (f.length - k)) (f.drop (f.length - k))
  rw [List.take_append_drop] at this
  omega
/-- The boundaries of a turned fill. -/
theorem bd_turned {f : List Pc} {k : Nat} (hk : k + 1 < f.length) :
    (bd f k).1 = vol f - (bd f.reverse (f.length - 2 - k)).1 ∧ (bd f k).2.1 = (bd f.reverse (f.length - 2 - k)).2.2 ∧ (bd f k).2.2 = (bd f.reverse (f.length - 2 - k)).2.1 := by
  refine ⟨?_, ?_, ?_⟩
  · show vol (f.take (k + 1)) = vol f - vol (f.reverse.take (f.length - 2 - k + 1))
    rw [vol_turned (by omega), show f.length - (f.length - 2 - k + 1) = k + 1 by omega]; omega
  · show (f.getD k zp).1 = (f.reverse.getD (f.length - 2 - k + 1) zp).1
    rw [getD_reverse (by omega), show f.length - 1 - (f.length - 2 - k + 1) = k by omega]
  · show (f.getD (k + 1) zp).1 = (f.reverse.getD (f.length - 2 - k) zp).1
    rw [getD_reverse (by omega), show f.length - 1 - (f.length - 2 - k) = k + 1 by omega]

/-! ## Behind a push of what is ahead -/
theorem of_zero {b : Int} {f : List Pc} (h : ∀ p ∈ f, 1 ≤ p.2) : of b f = 0 ↔ ∀ p ∈ f, p.1 ≠ b := by
  induction f with
  | nil => simp [of]
  | cons p r ih =>
    have h1 := h p (by simp)
    have h2 := Fm.of_range b (f := r) (fun q hq => by have := h q (by simp [hq]); omega)
    have h3 := ih fun q hq => h q (by simp [hq])
    simp only [of]
    constructor
    · intro e q hq
      split at e
      · omega
      · rename_i hn
        rcases List.mem_cons.1 hq with rfl | x
        · exact hn
        · exact h3.1 (by omega) q x
    · intro e
      rw [if_neg (e p (by simp)), h3.2 fun q hq => e q (by simp [hq])]; omega
theorem of_mer (b : Int) (l : List Int) : of b (mer l) = (l.count b : Int) := by rw [Fm.of_lit b (Fm.mer_mgd l).pos, Fm.lit_mer]
theorem of_none {b : Int} {l : List Int} (h : b ∉ l) : of b (mer l) = 0 := by rw [of_mer, List.count_eq_zero.2 h]; rfl
/-- What has left, and what lies at the end: m litres were ahead of the batch b in l (the litres as they leave). -/
theorem shift_ahead {l x : List Int} {b : Int} {m : Nat} {back : Bool} (hx : x.length = m) (hm : m < l.length) (h1 : b ∉ ((if back then l else l.reverse) : List Int).take m) (h2 : ((if back then l else l.reverse) : List Int)[m]? = some b) :
    b ∉ (Fm.shift l x back).2 ∧ Fm.at_ (Fm.shift l x back).1 (if back then 0 else (l.length : Int) - 1) = b := by
  cases back with
  | true =>
    simp only [if_true] at h1 h2 ⊢
    unfold Fm.shift Fm.at_
    simp only [if_true]
    rw [hx]
    refine ⟨?_, ?_⟩
    · rw [List.take_append_of_le_length (by omega)]; exact h1
    · rw [if_neg (by omega), List.getD_eq_getElem?_getD, List.getElem?_drop, show m + (0 : Int).toNat = m by omega, List.getElem?_append_left (by omega), h2]; rfl
  | false =>
    simp only [Bool.false_eq_true, if_false] at h1 h2 ⊢
    unfold Fm.shift Fm.at_
    simp only [Bool.false_eq_true, if_false]
    refine ⟨?_, ?_⟩
    · rw [List.drop_append, hx, List.drop_of_length_le (by omega), List.nil_append]
      rw [List.take_reverse, List.mem_reverse] at h1
      exact h1
    · rw [if_neg (by omega), List.getD_eq_getElem?_getD, List.getElem?_take, if_pos (by omega), List.getElem?_append_right (by omega), hx]
      rw [List.getElem?_reverse (by omega)] at h2
      rw [show ((l.length : Int) - 1).toNat - m = l.length - 1 - m by omega, h2]; rfl

/-! ## Behind a push at the beginning -/
/-- The first K litres of a fill as pieces: f's, the last one cut. -/
structure Front (f c : List Pc) (K : Int) : Prop where
  pos : 1 ≤ c.length
  le : c.length ≤ f.length
  b : ∀ i, i < c.length → (c.getD i zp).1 = (f.getD i zp).1
  v : ∀ i, i < c.length → vol (c.take i) = vol (f.take i)
  lo : vol (f.take (c.length - 1)) < K
  hi : K ≤ vol (f.take c.length)
theorem front_of {f : List Pc} (hm : Mgd f) : ∀ {K : Int}, 1 ≤ K → K ≤ vol f → ∃ c, lit c = (lit f).take K.toNat ∧ Mgd c ∧ Front f c K := by
  induction f with
  | nil => intro K h1 h2; simp [vol] at h2; omega
  | cons p r ih =>
    intro K h1 h2
    obtain ⟨m1, m2, m3⟩ := hm
    by_cases e : K ≤ p.2
    · refine ⟨[(p.1, K)], ?_, ⟨h1, fun q hq => by simp at hq, trivial⟩, ?_⟩
      · rw [Fm.lit_one]
        simp only [lit]
        rw [List.take_append_of_le_length (by rw [List.length_replicate]; omega), List.take_replicate, show min K.toNat p.2.toNat = K.toNat by omega]
      · refine ⟨by simp, by simp, fun i hi => ?_, fun i hi => ?_, ?_, ?_⟩
        · obtain rfl : i = 0 := by simpa using hi
          rfl
        · obtain rfl : i = 0 := by simpa using hi
          rfl
        · simp [vol]; omega
        · simp [vol]; omega
    · obtain ⟨c, h3, h4, h5⟩ := ih m3 (K := K - p.2) (by omega) (by simp only [vol] at h2; omega)
      obtain ⟨c0, cr, rfl⟩ : ∃ a b, c = a :: b := by
        cases c with
        | nil => have := h5.pos; simp at this
        | cons a b => exact ⟨a, b, rfl⟩
      have hb0 := h5.b 0 (by simp)
      refine ⟨p :: c0 :: cr, ?_, ⟨m1, fun q hq => ?_, h4⟩, ⟨by simp, by have := h5.le; simp only [List.length_cons] at this ⊢; omega, fun i hi => ?_, fun i hi => ?_, ?_, ?_⟩⟩
      · rw [lit, h3]
        simp only [lit]
        rw [List.take_append, List.length_replicate, show K.toNat - p.2.toNat = (K - p.2).toNat by omega, List.take_of_length_le (l := List.replicate _ _) (by rw [List.length_replicate]; omega)]
      · simp at hq
        subst hq
        cases r with
        | nil => have := h5.le; simp at this
        | cons q r => simp at hb0; rw [hb0]; exact m2 q rfl
      · cases i with
        | zero => rfl
        | succ i => simp only [List.getD_cons_succ]; exact h5.b i (by simpa using hi)
      · cases i with
        | zero => rfl
        | succ i => simp only [List.take_succ_cons, vol]; rw [h5.v i (by simpa using hi)]
      · have := h5.lo
        simp only [List.length_cons, Nat.add_sub_cancel, List.take_succ_cons, vol] at this ⊢
        omega
      · have := h5.hi
        simp only [List.length_cons, List.take_succ_cons, vol] at this ⊢
        omega
/-- The boundaries of a fill of n litres behind a push of k litres of the batch 9 at its beginning, as far as the fill's first j boundaries have been looked at. -/
def moved (f : List Pc) (n k : Int) : Nat → List Bd
  | 0 => if k < n ∧ 0 < f.length then [(k, 9, (f.getD 0 zp).1)] else []
  | j + 1 => if (bd f j).1 + k < n then moved f n k j ++ [((bd f j).1 + k, (bd f j).2.1, (bd f j).2.2)] else moved f n k j
theorem vol_mono {f : List Pc} (h : Pos f) {i j : Nat} (hij : i ≤ j) : vol (f.take i) ≤ vol (f.take j) := by
  have e : f.take j = f.take i ++ (f.take j).drop i := by
    conv => lhs; rw [← List.take_append_drop i (f.take j)]
    rw [List.take_take, Nat.min_eq_left hij]
  rw [e, Fm.vol_app]
  have := Fm.vol_pos (f := (f.take j).drop i) (fun p hp => h p (List.mem_of_mem_take (List.mem_of_mem_drop hp)))
  omega
theorem moved_len (f : List Pc) (n k : Int) : ∀ j, (moved f n k j).length ≤ j + 1 := by
  intro j
  induction j with
  | zero => unfold moved; split <;> simp
  | succ j ih =>
    rw [moved]
    split
    · rw [List.length_append, List.length_singleton]; omega
    · omega
theorem moved_bnd {f : List Pc} (hm : Mgd f) (hb : ∀ p ∈ f, p.1 ≠ 9) {k : Int} (hk : 1 ≤ k) (hf : 0 < f.length) :
    bnd (mer ((List.replicate k.toNat (9 : Int) ++ lit f).take (lit f).length)) = moved f (vol f) k (f.length - 1) := by
  have hl := Fm.lit_len hm.pos
  by_cases e : k < vol f
  · obtain ⟨c, c1, c2, F⟩ := front_of hm (K := vol f - k) (by omega) (by omega)
    have hc : (List.replicate k.toNat (9 : Int) ++ lit f).take (lit f).length = lit ((9, k) :: c) := by
      simp only [lit]
      rw [List.take_append, List.length_replicate, List.take_of_length_le (l := List.replicate _ _) (by rw [List.length_replicate]; omega), c1]
      congr 2; omega
    have cm : Mgd ((9, k) :: c) := by
      refine ⟨hk, fun q hq => ?_, c2⟩
      have h0 := F.b 0 F.pos
      have hq2 : c.getD 0 zp = q := by
        cases c with
        | nil => cases hq
        | cons a b => simp at hq; subst hq; rfl
      rw [hq2] at h0
      rw [h0]
      exact hb _ (Fm.getD_mem (by omega))
    rw [hc, Fm.mer_lit cm]
    have key : ∀ j, moved f (vol f) k j = bds ((9, k) :: c) (1 + min j (c.length - 1)) := by
      intro j
      induction j with
      | zero =>
        rw [moved, if_pos ⟨e, hf⟩, Nat.zero_min]
        have h0 := F.b 0 F.pos
        show [_] = [bd ((9, k) :: c) 0]
        unfold bd
        simp only [List.take_succ_cons, List.take_zero, vol, List.getD_cons_zero, List.getD_cons_succ, h0]
        simp
      | succ j ih =>
        rw [moved, ih]
        have lo := F.lo
        have hi := F.hi
        have cl := F.pos
        by_cases g : j + 1 < c.length
        · have h1 : (bd f j).1 + k < vol f := by
            have := vol_mono hm.pos (show j + 1 ≤ c.length - 1 by omega)
            show vol (f.take (j + 1)) + k < vol f
            omega
          rw [if_pos h1, show 1 + min (j + 1) (c.length - 1) = (1 + min j (c.length - 1)) + 1 by omega, bds_next, show 1 + min j (c.length - 1) = j + 1 by omega]
          congr 2
          unfold bd
          simp only [List.take_succ_cons, vol, List.getD_cons_succ]
          rw [F.v (j + 1) g, F.b j (by omega), F.b (j + 1) g, Int.add_comm]
        · have h1 : ¬ (bd f j).1 + k < vol f := by
            have := vol_mono hm.pos (show c.length ≤ j + 1 by omega)
            show ¬ vol (f.take (j + 1)) + k < vol f
            omega
          rw [if_neg h1, show min (j + 1) (c.length - 1) = min j (c.length - 1) by omega]
    rw [key, bnd, show min (f.length - 1) (c.length - 1) = c.length - 1 by have := F.le; omega]
    have := F.pos
    congr 1
    simp only [List.length_cons]
    omega
  · have h1 : (List.replicate k.toNat (9 : Int) ++ lit f).take (lit f).length = List.replicate (vol f).toNat 9 := by
      rw [List.take_append_of_le_length (by rw [List.length_replicate]; omega), List.take_replicate]
      congr 1; omega
    have h2 := Fm.mer_rep_len (vol f).toNat 9
    have h3 : ∀ j, moved f (vol f) k j = [] := by
      intro j
      induction j with
      | zero => rw [moved, if_neg (fun h => e h.1)]
      | succ j ih =>
        have hp := Fm.vol_take_le hm.pos (j + 1)
        rw [moved, if_neg (by show ¬ vol (f.take (j + 1)) + k < vol f; omega), ih]
    rw [h1, h3, bnd, show (mer (List.replicate (vol f).toNat 9)).length - 1 = 0 by omega]
    rfl

/-! ## Cutting a mixture -/
/-- To the left, to the right, to slop, the error. -/
def cutOf (m r : Int) : Int × Int × Int × Int :=
  if m < 0 ∨ 1000000 < m then (0, 0, 0, 1)
  else if r = 1 then (m - m / 2, m / 2, 0, 0)
  else if r = 2 then (m, 0, 0, 0)
  else if r = 3 then (0, m, 0, 0)
  else if r = 4 then (0, 0, m, 0)
  else if r = 5 then (m / 3, m / 3, m - 2 * (m / 3), 0)
  else (0, 0, 0, 3)
theorem cut_sum {m r : Int} (h0 : 0 ≤ m) (h1 : m ≤ 1000000) (hr : 1 ≤ r) (hr2 : r ≤ 5) : ∃ x y z, cutOf m r = (x, y, z, 0) ∧ x + y + z = m ∧ 0 ≤ x ∧ x ≤ m ∧ 0 ≤ y ∧ y ≤ m ∧ 0 ≤ z ∧ z ≤ m := by
  unfold cutOf
  rw [if_neg (by omega)]
  by_cases e1 : r = 1
  · exact ⟨_, _, _, if_pos e1, by omega⟩
  by_cases e2 : r = 2
  · rw [if_neg e1]; exact ⟨_, _, _, if_pos e2, by omega⟩
  by_cases e3 : r = 3
  · rw [if_neg e1, if_neg e2]; exact ⟨_, _, _, if_pos e3, by omega⟩
  by_cases e4 : r = 4
  · rw [if_neg e1, if_neg e2, if_neg e3]; exact ⟨_, _, _, if_pos e4, by omega⟩
  · rw [if_neg e1, if_neg e2, if_neg e3, if_neg e4]
    exact ⟨_, _, _, if_pos (by omega), by omega⟩
end Go.Proofs.Ytagemdgbnajobaa.Bm
