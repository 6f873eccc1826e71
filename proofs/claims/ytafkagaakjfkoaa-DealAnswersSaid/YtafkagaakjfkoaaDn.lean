/- Plain mathematics of package deal: the statements' claims about counts; litres dealt. No program is named here. -/
import Derived.Test.YtafkagaakjfkoaaDm
namespace Go.Proofs.Ytafkagaakjfkoaa.Dm
open Fm (Pc lit mer vol of put Mgd Pos)

/-! ## What the statements ask of counts -/
theorem floor_le {k r g s : Int} (hs : 0 < s) (h : k * r < (g + 1) * s) : k * r / s ≤ g := by
  have := Int.ediv_lt_of_lt_mul hs h
  omega
theorem cnt_floor {r : List Int} (hn : ∀ i, i < r.length → 0 ≤ r.getD i 0) (hs : 0 < r.sum) (k : Nat) (i : Nat) (hi : i < r.length) : (k : Int) * r.getD i 0 / r.sum ≤ (cnt r k).getD i 0 := floor_le hs (cnt_low hn hs k i hi)
theorem two_of {l : List Int} (h : l.length = 2) : ∃ a b, l = [a, b] := by
  match l, h with
  | [a, b], _ => exact ⟨a, b, rfl⟩
/-- With two rates nobody more than it, rounded up. -/
theorem cnt_two {r : List Int} (hn : ∀ i, i < r.length → 0 ≤ r.getD i 0) (hs : 0 < r.sum) (k : Nat) (h2 : r.length = 2) (i : Nat) (hi : i < 2) : (cnt r k).getD i 0 ≤ ((k : Int) * r.getD i 0 + r.sum - 1) / r.sum := by
  obtain ⟨x, y, rfl⟩ := two_of h2
  have hv := inv_cnt hs k
  obtain ⟨a, b, hab⟩ := two_of (show (cnt [x, y] k).length = 2 from hv.len)
  have l0 := cnt_low hn hs k 0 (by simp)
  have l1 := cnt_low hn hs k 1 (by simp)
  have su := hv.sum
  rw [hab] at l0 l1 su ⊢
  have es : ([x, y] : List Int).sum = x + y := by simp
  have eg : ([a, b] : List Int).sum = a + b := by simp
  rw [es] at l0 l1 hs ⊢
  rw [eg] at su
  simp only [List.getD_cons_zero, List.getD_cons_succ] at l0 l1
  have key : ∀ (g r' q : Int), (k : Int) * q < ((k : Int) - g + 1) * (x + y) → q = x + y - r' → g ≤ ((k : Int) * r' + (x + y) - 1) / (x + y) := fun g r' q h e => by
    subst e
    have h1 : g * (x + y) < (k : Int) * r' + (x + y) := by
      have e1 : (k : Int) * (x + y - r') = (k : Int) * (x + y) - (k : Int) * r' := Int.mul_sub _ _ _
      have e2 : ((k : Int) - g + 1) * (x + y) = (k : Int) * (x + y) - g * (x + y) + (x + y) := by rw [Int.add_mul, Int.sub_mul, Int.one_mul]
      omega
    exact (Int.le_ediv_iff_mul_le hs).2 (by omega)
  match i, hi with
  | 0, _ =>
    simp only [List.getD_cons_zero]
    exact key a x y (by rw [show (k : Int) - a = b by omega]; exact l1) (by omega)
  | 1, _ =>
    simp only [List.getD_cons_succ, List.getD_cons_zero]
    exact key b y x (by rw [show (k : Int) - b = a by omega]; exact l0) (by omega)
/-- One litre more goes to just one of them. -/
theorem cnt_one {r : List Int} (hs : 0 < r.sum) (k : Nat) : ∃ w, w < r.length ∧ 0 < r.getD w 0 ∧ (∀ i, i < r.length → 0 < r.getD i 0 → ((cnt r k).getD w 0 + 1) * r.getD i 0 ≤ ((cnt r k).getD i 0 + 1) * r.getD w 0) ∧
    ∀ i, (cnt r (k + 1)).getD i 0 = (cnt r k).getD i 0 + (if w = i then 1 else 0) := by
  obtain ⟨w, hw⟩ := next_is (g := cnt r k) hs
  obtain ⟨h1, h2, h3⟩ := next_some hw
  exact ⟨w, h1, h2, h3, fun i => by rw [cnt_succ, step_get hw (cnt_len r k)]⟩
theorem cnt_mono {r : List Int} {j k : Nat} (h : j ≤ k) (i : Nat) : (cnt r j).getD i 0 ≤ (cnt r k).getD i 0 := by
  obtain ⟨d, rfl⟩ : ∃ d, k = j + d := ⟨k - j, by omega⟩
  rw [cnt_add]
  exact gots_le r _ (cnt_len r j) i d

/-! ## Litres dealt -/
/-- The litres that i gets. -/
def hand (r : List Int) (i : Nat) : List Int → List Int → List Int
  | _, [] => []
  | g, x :: xs => if next r g = some i then x :: hand r i (step r g) xs else hand r i (step r g) xs
theorem hand_app (r : List Int) (i : Nat) : ∀ (xs ys g : List Int), hand r i g (xs ++ ys) = hand r i g xs ++ hand r i (gots r g xs.length) ys
  | [], _, _ => rfl
  | x :: xs, ys, g => by
    rw [List.cons_append, hand, hand, hand_app r i xs ys, List.length_cons, gots]
    split <;> rfl
theorem hand_len {r : List Int} (i : Nat) : ∀ (xs g : List Int), g.length = r.length → ((hand r i g xs).length : Int) = (gots r g xs.length).getD i 0 - g.getD i 0
  | [], g, _ => by simp [hand, gots]
  | x :: xs, g, hg => by
    have ih := hand_len (r := r) i xs (step r g) (by rw [step_len]; exact hg)
    rw [hand, List.length_cons, gots]
    cases e : next r g with
    | none =>
      have e2 : step r g = g := by unfold step; rw [e]
      rw [e2] at ih ⊢
      rw [if_neg (by simp)]
      exact ih
    | some b =>
      have gt := step_get e hg i
      by_cases hb : b = i
      · subst hb
        rw [if_pos rfl, List.length_cons]
        rw [if_pos rfl] at gt
        omega
      · rw [if_neg (fun h => hb (by injection h))]
        rw [if_neg hb] at gt
        omega
theorem hand_rep (r : List Int) (i : Nat) (x : Int) : ∀ (n : Nat) (g : List Int), hand r i g (List.replicate n x) = List.replicate (hand r i g (List.replicate n x)).length x
  | 0, _ => rfl
  | n + 1, g => by
    rw [List.replicate_succ, hand]
    split
    · rw [List.length_cons, List.replicate_succ, ← hand_rep r i x n]
    · exact hand_rep r i x n _
theorem hand_sub (r : List Int) (i : Nat) : ∀ (xs g : List Int), (hand r i g xs).Sublist xs
  | [], _ => List.Sublist.slnil
  | x :: xs, g => by
    rw [hand]
    split
    · exact (hand_sub r i xs _).cons_cons x
    · exact (hand_sub r i xs _).cons x
/-- Nothing gets lost. -/
theorem hand_count {r : List Int} (hs : 0 < r.sum) (b : Int) : ∀ (xs g : List Int), ((List.range r.length).map fun i => ((hand r i g xs).count b : Int)).sum = (xs.count b : Int)
  | [], g => by
    have : ∀ n, ((List.range n).map fun i => (([] : List Int).count b : Int)).sum = 0 := fun n => by
      induction n with
      | zero => rfl
      | succ n ih => rw [List.range_succ, List.map_append, List.sum_append, ih]; simp
    exact this _
  | x :: xs, g => by
    obtain ⟨w, hw⟩ := next_is (g := g) hs
    have ih := hand_count hs b xs (step r g)
    have hl := (next_some hw).1
    have key : ∀ n, ((List.range n).map fun i => ((hand r i g (x :: xs)).count b : Int)).sum = ((List.range n).map fun i => ((hand r i (step r g) xs).count b : Int)).sum + (if w < n ∧ x = b then 1 else 0) := fun n => by
      induction n with
      | zero => simp
      | succ n ihn =>
        rw [List.range_succ, List.map_append, List.sum_append, List.map_append, List.sum_append, ihn]
        have hone : ((hand r n g (x :: xs)).count b : Int) = ((hand r n (step r g) xs).count b : Int) + (if w = n ∧ x = b then 1 else 0) := by
          rw [hand]
          by_cases e : w = n
          · subst e
            rw [if_pos hw, List.count_cons]
            by_cases e2 : x = b
            · simp [e2]
            · simp [e2]
          · rw [if_neg (fun h => e (by rw [hw] at h; injection h)), if_neg (fun h => e h.1)]
            omega
        simp only [List.map_cons, List.map_nil, List.sum_cons, List.sum_nil]
        rw [hone]
        by_cases e2 : x = b
        · by_cases e3 : w < n
          · rw [if_pos ⟨e3, e2⟩, if_neg (by omega), if_pos ⟨by omega, e2⟩]; omega
          · by_cases e4 : w = n
            · rw [if_neg (fun h => e3 h.1), if_pos ⟨e4, e2⟩, if_pos ⟨by omega, e2⟩]; omega
            · rw [if_neg (fun h => e3 h.1), if_neg (fun h => e4 h.1), if_neg (by omega)]; omega
        · rw [if_neg (fun h => e2 h.2), if_neg (fun h => e2 h.2), if_neg (fun h => e2 h.2)]; omega
    rw [key, ih, List.count_cons]
    by_cases e2 : x = b
    · rw [if_pos ⟨hl, e2⟩]; simp [e2]
    · rw [if_neg (fun h => e2 h.2)]; simp [e2]

/-! ## Pieces dealt -/
/-- The pieces that i gets, one for each. -/
def handP (r : List Int) (i : Nat) : List Int → List Pc → List Pc
  | _, [] => []
  | g, p :: f => (p.1, (gots r g p.2.toNat).getD i 0 - g.getD i 0) :: handP r i (gots r g p.2.toNat) f
theorem handP_pos {r : List Int} (i : Nat) : ∀ (f : List Pc) (g : List Int), g.length = r.length → Pos (handP r i g f)
  | [], _, _ => Pos.nil
  | p :: f, g, hg => fun q hq => by
    rw [handP] at hq
    rcases List.mem_cons.1 hq with rfl | hq
    · have := gots_le r g hg i p.2.toNat
      show 0 ≤ _ - _
      omega
    · exact handP_pos i f _ (by rw [gots_len]; exact hg) q hq
theorem handP_lit {r : List Int} (i : Nat) : ∀ (f : List Pc) (g : List Int), g.length = r.length → lit (handP r i g f) = hand r i g (lit f)
  | [], _, _ => rfl
  | p :: f, g, hg => by
    rw [handP, lit, lit, hand_app, List.length_replicate, ← handP_lit i f _ (by rw [gots_len]; exact hg)]
    congr 1
    have h1 := hand_len (r := r) i (List.replicate p.2.toNat p.1) g hg
    rw [List.length_replicate] at h1
    rw [hand_rep]
    congr 1
    dsimp only
    omega
theorem handP_fst (r : List Int) (i : Nat) : ∀ (f : List Pc) (g : List Int), (handP r i g f).map Prod.fst = f.map Prod.fst
  | [], _ => rfl
  | p :: f, g => by rw [handP, List.map_cons, List.map_cons, handP_fst r i f]
theorem handP_app (r : List Int) (i : Nat) : ∀ (f h : List Pc) (g : List Int), Pos f → handP r i g (f ++ h) = handP r i g f ++ handP r i (gots r g (lit f).length) h
  | [], _, _, _ => rfl
  | p :: f, h, g, hp => by
    rw [List.cons_append, handP, handP, handP_app r i f h _ hp.tail.2, lit, List.length_append, List.length_replicate, gots_add]
    rfl
/-- What is dealt, for each rate. -/
def dealt (r : List Int) (l : List Int) : List (List Pc) := (List.range r.length).map fun i => mer (hand r i (zeros r.length) l)
theorem dealt_len (r l : List Int) : (dealt r l).length = r.length := by simp [dealt]
theorem dealt_get {r l : List Int} {i : Nat} (hi : i < r.length) : (dealt r l).getD i [] = mer (hand r i (zeros r.length) l) := by
  simp [dealt, List.getD_eq_getElem?_getD, hi]

/-! ## A part of the litres makes no more pieces -/
theorem mer_head (l : List Int) : (mer l).head?.map Prod.fst = l.head? := by
  cases l with
  | nil => rfl
  | cons b l =>
    obtain ⟨n, hn⟩ := Fm.put_head b (mer l)
    rw [mer, hn]
    rfl
theorem mer_cons_len (b : Int) (l : List Int) : (mer (b :: l)).length = (mer l).length + (if l.head? = some b then 0 else 1) := by
  have h := mer_head l
  rw [mer]
  cases e : mer l with
  | nil =>
    rw [e] at h
    rw [← h]
    simp [put]
  | cons p f =>
    rw [e] at h
    rw [← h, Fm.put_cons]
    by_cases e2 : p.1 = b
    · rw [if_pos e2, if_pos (by simp [e2])]; rfl
    · rw [if_neg e2, if_neg (by simp [e2])]; rfl
theorem mer_sub {a l : List Int} (h : a.Sublist l) : (mer a).length ≤ (mer l).length ∧ (a.head? ≠ l.head? → (mer a).length + 1 ≤ (mer l).length) := by
  induction h with
  | slnil => exact ⟨Nat.le_refl _, fun h => absurd rfl h⟩
  | @cons a l y _ ih =>
    have e := mer_cons_len y l
    refine ⟨by omega, fun hne => ?_⟩
    by_cases hl : l.head? = some y
    · rw [if_pos hl] at e
      have := ih.2 (fun h => hne (by rw [h, hl]; rfl))
      omega
    · rw [if_neg hl] at e
      omega
  | @cons_cons a l x _ ih =>
    have e1 := mer_cons_len x a
    have e2 := mer_cons_len x l
    refine ⟨?_, fun hne => absurd rfl hne⟩
    by_cases ha : a.head? = some x
    · rw [if_pos ha] at e1
      omega
    · rw [if_neg ha] at e1
      by_cases hl : l.head? = some x
      · rw [if_pos hl] at e2
        have := ih.2 (fun h => ha (by rw [h, hl]))
        omega
      · rw [if_neg hl] at e2
        omega
/-- The batches of merged pieces are those of the pieces, in their order. -/
theorem mer_fst (f : List Pc) : ((mer (lit f)).map Prod.fst).Sublist (f.map Prod.fst) := by
  induction f with
  | nil => exact List.Sublist.slnil
  | cons p f ih =>
    have key : ∀ n, ((mer (List.replicate n p.1 ++ lit f)).map Prod.fst).Sublist (p.1 :: f.map Prod.fst) ∧ (0 < n → ∃ t, (mer (List.replicate n p.1 ++ lit f)).map Prod.fst = p.1 :: t) := fun n => by
      induction n with
      | zero => exact ⟨ih.cons _, fun h => by omega⟩
      | succ n ihn =>
        rw [List.replicate_succ, List.cons_append, mer]
        obtain ⟨h1, h2⟩ := ihn
        cases e : mer (List.replicate n p.1 ++ lit f) with
        | nil => exact ⟨by simp [put], fun _ => ⟨[], by simp [put]⟩⟩
        | cons q t =>
          rw [Fm.put_cons]
          by_cases hq : q.1 = p.1
          · rw [if_pos hq]
            rw [e] at h1
            rw [List.map_cons] at h1 ⊢
            rw [hq] at h1
            exact ⟨h1, fun _ => ⟨_, rfl⟩⟩
          · rw [if_neg hq]
            have hn : n = 0 := by
              by_cases hn : 0 < n
              · obtain ⟨t', ht⟩ := h2 hn
                rw [e] at ht
                injection ht with ht _
                exact absurd ht hq
              · omega
            subst hn
            have e' : mer (lit f) = q :: t := e
            rw [e'] at ih
            exact ⟨ih.cons_cons _, fun _ => ⟨_, rfl⟩⟩
    exact (key p.2.toNat).1
/-- Going on to the next piece of a batch, again and again, finds them all. -/
def finds : List Int → List Int → Prop
  | _, [] => True
  | l, b :: bs => ∃ k, k < l.length ∧ l.getD k 0 = b ∧ (∀ j, j < k → l.getD j 0 ≠ b) ∧ finds (l.drop k) bs
theorem sub_find {b : Int} {bs : List Int} : ∀ {l : List Int}, (b :: bs).Sublist l → ∃ k, k < l.length ∧ l.getD k 0 = b ∧ (∀ j, j < k → l.getD j 0 ≠ b) ∧ bs.Sublist (l.drop k)
  | [], h => by cases h
  | x :: l, h => by
    by_cases e : x = b
    · subst e
      refine ⟨0, by simp, rfl, fun j hj => by omega, ?_⟩
      rw [List.drop_zero]
      exact (List.sublist_cons_self x bs).trans h
    · have h' : (b :: bs).Sublist l := by
        cases h with
        | cons _ h => exact h
        | cons_cons _ h => exact absurd rfl e
      obtain ⟨k, h1, h2, h3, h4⟩ := sub_find h'
      refine ⟨k + 1, by simp; omega, by simpa using h2, fun j hj => ?_, by simpa using h4⟩
      cases j with
      | zero => simpa using e
      | succ j => simpa using h3 j (by omega)
theorem finds_sub : ∀ {bs l : List Int}, bs.Sublist l → finds l bs
  | [], _, _ => trivial
  | _ :: _, _, h => by
    obtain ⟨k, h1, h2, h3, h4⟩ := sub_find h
    exact ⟨k, h1, h2, h3, finds_sub h4⟩
/-- What is dealt is valid, has its rate, and has the batches in their order. -/
theorem dealt_val {r : List Int} {f : List Pc} (hf : Fm.Val f) (i : Nat) : Fm.Val (mer (hand r i (zeros r.length) (lit f))) := by
  have hsub := hand_sub r i (lit f) (zeros r.length)
  refine Fm.val_mer ?_ (fun b hb => hf.lits b (hsub.subset hb)) (Nat.le_trans hsub.length_le hf.litlen)
  have h1 := (mer_sub hsub).1
  rw [Fm.mer_lit hf.mgd] at h1
  have := hf.len
  omega
theorem dealt_vol {r : List Int} {l : List Int} (i : Nat) : vol (mer (hand r i (zeros r.length) l)) = (cnt r l.length).getD i 0 := by
  have h := hand_len i l (zeros r.length) (r := r) (by simp [zeros])
  rw [zeros_get] at h
  rw [← Fm.lit_len (Fm.mer_mgd _).pos, Fm.lit_mer, h]
  show (gots r (zeros r.length) l.length).getD i 0 - 0 = _
  rw [Int.sub_zero]; rfl
theorem dealt_finds {r : List Int} {f : List Pc} (i : Nat) : finds (f.map Prod.fst) ((mer (hand r i (zeros r.length) (lit f))).map Prod.fst) := by
  apply finds_sub
  rw [← handP_lit i f (zeros r.length) (by simp [zeros]), ← handP_fst r i f (zeros r.length)]
  exact mer_fst _
theorem dealt_of {r : List Int} (hs : 0 < r.sum) (b : Int) {f : List Pc} (hp : Pos f) : ((List.range r.length).map fun i => of b (mer (hand r i (zeros r.length) (lit f)))).sum = of b f := by
  rw [Fm.of_lit b hp, ← hand_count hs b (lit f) (zeros r.length)]
  congr 1
  apply List.map_congr_left
  intro i _
  rw [Fm.of_lit b (Fm.mer_mgd _).pos, Fm.lit_mer]
/-- The first litres, dealt by themselves. -/
theorem dealt_first (r : List Int) (i : Nat) (l : List Int) (k : Nat) (hk : k ≤ l.length) : (hand r i (zeros r.length) l).take ((cnt r k).getD i 0).toNat = hand r i (zeros r.length) (l.take k) := by
  have e : hand r i (zeros r.length) l = hand r i (zeros r.length) (l.take k) ++ hand r i (gots r (zeros r.length) (l.take k).length) (l.drop k) := by rw [← hand_app, List.take_append_drop]
  have h := hand_len i (l.take k) (zeros r.length) (r := r) (by simp [zeros])
  rw [List.length_take, Nat.min_eq_left hk, zeros_get] at h
  rw [e]
  apply List.take_left'
  show _ = ((gots r (zeros r.length) k).getD i 0).toNat
  omega
end Go.Proofs.Ytafkagaakjfkoaa.Dm
