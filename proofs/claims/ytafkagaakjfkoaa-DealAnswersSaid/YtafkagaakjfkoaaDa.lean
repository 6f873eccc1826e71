/- Rows of numbers; contracts of the reference's check and Next. -/
import Derived.Test.YtafkagaakjfkoaaFl
import Derived.Test.YtafkagaakjfkoaaDn
namespace Go.Proofs.Ytafkagaakjfkoaa
open Go.ChangeShapes Go.WideShapes Go.ChangeAt Go.RowKit

theorem info_n : (Try.prog.info? 3).map (fun i => (i.zero, i.size, i.bytes)) = some (some (.int .i64 0), 1, 8) := by kernel_rfl
theorem parts_n : ∃ i, Try.prog.info? 3 = some i ∧ i.zero = some (.int .i64 0) ∧ i.size = 1 ∧ i.bytes = 8 := by
  obtain ⟨i, hi, hz⟩ := Option.map_eq_some_iff.1 info_n
  simp only [Prod.mk.injEq] at hz
  exact ⟨i, hi, hz.1, hz.2.1, hz.2.2⟩
/-- Numbers as cells. -/
def ni (l : List Int) : List Value := l.map (Value.int .i64)
theorem ni_len (l : List Int) : (ni l).length = l.length := by unfold ni; simp
theorem ni_one (l : List Int) : ∀ v ∈ ni l, v.oneCell' = true := by
  intro v hv
  obtain ⟨x, _, rfl⟩ := List.mem_map.1 hv
  rfl
theorem ni_get (l : List Int) (i : Nat) (hi : i < l.length) : (ni l)[i]? = some (.int .i64 (l.getD i 0)) := by
  unfold ni
  simp [List.getD_eq_getElem?_getD, List.getElem?_eq_getElem hi]
/-- The numbers l lie at the slice s. -/
structure NR (w : World) (s : Sl) (l : List Int) : Prop where
  fit : s.fit
  len : l.length = s.n
  cr : CR w s (ni l)
theorem NR.grown {w w' : World} {s : Sl} {l : List Int} (h : NR w s l) (g : w.grownBy w' none) : NR w' s l := ⟨h.fit, h.len, h.cr.grown g⟩
theorem NR.chg {L : List Nat} {w w' : World} {s : Sl} {l : List Int} (h : NR w s l) (g : Chg L w w') (hn : ∀ b, s.blk = some b → b ∉ L) : NR w' s l :=
  ⟨h.fit, h.len, fun j u hu => by
    obtain ⟨b, off, e, hc⟩ := h.cr j u hu
    exact ⟨b, off, e, g.cell hc (hn b (by rw [Sl.blk, e]; rfl))⟩⟩
theorem NR.at_ {w : World} {s : Sl} {l : List Int} (h : NR w s l) (i : Nat) (hi : i < s.n) : ∃ b off, s.a = some ⟨b, off, none⟩ ∧ w.cell? ⟨b, off + i, none⟩ = some (.int .i64 (l.getD i 0)) := h.cr _ _ (ni_get l i (by rw [h.len]; exact hi))
theorem NR.got {w : World} {b off n c : Nat} {l : List Int} (h : NR w ⟨some ⟨b, off, none⟩, n, c⟩ l) (i : Nat) (hi : i < n) : w.cell? ⟨b, off + i, none⟩ = some (.int .i64 (l.getD i 0)) := by
  obtain ⟨b', off', e, hc⟩ := h.at_ i hi
  cases e
  exact hc
/-- A row of numbers that the call made since base. -/
abbrev ON (base : Nat) (w : World) (s : Sl) (l : List Int) : Prop := OR base w 3 1 s (ni l)
theorem OR.nr {base : Nat} {w : World} {T : TypeId} {s : Sl} {l : List Int} (h : OR base w T 1 s (ni l)) : NR w s l := ⟨h.fit, by have := h.len; rw [ni_len] at this; omega, h.cr⟩
theorem NR.nil {w : World} : NR w ⟨none, 0, 0⟩ [] := ⟨⟨Nat.le_refl _, by dsimp only; omega⟩, rfl, fun j u hu => by simp [ni] at hu⟩
theorem NR.sl {w : World} {s : Sl} {l : List Int} (h : NR w s l) : SlI w s.v l := by
  obtain ⟨a, n, c⟩ := s
  have hl := h.len
  dsimp only at hl
  by_cases h0 : 0 < n
  · obtain ⟨b, off, e, _⟩ := h.at_ 0 h0
    dsimp only at e
    subst e
    exact ⟨_, b, off, c, by rw [Sl.v, hl], fun _ => rfl, fun i hi => h.got i (by omega)⟩
  · exact ⟨a, 0, 0, c, by rw [Sl.v, hl], fun hp => by omega, fun i hi => by omega⟩

/-! ## Rates -/
def okr (r : List Int) : Prop := ∀ i, i < r.length → 0 ≤ r.getD i 0 ∧ r.getD i 0 ≤ 1000
theorem take_sum {r : List Int} {k : Nat} (hk : k < r.length) : (r.take (k + 1)).sum = (r.take k).sum + r.getD k 0 := by
  rw [List.take_add_one, List.getElem?_eq_getElem hk, List.sum_append]
  simp [List.getD_eq_getElem?_getD, List.getElem?_eq_getElem hk]
theorem okr_sum {r : List Int} (h : okr r) : ∀ k, k ≤ r.length → 0 ≤ (r.take k).sum ∧ (r.take k).sum ≤ 1000 * k
  | 0, _ => by simp
  | k + 1, hk => by
    have := okr_sum h k (by omega)
    have := h k (by omega)
    rw [take_sum (by omega)]
    omega
noncomputable instance (r : List Int) : Decidable (okr r) := Classical.propDecidable _
/-- The first error of rates and a number of litres. -/
noncomputable def chk (r : List Int) (k : Int) : Int := if 64 < r.length then 4 else if ¬ okr r then 1 else if r.sum = 0 then 9 else if k < 0 ∨ r.sum < k then 1 else 0
structure Rok (r : List Int) (k : Int) : Prop where
  len : r.length ≤ 64
  ok : okr r
  pos : 0 < r.sum
  k0 : 0 ≤ k
  k1 : k ≤ r.sum
theorem chk_ok {r : List Int} {k : Int} : chk r k = 0 ↔ Rok r k := by
  unfold chk
  constructor
  · intro h
    split at h
    · omega
    · split at h
      · omega
      · split at h
        · omega
        · split at h
          · omega
          · rename_i h1 h2 h3 h4
            have h2 := Classical.not_not.1 h2
            have := okr_sum h2 r.length (Nat.le_refl _)
            rw [List.take_length] at this
            exact ⟨by omega, h2, by omega, by omega, by omega⟩
  · intro h
    rw [if_neg (by have := h.len; omega), if_neg (Classical.not_not.2 h.ok), if_neg (by have := h.pos; omega), if_neg (by have := h.k0; have := h.k1; omega)]
theorem Rok.nn {r : List Int} {k : Int} (h : Rok r k) : ∀ i, i < r.length → 0 ≤ r.getD i 0 := fun i hi => (h.ok i hi).1
theorem Rok.max {r : List Int} {k : Int} (h : Rok r k) : r.sum ≤ 64000 := by
  have := okr_sum h.ok r.length (Nat.le_refl _)
  rw [List.take_length] at this
  have := h.len
  omega
theorem ret_i {a b : Int} (h : a = b) : Ending.returned (.int .i64 a) = .returned (.int .i64 b) := by rw [h]

set_option maxHeartbeats 1000000 in
theorem rcheck_any (s : Sl) (r : List Int) (k : Int) (w : World) (h : NR w s r) : Calls Try.prog 33 #[s.v, .int .i64 k] w fun e w' => e = .returned (.int .i64 (chk r k)) ∧ w' = w := by
  obtain ⟨a, n, c⟩ := s
  have hlen := h.len
  have fit := h.fit
  dsimp only [Sl.fit] at hlen fit
  have HF := Lib.hid h
  clear h
  unfold Sl.v
  dsimp only
  obtain ⟨E, hE⟩ : ∃ E, E = chk r k := ⟨_, rfl⟩
  rw [← hE]
  have HE := Lib.hid hE
  clear hE
  by_cases h64 : 64 < n
  · have h64' : (64 : Int) < (n : Int) := by omega
    have X := Lib.hid (show chk r k = 4 from if_pos (by omega))
    go_enter Try.func33, Try.ntmps33
    go_wp2
    go_ret
    exact ⟨ret_i (by rw [HE.out, X.out]), rfl⟩
  have e64 : decide ((64 : Int) < (n : Int)) = false := decide_eq_false (by omega)
  have C1 := Lib.hid (show chk r k = (if ¬ okr r then 1 else if r.sum = 0 then 9 else if k < 0 ∨ r.sum < k then 1 else 0) from if_neg (by omega))
  go_enter Try.func33, Try.ntmps33
  go_wp2
  go_loopw [5, 12] (fun sm i wr => ∃ (j : Nat) (x : Int), sm = .int .i64 x ∧ i = .int .i64 j ∧ j ≤ n ∧ Hid (x = (r.take j).sum) ∧ 0 ≤ x ∧ x ≤ 1000 * j ∧ Hid (∀ i, i < j → 0 ≤ r.getD i 0 ∧ r.getD i 0 ≤ 1000) ∧ wr = w) (fun _ i _ => n - (intOf i).toNat)
  case atStart => exact ⟨0, 0, rfl, rfl, by omega, Lib.hid (by simp), by omega, by omega, Lib.hid (fun i hi => by omega), rfl⟩
  case round =>
    obtain ⟨j, x, rfl, rfl, hj, X, x0, x1, OK, rfl⟩ := hrel
    by_cases hlt : j < n
    · obtain ⟨b, off, rfl, c0⟩ := HF.out.at_ j hlt
      have T := take_sum (r := r) (k := j) (by omega)
      obtain ⟨y, hy⟩ : ∃ y, y = r.getD j 0 := ⟨_, rfl⟩
      rw [← hy] at c0 T
      have HY := Lib.hid hy
      clear hy
      by_cases y0 : y < 0
      · have X := Lib.hid (show chk r k = 1 by rw [C1.out]; exact if_pos (fun h => by have := h j (by omega); have := HY.out; omega))
        go_wp2
        go_ret
        exact ⟨ret_i (by rw [HE.out, X.out]), rfl⟩
      have e0 : decide (y < 0) = false := decide_eq_false y0
      by_cases y1 : 1000 < y
      · have X := Lib.hid (show chk r k = 1 by rw [C1.out]; exact if_pos (fun h => by have := h j (by omega); have := HY.out; omega))
        go_wp2
        go_ret
        exact ⟨ret_i (by rw [HE.out, X.out]), rfl⟩
      have e1 : decide (1000 < y) = false := decide_eq_false y1
      have TT := Lib.hid (show x + y = (r.take (j + 1)).sum by rw [T, X.out])
      have OK2 := Lib.hid (show ∀ i, i < j + 1 → 0 ≤ r.getD i 0 ∧ r.getD i 0 ≤ 1000 from fun i hi => by
        by_cases e : i = j
        · subst e; rw [← HY.out]; omega
        · exact OK.out i (by omega))
      clear T
      go_wp2
      go_roundw
      case rel => exact ⟨j + 1, _, rfl, by go_num, by omega, TT, by omega, by omega, OK2, trivial⟩
      case measure => simp [intOf]; omega
    · obtain rfl : j = n := by omega
      have OKR := Lib.hid (show okr r from fun i hi => OK.out i (by omega))
      have XS := Lib.hid (show x = r.sum by have := X.out; rw [List.take_of_length_le (by omega)] at this; exact this)
      have C2 := Lib.hid (show chk r k = (if r.sum = 0 then 9 else if k < 0 ∨ r.sum < k then 1 else 0) by rw [C1.out]; exact if_neg (Classical.not_not.2 OKR.out))
      by_cases hs : x = 0
      · subst hs
        have X := Lib.hid (show chk r k = 9 by rw [C2.out]; exact if_pos XS.out.symm)
        go_wp2
        go_ret
        exact ⟨ret_i (by rw [HE.out, X.out]), rfl⟩
      have es : (x == 0) = false := by rw [beq_eq_false_iff_ne]; exact hs
      have C3 := Lib.hid (show chk r k = (if k < 0 ∨ r.sum < k then 1 else 0) by rw [C2.out]; exact if_neg (by rw [← XS.out]; exact hs))
      by_cases k0 : k < 0
      · have X := Lib.hid (show chk r k = 1 by rw [C3.out]; exact if_pos (.inl k0))
        go_wp2
        go_ret
        exact ⟨ret_i (by rw [HE.out, X.out]), rfl⟩
      have e0 : decide (k < 0) = false := decide_eq_false k0
      by_cases k1 : x < k
      · have X := Lib.hid (show chk r k = 1 by rw [C3.out]; exact if_pos (.inr (by rw [← XS.out]; exact k1)))
        go_wp2
        go_ret
        exact ⟨ret_i (by rw [HE.out, X.out]), rfl⟩
      have e1 : decide (x < k) = false := decide_eq_false k1
      have X := Lib.hid (show chk r k = 0 by rw [C3.out]; exact if_neg (by rw [← XS.out]; omega))
      go_wp2
      go_ret
      exact ⟨ret_i (by rw [HE.out, X.out]), rfl⟩
end Go.Proofs.Ytafkagaakjfkoaa
