/- Package deal's dealer in memory; who is ahead; the next one. -/
import Derived.Test.YtafkagaakjfkoaaDi1
import Derived.Deep.MidRow
namespace Go.Proofs.Ytafkagaakjfkoaa
open Go.ChangeShapes Go.WideShapes Go.ChangeAt Go.RowKit

namespace Dm
/-- Who of the first k gets the next litre, as the code finds it: it begins with the first. -/
def nxt (r g : List Int) : Nat → Nat
  | 0 => 0
  | k + 1 => if (g.getD k 0 + 1) * r.getD (nxt r g k) 0 < (g.getD (nxt r g k) 0 + 1) * r.getD k 0 then k else nxt r g k
theorem nxt_le (r g : List Int) : ∀ k n, k ≤ n → 0 < n → nxt r g k < n
  | 0, _, _, h => h
  | k + 1, n, h, h0 => by
    rw [nxt]
    split
    · omega
    · exact nxt_le r g k n (by omega) h0
theorem nxt_best {r g : List Int} (hr : ∀ i, 0 ≤ r.getD i 0) (hg : ∀ i, 0 ≤ g.getD i 0) : ∀ k, (best r g k = none → nxt r g k = 0) ∧ (∀ b, best r g k = some b → nxt r g k = b)
  | 0 => ⟨fun _ => rfl, fun b h => by cases h⟩
  | k + 1 => by
    obtain ⟨h1, h2⟩ := nxt_best hr hg k
    rw [nxt, best]
    cases e : best r g k with
    | none =>
      have e0 := h1 e
      rw [e0]
      dsimp only
      by_cases hk : 0 < r.getD k 0
      · rw [if_pos hk]
        refine ⟨fun h => (by cases h), fun b h => ?_⟩
        cases h
        cases k with
        | zero => split <;> rfl
        | succ k =>
          have z := best_none e 0 (by omega)
          have z0 := hr 0
          have z1 : r.getD 0 0 = 0 := by omega
          have g0 := hg 0
          rw [z1, Int.mul_zero, if_pos (Int.mul_pos (by omega) hk)]
      · rw [if_neg hk]
        refine ⟨fun _ => ?_, fun b h => (by cases h)⟩
        have z0 := hr k
        have z1 : r.getD k 0 = 0 := by omega
        have g0 := hg k
        have m := Int.mul_nonneg (a := g.getD k 0 + 1) (b := r.getD 0 0) (by omega) (hr 0)
        rw [z1, Int.mul_zero, if_neg (by omega)]
    | some b =>
      have e0 := h2 b e
      obtain ⟨_, b0, _⟩ := best_some e
      rw [e0]
      dsimp only
      by_cases hk : 0 < r.getD k 0
      · by_cases hl : (g.getD k 0 + 1) * r.getD b 0 < (g.getD b 0 + 1) * r.getD k 0
        · rw [if_pos hl, if_pos ⟨hk, hl⟩]
          exact ⟨fun h => (by cases h), fun c h => by cases h; rfl⟩
        · rw [if_neg hl, if_neg (show ¬ (0 < r.getD k 0 ∧ (g.getD k 0 + 1) * r.getD b 0 < (g.getD b 0 + 1) * r.getD k 0) from fun h => hl h.2)]
          exact ⟨fun h => (by cases h), fun c h => by cases h; rfl⟩
      · have z0 := hr k
        have z1 : r.getD k 0 = 0 := by omega
        have g0 := hg k
        have m := Int.mul_nonneg (a := g.getD k 0 + 1) (b := r.getD b 0) (by omega) (by omega)
        rw [if_neg (show ¬ ((g.getD k 0 + 1) * r.getD b 0 < (g.getD b 0 + 1) * r.getD k 0) by rw [z1, Int.mul_zero]; omega), if_neg (show ¬ (0 < r.getD k 0 ∧ (g.getD k 0 + 1) * r.getD b 0 < (g.getD b 0 + 1) * r.getD k 0) from fun h => hk h.1)]
        exact ⟨fun h => (by cases h), fun c h => by cases h; rfl⟩
theorem nxt_next {r g : List Int} (hr : ∀ i, 0 ≤ r.getD i 0) (hg : ∀ i, 0 ≤ g.getD i 0) {b : Nat} (h : next r g = some b) : nxt r g r.length = b := (nxt_best hr hg _).2 b h
/-- A dealer's numbers: rates, counts, how many they are. -/
def dl (r g : List Int) : List Int := pad 64 r ++ (pad 64 g ++ [(r.length : Int)])
theorem dl_len {r g : List Int} (hr : r.length ≤ 64) (hg : g.length ≤ 64) : (dl r g).length = 129 := by unfold dl; simp [pad_len hr, pad_len hg]
theorem getD_left {a b : List Int} {i : Nat} (h : i < a.length) : (a ++ b).getD i 0 = a.getD i 0 := by
  rw [List.getD_eq_getElem?_getD, List.getElem?_append_left h, ← List.getD_eq_getElem?_getD]
theorem getD_right {a b : List Int} {i n : Nat} (h : a.length = n) : (a ++ b).getD (n + i) 0 = b.getD i 0 := by
  rw [List.getD_eq_getElem?_getD, List.getElem?_append_right (by omega), ← List.getD_eq_getElem?_getD, h, Nat.add_sub_cancel_left]
theorem dl_rate {r g : List Int} (hr : r.length ≤ 64) {i : Nat} (hi : i < 64) : (dl r g).getD i 0 = r.getD i 0 := by
  unfold dl
  rw [getD_left (by rw [pad_len hr]; exact hi), pad_get]
theorem dl_got {r g : List Int} (hr : r.length ≤ 64) (hg : g.length ≤ 64) {i : Nat} (hi : i < 64) : (dl r g).getD (64 + i) 0 = g.getD i 0 := by
  unfold dl
  rw [getD_right (pad_len hr), getD_left (by rw [pad_len hg]; exact hi), pad_get]
theorem dl_size {r g : List Int} (hr : r.length ≤ 64) (hg : g.length ≤ 64) : (dl r g).getD 128 0 = r.length := by
  unfold dl
  rw [show (128 : Nat) = 64 + (64 + 0) from rfl, getD_right (pad_len hr), getD_right (pad_len hg)]
  rfl
theorem dl_set {r g : List Int} (hr : r.length ≤ 64) (hg : g.length ≤ 64) {i : Nat} (hi : i < g.length) (x : Int) : (dl r g).set (64 + i) x = dl r (g.set i x) := by
  unfold dl
  rw [List.set_append_right _ _ (by rw [pad_len hr]; omega), pad_len hr, Nat.add_sub_cancel_left, List.set_append_left _ _ (by rw [pad_len hg]; omega), pad_set hi]
end Dm

theorem okr_all {r : List Int} (h : okr r) (i : Nat) : 0 ≤ r.getD i 0 ∧ r.getD i 0 ≤ 1000 := by
  by_cases hi : i < r.length
  · exact h i hi
  · rw [List.getD_eq_getElem?_getD, List.getElem?_eq_none (by omega)]
    simp
theorem okg_all {r : List Int} (h : okg r) (i : Nat) : 0 ≤ r.getD i 0 ∧ r.getD i 0 ≤ 1000000 := by
  by_cases hi : i < r.length
  · exact h i hi
  · rw [List.getD_eq_getElem?_getD, List.getElem?_eq_none (by omega)]
    simp
/-- A dealer that the call made since base. -/
abbrev DB (base : Nat) (w : World) (D : Nat) (r g : List Int) : Prop := OR base w 62 129 ⟨some ⟨D, 0, none⟩, 1, 1⟩ (ni (Dm.dl r g))
/-- Amounts that the call made since base. -/
abbrev AB (base : Nat) (w : World) (G : Nat) (g : List Int) : Prop := OR base w 60 64 ⟨some ⟨G, 0, none⟩, 1, 1⟩ (ni (Dm.pad 64 g))
theorem OR.one {base k : Nat} {w : World} {D : Nat} {T : TypeId} {l : List Int} (h : OR base w T k ⟨some ⟨D, 0, none⟩, 1, 1⟩ (ni l)) (i : Nat) (hi : i < l.length) : w.cell? ⟨D, i, none⟩ = some (.int .i64 (l.getD i 0)) := by
  obtain ⟨b, off, e, hc⟩ := h.cr _ _ (ni_get l i hi)
  cases e
  rw [Nat.zero_add] at hc
  exact hc
/-- What is read of a dealer. -/
structure DR (w : World) (D : Nat) (r g : List Int) : Prop where
  rate : ∀ i, i < 64 → w.cell? ⟨D, i, none⟩ = some (.int .i64 (r.getD i 0))
  got : ∀ i, i < 64 → w.cell? ⟨D, 64 + i, none⟩ = some (.int .i64 (g.getD i 0))
  size : w.cell? ⟨D, 128, none⟩ = some (.int .i64 r.length)
theorem DR.grown {w w' : World} {D : Nat} {r g : List Int} (h : DR w D r g) (k : w.grownBy w' none) : DR w' D r g :=
  ⟨fun i hi => k.cell (h.rate i hi) (by simp), fun i hi => k.cell (h.got i hi) (by simp), k.cell h.size (by simp)⟩
theorem OR.dr {base : Nat} {w : World} {D : Nat} {r g : List Int} (h : DB base w D r g) (hr : r.length ≤ 64) (hg : g.length ≤ 64) : DR w D r g :=
  ⟨fun i hi => by have := h.one i (by rw [Dm.dl_len hr hg]; omega); rw [Dm.dl_rate hr hi] at this; exact this,
   fun i hi => by have := h.one (64 + i) (by rw [Dm.dl_len hr hg]; omega); rw [Dm.dl_got hr hg hi] at this; exact this,
   by have := h.one 128 (by rw [Dm.dl_len hr hg]; omega); rw [Dm.dl_size hr hg] at this; exact this⟩

set_option maxHeartbeats 1000000 in
theorem dahead_any (D : Nat) (r g : List Int) (i k : Nat) (w : World) (h : DR w D r g) (hr : okr r) (hg : okg g) (hi : i < 64) (hk : k < 64) :
    Calls Try.prog 48 #[.pointer (some ⟨D, 0, none⟩), .int .i64 i, .int .i64 k] w (Ret (.bool (decide ((g.getD i 0 + 1) * r.getD k 0 < (g.getD k 0 + 1) * r.getD i 0))) w) := by
  have c0 := h.rate i hi
  have c1 := h.rate k hk
  have d0 := h.got i hi
  have d1 := h.got k hk
  clear h
  have R0 := okr_all hr i
  have R1 := okr_all hr k
  have Q0 := okg_all hg i
  have Q1 := okg_all hg k
  clear hr hg
  generalize r.getD i 0 = y at *
  generalize r.getD k 0 = y1 at *
  generalize g.getD i 0 = x at *
  generalize g.getD k 0 = x1 at *
  have b1 := mul_bd (a := x + 1) (b := y1) (by omega) (by omega) R1.1 R1.2
  have b2 := mul_bd (a := x1 + 1) (b := y) (by omega) (by omega) R0.1 R0.2
  have w0 : IntKind.i64.wrap (x + 1) = x + 1 := IntWalk.i64_in _ (by omega)
  have w1 : IntKind.i64.wrap (x1 + 1) = x1 + 1 := IntWalk.i64_in _ (by omega)
  have w2 : IntKind.i64.wrap ((x + 1) * y1) = (x + 1) * y1 := IntWalk.i64_in _ (by omega)
  have w3 : IntKind.i64.wrap ((x1 + 1) * y) = (x1 + 1) * y := IntWalk.i64_in _ (by omega)
  have hi2 : (i : Int) < 64 := by omega
  have hk2 : (k : Int) < 64 := by omega
  clear b1 b2
  go_enter Try.func48, Try.ntmps48
  go_wp2
  go_quiet (fail)
  go_wp2
  go_ret
  exact ⟨rfl, grown_drewN _ _ _⟩

set_option maxHeartbeats 1000000 in
theorem dnext_any (D : Nat) (r g : List Int) (w : World) (h : DR w D r g) (hr : okr r) (hg : okg g) (hn : r.length ≤ 64) (h0 : 0 < r.length) :
    Calls Try.prog 44 #[.pointer (some ⟨D, 0, none⟩)] w (Ret (.int .i64 (Dm.nxt r g r.length : Nat)) w) := by
  have H := Lib.hid h
  have HR := Lib.hid hr
  have HG := Lib.hid hg
  have sz := h.size
  obtain ⟨n, hnn⟩ : ∃ n, n = r.length := ⟨_, rfl⟩
  rw [← hnn] at hn h0 sz ⊢
  clear h hr hg hnn
  go_enter Try.func44, Try.ntmps44
  go_wp2
  go_loopw [3, 4, 9] (fun sb i4 i wr => ∃ (j b : Nat), sb = .int .i64 b ∧ i = .int .i64 j ∧ j ≤ n ∧ Hid (b = Dm.nxt r g j) ∧ Hid (w.grownBy wr none)) (fun _ _ i _ => n - (intOf i).toNat)
  case atStart => exact ⟨0, 0, rfl, rfl, by omega, Lib.hid rfl, grown_refl _ _⟩
  case round =>
    obtain ⟨j, b, rfl, rfl, hj, B, GR⟩ := hrel
    by_cases hlt : j < n
    · have hb : b < n := by rw [B.out]; exact Dm.nxt_le r g j n hj h0
      have AH := Lib.hid (dahead_any D r g j b wr (H.out.grown GR.out) HR.out HG.out (by omega) (by omega))
      by_cases hl : (g.getD j 0 + 1) * r.getD b 0 < (g.getD b 0 + 1) * r.getD j 0
      · rw [decide_eq_true hl] at AH
        have N := Lib.hid (show j = Dm.nxt r g (j + 1) by rw [Dm.nxt, ← B.out, if_pos hl])
        clear hl
        go_wp2_with fail
        refine AH.out.mono ?_
        rintro e w2 ⟨rfl, hg⟩
        have G2 := Lib.hid (grown_trans GR.out hg)
        clear hg AH
        go_wp2
        go_roundw
        case rel => exact ⟨j + 1, j, rfl, by go_num, by omega, N, G2⟩
        case measure => simp [intOf]; omega
      · rw [decide_eq_false hl] at AH
        have N := Lib.hid (show b = Dm.nxt r g (j + 1) by rw [Dm.nxt, ← B.out, if_neg hl])
        clear hl
        go_wp2_with fail
        refine AH.out.mono ?_
        rintro e w2 ⟨rfl, hg⟩
        have G2 := Lib.hid (grown_trans GR.out hg)
        clear hg AH
        go_wp2
        go_roundw
        case rel => exact ⟨j + 1, b, rfl, by go_num, by omega, N, G2⟩
        case measure => simp [intOf]; omega
    · obtain rfl : j = n := by omega
      go_wp2
      go_ret
      exact ⟨ret_i (by rw [B.out]), GR.out⟩
end Go.Proofs.Ytafkagaakjfkoaa
