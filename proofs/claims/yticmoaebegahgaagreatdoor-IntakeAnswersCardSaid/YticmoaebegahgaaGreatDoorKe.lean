import Derived.Test.YticmoaebegahgaaGreatDoorKa
import Derived.Deep.DeepCutAuto
import Derived.BigQuiet
set_option linter.all false
namespace Go.Proofs.YticmoaebegahgaaGreatDoor.Iw
open Go.ChangeShapes Go.WideShapes Go.ChangeAt Go.RowKit
open Wr (IR RB iv ivs bv bvs grown_trans grown_refl grown_alloc ret_int ret_bool tv Ret ret_mk)
structure TL (w : World) (L : List Nat) (s : Sl) (ts : List Tm.Tg) : Prop where
  fit : s.fit
  len : ts.length = s.n
  at_ : ∀ i, i < s.n → ∃ b off V, s.a = some ⟨b, off, none⟩ ∧ b ∉ L ∧ VI w L V (ts.getD i Tm.zero).vs ∧ ∀ j u, (tcs (ts.getD i Tm.zero, V))[j]? = some u → w.cell? ⟨b, off + (i * 6 + j), none⟩ = some u
theorem TL.tr {w : World} {L : List Nat} {s : Sl} {ts : List Tm.Tg} (h : TL w L s ts) : TR w s ts :=
  ⟨h.fit, h.len, fun i hi => by obtain ⟨b, off, V, e, _, hv, hc⟩ := h.at_ i hi; exact ⟨b, off, V, e, hv.free, hc⟩⟩
theorem TL.step {w w' : World} {L L' M : List Nat} {s : Sl} {ts : List Tm.Tg} (h : TL w L s ts) (g : Chg M w w') (hM : ∀ b ∈ M, b ∈ L ∨ w.heap.size ≤ b) (hL : ∀ b ∈ L', b ∈ L ∨ w.heap.size ≤ b) : TL w' L' s ts := by
  have gc : Chg L w w' := (Chg.refl L w).then g hM
  refine ⟨h.fit, h.len, fun i hi => ?_⟩
  obtain ⟨b, off, V, e, hb, hv, hc⟩ := h.at_ i hi
  refine ⟨b, off, V, e, fun hm => ?_, hv.step gc hL, fun j u hu => gc.cell (hc j u hu) hb⟩
  rcases hL b hm with k | k
  · exact hb k
  · have := World.block_lt_of_cell? _ _ (hc 0 _ rfl)
    dsimp only at this
    omega
theorem TL.grown {w w' : World} {L : List Nat} {s : Sl} {ts : List Tm.Tg} (h : TL w L s ts) (g : w.grownBy w' none) : TL w' L s ts := h.step (M := []) (Chg.of0 g) (fun _ h => by cases h) (fun _ hb => .inl hb)
theorem TL.of {w : World} {s : Sl} {ts : List Tm.Tg} (h : TR w s ts) : TL w [] s ts :=
  ⟨h.fit, h.len, fun i hi => by obtain ⟨b, off, V, e, hv, hc⟩ := h.at_ i hi; exact ⟨b, off, V, e, (fun h => by cases h), hv, hc⟩⟩
theorem TL.to {base : Nat} {w : World} {L : List Nat} {s : Sl} {ts : List Tm.Tg} (h : TO base w L s ts) (hs : ∀ b, s.blk = some b → b ∉ L) : TL w L s ts := by
  obtain ⟨xs, h0, h1, h2⟩ := h.row
  have hl := h.len
  refine ⟨h1.fit, hl, fun i hi => ?_⟩
  have hi2 : i < xs.length := by rw [← h0, List.length_map] at hl; omega
  have hx : xs[i]? = some xs[i] := List.getElem?_eq_getElem hi2
  have hg : ts.getD i Tm.zero = xs[i].1 := by rw [← h0]; simp [List.getD, hx]
  rcases h1.form with ⟨_, h0, _⟩ | ⟨g, hg1, _, _⟩
  · omega
  · refine ⟨g, 0, xs[i].2, hg1, hs g (by rw [Sl.blk, hg1]; rfl), by rw [hg]; exact h2 _ (List.getElem_mem _), fun j u hu => ?_⟩
    rw [hg] at hu
    have hj : j < 6 := by
      rcases Nat.lt_or_ge j 6 with k | k
      · exact k
      · rw [List.getElem?_eq_none (by exact k)] at hu; cases hu
    obtain ⟨b', off', e', hc'⟩ := h1.cr (i * 6 + j) u (by rw [f6, flat_get tcs_len xs i j hj _ hx]; exact hu)
    rw [hg1] at e'
    injection e' with e'
    injection e' with e1 e2
    subst e1; subst e2
    exact hc'
theorem TL.nil (w : World) (L : List Nat) (a : Option Addr) (c : Nat) (hc : c ≤ 9223372036854775807) : TL w L ⟨a, 0, c⟩ [] := ⟨⟨by dsimp only; omega, hc⟩, rfl, fun i hi => absurd hi (by dsimp only; omega)⟩
theorem getD_drop {α : Type} (l : List α) (k i : Nat) (d : α) : (l.drop k).getD i d = l.getD (k + i) d := by simp [List.getD_eq_getElem?_getD]
theorem TL.tail {w : World} {L : List Nat} {b off n c : Nat} {ts : List Tm.Tg} (h : TL w L ⟨some ⟨b, off, none⟩, n, c⟩ ts) (k : Nat) (hk : k ≤ n) {ad : Option Addr} (ha : (if c = k then some (⟨b, off, none⟩ : Addr) else some ⟨b, off + k * 6, none⟩) = ad) : TL w L ⟨ad, n - k, c - k⟩ (ts.drop k) := by
  have hf := h.fit
  unfold Sl.fit at hf
  dsimp only at hf
  refine ⟨⟨by dsimp only; omega, by dsimp only; omega⟩, by rw [List.length_drop, h.len], fun i hi => ?_⟩
  dsimp only at hi
  rw [if_neg (by omega)] at ha
  obtain ⟨b', off', V, e, hb, hv, hc⟩ := h.at_ (k + i) (by dsimp only; omega)
  injection e with e
  injection e with e1 e2
  subst e1; subst e2
  rw [getD_drop]
  exact ⟨b, off + k * 6, V, ha.symm, hb, hv, fun j u hu => by rw [show off + k * 6 + (i * 6 + j) = off + ((k + i) * 6 + j) by omega]; exact hc j u hu⟩
theorem TL.same {w : World} {L : List Nat} {s : Sl} {ts : List Tm.Tg} (h : TL w L s ts) {L' : List Nat} (hL : ∀ b ∈ L', b ∈ L) : TL w L' s ts := h.step (Chg.refl L w) (fun _ hb => .inl hb) (fun b hb => .inl (hL b hb))
def ev (st ep nx : Int) (H : Sl) : Value := .agg #[.int .i64 st, .int .i64 ep, .int .i64 nx, H.v]
def GiveE (base : Nat) (L : List Nat) (O : Sl) (st ep nx : Int) (held os : List Tm.Tg) (w : World) (e : Ending) (w' : World) : Prop :=
  ∃ O' H' : Sl, e = .returned (.tuple #[ev st ep (Im.give held nx).2.1 H', O'.v]) ∧ TO base w' (L ++ O'.blk.toList) O' (os ++ (Im.give held nx).2.2) ∧ TL w' (L ++ O'.blk.toList) H' (Im.give held nx).1 ∧ Chg O.blk.toList w w' ∧ (∀ b, O'.blk = some b → O.blk = some b ∨ w.heap.size ≤ b)
end Go.Proofs.YticmoaebegahgaaGreatDoor.Iw
