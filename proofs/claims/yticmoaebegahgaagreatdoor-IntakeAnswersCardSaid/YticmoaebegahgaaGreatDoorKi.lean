import Derived.Test.YticmoaebegahgaaGreatDoorKh
import Derived.Test.YticmoaebegahgaaGreatDoorLv
set_option linter.all false
namespace Go.Proofs.YticmoaebegahgaaGreatDoor.Iw
open Go.ChangeShapes Go.WideShapes Go.ChangeAt Go.RowKit
open Wr (IR RB iv ivs bv bvs grown_trans grown_refl grown_alloc ret_int ret_bool tv Ret ret_mk)
theorem TL.list {w : World} {L : List Nat} {s : Sl} {ts : List Tm.Tg} (h : TL w L s ts) : ∃ xs : List TV, xs.map Prod.fst = ts ∧ CR w s (f6 xs) ∧ (∀ x ∈ xs, VI w L x.2 x.1.vs) ∧ xs.length = s.n := by
  have hl := h.len
  have key : ∀ m, m ≤ s.n → ∃ xs : List TV, xs.map Prod.fst = ts.take m ∧ CR w s (f6 xs) ∧ ∀ x ∈ xs, VI w L x.2 x.1.vs := by
    intro m
    induction m with
    | zero => intro _; exact ⟨[], rfl, (fun j u hu => by simp [f6] at hu), (fun x hx => by cases hx)⟩
    | succ m ih =>
      intro hm
      obtain ⟨xs, h1, h2, h3⟩ := ih (by omega)
      obtain ⟨b, off, V, e, _, hv, hc⟩ := h.at_ m (by omega)
      have hx : xs.length = m := by have := congrArg List.length h1; rw [List.length_map, List.length_take] at this; omega
      have e2 : ts.take (m + 1) = ts.take m ++ [ts.getD m Tm.zero] := by
        rw [List.take_add_one, List.getElem?_eq_getElem (by omega)]; simp [List.getD, List.getElem?_eq_getElem (show m < ts.length by omega)]
      refine ⟨xs ++ [(ts.getD m Tm.zero, V)], by rw [List.map_append, h1, e2]; rfl, ?_, ?_⟩
      · rw [f6, flat_app]
        refine CR.pre h2 (fun j u hu => ⟨b, off, e, ?_⟩)
        have : (f6 xs).length = m * 6 := by rw [f6_len, hx]
        rw [show (xs.flatMap tcs).length = m * 6 from this]
        exact hc j u (by simpa using hu)
      · intro x hx
        rcases List.mem_append.1 hx with hx | hx
        · exact h3 x hx
        · rw [List.mem_singleton] at hx; subst hx; exact hv
  obtain ⟨xs, h1, h2, h3⟩ := key s.n (Nat.le_refl _)
  exact ⟨xs, by rw [h1, List.take_of_length_le (by omega)], h2, h3, by have := congrArg List.length h1; rw [List.length_map, List.length_take] at this; omega⟩
theorem cr_take {w : World} {A : Option Addr} {n c c' a : Nat} {xs : List TV} (h : CR w ⟨A, n, c⟩ (f6 xs)) : CR w ⟨A, a, c'⟩ (f6 (xs.take a)) := by
  intro j u hu
  have e : f6 (xs.take a) = (f6 xs).take (a * 6) := (flat_take tcs_len xs a).symm
  rw [e, List.getElem?_take] at hu
  split at hu
  · exact h j u hu
  · cases hu
theorem cr_drop {w : World} {b off n c a : Nat} {xs : List TV} (h : CR w ⟨some ⟨b, off, none⟩, n, c⟩ (f6 xs)) (hl : xs.length = n) (hn : n ≤ c) {ad : Option Addr} {c' : Nat} (ha : (if c = a then some (⟨b, off, none⟩ : Addr) else some ⟨b, off + a * 6, none⟩) = ad) : CR w ⟨ad, n - a, c'⟩ (f6 (xs.drop a)) := by
  intro j u hu
  by_cases e : c = a
  · rw [List.drop_of_length_le (by omega)] at hu
    simp [f6] at hu
  · rw [if_neg e] at ha
    have e2 : f6 (xs.drop a) = (f6 xs).drop (a * 6) := (flat_drop tcs_len xs a).symm
    rw [e2, List.getElem?_drop] at hu
    obtain ⟨b', off', e3, hc⟩ := h _ u hu
    injection e3 with e3
    injection e3 with e3 e4
    subst e3; subst e4
    exact ⟨b, off + a * 6, ha.symm, by rw [show off + a * 6 + j = off + (a * 6 + j) by omega]; exact hc⟩
theorem ins_row {base : Nat} {w w' : World} {L : List Nat} {r V : Sl} {t : Tm.Tg} {xs : List TV} {hc : List Tm.Tg} {a : Nat} (hx : xs.map Prod.fst = hc) (hv : ∀ x ∈ xs, VI w L x.2 x.1.vs) (hV : VI w L V t.vs) (g : w.grownBy w' none) (hr : OR base w' 28 6 r (f6 (xs.take a) ++ tcs (t, V) ++ f6 (xs.drop a))) (hL : ∀ b ∈ L, b < base) : TL w' L r (hc.take a ++ t :: hc.drop a) := by
  have hT : TO base w' L r (hc.take a ++ t :: hc.drop a) := by
    refine ⟨⟨xs.take a ++ (t, V) :: xs.drop a, by rw [← hx]; simp, ?_, fun x hx => ?_⟩⟩
    · have e : f6 (xs.take a ++ (t, V) :: xs.drop a) = f6 (xs.take a) ++ tcs (t, V) ++ f6 (xs.drop a) := by rw [f6, flat_app, List.flatMap_cons, ← List.append_assoc]; rfl
      rw [e]; exact hr
    · rcases List.mem_append.1 hx with hx | hx
      · exact (hv x (List.mem_of_mem_take hx)).grown g
      · rcases List.mem_cons.1 hx with rfl | hx
        · exact hV.grown g
        · exact (hv x (List.mem_of_mem_drop hx)).grown g
  exact TL.to hT (fun b hb hm => by have h1 := (hT.blk b hb).1; have h2 := hL b hm; omega)
def TakeE (L : List Nat) (r : Im.Wt × List Tm.Tg) (w : World) (e : Ending) (w' : World) : Prop :=
  ∃ H' O' : Sl, e = .returned (.tuple #[ev r.1.st r.1.ep r.1.nx H', O'.v]) ∧ TL w' L H' r.1.held ∧ TL w' L O' r.2 ∧ w.grownBy w' none
end Go.Proofs.YticmoaebegahgaaGreatDoor.Iw
