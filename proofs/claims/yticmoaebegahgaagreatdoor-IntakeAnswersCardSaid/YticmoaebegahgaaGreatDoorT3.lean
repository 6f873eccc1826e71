import Derived.Test.YticmoaebegahgaaGreatDoorT2
import Derived.Test.YticmoaebegahgaaGreatDoorW2
import Derived.BigRegion
set_option linter.all false
namespace Go.Proofs.YticmoaebegahgaaGreatDoor.Wr
open Go.ChangeShapes Go.WideShapes Go.ChangeAt Go.RowKit
theorem body_split : ∀ {ns us : List Int} {r : List UInt8}, (∀ x ∈ ns, Tm.I64 x) → (∀ x ∈ us, Tm.I64 x) → Tm.body us = Tm.body ns ++ r → ∃ rest, us = ns ++ rest ∧ r = Tm.body rest
  | [], us, r, _, _, h => ⟨us, rfl, by simpa [Tm.body] using h.symm⟩
  | n :: t, [], r, _, _, h => by
    have h1 := congrArg List.length h
    have := Wm.enc_pos (Wm.fold n)
    simp only [Tm.body, List.length_append, List.length_nil] at h1; omega
  | n :: t, m :: u, r, hn, hu, h => by
    simp only [Tm.body, List.append_assoc] at h
    obtain ⟨e, h1⟩ := Tm.enc_prefix (hu m (by simp)) (hn n (by simp)) h
    subst e
    obtain ⟨rest, e, h2⟩ := body_split (fun x hx => hn x (List.mem_cons_of_mem _ hx)) (fun x hx => hu x (List.mem_cons_of_mem _ hx)) h1
    exact ⟨rest, by rw [e]; rfl, h2⟩
structure Rn (y : List UInt8) (ns : List Int) (k pos : Nat) : Prop where
  len : ns.length = k
  i64 : ∀ x ∈ ns, Tm.I64 x
  le : pos ≤ y.length
  kp : k ≤ pos
  eq : y = Tm.body ns ++ y.drop pos
theorem rn_start (y : List UInt8) : Rn y [] 0 0 := ⟨rfl, by simp, by omega, by omega, by simp [Tm.body]⟩
theorem Rn.next {y : List UInt8} {ns : List Int} {k pos : Nat} {x q : Int} (h : Rn y ns k pos) (hr : Wm.intR y (pos : Int) = (x, q, 0)) :
    ∃ pos', q = ((pos' : Nat) : Int) ∧ Rn y (ns ++ [x]) (k + 1) pos' ∧ pos < pos' := by
  obtain ⟨h1, h2, r, h3⟩ := Tm.intR_ok hr rfl
  have hp := Wm.enc_pos (Wm.fold x)
  have hl := congrArg List.length h3
  rw [List.length_drop, List.length_append] at hl
  have := h.le
  have := h.kp
  refine ⟨_, h2, ⟨by simp [h.len], fun v hv => ?_, by omega, by omega, ?_⟩, by omega⟩
  · rcases List.mem_append.1 hv with hv | hv
    · exact h.i64 v hv
    · simp at hv; rw [hv]; exact h1
  · rw [Tm.body_snoc, List.append_assoc, ← List.drop_drop, h3, List.drop_left, ← h3]; exact h.eq
theorem Rn.stop {y : List UInt8} {ns : List Int} {k pos : Nat} {x q er : Int} (h : Rn y ns k pos) (hp : pos < y.length) (hr : Wm.intR y (pos : Int) = (x, q, er)) (he : er ≠ 0) : ∀ u : Tm.Tg, u.ok = true → y ≠ Tm.body u.nums := by
  intro u hu e
  obtain ⟨rest, e1, e2⟩ := body_split h.i64 (Tm.Tg.nums_ok hu) (e.symm.trans h.eq)
  cases rest with
  | nil =>
    have := congrArg List.length e2
    simp only [List.length_drop, Tm.body, List.length_nil] at this; omega
  | cons v t =>
    have hv : Tm.I64 v := Tm.Tg.nums_ok hu v (by rw [e1]; simp)
    have := Tm.intR_at (by omega) hv e2
    rw [hr] at this
    exact he (congrArg (·.2.2) this)
theorem Rn.all {y : List UInt8} {ns : List Int} {k pos : Nat} (h : Rn y ns k pos) (hp : pos = y.length) : y = Tm.body ns := by
  have := h.eq
  rw [hp, List.drop_length, List.append_nil] at this; exact this
theorem Rn.is {y : List UInt8} {ns : List Int} {k pos : Nat} (h : Rn y ns k pos) (hp : pos = y.length) {u : Tm.Tg} (hu : u.ok = true) (e : y = Tm.body u.nums) : ns = u.nums :=
  Tm.body_inj h.i64 (Tm.Tg.nums_ok hu) ((h.all hp).symm.trans e)
theorem Rn.few {y : List UInt8} {ns : List Int} {k pos : Nat} (h : Rn y ns k pos) (hp : pos = y.length) (hk : k < 6) : ∀ u : Tm.Tg, u.ok = true → y ≠ Tm.body u.nums := by
  intro u hu e
  have h1 := congrArg List.length (h.is hp hu e)
  have := h.len
  simp only [Tm.Tg.nums, List.length_cons] at h1; omega
theorem Rn.wrong {y : List UInt8} {ns : List Int} {k pos : Nat} (h : Rn y ns k pos) (hp : pos = y.length) (hk : ns.getD 5 0 ≠ (k : Int) - 6) : ∀ u : Tm.Tg, u.ok = true → y ≠ Tm.body u.nums := by
  intro u hu e
  have h1 := h.is hp hu e
  have h2 := h.len
  apply hk
  rw [h1]
  rw [h1] at h2
  simp only [Tm.Tg.nums, List.length_cons] at h2
  show (u.vs.length : Int) = _
  omega
def tgOf (ns : List Int) : Tm.Tg := ⟨ns.getD 0 0, ns.getD 1 0, ns.getD 2 0, ns.getD 3 0, ns.getD 4 0, ns.drop 6⟩
theorem tgOf_nums {ns : List Int} {k : Nat} (hl : ns.length = k) (h6 : 6 ≤ k) (h5 : ns.getD 5 0 = (k : Int) - 6) : (tgOf ns).nums = ns := by
  match ns, hl with
  | a :: b :: c :: d :: e :: f :: t, hl =>
    simp only [List.length_cons] at hl
    have h5 : f = (k : Int) - 6 := h5
    show a :: b :: c :: d :: e :: ((t.length : Nat) : Int) :: t = _
    rw [show ((t.length : Nat) : Int) = f by omega]
  | [], hl => simp at hl; omega
  | [_], hl => simp at hl; omega
  | [_, _], hl => simp at hl; omega
  | [_, _, _], hl => simp at hl; omega
  | [_, _, _, _], hl => simp at hl; omega
  | [_, _, _, _, _], hl => simp at hl; omega
theorem Rn.bad {y : List UInt8} {ns : List Int} {k pos : Nat} (h : Rn y ns k pos) (hp : pos = y.length) (h6 : 6 ≤ k) (h5 : ns.getD 5 0 = (k : Int) - 6) (hok : (tgOf ns).ok = false) : ∀ u : Tm.Tg, u.ok = true → y ≠ Tm.body u.nums := by
  intro u hu e
  have h1 := h.is hp hu e
  have := Tm.Tg.nums_inj ((tgOf_nums h.len h6 h5).trans h1)
  rw [this, hu] at hok
  cases hok
theorem Rn.good {y : List UInt8} {ns : List Int} {k pos : Nat} (h : Rn y ns k pos) (hp : pos = y.length) (h6 : 6 ≤ k) (h5 : ns.getD 5 0 = (k : Int) - 6) : Tm.shut y = (tgOf ns).inside := by
  unfold Tm.Tg.inside
  rw [tgOf_nums h.len h6 h5, ← h.all hp]
theorem IR.drop {w : World} {b off n : Nat} {l : List Int} (h : IR w (some ⟨b, off, none⟩) n l) (k m : Nat) (hk : k + m = n) : IR w (some ⟨b, off + k, none⟩) m (l.drop k) := by
  refine ⟨by rw [List.length_drop, h.1]; omega, fun i hi => ?_⟩
  obtain ⟨b', off', e, hc⟩ := h.2 (k + i) (by omega)
  injection e with e
  injection e with e1 e2
  subst e1; subst e2
  exact ⟨b, off + k, rfl, by rw [Nat.add_assoc, hc]; simp [List.getD_eq_getElem?_getD]⟩
theorem IR.apart2 {w w' : World} {Y O X n : Nat} {vs : List Int} (h : IR w (some ⟨Y, O, none⟩) n vs) (g : w.grownBy w' (some X)) (hne : Y ≠ X) : IR w' (some ⟨Y, O, none⟩) n vs :=
  ⟨h.1, fun i hi => by
    obtain ⟨b, off, e, hc⟩ := h.2 i hi
    injection e with e
    injection e with e1 e2
    subst e1; subst e2
    exact ⟨Y, O, rfl, g.cell hc (by intro e; injection e with e; exact hne e)⟩⟩
end Go.Proofs.YticmoaebegahgaaGreatDoor.Wr
namespace Go.Proofs.YticmoaebegahgaaGreatDoor.Wr
open Go.ChangeShapes Go.WideShapes Go.ChangeAt Go.RowKit
end Go.Proofs.YticmoaebegahgaaGreatDoor.Wr
