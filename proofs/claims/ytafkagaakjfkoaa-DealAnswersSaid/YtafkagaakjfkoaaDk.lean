/- The walk of DealExact. -/
import Derived.Test.YtafkagaakjfkoaaDj
namespace Go.Proofs.Ytafkagaakjfkoaa
open Go.ChangeShapes Go.WideShapes Go.ChangeAt Go.RowKit

/-- What came before it lies below. -/
theorem _root_.Go.World.grownBy.under {w wr w' : World} {S : Nat} (h : w.grownBy wr none) (hS : S = w.heap.size) (k : wr.grownBy w' (some S)) : w.grownBy w' none :=
  grown_row0 h k (fun b hb => by cases hb; omega)
theorem eqB_refl (l : List Int) : eqB l l = true := by unfold eqB; simp
theorem Rates.i64 {r : List Int} (h : Rates r) (i : Nat) : IsI64 (r.getD i 0) := by
  by_cases hi : i < r.length
  · have := h.ok i hi
    exact ⟨by omega, by omega⟩
  · rw [show r.getD i 0 = 0 by rw [List.getD_eq_getElem?_getD, List.getElem?_eq_none (by omega)]; rfl]
    exact ⟨by omega, by omega⟩
theorem Rates.nn {r : List Int} (h : Rates r) : ∀ i, i < r.length → 0 ≤ r.getD i 0 := fun i hi => (h.ok i hi).1
theorem Rates.chk {r : List Int} (h : Rates r) {k : Int} (h0 : 0 ≤ k) (h1 : k ≤ r.sum) : chk r k = 0 := chk_ok.2 (h.rok h0 h1)
theorem Rates.cnt {r : List Int} (h : Rates r) {k : Int} (h0 : 0 ≤ k) (h1 : k ≤ r.sum) : cntF r k = Dm.cnt r k.toNat := if_pos (h.chk h0 h1)

set_option maxHeartbeats 400000 in
theorem exact_walk (a : Option Addr) (len cap : Nat) (zs : List Int) (w : World) (hi : InRow w a len cap zs) :
    Calls Try.prog 4 #[.slice a len cap] w fun e w' => e = .returned (.bool true) ∧ Below w.heap.size w w' := by
  go_enter Try.func4, Try.ntmps4
  go_wp2_with fail
  refine (new_any a len cap zs w hi).mono ?_
  rintro e w1 ⟨rfl, hg, hs, _⟩
  have G := Lib.hid hg
  have HS := Lib.hid hs
  clear hi hg hs
  obtain ⟨S, hS⟩ : ∃ S, S = w.heap.size := ⟨_, rfl⟩
  have SW := Lib.hid hS
  rw [← hS] at HS ⊢
  clear hS
  go_wp2_with fail
  refine (rates_any S w1 HS.out).mono ?_
  rintro e w2 ⟨⟨oa, on, oc⟩, r, rfl, ho, hr, hg, hs⟩
  replace G := Lib.hid (G.out.under SW.out hg)
  have R := Lib.hid ho.nr
  have HR := Lib.hid hr
  have rm := hr.max
  have rp := hr.pos
  clear ho hr hg hs HS
  obtain ⟨V, hV⟩ : ∃ V, V = r.sum := ⟨_, rfl⟩
  rw [← hV] at rm rp ⊢
  have HV := Lib.hid hV
  clear hV
  dsimp only [Sl.v]
  go_wp2_with fail
  refine (dcounts_any ⟨oa, on, oc⟩ r V w2 R.out HR.out.i64 ⟨by omega, by omega⟩).mono ?_
  rw [HR.out.chk (by omega) (by rw [HV.out]; omega), HR.out.cnt (by omega) (by rw [HV.out]; omega), Dm.cnt_all HR.out.nn HR.out.pos (by rw [← HV.out]; omega)]
  rintro e w3 ⟨⟨qa, qn, qc⟩, rfl, hq, hg⟩
  have Q := Lib.hid hq
  replace R := Lib.hid (R.out.grown hg)
  replace G := Lib.hid (grown_trans G.out hg)
  clear hq hg
  dsimp only [Sl.v]
  go_wp2_with fail
  refine (ints_any _ _ _ _ _ Q.out.sl R.out.sl (by have := HR.out.len5; omega) (by have := HR.out.len5; omega)).mono ?_
  rw [eqB_refl]
  rintro e w4 ⟨rfl, q4, rfl⟩
  replace G := Lib.hid (grown_trans G.out (grown_drewN _ q4 none))
  clear Q R
  go_wp2_with fail
  refine (awake17_any _).mono ?_
  rintro e w5 ⟨rfl, hg⟩
  replace G := Lib.hid (grown_trans G.out hg)
  clear hg
  go_wp2
  go_ret
  exact ⟨rfl, grown_below G.out⟩
end Go.Proofs.Ytafkagaakjfkoaa
