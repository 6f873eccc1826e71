/- Package deal's newDealer; slices.Clone at numbers. -/
import Derived.Test.YtafkagaakjfkoaaDi3
import Derived.Deep.WholeRow
namespace Go.Proofs.Ytafkagaakjfkoaa
open Go.ChangeShapes Go.WideShapes Go.ChangeAt Go.RowKit

namespace Dm
theorem zeros_app (a b : Nat) : zeros a ++ zeros b = zeros (a + b) := by unfold zeros; rw [List.replicate_append_replicate]
/-- A new dealer's numbers. -/
theorem dl_new {r : List Int} (hr : r.length ≤ 64) : r ++ (zeros 128 ++ [(r.length : Int)]).drop r.length = dl r (zeros r.length) := by
  unfold dl
  rw [pad_zeros hr, List.drop_append_of_le_length (by simp [zeros]; omega)]
  unfold pad
  rw [List.append_assoc, ← List.append_assoc (zeros (64 - r.length)), zeros_app]
  congr 2
  unfold zeros
  rw [List.drop_replicate]
  congr 1; omega
end Dm
theorem zero_dl : (Try.prog.info? 62).map (fun i => (i.zero, i.size)) = some (some (.agg (List.replicate 129 (Value.int .i64 0)).toArray), 129) := by kernel_rfl
theorem set_last (n : Int) : (Dm.zeros 129).set 128 n = Dm.zeros 128 ++ [n] := by
  rw [show (129 : Nat) = 128 + 1 from rfl, ← Dm.zeros_app, List.set_append_right _ _ (by simp [Dm.zeros])]
  have e : (Dm.zeros 128).length = 128 := List.length_replicate ..
  rw [e]
  rfl
set_option maxHeartbeats 1000000 in
theorem dnew_any (s : Sl) (r : List Int) (w : World) (h : NR w s r) (hn : r.length ≤ 64) (h0 : 0 < r.length) :
    Calls Try.prog 30 #[s.v] w (fun e w' => e = .returned (.agg (ni (Dm.dl r (Dm.zeros r.length))).toArray) ∧ w.grownBy w' none) := by
  obtain ⟨a, n, c⟩ := s
  have hlen := h.len
  have fit := h.fit
  dsimp only [Sl.fit] at hlen fit
  obtain ⟨b, off, hab, _⟩ := h.at_ 0 (by dsimp only; omega)
  dsimp only at hab
  subst hab
  have HF := Lib.hid h
  clear h
  have hz := (zero_of_info zero_dl).1
  have lz := Lib.hid (show (List.replicate 129 (Value.int .i64 0)).toArray.toList = ni (Dm.zeros 129) by simp [ni, Dm.zeros])
  have hsz : (List.replicate 129 (Value.int .i64 0)).toArray.size = 129 := by simp
  generalize (List.replicate 129 (Value.int .i64 0)).toArray = zd at *
  have LB := Lib.hid (show (zd.setIfInBounds 128 (.int .i64 (n : Int))).toList = ni (Dm.zeros 128 ++ [(n : Int)]) by rw [Array.toList_setIfInBounds, lz.out, ni_set, set_last])
  have SZ := Lib.hid (show (Try.prog.info? 62).map (·.size) = some (zd.setIfInBounds 128 (.int .i64 (n : Int))).size by rw [Array.size_setIfInBounds, hsz]; exact info_dl)
  have ONE := Lib.hid (show (zd.setIfInBounds 128 (.int .i64 (n : Int))).all (·.oneCell') = true from Array.all_eq_true_iff_forall_mem.2 (fun v hv => ni_one _ v (by rw [← LB.out]; exact Array.mem_toList_iff.2 hv)))
  have l0 : (Dm.zeros 128 ++ [(n : Int)]).length = 129 := by simp [Dm.zeros]
  have lD := Lib.hid (show (ni (Dm.dl r (Dm.zeros r.length))).length = 129 by rw [ni_len, Dm.dl_len hn (by simp [Dm.zeros]; exact hn)])
  have lR := Lib.hid (show (ni r).length = n by rw [ni_len]; exact hlen)
  obtain ⟨R, hR⟩ : ∃ R, R = w.heap.size := ⟨_, rfl⟩
  obtain ⟨X0, hX0⟩ : ∃ X0, X0 = (w.alloc (.cells zd 62)).alloc (.cells zd 62) := ⟨_, rfl⟩
  obtain ⟨X1, hX1⟩ : ∃ X1, X1 = X0.setCells (w.heap.size + 1) 0 (ni (Dm.zeros 128 ++ [(n : Int)])) := ⟨_, rfl⟩
  obtain ⟨X2, hX2⟩ : ∃ X2, X2 = X1.setCells (w.heap.size + 1) 0 (ni r) := ⟨_, rfl⟩
  obtain ⟨X3, hX3⟩ : ∃ X3, X3 = X2.setCells w.heap.size 0 (ni (Dm.dl r (Dm.zeros r.length))) := ⟨_, rfl⟩
  have g1 := World.grownBy_alloc w (.cells zd 62) none
  have g2 := World.grownBy_alloc (w.alloc (.cells zd 62)) (.cells zd 62) none
  have a1 := (alloc_one w 62 129 lz.out (by simp [ni, Dm.zeros]) rfl).grown g2
  have a2 := (alloc_one (w.alloc (.cells zd 62)) 62 129 lz.out (by simp [ni, Dm.zeros]) (A := w.heap.size + 1) (by simp)).base_ (Nat.le_succ w.heap.size)
  have G0 := grown_trans g1 g2
  rw [← hX0] at a1 a2 G0
  have th0 := Lib.hid (show X0.there (w.heap.size + 1) 0 (zd.setIfInBounds 128 (.int .i64 (n : Int))).size by have := a2.there; rw [ni_len] at this; rw [Array.size_setIfInBounds, hsz]; simpa [Dm.zeros] using this)
  have b2 := own_set (ni (Dm.zeros 128 ++ [(n : Int)])) 0 (show X0.ownsRow w.heap.size 62 129 (.slice (some ⟨w.heap.size + 1, 0, none⟩) 1 1) 1 (ni (Dm.zeros 129)) from a2.own) (by rw [ni_len, l0]; omega)
  rw [← hX1, List.take_zero, List.nil_append, List.drop_of_length_le (by rw [ni_len, ni_len, l0]; simp [Dm.zeros]), List.append_nil] at b2
  have c2 := own_set (ni r) 0 b2.1 (by rw [ni_len]; omega)
  rw [← hX2, List.take_zero, List.nil_append, Nat.zero_add, show (ni r).length = r.length from ni_len r, show (ni (Dm.zeros 128 ++ [(n : Int)])).drop r.length = ni ((Dm.zeros 128 ++ [(n : Int)]).drop r.length) by unfold ni; rw [List.map_drop], ni_app, ← hlen, Dm.dl_new hn] at c2
  have D2 : OR w.heap.size X2 62 129 ⟨some ⟨w.heap.size + 1, 0, none⟩, 1, 1⟩ (ni (Dm.dl r (Dm.zeros r.length))) := ⟨c2.1⟩
  have k1 : Chg [w.heap.size + 1] X0 X1 := Chg.of b2.2 (fun x hx => by injection hx with hx; simp [hx])
  have k2 : Chg [w.heap.size + 1] X1 X2 := Chg.of c2.2 (fun x hx => by injection hx with hx; simp [hx])
  have d1 := a1.chg (k1.trans k2) (fun x hx hm => by injection hx with hx; subst hx; simp at hm)
  have d3 := own_set (ni (Dm.dl r (Dm.zeros r.length))) 0 (show X2.ownsRow w.heap.size 62 129 (.slice (some ⟨w.heap.size, 0, none⟩) 1 1) 1 (ni (Dm.zeros 129)) from d1.own) (by rw [lD.out]; omega)
  rw [← hX3] at d3
  have k3 : Chg [w.heap.size] X2 X3 := Chg.of d3.2 (fun x hx => by injection hx with hx; simp [hx])
  have G1 : w.grownBy X1 none := k1.grown G0 (fun x hx => by rw [List.mem_singleton] at hx; omega)
  have G2 : w.grownBy X2 none := k2.grown G1 (fun x hx => by rw [List.mem_singleton] at hx; omega)
  have G3 := Lib.hid (show w.grownBy X3 none from k3.grown G2 (fun x hx => by rw [List.mem_singleton] at hx; omega))
  have th1 := Lib.hid (show X1.there (w.heap.size + 1) 0 (ni r).length from fun j hj => (show OR w.heap.size X1 62 129 ⟨some ⟨w.heap.size + 1, 0, none⟩, 1, 1⟩ (ni (Dm.zeros 128 ++ [(n : Int)])) from ⟨b2.1⟩).there j (by rw [ni_len, l0]; rw [lR.out] at hj; omega))
  have rg2 := Lib.hid (show X2.rangeAt (w.heap.size + 1) 0 (ni (Dm.dl r (Dm.zeros r.length))) from D2.range)
  have th2 := Lib.hid (show X2.there w.heap.size 0 (ni (Dm.dl r (Dm.zeros r.length))).toArray.size by have := d1.there; rw [ni_len] at this; show X2.there w.heap.size 0 (ni (Dm.dl r (Dm.zeros r.length))).length; rw [lD.out]; simpa [Dm.zeros] using this)
  have rg3 := Lib.hid (show X3.rangeAt w.heap.size 0 (ni (Dm.dl r (Dm.zeros r.length))) by rw [hX3]; exact World.rangeAt_setCells_same X2 w.heap.size 0 _ (th2.out))
  have src := Lib.hid (show ∀ j v, (ni r)[j]? = some v → X1.cell? ((⟨b, off, none⟩ : Addr).add j) = some v from (HF.out.cr.grown G1).news)
  have HX0 := Lib.hid hX0
  have HX1 := Lib.hid hX1
  have HX2 := Lib.hid hX2
  have HX3 := Lib.hid hX3
  clear hX0 hX1 hX2 hX3 hR R g1 g2 a1 a2 G0 b2 c2 D2 k1 k2 d1 d3 k3 G1 G2 l0
  have hmin : Nat.min n 64 = n := Nat.min_eq_left (by omega)
  have one2 := Lib.hid (ni_one (Dm.dl r (Dm.zeros r.length)))
  have one1 := Lib.hid (ni_one r)
  have HC := Lib.hid (show (Builtin.copy_ #[22, 22] 3 #[.slice (some ⟨w.heap.size + 1, 0, none⟩) 64 64, .slice (some ⟨b, off, none⟩) n c]).run Try.prog X1 = .ok (.int .i64 (n : Int)) X2 by
    have h := copyK_run (P := Try.prog) X1 22 22 3 3 1 (w.heap.size + 1) 0 64 64 ⟨b, off, none⟩ n c (ni r) Try.underlying22 (by obtain ⟨i, hi, _, hs, _⟩ := parts_n; rw [hi, ← hs]; rfl) (by rw [lR.out, hmin]; omega) src.out (fun j hj => (th1.out j hj).1) (fun j hj => (th1.out j hj).2) one1.out
    rw [hmin, ← HX2.out] at h
    exact h)
  unfold Sl.v
  dsimp only
  obtain ⟨Y, hY⟩ : ∃ Y, Y = ni (Dm.dl r (Dm.zeros r.length)) := ⟨_, rfl⟩
  rw [← hY] at lD rg2 th2 rg3 one2 HX3 ⊢
  clear hY
  go_enter Try.func30, Try.ntmps30
  go_wp2_with (first
    | (refine wpList_store_mid rfl 62 _ _ rfl (w.heap.size + 1) 0 (zd.setIfInBounds 128 (.int .i64 (n : Int))) rfl rfl (by rw [← HX0.out]; exact th0.out) SZ.out ONE.out ?_
       rw [← HX0.out, LB.out, ← HX1.out])
    | (simp only [HC.out])
    | (refine wpList_load_mid rfl 62 _ rfl (w.heap.size + 1) 0 rfl Y _ rg2.out Try.underlying62 rfl (by rw [lD.out]; exact info_dl) ?_)
    | (refine wpList_store_mid rfl 62 _ _ rfl w.heap.size 0 Y.toArray rfl rfl th2.out (by rw [List.size_toArray, lD.out]; exact info_dl) (all_oneCell_toArray one2.out) ?_
       rw [show Y.toArray.toList = Y from rfl, ← HX3.out])
    | fail)
  refine bodyPost_ret (v := .agg Y.toArray) ?hr rfl ?hE
  case hr => exact results_cell_mid rfl _ _ w.heap.size Y _ rfl rg3.out Try.underlying62 rfl (by rw [lD.out]; exact info_dl)
  case hE => exact ⟨rfl, G3.out⟩
end Go.Proofs.Ytafkagaakjfkoaa
