/- Contract of package deal's Counts. -/
import Derived.Test.YtafkagaakjfkoaaDi4
namespace Go.Proofs.Ytafkagaakjfkoaa
open Go.ChangeShapes Go.WideShapes Go.ChangeAt Go.RowKit

/-- An object that was just made, and written whole. -/
theorem fresh_one (w : World) (T : TypeId) (k : Nat) {C : Array Value} {us : List Value} (hC : C.size = k) (hk : us.length = k) :
    OR w.heap.size ((w.alloc (.cells C T)).setCells w.heap.size 0 us) T k ⟨some ⟨w.heap.size, 0, none⟩, 1, 1⟩ us ∧ w.grownBy ((w.alloc (.cells C T)).setCells w.heap.size 0 us) none ∧ (w.alloc (.cells C T)).there w.heap.size 0 k := by
  have a := alloc_one w T k (C := C) (us := C.toList) rfl (by simpa using hC) rfl
  have b := own_set us 0 (show (w.alloc (.cells C T)).ownsRow w.heap.size T k (.slice (some ⟨w.heap.size, 0, none⟩) 1 1) 1 C.toList from a.own) (by rw [hk]; omega)
  rw [List.take_zero, List.nil_append, List.drop_of_length_le (by simp; omega), List.append_nil] at b
  refine ⟨⟨b.1⟩, ?_, ?_⟩
  · exact grown_row0 (World.grownBy_alloc w _ none) b.2 (fun x hx => by injection hx with hx; omega)
  · have := a.there
    rw [Array.length_toList, hC] at this
    exact this
theorem clone_n (s : Sl) (l : List Int) (w : World) (h : NR w s l) (hb : s.n ≤ 1000) :
    Calls Try.prog 32 #[s.v] w (fun e w' => ∃ q : Sl, e = .returned q.v ∧ ON w.heap.size w' q l ∧ w.grownBy w' none) := by
  obtain ⟨a, n, c⟩ := s
  have hl := h.len
  have hcr := h.cr
  clear h
  dsimp only at hl hb
  obtain ⟨i, hi, hz, hs, hby⟩ := parts_n
  cases a with
  | none =>
    have e0 : l = [] := by
      have e := hcr.nil_
      have e2 := ni_len l
      rw [e] at e2
      exact List.eq_nil_of_length_eq_zero (by simp at e2; omega)
    subst e0
    clear hcr hl
    show Calls Try.prog 32 #[.slice none n c] w _
    have hnil := Lib.run_eql_slice_nil (P := Try.prog) w 22 3 none n c 0 0 Try.underlying22
    go_enter Try.func32, Try.ntmps32
    go_wp2_with (simp only [hnil])
    go_ret
    exact ⟨⟨none, 0, 0⟩, rfl, or_nil _ _ _ _, grown_refl _ _⟩
  | some ad =>
    have H := Lib.hid hcr
    have L := Lib.hid (show (ni l).length = n * 1 by rw [ni_len, hl]; omega)
    clear hcr hl
    show Calls Try.prog 32 #[.slice (some ad) n c] w _
    have hnil := Lib.run_eql_slice_nil (P := Try.prog) w 22 3 (some ad) n c 0 0 Try.underlying22
    go_enter Try.func32, Try.ntmps32
    go_wp2_with (first
      | (simp only [hnil])
      | (at_builtin
         refine wpList_fresh rfl _ _ 22 rfl (us := ni l) Try.underlying22 hi hz hs hby (by rfl) (by omega) rfl rfl rfl rfl L.out (fun j u hj => ?_) (ni_one _) (by omega) (by omega) ?_
         · obtain ⟨b, off, e1, hc⟩ := (H.out.grown (World.grownBy_alloc w _ none)) j u hj
           cases e1
           rw [add_lit]; exact hc
         intro r w1 hn hr hg)
      | fail)
    have hr := Lib.hid hr
    have hg := Lib.hid hg
    go_wp2
    go_ret
    exact ⟨r, rfl, hr.out, hg.out⟩
/-- The first of the amounts. -/
theorem OR.nums {base : Nat} {w : World} {G n : Nat} {g : List Int} (h : AB base w G g) (hl : g.length = n) (hn : n ≤ 64) : NR w ⟨some ⟨G, 0, none⟩, n, 64⟩ g :=
  ⟨⟨hn, by dsimp only; omega⟩, hl, fun j u hu => by
    have hj : j < g.length := by rw [← ni_len]; exact (List.getElem?_eq_some_iff.1 hu).1
    rw [ni_get g j hj] at hu
    injection hu with hu
    have := h.one j (by rw [Dm.pad_len (by omega)]; omega)
    rw [Dm.pad_get] at this
    exact ⟨G, 0, rfl, by rw [Nat.zero_add, ← hu]; exact this⟩⟩
theorem Dm.dif_all (r : List Int) (k : Nat) : Dm.dif r 0 k = Dm.cnt r k := by
  refine Dm.ext_getD (by rw [Dm.dif_len, Dm.cnt_len]) (fun i hi => ?_)
  rw [Dm.dif_len] at hi
  rw [Dm.dif_get _ _ _ _ hi, Nat.zero_add, show Dm.cnt r 0 = Dm.zeros r.length from rfl, Dm.zeros_get]
  omega

set_option maxHeartbeats 1000000 in
theorem dcounts_any (s : Sl) (r : List Int) (k : Int) (w : World) (h : NR w s r) (_ : ∀ i, IsI64 (r.getD i 0)) (_ : IsI64 k) :
    Calls Try.prog 14 #[s.v, .int .i64 k] w (NumEnd (cntF r k) (chk r k) w) := by
  have HF := Lib.hid h
  clear h
  by_cases hE : chk r k = 0
  · have ok := chk_ok.1 hE
    have OK := Lib.hid ok
    have F := Lib.hid (show cntF r k = Dm.cnt r k.toNat from if_pos hE)
    obtain ⟨K, rfl⟩ : ∃ K : Nat, k = K := ⟨k.toNat, by have := ok.k0; omega⟩
    rw [Int.toNat_natCast] at F
    obtain ⟨a, n, c⟩ := s
    have hlen := HF.out.len
    have fit := HF.out.fit
    have n64 := ok.len
    have n0 : 0 < r.length := by
      rcases Nat.eq_zero_or_pos r.length with e | e
      · have := ok.pos; rw [List.eq_nil_of_length_eq_zero e] at this; simp at this
      · exact e
    dsimp only [Sl.fit] at hlen fit
    have CK := Lib.hid (dcheck_any ⟨a, n, c⟩ r K w HF.out)
    rw [hE] at CK
    have NW := Lib.hid (dnew_any ⟨a, n, c⟩ r w HF.out n64 n0)
    rw [hE]
    unfold Sl.v at CK NW ⊢
    dsimp only at CK NW ⊢
    have hz := (zero_of_info zero_dl).1
    have hsz : (List.replicate 129 (Value.int .i64 0)).toArray.size = 129 := by simp
    generalize (List.replicate 129 (Value.int .i64 0)).toArray = zd at *
    have lD : (ni (Dm.dl r (Dm.cnt r 0))).length = 129 := by rw [ni_len, Dm.dl_len n64 (by rw [Dm.cnt_len]; exact n64)]
    rw [show Dm.zeros r.length = Dm.cnt r 0 from rfl] at NW
    clear hE ok
    go_enter Try.func14, Try.ntmps14
    go_wp2_with fail
    refine CK.out.mono ?_
    rintro e w0 ⟨rfl, rfl⟩
    go_wp2_with fail
    refine NW.out.mono ?_
    rintro e w1 ⟨rfl, hg⟩
    have G1 := Lib.hid hg
    obtain ⟨f1, f2, f3⟩ := fresh_one w1 62 129 hsz lD
    obtain ⟨X1, hX1⟩ : ∃ X1, X1 = (w1.alloc (.cells zd 62)).setCells w1.heap.size 0 (ni (Dm.dl r (Dm.cnt r 0))) := ⟨_, rfl⟩
    rw [← hX1] at f1 f2
    have HX1 := Lib.hid hX1
    have D1 := Lib.hid (show DB w1.heap.size X1 w1.heap.size r (Dm.cnt r 0) from f1)
    have G2 := Lib.hid f2
    have T1 := Lib.hid (show (w1.alloc (.cells zd 62)).there w1.heap.size 0 (ni (Dm.dl r (Dm.cnt r 0))).toArray.size by
      show (w1.alloc (.cells zd 62)).there w1.heap.size 0 (ni (Dm.dl r (Dm.cnt r 0))).length
      rw [lD]; exact f3)
    have S1 := Lib.hid (show (Try.prog.info? 62).map (·.size) = some (ni (Dm.dl r (Dm.cnt r 0))).toArray.size by
      show _ = some (ni (Dm.dl r (Dm.cnt r 0))).length
      rw [lD]; exact info_dl)
    have one1 := Lib.hid (ni_one (Dm.dl r (Dm.cnt r 0)))
    have DLC := Lib.hid (ddl_any w1.heap.size w1.heap.size r 0 K K X1 D1.out OK.out (by omega))
    obtain ⟨Y, hY⟩ : ∃ Y, Y = ni (Dm.dl r (Dm.cnt r 0)) := ⟨_, rfl⟩
    rw [← hY] at one1 HX1 T1 S1 ⊢
    clear hY hX1 f1 f2 f3 hg lD CK NW
    go_wp2_with (first
      | (refine wpList_store_mid rfl 62 _ _ rfl w1.heap.size 0 Y.toArray rfl rfl T1.out S1.out (all_oneCell_toArray one1.out) ?_
         rw [show Y.toArray.toList = Y from rfl, ← HX1.out])
      | fail)
    refine DLC.out.mono ?_
    rintro e w2 ⟨rfl, db, ch⟩
    rw [Nat.zero_add, Dm.dif_all] at *
    have W2 := Lib.hid (show w0.grownBy w2 none from ch.grown (grown_trans G1.out G2.out) (fun x hx => by rw [List.mem_singleton] at hx; have := G1.out.size; omega))
    have lA : (ni (Dm.pad 64 (Dm.cnt r K))).length = 64 := by rw [ni_len, Dm.pad_len (by rw [Dm.cnt_len]; exact n64)]
    obtain ⟨f1, f2, f3⟩ := fresh_one w2 60 64 (C := z64) rfl lA
    obtain ⟨X2, hX2⟩ : ∃ X2, X2 = (w2.alloc (.cells z64 60)).setCells w2.heap.size 0 (ni (Dm.pad 64 (Dm.cnt r K))) := ⟨_, rfl⟩
    rw [← hX2] at f1 f2
    have HX2 := Lib.hid hX2
    have D2 := db.grown f2
    have c0 := (D2.dr n64 (by rw [Dm.cnt_len]; exact n64)).size
    rw [hlen] at c0
    have G3 := Lib.hid (grown_trans W2.out f2)
    have CL := Lib.hid (clone_n ⟨some ⟨w2.heap.size, 0, none⟩, n, 64⟩ (Dm.cnt r K) X2 (OR.nums (show AB w2.heap.size X2 w2.heap.size (Dm.cnt r K) from f1) (by rw [Dm.cnt_len]; exact hlen) (by omega)) (by dsimp only; omega))
    have T2 := Lib.hid (show (w2.alloc (.cells z64 60)).there w2.heap.size 0 (ni (Dm.pad 64 (Dm.cnt r K))).toArray.size by
      show (w2.alloc (.cells z64 60)).there w2.heap.size 0 (ni (Dm.pad 64 (Dm.cnt r K))).length
      rw [lA]; exact f3)
    have S2 := Lib.hid (show (Try.prog.info? 60).map (·.size) = some (ni (Dm.pad 64 (Dm.cnt r K))).toArray.size by
      show _ = some (ni (Dm.pad 64 (Dm.cnt r K))).length
      rw [lA]; exact info_am)
    have one2 := Lib.hid (ni_one (Dm.pad 64 (Dm.cnt r K)))
    obtain ⟨Z, hZ⟩ : ∃ Z, Z = ni (Dm.pad 64 (Dm.cnt r K)) := ⟨_, rfl⟩
    rw [← hZ] at one2 HX2 T2 S2 ⊢
    have hn64 : (n : Int) ≤ 64 := by omega
    unfold Sl.v at CL
    dsimp only at CL
    clear hZ hX2 f1 f2 f3 lA D2 db ch DLC
    go_wp2_with (first
      | (refine wpList_store_mid rfl 60 _ _ rfl w2.heap.size 0 Z.toArray rfl rfl T2.out S2.out (all_oneCell_toArray one2.out) ?_
         change wpList _ _ _ _ _ ((w2.alloc (.cells z64 60)).setCells w2.heap.size 0 Z)
         rw [← HX2.out])
      | fail)
    refine CL.out.mono ?_
    rintro e w3 ⟨⟨qa, qn, qc⟩, rfl, hq, hg⟩
    have Q := Lib.hid hq
    have G4 := Lib.hid hg
    clear hq hg CL
    dsimp only [Sl.v]
    go_wp2
    go_ret2
    exact ⟨⟨qa, qn, qc⟩, rfl, by rw [F.out]; exact Q.out.nr, grown_trans G3.out G4.out⟩
  · have F := Lib.hid (show cntF r k = [] from if_neg hE)
    have CK := Lib.hid (dcheck_any s r k w HF.out)
    obtain ⟨E, hEE⟩ : ∃ E, E = chk r k := ⟨_, rfl⟩
    have hE0 : (E != 0) = true := by rw [hEE]; simp [hE]
    rw [← hEE] at CK ⊢
    clear hEE hE
    go_enter Try.func14, Try.ntmps14
    go_wp2_with fail
    refine CK.out.mono ?_
    rintro e w1 ⟨rfl, rfl⟩
    go_wp2
    go_ret2
    exact ⟨⟨none, 0, 0⟩, rfl, by rw [F.out]; exact NR.nil, grown_refl _ _⟩
end Go.Proofs.Ytafkagaakjfkoaa
