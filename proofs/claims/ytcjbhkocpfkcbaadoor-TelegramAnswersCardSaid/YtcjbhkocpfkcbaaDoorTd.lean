/- Contracts of the reference's Valid, of Before, of the reference's Before and Same, and of keep.Ints. -/
import Derived.Test.YtcjbhkocpfkcbaaDoorTc
import Derived.BigQuiet
namespace Go.Proofs.YtcjbhkocpfkcbaaDoor.Wr
open Go.ChangeShapes Go.WideShapes Go.ChangeAt Go.RowKit

def tcells (t : Tm.Tg) (V : Value) : Obj := Obj.cells #[.int .i64 t.st, .int .i64 t.ep, .int .i64 t.sq, .int .i64 t.tm, .int .i64 t.kd, V] 24


set_option maxHeartbeats 1000000 in
theorem rvalid_any (t : Tm.Tg) (A : Option Addr) (n c : Nat) (w : World) (h : IR w A n t.vs) (hn : n ≤ 4611686018427387904) :
    Calls Tryd.prog 14 #[tv t (.slice A n c)] w (Ret (.bool t.ok) w) := by
  have HB := Lib.hid h
  have hl := h.1
  clear h
  have HL := Lib.hid hl
  have OK := Lib.hid (show t.ok = (Tm.upTo t.st 255 && (Tm.upTo t.ep 255 && (Tm.upTo t.sq 2147483648 && (Tm.upTo t.tm 1099511627776 && (Tm.upTo t.kd 63 && (Tm.upTo (n : Int) 16 && t.vs.all Tm.inN)))))) by unfold Tm.Tg.ok; rw [hl])
  clear hl
  have C : Hid (∀ i, i < n → ∃ b off, A = some ⟨b, off, none⟩ ∧ (w.alloc (tcells t (.slice A n c))).cell? ⟨b, off + i, none⟩ = some (.int .i64 (t.vs.getD i 0))) := (HB.out.grown (World.grownBy_alloc w _ _)).2
  have G : Hid (w.grownBy (w.alloc (tcells t (.slice A n c))) none) := World.grownBy_alloc _ _ _
  obtain ⟨a, b, s, d, f, vs⟩ := t
  dsimp only [tv, tcells] at *
  obtain ⟨w1, hw1⟩ : ∃ w1, w1 = w.alloc (Obj.cells #[.int .i64 a, .int .i64 b, .int .i64 s, .int .i64 d, .int .i64 f, .slice A n c] 24) := ⟨_, rfl⟩
  have K0 : w1.cell? ⟨w.heap.size, 0, none⟩ = some (.int .i64 a) := by subst hw1; go_simp
  have K1 : w1.cell? ⟨w.heap.size, 1, none⟩ = some (.int .i64 b) := by subst hw1; go_simp
  have K2 : w1.cell? ⟨w.heap.size, 2, none⟩ = some (.int .i64 s) := by subst hw1; go_simp
  have K3 : w1.cell? ⟨w.heap.size, 3, none⟩ = some (.int .i64 d) := by subst hw1; go_simp
  have K4 : w1.cell? ⟨w.heap.size, 4, none⟩ = some (.int .i64 f) := by subst hw1; go_simp
  have K5 : w1.cell? ⟨w.heap.size, 5, none⟩ = some (.slice A n c) := by subst hw1; go_simp
  go_enter Tryd.func14, Tryd.ntmps14
  go_wp2
  rw [← hw1] at C G ⊢
  clear hw1
  go_loopw [7] (fun i wr => ∃ k : Nat, i = .int .i64 k ∧ k ≤ n ∧ w1 = wr ∧ Hid (∀ j, j < k → Tm.inN (vs.getD j 0) = true)) (fun i _ => n - (intOf i).toNat)
  case atStart => exact ⟨0, rfl, by omega, rfl, fun j hj => absurd hj (by omega)⟩
  case round =>
    obtain ⟨k, rfl, hk, rfl, P⟩ := hrel
    by_cases hlt : k < n
    · obtain ⟨B, off, rfl, cc⟩ := C.out k hlt
      have F := Lib.hid (fun h => all_no (vs := vs) (j := k) (by rw [HL.out]; exact hlt) h)
      have S := Lib.hid (fun h => pre_snoc (vs := vs) P.out h)
      generalize vs.getD k 0 = x at *
      by_cases h1 : -9007199254740992 ≤ x
      · by_cases h2 : x ≤ 9007199254740992
        · have S := Lib.hid (S.out (inN_yes h1 h2))
          go_wp2
          go_roundw
          case rel => exact ⟨k + 1, by go_num, by omega, by trivial, S⟩
          case measure => simp [intOf]; omega
        · have F := Lib.hid (F.out (inN_high h2))
          have E := Lib.hid (OK.out.trans (show _ = false by rw [F.out]; simp))
          go_wp2
          go_ret
          exact ret_mk E.out.symm G.out
      · have F := Lib.hid (F.out (inN_low h1))
        have E := Lib.hid (OK.out.trans (show _ = false by rw [F.out]; simp))
        go_wp2
        go_ret
        exact ret_mk E.out.symm G.out
    · obtain rfl : k = n := by omega
      have F := Lib.hid (all_yes (vs := vs) (by rw [HL.out]; exact P.out))
      have OK := Lib.hid (show Tm.Tg.ok ⟨a, b, s, d, f, vs⟩ = (Tm.upTo a 255 && (Tm.upTo b 255 && (Tm.upTo s 2147483648 && (Tm.upTo d 1099511627776 && (Tm.upTo f 63 && Tm.upTo (k : Int) 16))))) by rw [OK.out, F.out]; simp)
      by_cases q0 : Tm.upTo a 255 = true
      · skip
        by_cases q1 : Tm.upTo b 255 = true
        · skip
          by_cases q2 : Tm.upTo s 2147483648 = true
          · skip
            by_cases q3 : Tm.upTo d 1099511627776 = true
            · skip
              by_cases q4 : Tm.upTo f 63 = true
              · skip
                by_cases q5 : Tm.upTo (k : Int) 16 = true
                · skip
                  have E := Lib.hid (OK.out.trans (show _ = true by simp [q0, q1, q2, q3, q4, q5]))
                  have Q0 := Lib.hid q0
                  have Q1 := Lib.hid q1
                  have Q2 := Lib.hid q2
                  have Q3 := Lib.hid q3
                  have Q4 := Lib.hid q4
                  have q5 := (Tm.upTo_iff.1 q5).2
                  clear q0 q1 q2 q3 q4
                  go_wp2_with fail
                  refine (rin_at _ Q0.out).mono ?_
                  rintro e w1 ⟨rfl, rfl⟩
                  go_wp2_with fail
                  refine (rin_at _ Q1.out).mono ?_
                  rintro e w1 ⟨rfl, rfl⟩
                  go_wp2_with fail
                  refine (rin_at _ Q2.out).mono ?_
                  rintro e w1 ⟨rfl, rfl⟩
                  go_wp2_with fail
                  refine (rin_at _ Q3.out).mono ?_
                  rintro e w1 ⟨rfl, rfl⟩
                  go_wp2_with fail
                  refine (rin_at _ Q4.out).mono ?_
                  rintro e w1 ⟨rfl, rfl⟩
                  go_wp2
                  go_ret
                  exact ret_mk E.out.symm G.out
                · have q5 := eq_false_of_ne_true q5
                  have E := Lib.hid (OK.out.trans (show _ = false by simp [q0, q1, q2, q3, q4, q5]))
                  have Q0 := Lib.hid q0
                  have Q1 := Lib.hid q1
                  have Q2 := Lib.hid q2
                  have Q3 := Lib.hid q3
                  have Q4 := Lib.hid q4
                  have q5 : ¬ (k : Int) ≤ 16 := fun h => by rw [Tm.upTo_iff.2 ⟨by omega, h⟩] at q5; cases q5
                  clear q0 q1 q2 q3 q4
                  go_wp2_with fail
                  refine (rin_at _ Q0.out).mono ?_
                  rintro e w1 ⟨rfl, rfl⟩
                  go_wp2_with fail
                  refine (rin_at _ Q1.out).mono ?_
                  rintro e w1 ⟨rfl, rfl⟩
                  go_wp2_with fail
                  refine (rin_at _ Q2.out).mono ?_
                  rintro e w1 ⟨rfl, rfl⟩
                  go_wp2_with fail
                  refine (rin_at _ Q3.out).mono ?_
                  rintro e w1 ⟨rfl, rfl⟩
                  go_wp2_with fail
                  refine (rin_at _ Q4.out).mono ?_
                  rintro e w1 ⟨rfl, rfl⟩
                  go_wp2
                  go_ret
                  exact ret_mk (by rw [E.out]; exact decide_eq_false (by omega)) G.out
              · have q4 := eq_false_of_ne_true q4
                have E := Lib.hid (OK.out.trans (show _ = false by simp [q0, q1, q2, q3, q4]))
                have Q0 := Lib.hid q0
                have Q1 := Lib.hid q1
                have Q2 := Lib.hid q2
                have Q3 := Lib.hid q3
                have Q4 := Lib.hid q4
                clear q0 q1 q2 q3 q4
                go_wp2_with fail
                refine (rin_at _ Q0.out).mono ?_
                rintro e w1 ⟨rfl, rfl⟩
                go_wp2_with fail
                refine (rin_at _ Q1.out).mono ?_
                rintro e w1 ⟨rfl, rfl⟩
                go_wp2_with fail
                refine (rin_at _ Q2.out).mono ?_
                rintro e w1 ⟨rfl, rfl⟩
                go_wp2_with fail
                refine (rin_at _ Q3.out).mono ?_
                rintro e w1 ⟨rfl, rfl⟩
                go_wp2_with fail
                refine (rin_at _ Q4.out).mono ?_
                rintro e w1 ⟨rfl, rfl⟩
                go_wp2
                go_ret
                exact ret_mk E.out.symm G.out
            · have q3 := eq_false_of_ne_true q3
              have E := Lib.hid (OK.out.trans (show _ = false by simp [q0, q1, q2, q3]))
              have Q0 := Lib.hid q0
              have Q1 := Lib.hid q1
              have Q2 := Lib.hid q2
              have Q3 := Lib.hid q3
              clear q0 q1 q2 q3
              go_wp2_with fail
              refine (rin_at _ Q0.out).mono ?_
              rintro e w1 ⟨rfl, rfl⟩
              go_wp2_with fail
              refine (rin_at _ Q1.out).mono ?_
              rintro e w1 ⟨rfl, rfl⟩
              go_wp2_with fail
              refine (rin_at _ Q2.out).mono ?_
              rintro e w1 ⟨rfl, rfl⟩
              go_wp2_with fail
              refine (rin_at _ Q3.out).mono ?_
              rintro e w1 ⟨rfl, rfl⟩
              go_wp2
              go_ret
              exact ret_mk E.out.symm G.out
          · have q2 := eq_false_of_ne_true q2
            have E := Lib.hid (OK.out.trans (show _ = false by simp [q0, q1, q2]))
            have Q0 := Lib.hid q0
            have Q1 := Lib.hid q1
            have Q2 := Lib.hid q2
            clear q0 q1 q2
            go_wp2_with fail
            refine (rin_at _ Q0.out).mono ?_
            rintro e w1 ⟨rfl, rfl⟩
            go_wp2_with fail
            refine (rin_at _ Q1.out).mono ?_
            rintro e w1 ⟨rfl, rfl⟩
            go_wp2_with fail
            refine (rin_at _ Q2.out).mono ?_
            rintro e w1 ⟨rfl, rfl⟩
            go_wp2
            go_ret
            exact ret_mk E.out.symm G.out
        · have q1 := eq_false_of_ne_true q1
          have E := Lib.hid (OK.out.trans (show _ = false by simp [q0, q1]))
          have Q0 := Lib.hid q0
          have Q1 := Lib.hid q1
          clear q0 q1
          go_wp2_with fail
          refine (rin_at _ Q0.out).mono ?_
          rintro e w1 ⟨rfl, rfl⟩
          go_wp2_with fail
          refine (rin_at _ Q1.out).mono ?_
          rintro e w1 ⟨rfl, rfl⟩
          go_wp2
          go_ret
          exact ret_mk E.out.symm G.out
      · have q0 := eq_false_of_ne_true q0
        have E := Lib.hid (OK.out.trans (show _ = false by simp [q0]))
        have Q0 := Lib.hid q0
        clear q0
        go_wp2_with fail
        refine (rin_at _ Q0.out).mono ?_
        rintro e w1 ⟨rfl, rfl⟩
        go_wp2
        go_ret
        exact ret_mk E.out.symm G.out

theorem before_any (t u : Tm.Tg) (A B : Option Addr) (n c m d : Nat) (w : World) :
    Calls Tryd.prog 15 #[tv t (.slice A n c), tv u (.slice B m d)] w (Ret (.bool (Tm.before t u)) w) := by
  obtain ⟨a1, a2, a3, a4, a5, a6⟩ := t
  obtain ⟨b1, b2, b3, b4, b5, b6⟩ := u
  have hg : ∀ o p, w.grownBy ((w.alloc o).alloc p) none := fun o p => grown_trans (World.grownBy_alloc _ _ _) (World.grownBy_alloc _ _ _)
  have G := Lib.hid hg
  clear hg
  unfold tv
  dsimp only
  by_cases h1 : a1 = b1
  · subst h1
    by_cases h2 : a2 < b2
    · have E := Lib.hid (show Tm.before ⟨a1, a2, a3, a4, a5, a6⟩ ⟨a1, b2, b3, b4, b5, b6⟩ = true by simp [Tm.before, h2])
      go_enter Tryd.func15, Tryd.ntmps15
      go_wp2
      go_ret
      exact ret_mk E.out.symm (G.out _ _)
    · by_cases h3 : a2 = b2
      · subst h3
        by_cases h4 : a3 < b3
        · have E := Lib.hid (show Tm.before ⟨a1, a2, a3, a4, a5, a6⟩ ⟨a1, a2, b3, b4, b5, b6⟩ = true by simp [Tm.before, h4])
          go_enter Tryd.func15, Tryd.ntmps15
          go_wp2
          go_ret
          exact ret_mk E.out.symm (G.out _ _)
        · have E := Lib.hid (show Tm.before ⟨a1, a2, a3, a4, a5, a6⟩ ⟨a1, a2, b3, b4, b5, b6⟩ = false by simp [Tm.before, h4])
          go_enter Tryd.func15, Tryd.ntmps15
          go_wp2
          go_ret
          exact ret_mk E.out.symm (G.out _ _)
      · have E := Lib.hid (show Tm.before ⟨a1, a2, a3, a4, a5, a6⟩ ⟨a1, b2, b3, b4, b5, b6⟩ = false by simp [Tm.before, h2, h3])
        go_enter Tryd.func15, Tryd.ntmps15
        go_wp2
        go_ret
        exact ret_mk E.out.symm (G.out _ _)
  · have E := Lib.hid (show Tm.before ⟨a1, a2, a3, a4, a5, a6⟩ ⟨b1, b2, b3, b4, b5, b6⟩ = false by simp [Tm.before, h1])
    go_enter Tryd.func15, Tryd.ntmps15
    go_wp2
    go_ret
    exact ret_mk E.out.symm (G.out _ _)

theorem rbefore_any (t u : Tm.Tg) (A B : Option Addr) (n c m d : Nat) (w : World) :
    Calls Tryd.prog 16 #[tv t (.slice A n c), tv u (.slice B m d)] w (Ret (.bool (Tm.before t u)) w) := by
  obtain ⟨a1, a2, a3, a4, a5, a6⟩ := t
  obtain ⟨b1, b2, b3, b4, b5, b6⟩ := u
  have hg : ∀ o p, w.grownBy ((w.alloc o).alloc p) none := fun o p => grown_trans (World.grownBy_alloc _ _ _) (World.grownBy_alloc _ _ _)
  have G := Lib.hid hg
  clear hg
  unfold tv
  dsimp only
  by_cases h1 : a1 = b1
  · subst h1
    by_cases h2 : a2 < b2
    · have E := Lib.hid (show Tm.before ⟨a1, a2, a3, a4, a5, a6⟩ ⟨a1, b2, b3, b4, b5, b6⟩ = true by simp [Tm.before, h2])
      go_enter Tryd.func16, Tryd.ntmps16
      go_wp2
      go_ret
      exact ret_mk E.out.symm (G.out _ _)
    · by_cases h3 : a2 = b2
      · subst h3
        by_cases h4 : a3 < b3
        · have E := Lib.hid (show Tm.before ⟨a1, a2, a3, a4, a5, a6⟩ ⟨a1, a2, b3, b4, b5, b6⟩ = true by simp [Tm.before, h4])
          go_enter Tryd.func16, Tryd.ntmps16
          go_wp2
          go_ret
          exact ret_mk E.out.symm (G.out _ _)
        · have E := Lib.hid (show Tm.before ⟨a1, a2, a3, a4, a5, a6⟩ ⟨a1, a2, b3, b4, b5, b6⟩ = false by simp [Tm.before, h4])
          go_enter Tryd.func16, Tryd.ntmps16
          go_wp2
          go_ret
          exact ret_mk E.out.symm (G.out _ _)
      · have E := Lib.hid (show Tm.before ⟨a1, a2, a3, a4, a5, a6⟩ ⟨a1, b2, b3, b4, b5, b6⟩ = false by simp [Tm.before, h2, h3])
        go_enter Tryd.func16, Tryd.ntmps16
        go_wp2
        go_ret
        exact ret_mk E.out.symm (G.out _ _)
  · have E := Lib.hid (show Tm.before ⟨a1, a2, a3, a4, a5, a6⟩ ⟨b1, b2, b3, b4, b5, b6⟩ = false by simp [Tm.before, h1])
    go_enter Tryd.func16, Tryd.ntmps16
    go_wp2
    go_ret
    exact ret_mk E.out.symm (G.out _ _)

/-- Both rows are read; the call says whether they are equal. -/
theorem ints_any (A B : Option Addr) (n c m d : Nat) (vs us : List Int) (w : World) (h : IR w A n vs) (k : IR w B m us) (hn : n ≤ 4611686018427387904) (hm : m ≤ 4611686018427387904) :
    Calls Tryd.prog 43 #[.slice A n c, .slice B m d] w (Ret (.bool (decide (vs = us))) w) := by
  by_cases hnm : n = m
  · subst hnm
    have HA := Lib.hid h
    have HB := Lib.hid k
    clear h k
    go_enter Tryd.func43, Tryd.ntmps43
    go_wp2
    go_loopw [13] (fun i wr => ∃ k q : Nat, i = .int .i64 k ∧ k ≤ n ∧ wr = w.drewN q ∧ Hid (vs.take k = us.take k)) (fun i _ => n - (intOf i).toNat)
    case atStart => exact ⟨0, 0, rfl, by omega, rfl, by first | exact Lib.hid trivial | exact Lib.hid (by simp)⟩
    case round =>
      obtain ⟨k, q, rfl, hk, rfl, P⟩ := hrel
      by_cases hlt : k < n
      · obtain ⟨b1, off1, rfl, c1⟩ := HA.out.2 k hlt
        obtain ⟨b2, off2, rfl, c2⟩ := HB.out.2 k hlt
        have hv : k < vs.length := by rw [HA.out.1]; exact hlt
        have hu : k < us.length := by rw [HB.out.1]; exact hlt
        have T1 : Hid (vs.take (k + 1) = vs.take k ++ [vs.getD k 0]) := by
          show _ = _
          rw [List.take_succ_eq_append_getElem hv]; simp [List.getD, hv]
        have T2 : Hid (us.take (k + 1) = us.take k ++ [us.getD k 0]) := by
          show _ = _
          rw [List.take_succ_eq_append_getElem hu]; simp [List.getD, hu]
        have D : Hid (vs.getD k 0 ≠ us.getD k 0 → decide (vs = us) = false) := by
          show _ → _
          intro h
          rw [decide_eq_false_iff_not]
          rintro rfl
          exact h rfl
        generalize vs.getD k 0 = x at *
        generalize us.getD k 0 = y at *
        clear hv hu
        by_cases hxy : x = y
        · subst hxy
          have T : Hid (vs.take (k + 1) = us.take (k + 1)) := by
            show _ = _
            rw [T1.out, T2.out, P.out]
          go_wp2
          go_quiet (fail)
          go_wp2
          go_roundw
          case rel => exact ⟨k + 1, q + nq, by go_num, by omega, by simp, T⟩
          case measure => simp [intOf]; omega
        · have D := Lib.hid (D.out hxy)
          go_wp2
          go_quiet (fail)
          go_wp2
          go_ret
          exact ret_mk D.out.symm (by simpa using grown_drewN w _ none)
      · obtain rfl : k = n := by omega
        have D : Hid (decide (vs = us) = true) := by
          show _ = _
          have := P.out
          rw [List.take_of_length_le (by rw [HA.out.1]; omega), List.take_of_length_le (by rw [HB.out.1]; omega)] at this
          simp [this]
        go_wp2
        go_ret
        exact ret_mk D.out.symm (grown_drewN _ _ _)
  · have D : Hid (decide (vs = us) = false) := by
      show _ = _
      rw [decide_eq_false_iff_not]
      rintro rfl
      exact hnm (by rw [← h.1, ← k.1])
    clear h k
    go_enter Tryd.func43, Tryd.ntmps43
    go_wp2
    go_ret
    exact ret_mk D.out.symm (grown_refl _ _)
theorem ints_at {A B : Option Addr} {n c m d : Nat} {vs us : List Int} {r : Bool} {w : World} (h : IR w A n vs) (k : IR w B m us) (hn : n ≤ 4611686018427387904) (hm : m ≤ 4611686018427387904) (hr : decide (vs = us) = r) :
    Calls Tryd.prog 43 #[.slice A n c, .slice B m d] w (Ret (.bool r) w) := by
  subst hr; exact ints_any A B n c m d vs us w h k hn hm


theorem same_any (t u : Tm.Tg) (A B : Option Addr) (n c m d : Nat) (w : World) (h : IR w A n t.vs) (k : IR w B m u.vs) (hn : n ≤ 4611686018427387904) (hm : m ≤ 4611686018427387904) :
    Calls Tryd.prog 26 #[tv t (.slice A n c), tv u (.slice B m d)] w (Ret (.bool (Tm.same t u)) w) := by
  obtain ⟨a1, a2, a3, a4, a5, vs⟩ := t
  obtain ⟨b1, b2, b3, b4, b5, us⟩ := u
  have HA := Lib.hid h
  have HB := Lib.hid k
  clear h k
  have hg : ∀ o p, w.grownBy ((w.alloc o).alloc p) none := fun o p => grown_trans (World.grownBy_alloc _ _ _) (World.grownBy_alloc _ _ _)
  have G := Lib.hid hg
  clear hg
  unfold tv
  dsimp only at *
  by_cases h1 : a1 = b1
  · subst h1
    by_cases h2 : a2 = b2
    · subst h2
      by_cases h3 : a3 = b3
      · subst h3
        by_cases h4 : a4 = b4
        · subst h4
          by_cases h5 : a5 = b5
          · subst h5
            by_cases h6 : vs = us
            · have E := Lib.hid (show Tm.same ⟨a1, a2, a3, a4, a5, vs⟩ ⟨a1, a2, a3, a4, a5, us⟩ = true by simp [Tm.same, h6])
              have D := Lib.hid (show decide (vs = us) = true by simp [h6])
              clear h6
              go_enter Tryd.func26, Tryd.ntmps26
              go_wp2_with fail
              refine (ints_at (HA.out.grown (G.out _ _)) (HB.out.grown (G.out _ _)) hn hm D.out).mono ?_
              rintro e w1 ⟨rfl, hg⟩
              have G1 := Lib.hid (grown_trans (G.out _ _) hg)
              clear hg
              go_wp2
              go_ret
              exact ret_mk E.out.symm G1.out
            · have E := Lib.hid (show Tm.same ⟨a1, a2, a3, a4, a5, vs⟩ ⟨a1, a2, a3, a4, a5, us⟩ = false by simp [Tm.same, h6])
              have D := Lib.hid (show decide (vs = us) = false by simp [h6])
              clear h6
              go_enter Tryd.func26, Tryd.ntmps26
              go_wp2_with fail
              refine (ints_at (HA.out.grown (G.out _ _)) (HB.out.grown (G.out _ _)) hn hm D.out).mono ?_
              rintro e w1 ⟨rfl, hg⟩
              have G1 := Lib.hid (grown_trans (G.out _ _) hg)
              clear hg
              go_wp2
              go_ret
              exact ret_mk E.out.symm G1.out
          · have E := Lib.hid (show Tm.same ⟨a1, a2, a3, a4, a5, vs⟩ ⟨a1, a2, a3, a4, b5, us⟩ = false by simp [Tm.same, h5])
            go_enter Tryd.func26, Tryd.ntmps26
            go_wp2
            go_ret
            exact ret_mk E.out.symm (G.out _ _)
        · have E := Lib.hid (show Tm.same ⟨a1, a2, a3, a4, a5, vs⟩ ⟨a1, a2, a3, b4, b5, us⟩ = false by simp [Tm.same, h4])
          go_enter Tryd.func26, Tryd.ntmps26
          go_wp2
          go_ret
          exact ret_mk E.out.symm (G.out _ _)
      · have E := Lib.hid (show Tm.same ⟨a1, a2, a3, a4, a5, vs⟩ ⟨a1, a2, b3, b4, b5, us⟩ = false by simp [Tm.same, h3])
        go_enter Tryd.func26, Tryd.ntmps26
        go_wp2
        go_ret
        exact ret_mk E.out.symm (G.out _ _)
    · have E := Lib.hid (show Tm.same ⟨a1, a2, a3, a4, a5, vs⟩ ⟨a1, b2, b3, b4, b5, us⟩ = false by simp [Tm.same, h2])
      go_enter Tryd.func26, Tryd.ntmps26
      go_wp2
      go_ret
      exact ret_mk E.out.symm (G.out _ _)
  · have E := Lib.hid (show Tm.same ⟨a1, a2, a3, a4, a5, vs⟩ ⟨b1, b2, b3, b4, b5, us⟩ = false by simp [Tm.same, h1])
    go_enter Tryd.func26, Tryd.ntmps26
    go_wp2
    go_ret
    exact ret_mk E.out.symm (G.out _ _)
end Go.Proofs.YtcjbhkocpfkcbaaDoor.Wr
