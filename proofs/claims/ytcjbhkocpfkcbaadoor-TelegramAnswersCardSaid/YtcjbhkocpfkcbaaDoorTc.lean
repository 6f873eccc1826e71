/- Contracts of the telegram's checks: isUpTo, areNumbers, Valid, Before, and the reference's. -/
import Derived.Test.YtcjbhkocpfkcbaaDoorTm
import Derived.Test.YtcjbhkocpfkcbaaDoorWireMore
namespace Go.Proofs.YtcjbhkocpfkcbaaDoor.Wr
open Go.ChangeShapes Go.WideShapes Go.ChangeAt Go.RowKit

/-- The call returned v; it made memory at most. -/
def Ret (v : Value) (w : World) (e : Ending) (w' : World) : Prop := e = .returned v ∧ w.grownBy w' none
theorem ret_mk {a b : Bool} {w w' : World} (h : a = b) (hg : w.grownBy w' none) : Ret (.bool b) w (.returned (.bool a)) w' := by subst h; exact ⟨rfl, hg⟩

/-- A row of ints reads so. -/
def IR (w : World) (V : Option Addr) (n : Nat) (vs : List Int) : Prop :=
  vs.length = n ∧ ∀ i, i < n → ∃ b off, V = some ⟨b, off, none⟩ ∧ w.cell? ⟨b, off + i, none⟩ = some (.int .i64 (vs.getD i 0))
theorem IR.grown {w w' : World} {V : Option Addr} {n : Nat} {vs : List Int} (h : IR w V n vs) (hg : w.grownBy w' none) : IR w' V n vs :=
  ⟨h.1, fun i hi => by obtain ⟨b, off, e, hc⟩ := h.2 i hi; exact ⟨b, off, e, hg.cell hc (by simp)⟩⟩
theorem IR.nil (w : World) (V : Option Addr) : IR w V 0 [] := ⟨rfl, fun i hi => absurd hi (by omega)⟩

/-- A telegram's value. -/
def tv (t : Tm.Tg) (V : Value) : Value := .agg #[.int .i64 t.st, .int .i64 t.ep, .int .i64 t.sq, .int .i64 t.tm, .int .i64 t.kd, V]

theorem upto_any (n m : Int) (w : World) : Calls Tryd.prog 31 #[.int .i64 n, .int .i64 m] w fun e w' => e = .returned (.bool (Tm.upTo n m)) ∧ w = w' := by
  by_cases h : 0 ≤ n
  · by_cases h2 : n ≤ m
    · have E := Lib.hid (Tm.upTo_iff.2 ⟨h, h2⟩)
      go_enter Tryd.func31, Tryd.ntmps31
      go_wp2
      go_ret
      exact ⟨ret_bool E.out.symm, rfl⟩
    · have E := Lib.hid (show Tm.upTo n m = false by simp [Tm.upTo, h2])
      go_enter Tryd.func31, Tryd.ntmps31
      go_wp2
      go_ret
      exact ⟨ret_bool E.out.symm, rfl⟩
  · have E := Lib.hid (show Tm.upTo n m = false by simp [Tm.upTo, h])
    go_enter Tryd.func31, Tryd.ntmps31
    go_wp2
    go_ret
    exact ⟨ret_bool E.out.symm, rfl⟩
theorem rin_any (n m : Int) (w : World) : Calls Tryd.prog 33 #[.int .i64 n, .int .i64 m] w fun e w' => e = .returned (.bool (Tm.upTo n m)) ∧ w = w' := by
  by_cases h : 0 ≤ n
  · by_cases h2 : n ≤ m
    · have E := Lib.hid (Tm.upTo_iff.2 ⟨h, h2⟩)
      go_enter Tryd.func33, Tryd.ntmps33
      go_wp2
      go_ret
      exact ⟨ret_bool E.out.symm, rfl⟩
    · have E := Lib.hid (show Tm.upTo n m = false by simp [Tm.upTo, h2])
      go_enter Tryd.func33, Tryd.ntmps33
      go_wp2
      go_ret
      exact ⟨ret_bool E.out.symm, rfl⟩
  · have E := Lib.hid (show Tm.upTo n m = false by simp [Tm.upTo, h])
    go_enter Tryd.func33, Tryd.ntmps33
    go_wp2
    go_ret
    exact ⟨ret_bool E.out.symm, rfl⟩
theorem upto_at {n m : Int} {b : Bool} (w : World) (h : Tm.upTo n m = b) : Calls Tryd.prog 31 #[.int .i64 n, .int .i64 m] w fun e w' => e = .returned (.bool b) ∧ w = w' := by
  subst h; exact upto_any n m w
theorem rin_at {n m : Int} {b : Bool} (w : World) (h : Tm.upTo n m = b) : Calls Tryd.prog 33 #[.int .i64 n, .int .i64 m] w fun e w' => e = .returned (.bool b) ∧ w = w' := by
  subst h; exact rin_any n m w

theorem all_yes {vs : List Int} (h : ∀ j, j < vs.length → Tm.inN (vs.getD j 0) = true) : vs.all Tm.inN = true := by
  rw [List.all_eq_true]
  intro x hx
  obtain ⟨i, hi, rfl⟩ := List.getElem_of_mem hx
  have := h i hi
  simpa [List.getD, hi] using this
theorem all_no {vs : List Int} {j : Nat} (hj : j < vs.length) (h : Tm.inN (vs.getD j 0) = false) : vs.all Tm.inN = false := by
  rw [List.all_eq_false]
  refine ⟨vs.getD j 0, ?_, by rw [h]; simp⟩
  rw [List.getD_eq_getElem?_getD, List.getElem?_eq_getElem hj]
  exact List.getElem_mem hj
theorem pre_snoc {vs : List Int} {k : Nat} (h : ∀ j, j < k → Tm.inN (vs.getD j 0) = true) (hk : Tm.inN (vs.getD k 0) = true) : ∀ j, j < k + 1 → Tm.inN (vs.getD j 0) = true := by
  intro j hj
  by_cases e : j = k
  · rw [e]; exact hk
  · exact h j (by omega)
theorem inN_yes {v : Int} (h1 : -9007199254740992 ≤ v) (h2 : v ≤ 9007199254740992) : Tm.inN v = true := Tm.inN_iff.2 ⟨h1, h2⟩
theorem inN_low {v : Int} (h1 : ¬ -9007199254740992 ≤ v) : Tm.inN v = false := by simp [Tm.inN, h1]
theorem inN_high {v : Int} (h1 : ¬ v ≤ 9007199254740992) : Tm.inN v = false := by simp [Tm.inN, h1]

theorem numbers_any (A : Option Addr) (n c : Nat) (vs : List Int) (w : World) (h : IR w A n vs) (hn : n ≤ 4611686018427387904) :
    Calls Tryd.prog 32 #[.slice A n c] w fun e w' => e = .returned (.bool (vs.all Tm.inN)) ∧ w = w' := by
  obtain ⟨hl, hc⟩ := h
  have HL := Lib.hid hl
  have HC := Lib.hid hc
  clear hl hc
  go_enter Tryd.func32, Tryd.ntmps32
  go_wp2
  go_loopw [7] (fun i wr => ∃ k : Nat, i = .int .i64 k ∧ k ≤ n ∧ w = wr ∧ Hid (∀ j, j < k → Tm.inN (vs.getD j 0) = true)) (fun i _ => n - (intOf i).toNat)
  case atStart => exact ⟨0, rfl, by omega, rfl, fun j hj => absurd hj (by omega)⟩
  case round =>
    obtain ⟨k, rfl, hk, rfl, P⟩ := hrel
    by_cases hlt : k < n
    · obtain ⟨b, off, rfl, cc⟩ := HC.out k hlt
      have F := Lib.hid (fun h => all_no (vs := vs) (j := k) (by rw [HL.out]; exact hlt) h)
      have S := Lib.hid (fun h => pre_snoc (vs := vs) P.out h)
      generalize vs.getD k 0 = x at *
      by_cases h1 : -9007199254740992 ≤ x
      · by_cases h2 : x ≤ 9007199254740992
        · have S := Lib.hid (S.out (inN_yes h1 h2))
          go_wp2
          go_roundw
          case rel => exact ⟨k + 1, by go_num, by omega, by trivial, S⟩
          case measure => simp [intOf]; omega
        · have F := Lib.hid (F.out (inN_high h2))
          go_wp2
          go_ret
          exact ⟨ret_bool F.out.symm, rfl⟩
      · have F := Lib.hid (F.out (inN_low h1))
        go_wp2
        go_ret
        exact ⟨ret_bool F.out.symm, rfl⟩
    · obtain rfl : k = n := by omega
      have F := Lib.hid (all_yes (vs := vs) (by rw [HL.out]; exact P.out))
      go_wp2
      go_ret
      exact ⟨ret_bool F.out.symm, rfl⟩
theorem numbers_at {A : Option Addr} {n c : Nat} {vs : List Int} {r : Bool} (w : World) (h : IR w A n vs) (hn : n ≤ 4611686018427387904) (hr : vs.all Tm.inN = r) :
    Calls Tryd.prog 32 #[.slice A n c] w fun e w' => e = .returned (.bool r) ∧ w = w' := by
  subst hr; exact numbers_any A n c vs w h hn


set_option maxHeartbeats 1000000 in
theorem valid_any (t : Tm.Tg) (A : Option Addr) (n c : Nat) (w : World) (h : IR w A n t.vs) (hn : n ≤ 4611686018427387904) :
    Calls Tryd.prog 13 #[tv t (.slice A n c)] w (Ret (.bool t.ok) w) := by
  have HB := Lib.hid h
  have hl := h.1
  clear h
  have OK := Lib.hid (show t.ok = (Tm.upTo t.st 255 && (Tm.upTo t.ep 255 && (Tm.upTo t.sq 2147483648 && (Tm.upTo t.tm 1099511627776 && (Tm.upTo t.kd 63 && (Tm.upTo (n : Int) 16 && t.vs.all Tm.inN)))))) by unfold Tm.Tg.ok; rw [hl])
  unfold tv
  by_cases q0 : Tm.upTo t.st 255 = true
  · skip
    by_cases q1 : Tm.upTo t.ep 255 = true
    · skip
      by_cases q2 : Tm.upTo t.sq 2147483648 = true
      · skip
        by_cases q3 : Tm.upTo t.tm 1099511627776 = true
        · skip
          by_cases q4 : Tm.upTo t.kd 63 = true
          · skip
            by_cases q5 : Tm.upTo (n : Int) 16 = true
            · skip
              by_cases q6 : t.vs.all Tm.inN = true
              · skip
                have E := Lib.hid (show t.ok = true by rw [OK.out]; simp [q0, q1, q2, q3, q4, q5, q6])
                have Q0 := Lib.hid q0
                have Q1 := Lib.hid q1
                have Q2 := Lib.hid q2
                have Q3 := Lib.hid q3
                have Q4 := Lib.hid q4
                have Q5 := Lib.hid q5
                have Q6 := Lib.hid q6
                clear q0 q1 q2 q3 q4 q5 q6
                go_enter Tryd.func13, Tryd.ntmps13
                go_wp2_with fail
                refine (upto_at _ Q0.out).mono ?_
                rintro e w1 ⟨rfl, rfl⟩
                go_wp2_with fail
                refine (upto_at _ Q1.out).mono ?_
                rintro e w1 ⟨rfl, rfl⟩
                go_wp2_with fail
                refine (upto_at _ Q2.out).mono ?_
                rintro e w1 ⟨rfl, rfl⟩
                go_wp2_with fail
                refine (upto_at _ Q3.out).mono ?_
                rintro e w1 ⟨rfl, rfl⟩
                go_wp2_with fail
                refine (upto_at _ Q4.out).mono ?_
                rintro e w1 ⟨rfl, rfl⟩
                go_wp2_with fail
                refine (upto_at _ Q5.out).mono ?_
                rintro e w1 ⟨rfl, rfl⟩
                go_wp2_with fail
                refine (numbers_at _ (HB.out.grown (World.grownBy_alloc _ _ _)) (by omega) Q6.out).mono ?_
                rintro e w1 ⟨rfl, rfl⟩
                go_wp2
                go_ret
                exact ret_mk E.out.symm (World.grownBy_alloc _ _ _)
              · have q6 := eq_false_of_ne_true q6
                have E := Lib.hid (show t.ok = false by rw [OK.out]; simp [q0, q1, q2, q3, q4, q5, q6])
                have Q0 := Lib.hid q0
                have Q1 := Lib.hid q1
                have Q2 := Lib.hid q2
                have Q3 := Lib.hid q3
                have Q4 := Lib.hid q4
                have Q5 := Lib.hid q5
                have Q6 := Lib.hid q6
                clear q0 q1 q2 q3 q4 q5 q6
                go_enter Tryd.func13, Tryd.ntmps13
                go_wp2_with fail
                refine (upto_at _ Q0.out).mono ?_
                rintro e w1 ⟨rfl, rfl⟩
                go_wp2_with fail
                refine (upto_at _ Q1.out).mono ?_
                rintro e w1 ⟨rfl, rfl⟩
                go_wp2_with fail
                refine (upto_at _ Q2.out).mono ?_
                rintro e w1 ⟨rfl, rfl⟩
                go_wp2_with fail
                refine (upto_at _ Q3.out).mono ?_
                rintro e w1 ⟨rfl, rfl⟩
                go_wp2_with fail
                refine (upto_at _ Q4.out).mono ?_
                rintro e w1 ⟨rfl, rfl⟩
                go_wp2_with fail
                refine (upto_at _ Q5.out).mono ?_
                rintro e w1 ⟨rfl, rfl⟩
                go_wp2_with fail
                refine (numbers_at _ (HB.out.grown (World.grownBy_alloc _ _ _)) (by omega) Q6.out).mono ?_
                rintro e w1 ⟨rfl, rfl⟩
                go_wp2
                go_ret
                exact ret_mk E.out.symm (World.grownBy_alloc _ _ _)
            · have q5 := eq_false_of_ne_true q5
              have E := Lib.hid (show t.ok = false by rw [OK.out]; simp [q0, q1, q2, q3, q4, q5])
              have Q0 := Lib.hid q0
              have Q1 := Lib.hid q1
              have Q2 := Lib.hid q2
              have Q3 := Lib.hid q3
              have Q4 := Lib.hid q4
              have Q5 := Lib.hid q5
              clear q0 q1 q2 q3 q4 q5
              go_enter Tryd.func13, Tryd.ntmps13
              go_wp2_with fail
              refine (upto_at _ Q0.out).mono ?_
              rintro e w1 ⟨rfl, rfl⟩
              go_wp2_with fail
              refine (upto_at _ Q1.out).mono ?_
              rintro e w1 ⟨rfl, rfl⟩
              go_wp2_with fail
              refine (upto_at _ Q2.out).mono ?_
              rintro e w1 ⟨rfl, rfl⟩
              go_wp2_with fail
              refine (upto_at _ Q3.out).mono ?_
              rintro e w1 ⟨rfl, rfl⟩
              go_wp2_with fail
              refine (upto_at _ Q4.out).mono ?_
              rintro e w1 ⟨rfl, rfl⟩
              go_wp2_with fail
              refine (upto_at _ Q5.out).mono ?_
              rintro e w1 ⟨rfl, rfl⟩
              go_wp2
              go_ret
              exact ret_mk E.out.symm (World.grownBy_alloc _ _ _)
          · have q4 := eq_false_of_ne_true q4
            have E := Lib.hid (show t.ok = false by rw [OK.out]; simp [q0, q1, q2, q3, q4])
            have Q0 := Lib.hid q0
            have Q1 := Lib.hid q1
            have Q2 := Lib.hid q2
            have Q3 := Lib.hid q3
            have Q4 := Lib.hid q4
            clear q0 q1 q2 q3 q4
            go_enter Tryd.func13, Tryd.ntmps13
            go_wp2_with fail
            refine (upto_at _ Q0.out).mono ?_
            rintro e w1 ⟨rfl, rfl⟩
            go_wp2_with fail
            refine (upto_at _ Q1.out).mono ?_
            rintro e w1 ⟨rfl, rfl⟩
            go_wp2_with fail
            refine (upto_at _ Q2.out).mono ?_
            rintro e w1 ⟨rfl, rfl⟩
            go_wp2_with fail
            refine (upto_at _ Q3.out).mono ?_
            rintro e w1 ⟨rfl, rfl⟩
            go_wp2_with fail
            refine (upto_at _ Q4.out).mono ?_
            rintro e w1 ⟨rfl, rfl⟩
            go_wp2
            go_ret
            exact ret_mk E.out.symm (World.grownBy_alloc _ _ _)
        · have q3 := eq_false_of_ne_true q3
          have E := Lib.hid (show t.ok = false by rw [OK.out]; simp [q0, q1, q2, q3])
          have Q0 := Lib.hid q0
          have Q1 := Lib.hid q1
          have Q2 := Lib.hid q2
          have Q3 := Lib.hid q3
          clear q0 q1 q2 q3
          go_enter Tryd.func13, Tryd.ntmps13
          go_wp2_with fail
          refine (upto_at _ Q0.out).mono ?_
          rintro e w1 ⟨rfl, rfl⟩
          go_wp2_with fail
          refine (upto_at _ Q1.out).mono ?_
          rintro e w1 ⟨rfl, rfl⟩
          go_wp2_with fail
          refine (upto_at _ Q2.out).mono ?_
          rintro e w1 ⟨rfl, rfl⟩
          go_wp2_with fail
          refine (upto_at _ Q3.out).mono ?_
          rintro e w1 ⟨rfl, rfl⟩
          go_wp2
          go_ret
          exact ret_mk E.out.symm (World.grownBy_alloc _ _ _)
      · have q2 := eq_false_of_ne_true q2
        have E := Lib.hid (show t.ok = false by rw [OK.out]; simp [q0, q1, q2])
        have Q0 := Lib.hid q0
        have Q1 := Lib.hid q1
        have Q2 := Lib.hid q2
        clear q0 q1 q2
        go_enter Tryd.func13, Tryd.ntmps13
        go_wp2_with fail
        refine (upto_at _ Q0.out).mono ?_
        rintro e w1 ⟨rfl, rfl⟩
        go_wp2_with fail
        refine (upto_at _ Q1.out).mono ?_
        rintro e w1 ⟨rfl, rfl⟩
        go_wp2_with fail
        refine (upto_at _ Q2.out).mono ?_
        rintro e w1 ⟨rfl, rfl⟩
        go_wp2
        go_ret
        exact ret_mk E.out.symm (World.grownBy_alloc _ _ _)
    · have q1 := eq_false_of_ne_true q1
      have E := Lib.hid (show t.ok = false by rw [OK.out]; simp [q0, q1])
      have Q0 := Lib.hid q0
      have Q1 := Lib.hid q1
      clear q0 q1
      go_enter Tryd.func13, Tryd.ntmps13
      go_wp2_with fail
      refine (upto_at _ Q0.out).mono ?_
      rintro e w1 ⟨rfl, rfl⟩
      go_wp2_with fail
      refine (upto_at _ Q1.out).mono ?_
      rintro e w1 ⟨rfl, rfl⟩
      go_wp2
      go_ret
      exact ret_mk E.out.symm (World.grownBy_alloc _ _ _)
  · have q0 := eq_false_of_ne_true q0
    have E := Lib.hid (show t.ok = false by rw [OK.out]; simp [q0])
    have Q0 := Lib.hid q0
    clear q0
    go_enter Tryd.func13, Tryd.ntmps13
    go_wp2_with fail
    refine (upto_at _ Q0.out).mono ?_
    rintro e w1 ⟨rfl, rfl⟩
    go_wp2
    go_ret
    exact ret_mk E.out.symm (World.grownBy_alloc _ _ _)
end Go.Proofs.YtcjbhkocpfkcbaaDoor.Wr
