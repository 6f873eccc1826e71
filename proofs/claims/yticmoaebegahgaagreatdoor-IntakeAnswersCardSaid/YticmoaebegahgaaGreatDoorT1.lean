import Derived.Test.YticmoaebegahgaaGreatDoorP1
import Derived.Test.YticmoaebegahgaaGreatDoorW2
import Derived.Test.YticmoaebegahgaaGreatDoorW1
import Derived.BigRegion
import Derived.Deep.Onto
import Derived.Deep.OwnRows
import Derived.BigQuiet
set_option linter.all false
namespace Go.Proofs.YticmoaebegahgaaGreatDoor.Wr
open Go.ChangeShapes Go.WideShapes Go.ChangeAt Go.RowKit
def Ret (v : Value) (w : World) (e : Ending) (w' : World) : Prop := e = .returned v ∧ w.grownBy w' none
theorem ret_mk {a b : Bool} {w w' : World} (h : a = b) (hg : w.grownBy w' none) : Ret (.bool b) w (.returned (.bool a)) w' := by subst h; exact ⟨rfl, hg⟩
def IR (w : World) (V : Option Addr) (n : Nat) (vs : List Int) : Prop :=
  vs.length = n ∧ ∀ i, i < n → ∃ b off, V = some ⟨b, off, none⟩ ∧ w.cell? ⟨b, off + i, none⟩ = some (.int .i64 (vs.getD i 0))
theorem IR.grown {w w' : World} {V : Option Addr} {n : Nat} {vs : List Int} (h : IR w V n vs) (hg : w.grownBy w' none) : IR w' V n vs :=
  ⟨h.1, fun i hi => by obtain ⟨b, off, e, hc⟩ := h.2 i hi; exact ⟨b, off, e, hg.cell hc (by simp)⟩⟩
theorem IR.nil (w : World) (V : Option Addr) : IR w V 0 [] := ⟨rfl, fun i hi => absurd hi (by omega)⟩
def tv (t : Tm.Tg) (V : Value) : Value := .agg #[.int .i64 t.st, .int .i64 t.ep, .int .i64 t.sq, .int .i64 t.tm, .int .i64 t.kd, V]
theorem upto_any (n m : Int) (w : World) : Calls Tryz.prog 53 #[.int .i64 n, .int .i64 m] w fun e w' => e = .returned (.bool (Tm.upTo n m)) ∧ w = w' := by
  by_cases h : 0 ≤ n
  · by_cases h2 : n ≤ m
    · have E := Hi (Tm.upTo_iff.2 ⟨h, h2⟩)
      go_enter Tryz.func53, Tryz.ntmps53
      go_wp2
      go_ret
      exact ⟨ret_bool E.out.symm, rfl⟩
    · have E := Hi (show Tm.upTo n m = false by simp [Tm.upTo, h2])
      go_enter Tryz.func53, Tryz.ntmps53
      go_wp2
      go_ret
      exact ⟨ret_bool E.out.symm, rfl⟩
  · have E := Hi (show Tm.upTo n m = false by simp [Tm.upTo, h])
    go_enter Tryz.func53, Tryz.ntmps53
    go_wp2
    go_ret
    exact ⟨ret_bool E.out.symm, rfl⟩
theorem rin_any (n m : Int) (w : World) : Calls Tryz.prog 59 #[.int .i64 n, .int .i64 m] w fun e w' => e = .returned (.bool (Tm.upTo n m)) ∧ w = w' := by
  by_cases h : 0 ≤ n
  · by_cases h2 : n ≤ m
    · have E := Hi (Tm.upTo_iff.2 ⟨h, h2⟩)
      go_enter Tryz.func59, Tryz.ntmps59
      go_wp2
      go_ret
      exact ⟨ret_bool E.out.symm, rfl⟩
    · have E := Hi (show Tm.upTo n m = false by simp [Tm.upTo, h2])
      go_enter Tryz.func59, Tryz.ntmps59
      go_wp2
      go_ret
      exact ⟨ret_bool E.out.symm, rfl⟩
  · have E := Hi (show Tm.upTo n m = false by simp [Tm.upTo, h])
    go_enter Tryz.func59, Tryz.ntmps59
    go_wp2
    go_ret
    exact ⟨ret_bool E.out.symm, rfl⟩
theorem upto_at {n m : Int} {b : Bool} (w : World) (h : Tm.upTo n m = b) : Calls Tryz.prog 53 #[.int .i64 n, .int .i64 m] w fun e w' => e = .returned (.bool b) ∧ w = w' := by
  subst h; exact upto_any n m w
theorem rin_at {n m : Int} {b : Bool} (w : World) (h : Tm.upTo n m = b) : Calls Tryz.prog 59 #[.int .i64 n, .int .i64 m] w fun e w' => e = .returned (.bool b) ∧ w = w' := by
  subst h; exact rin_any n m w
theorem all_yes {vs : List Int} (h : ∀ j, j < vs.length → Tm.inN (vs.getD j 0) = true) : vs.all Tm.inN = true := by
  rw [List.all_eq_true]
  intro x hx
  obtain ⟨i, hi, rfl⟩ := List.getElem_of_mem hx
  have := h i hi
  simpa [List.getD, hi] using this
theorem all_no {vs : List Int} {j : Nat} (hj : j < vs.length) (h : Tm.inN (vs.getD j 0) = false) : vs.all Tm.inN = false := by
  rw [List.all_eq_false]
  refine ⟨vs.getD j 0, ?_, by rw [h]; simp⟩
  rw [List.getD_eq_getElem?_getD, List.getElem?_eq_getElem hj]
  exact List.getElem_mem hj
theorem pre_snoc {vs : List Int} {k : Nat} (h : ∀ j, j < k → Tm.inN (vs.getD j 0) = true) (hk : Tm.inN (vs.getD k 0) = true) : ∀ j, j < k + 1 → Tm.inN (vs.getD j 0) = true := by
  intro j hj
  by_cases e : j = k
  · rw [e]; exact hk
  · exact h j (by omega)
theorem inN_yes {v : Int} (h1 : -9007199254740992 ≤ v) (h2 : v ≤ 9007199254740992) : Tm.inN v = true := Tm.inN_iff.2 ⟨h1, h2⟩
theorem inN_low {v : Int} (h1 : ¬ -9007199254740992 ≤ v) : Tm.inN v = false := by simp [Tm.inN, h1]
theorem inN_high {v : Int} (h1 : ¬ v ≤ 9007199254740992) : Tm.inN v = false := by simp [Tm.inN, h1]
theorem numbers_any (A : Option Addr) (n c : Nat) (vs : List Int) (w : World) (h : IR w A n vs) (hn : n ≤ 4611686018427387904) :
    Calls Tryz.prog 54 #[.slice A n c] w fun e w' => e = .returned (.bool (vs.all Tm.inN)) ∧ w = w' := by
  obtain ⟨hl, hc⟩ := h
  have HL := Hi hl
  have HC := Hi hc
  clear hl hc
  go_enter Tryz.func54, Tryz.ntmps54
  go_wp2
  go_loopw [7] (fun i wr => ∃ k : Nat, i = .int .i64 k ∧ k ≤ n ∧ w = wr ∧ Hid (∀ j, j < k → Tm.inN (vs.getD j 0) = true)) (fun i _ => n - (intOf i).toNat)
  case atStart => exact ⟨0, rfl, by omega, rfl, fun j hj => absurd hj (by omega)⟩
  case round =>
    obtain ⟨k, rfl, hk, rfl, P⟩ := hrel
    by_cases hlt : k < n
    · obtain ⟨b, off, rfl, cc⟩ := HC.out k hlt
      have F := Hi (fun h => all_no (vs := vs) (j := k) (by rw [HL.out]; exact hlt) h)
      have S := Hi (fun h => pre_snoc (vs := vs) P.out h)
      generalize vs.getD k 0 = x at *
      by_cases h1 : -9007199254740992 ≤ x
      · by_cases h2 : x ≤ 9007199254740992
        · have S := Hi (S.out (inN_yes h1 h2))
          go_wp2
          go_roundw
          case rel => exact ⟨k + 1, by go_num, by omega, by trivial, S⟩
          case measure => simp [intOf]; omega
        · have F := Hi (F.out (inN_high h2))
          go_wp2
          go_ret
          exact ⟨ret_bool F.out.symm, rfl⟩
      · have F := Hi (F.out (inN_low h1))
        go_wp2
        go_ret
        exact ⟨ret_bool F.out.symm, rfl⟩
    · obtain rfl : k = n := by omega
      have F := Hi (all_yes (vs := vs) (by rw [HL.out]; exact P.out))
      go_wp2
      go_ret
      exact ⟨ret_bool F.out.symm, rfl⟩
theorem numbers_at {A : Option Addr} {n c : Nat} {vs : List Int} {r : Bool} (w : World) (h : IR w A n vs) (hn : n ≤ 4611686018427387904) (hr : vs.all Tm.inN = r) :
    Calls Tryz.prog 54 #[.slice A n c] w fun e w' => e = .returned (.bool r) ∧ w = w' := by
  subst hr; exact numbers_any A n c vs w h hn
set_option maxHeartbeats 1000000 in
theorem valid_any (t : Tm.Tg) (A : Option Addr) (n c : Nat) (w : World) (h : IR w A n t.vs) (hn : n ≤ 4611686018427387904) :
    Calls Tryz.prog 33 #[tv t (.slice A n c)] w (Ret (.bool t.ok) w) := by
  have HB := Hi h
  have hl := h.1
  clear h
  have OK := Hi (show t.ok = (Tm.upTo t.st 255 && (Tm.upTo t.ep 255 && (Tm.upTo t.sq 2147483648 && (Tm.upTo t.tm 1099511627776 && (Tm.upTo t.kd 63 && (Tm.upTo (n : Int) 16 && t.vs.all Tm.inN)))))) by unfold Tm.Tg.ok; rw [hl])
  unfold tv
  by_cases q0 : Tm.upTo t.st 255 = true
  · skip
    by_cases q1 : Tm.upTo t.ep 255 = true
    · skip
      by_cases q2 : Tm.upTo t.sq 2147483648 = true
      · skip
        by_cases q3 : Tm.upTo t.tm 1099511627776 = true
        · skip
          by_cases q4 : Tm.upTo t.kd 63 = true
          · skip
            by_cases q5 : Tm.upTo (n : Int) 16 = true
            · skip
              by_cases q6 : t.vs.all Tm.inN = true
              · skip
                have E := Hi (show t.ok = true by rw [OK.out]; simp [q0, q1, q2, q3, q4, q5, q6])
                have Q0 := Hi q0
                have Q1 := Hi q1
                have Q2 := Hi q2
                have Q3 := Hi q3
                have Q4 := Hi q4
                have Q5 := Hi q5
                have Q6 := Hi q6
                clear q0 q1 q2 q3 q4 q5 q6
                go_enter Tryz.func33, Tryz.ntmps33
                go_wp2_with fail
                refine (upto_at _ Q0.out).mono ?_
                rintro e w1 ⟨rfl, rfl⟩
                go_wp2_with fail
                refine (upto_at _ Q1.out).mono ?_
                rintro e w1 ⟨rfl, rfl⟩
                go_wp2_with fail
                refine (upto_at _ Q2.out).mono ?_
                rintro e w1 ⟨rfl, rfl⟩
                go_wp2_with fail
                refine (upto_at _ Q3.out).mono ?_
                rintro e w1 ⟨rfl, rfl⟩
                go_wp2_with fail
                refine (upto_at _ Q4.out).mono ?_
                rintro e w1 ⟨rfl, rfl⟩
                go_wp2_with fail
                refine (upto_at _ Q5.out).mono ?_
                rintro e w1 ⟨rfl, rfl⟩
                go_wp2_with fail
                refine (numbers_at _ (HB.out.grown (World.grownBy_alloc _ _ _)) (by omega) Q6.out).mono ?_
                rintro e w1 ⟨rfl, rfl⟩
                go_wp2
                go_ret
                exact ret_mk E.out.symm (World.grownBy_alloc _ _ _)
              · have q6 := eq_false_of_ne_true q6
                have E := Hi (show t.ok = false by rw [OK.out]; simp [q0, q1, q2, q3, q4, q5, q6])
                have Q0 := Hi q0
                have Q1 := Hi q1
                have Q2 := Hi q2
                have Q3 := Hi q3
                have Q4 := Hi q4
                have Q5 := Hi q5
                have Q6 := Hi q6
                clear q0 q1 q2 q3 q4 q5 q6
                go_enter Tryz.func33, Tryz.ntmps33
                go_wp2_with fail
                refine (upto_at _ Q0.out).mono ?_
                rintro e w1 ⟨rfl, rfl⟩
                go_wp2_with fail
                refine (upto_at _ Q1.out).mono ?_
                rintro e w1 ⟨rfl, rfl⟩
                go_wp2_with fail
                refine (upto_at _ Q2.out).mono ?_
                rintro e w1 ⟨rfl, rfl⟩
                go_wp2_with fail
                refine (upto_at _ Q3.out).mono ?_
                rintro e w1 ⟨rfl, rfl⟩
                go_wp2_with fail
                refine (upto_at _ Q4.out).mono ?_
                rintro e w1 ⟨rfl, rfl⟩
                go_wp2_with fail
                refine (upto_at _ Q5.out).mono ?_
                rintro e w1 ⟨rfl, rfl⟩
                go_wp2_with fail
                refine (numbers_at _ (HB.out.grown (World.grownBy_alloc _ _ _)) (by omega) Q6.out).mono ?_
                rintro e w1 ⟨rfl, rfl⟩
                go_wp2
                go_ret
                exact ret_mk E.out.symm (World.grownBy_alloc _ _ _)
            · have q5 := eq_false_of_ne_true q5
              have E := Hi (show t.ok = false by rw [OK.out]; simp [q0, q1, q2, q3, q4, q5])
              have Q0 := Hi q0
              have Q1 := Hi q1
              have Q2 := Hi q2
              have Q3 := Hi q3
              have Q4 := Hi q4
              have Q5 := Hi q5
              clear q0 q1 q2 q3 q4 q5
              go_enter Tryz.func33, Tryz.ntmps33
              go_wp2_with fail
              refine (upto_at _ Q0.out).mono ?_
              rintro e w1 ⟨rfl, rfl⟩
              go_wp2_with fail
              refine (upto_at _ Q1.out).mono ?_
              rintro e w1 ⟨rfl, rfl⟩
              go_wp2_with fail
              refine (upto_at _ Q2.out).mono ?_
              rintro e w1 ⟨rfl, rfl⟩
              go_wp2_with fail
              refine (upto_at _ Q3.out).mono ?_
              rintro e w1 ⟨rfl, rfl⟩
              go_wp2_with fail
              refine (upto_at _ Q4.out).mono ?_
              rintro e w1 ⟨rfl, rfl⟩
              go_wp2_with fail
              refine (upto_at _ Q5.out).mono ?_
              rintro e w1 ⟨rfl, rfl⟩
              go_wp2
              go_ret
              exact ret_mk E.out.symm (World.grownBy_alloc _ _ _)
          · have q4 := eq_false_of_ne_true q4
            have E := Hi (show t.ok = false by rw [OK.out]; simp [q0, q1, q2, q3, q4])
            have Q0 := Hi q0
            have Q1 := Hi q1
            have Q2 := Hi q2
            have Q3 := Hi q3
            have Q4 := Hi q4
            clear q0 q1 q2 q3 q4
            go_enter Tryz.func33, Tryz.ntmps33
            go_wp2_with fail
            refine (upto_at _ Q0.out).mono ?_
            rintro e w1 ⟨rfl, rfl⟩
            go_wp2_with fail
            refine (upto_at _ Q1.out).mono ?_
            rintro e w1 ⟨rfl, rfl⟩
            go_wp2_with fail
            refine (upto_at _ Q2.out).mono ?_
            rintro e w1 ⟨rfl, rfl⟩
            go_wp2_with fail
            refine (upto_at _ Q3.out).mono ?_
            rintro e w1 ⟨rfl, rfl⟩
            go_wp2_with fail
            refine (upto_at _ Q4.out).mono ?_
            rintro e w1 ⟨rfl, rfl⟩
            go_wp2
            go_ret
            exact ret_mk E.out.symm (World.grownBy_alloc _ _ _)
        · have q3 := eq_false_of_ne_true q3
          have E := Hi (show t.ok = false by rw [OK.out]; simp [q0, q1, q2, q3])
          have Q0 := Hi q0
          have Q1 := Hi q1
          have Q2 := Hi q2
          have Q3 := Hi q3
          clear q0 q1 q2 q3
          go_enter Tryz.func33, Tryz.ntmps33
          go_wp2_with fail
          refine (upto_at _ Q0.out).mono ?_
          rintro e w1 ⟨rfl, rfl⟩
          go_wp2_with fail
          refine (upto_at _ Q1.out).mono ?_
          rintro e w1 ⟨rfl, rfl⟩
          go_wp2_with fail
          refine (upto_at _ Q2.out).mono ?_
          rintro e w1 ⟨rfl, rfl⟩
          go_wp2_with fail
          refine (upto_at _ Q3.out).mono ?_
          rintro e w1 ⟨rfl, rfl⟩
          go_wp2
          go_ret
          exact ret_mk E.out.symm (World.grownBy_alloc _ _ _)
      · have q2 := eq_false_of_ne_true q2
        have E := Hi (show t.ok = false by rw [OK.out]; simp [q0, q1, q2])
        have Q0 := Hi q0
        have Q1 := Hi q1
        have Q2 := Hi q2
        clear q0 q1 q2
        go_enter Tryz.func33, Tryz.ntmps33
        go_wp2_with fail
        refine (upto_at _ Q0.out).mono ?_
        rintro e w1 ⟨rfl, rfl⟩
        go_wp2_with fail
        refine (upto_at _ Q1.out).mono ?_
        rintro e w1 ⟨rfl, rfl⟩
        go_wp2_with fail
        refine (upto_at _ Q2.out).mono ?_
        rintro e w1 ⟨rfl, rfl⟩
        go_wp2
        go_ret
        exact ret_mk E.out.symm (World.grownBy_alloc _ _ _)
    · have q1 := eq_false_of_ne_true q1
      have E := Hi (show t.ok = false by rw [OK.out]; simp [q0, q1])
      have Q0 := Hi q0
      have Q1 := Hi q1
      clear q0 q1
      go_enter Tryz.func33, Tryz.ntmps33
      go_wp2_with fail
      refine (upto_at _ Q0.out).mono ?_
      rintro e w1 ⟨rfl, rfl⟩
      go_wp2_with fail
      refine (upto_at _ Q1.out).mono ?_
      rintro e w1 ⟨rfl, rfl⟩
      go_wp2
      go_ret
      exact ret_mk E.out.symm (World.grownBy_alloc _ _ _)
  · have q0 := eq_false_of_ne_true q0
    have E := Hi (show t.ok = false by rw [OK.out]; simp [q0])
    have Q0 := Hi q0
    clear q0
    go_enter Tryz.func33, Tryz.ntmps33
    go_wp2_with fail
    refine (upto_at _ Q0.out).mono ?_
    rintro e w1 ⟨rfl, rfl⟩
    go_wp2
    go_ret
    exact ret_mk E.out.symm (World.grownBy_alloc _ _ _)
end Go.Proofs.YticmoaebegahgaaGreatDoor.Wr
namespace Go.Proofs.YticmoaebegahgaaGreatDoor.Wr
open Go.ChangeShapes Go.WideShapes Go.ChangeAt Go.RowKit
def hcells (T C : Nat) : Obj := Obj.cells #[.pointer (some ⟨T, 0, none⟩), .pointer (some ⟨T, 1, none⟩), .pointer (some ⟨T, 2, none⟩), .pointer (some ⟨T, 3, none⟩), .pointer (some ⟨T, 4, none⟩), .pointer (some ⟨C, 0, none⟩)] 126
set_option maxHeartbeats 1000000 in
theorem head_any (T C : Nat) (w : World) :
    Calls Tryz.prog 93 #[.pointer (some ⟨T, 0, none⟩), .pointer (some ⟨C, 0, none⟩)] w fun e w' => e = .returned (.slice (some ⟨w.heap.size, 0, none⟩) 6 6) ∧ ∃ q, w' = (w.alloc (hcells T C)).drewN q := by
  unfold hcells
  go_enter Tryz.func93, Tryz.ntmps93
  go_wp2
  go_big_region
  go_wp2
  go_ret
  exact ⟨rfl, 1, rfl⟩
def fourC (k : Nat) : Array Value := #[.int .u8 ((k : Int) % 256), .int .u8 ((k : Int) / 256 % 256), .int .u8 ((k : Int) / 65536 % 256), .int .u8 ((k : Int) / 16777216)]
theorem four_cells (k : Nat) (hk : k < 4294967296) : (fourC k).toList = bvs (Tm.four k) := by
  have e (j : Nat) : (((UInt8.ofNat j).toNat : Nat) : Int) = (j : Int) % 256 := by
    rw [UInt8.toNat_ofNat', Int.natCast_emod]; rfl
  simp only [fourC, bvs, bv, Tm.four, List.map_cons, List.map_nil, e]
  rw [show ((k / 16777216 : Nat) : Int) % 256 = (k : Int) / 16777216 by omega]
  simp
set_option maxHeartbeats 1000000 in
theorem tsum_any (A : Option Addr) (n c : Nat) (l : List UInt8) (w : World) (h : RB w A n l) (ht : Tabled w) (hn : n ≤ 4611686018427387904) :
    Calls Tryz.prog 91 #[.slice A n c] w (OwnEnd (Tm.four (Wm.crc l)) w) := by
  have H := Hi (sum_any A n c l w h ht (by omega))
  have hk := Tm.crc_lt l
  clear h ht
  generalize Wm.crc l = k at *
  go_enter Tryz.func91, Tryz.ntmps91
  go_wp2_with fail
  refine H.out.mono ?_
  rintro e w' ⟨rfl, rfl⟩
  go_wp2
  go_ret
  exact ⟨_, 4, 4, rfl, made_lit w w (fourC k) 4 (Tm.four k) (four_cells k hk) rfl (grown_refl _ _) (by omega)⟩
theorem equal_any (A B : Option Addr) (n c m d : Nat) (l k : List UInt8) (w : World) (h : RB w A n l) (hk : RB w B m k) :
    Calls Tryz.prog 90 #[.slice A n c, .slice B m d] w fun e w' => e = .returned (.bool (decide (l = k))) ∧ w = w' := by
  have K1 := conv_str w A n c l h
  have K2 := conv_str w B m d k hk
  by_cases e : l = k
  · have D := Hi (decide_eq_true e)
    go_enter Tryz.func90, Tryz.ntmps90
    go_wp2
    go_ret
    exact ⟨ret_bool D.out.symm, rfl⟩
  · have D := Hi (decide_eq_false e)
    have E : (l == k) = false := by simpa using e
    go_enter Tryz.func90, Tryz.ntmps90
    go_wp2
    go_ret
    exact ⟨ret_bool D.out.symm, rfl⟩
set_option maxHeartbeats 1000000 in
theorem rseal_any (A : Option Addr) (n c : Nat) (l : List UInt8) (w : World) (h : RB w A n l) (hn : n ≤ 1000000) :
    Calls Tryz.prog 45 #[.slice A n c] w (OwnEnd (Tm.shut l) w) := by
  have H := Hi (rsum_any A n c l w h (by omega))
  have hk := Tm.crc_lt l
  have HB := Hi h
  have HS := Hi (show Tm.shut l = l ++ Tm.four (Wm.crc l) from rfl)
  clear h
  generalize Wm.crc l = k at *
  go_enter Tryz.func45, Tryz.ntmps45
  go_wp2_with fail
  refine H.out.mono ?_
  rintro e w' ⟨rfl, rfl⟩
  have M1 := Hi (made_lit w w #[] 0 [] rfl rfl (grown_refl _ _) (by omega))
  go_wp2_with (first
   | (at_builtin; refine wpList_app rfl (.tmp 6) (.tmp 7) rfl rfl rfl M1.out (HB.out.grown M1.out.gr) (by omega) n (by omega) ?_; intro A2 c2 w2 hm2 _; have M2 := Hi (show Made w w2 A2 n c2 l by simpa using hm2); clear hm2)
   | (have _ := M2.out; at_builtin; refine wpList_app rfl (.tmp 8) (.tmp 20) rfl rfl rfl (M2.out.alloc _) (rb_lit _ (fourC k) 4 (Tm.four k) (four_cells k hk) rfl (by omega)) (by omega) (n + 4) rfl ?_; intro A3 c3 w3 hm3 _; have M3 := Hi hm3; clear hm3)
   | fail)
  go_ret
  exact ⟨A3, n + 4, c3, rfl, by rw [HS.out]; exact M3.out⟩
end Go.Proofs.YticmoaebegahgaaGreatDoor.Wr
namespace Go.Proofs.YticmoaebegahgaaGreatDoor.Wr
open Go.ChangeShapes Go.WideShapes Go.ChangeAt Go.RowKit
theorem Made.base {w0 w1 w2 : World} {A : Option Addr} {n c : Nat} {l : List UInt8} (h : Made w1 w2 A n c l) (g : w0.grownBy w1 none) : Made w0 w2 A n c l := ⟨h.own.mono g.size, grown_trans g h.gr⟩
theorem take_snocI (l : List Int) (k : Nat) (h : k < l.length) : l.take (k + 1) = l.take k ++ [l.getD k 0] := by
  rw [List.take_succ_eq_append_getElem h]; simp [List.getD, h]
theorem getD_mem {l : List Int} {k : Nat} (h : k < l.length) : l.getD k 0 ∈ l := by
  rw [List.getD_eq_getElem?_getD, List.getElem?_eq_getElem h]; exact List.getElem_mem h
theorem body_next (ns : List Int) (k : Nat) (h : k < ns.length) : Tm.body (ns.take k) ++ Wm.enc (Wm.fold (ns.getD k 0)) = Tm.body (ns.take (k + 1)) := by
  rw [take_snocI ns k h, Tm.body_snoc]
theorem take_fits {ns : List Int} (h : ∀ x ∈ ns, Tm.I64 x) (k : Nat) : ∀ x ∈ ns.take k, Tm.I64 x := fun x hx => h x (List.mem_of_mem_take hx)
theorem take_len10 {ns : List Int} (h : ∀ x ∈ ns, Tm.I64 x) (k : Nat) : (Tm.body (ns.take k)).length ≤ 10 * k := by
  have := Tm.body_len10 (take_fits h k)
  have h2 : (ns.take k).length ≤ k := by rw [List.length_take]; omega
  omega
end Go.Proofs.YticmoaebegahgaaGreatDoor.Wr
namespace Go.Proofs.YticmoaebegahgaaGreatDoor.Wr
open Go.ChangeShapes Go.WideShapes Go.ChangeAt Go.RowKit
def iv (x : Int) : Value := .int .i64 x
def ivs (l : List Int) : List Value := l.map iv
theorem ivs_len (l : List Int) : (ivs l).length = l.length := by simp [ivs]
theorem ivs_get (l : List Int) (i : Nat) (h : i < l.length) : (ivs l)[i]? = some (iv (l.getD i 0)) := by simp [ivs, List.getD, h]
theorem ivs_append (a b : List Int) : ivs (a ++ b) = ivs a ++ ivs b := by simp [ivs]
theorem ivs_one (l : List Int) : ∀ u ∈ ivs l, u.oneCell' = true := by
  intro u hu
  simp [ivs] at hu
  obtain ⟨x, _, rfl⟩ := hu
  rfl
theorem IR.news {w : World} {b off n : Nat} {l : List Int} (h : IR w (some ⟨b, off, none⟩) n l) : ∀ j u, (ivs l)[j]? = some u → w.cell? ((⟨b, off, none⟩ : Addr).add j) = some u := by
  intro j u hu
  have hj : j < n := by
    rw [← h.1]
    have := (List.getElem?_eq_some_iff.1 hu).1
    rw [ivs_len] at this; exact this
  obtain ⟨b', off', e, hc⟩ := h.2 j hj
  injection e with e
  injection e with e1 e2
  subst e1; subst e2
  rw [addr_add _ b off rfl, hc, ← hu, ivs_get l j (by rw [h.1]; exact hj)]
  rfl
theorem info3p : (Tryz.prog.info? 3).map (fun i => (i.zero, i.size, i.bytes)) = some (some (.int .i64 0), 1, 8) := by kernel_rfl
theorem info_parts3 : ∃ i, Tryz.prog.info? 3 = some i ∧ i.zero = some (.int .i64 0) ∧ i.size = 1 ∧ i.bytes = 8 := by
  obtain ⟨i, hi, hz⟩ := Option.map_eq_some_iff.1 info3p
  simp only [Prod.mk.injEq] at hz
  exact ⟨i, hi, hz.1, hz.2.1, hz.2.2⟩
structure MadeI (w0 w : World) (A : Option Addr) (n c : Nat) (l : List Int) : Prop where
  own : w.ownsRow w0.heap.size 3 1 (.slice A n c) n (ivs l)
  gr : w0.grownBy w none
section
variable {w0 w w' : World} {A : Option Addr} {n c : Nat} {l : List Int}
theorem MadeI.len (h : MadeI w0 w A n c l) : l.length = n := by have := h.own.1; rw [ivs_len] at this; omega
theorem MadeI.shape (h : MadeI w0 w A n c l) : n ≤ c ∧ c ≤ 9223372036854775807 ∧ (0 < n → ∃ g, A = some ⟨g, 0, none⟩ ∧ w0.heap.size ≤ g ∧ g < w.heap.size) := by
  rcases h.own.2 with ⟨e, rfl⟩ | ⟨g, cap, cur, e, hb, hg, hc, hm, _⟩
  · injection e with e1 e2 e3
    subst e3; exact ⟨by omega, by omega, fun h => absurd h (by omega)⟩
  · injection e with e1 e2 e3
    subst e3
    exact ⟨hc, by unfold maxLen at hm; exact hm, fun _ => ⟨g, e1, hb, (Array.getElem?_eq_some_iff.1 hg).1⟩⟩
theorem MadeI.at0 (h : MadeI w0 w A n c l) (i : Nat) (hi : i < n) : ∃ g, A = some ⟨g, 0, none⟩ ∧ w0.heap.size ≤ g ∧ g < w.heap.size ∧ w.cell? ⟨g, i, none⟩ = some (.int .i64 (l.getD i 0)) ∧ w.frozen? ⟨g, i, none⟩ = false := by
  obtain ⟨_, _, h3⟩ := h.shape
  obtain ⟨g, rfl, hb, hl⟩ := h3 (by omega)
  exact ⟨g, rfl, hb, hl, by rw [h.own.cellAt i (by omega), ivs_get l i (by rw [h.len]; exact hi)]; rfl, h.own.frozenAt i⟩
theorem MadeI.ir (h : MadeI w0 w A n c l) : IR w A n l :=
  ⟨h.len, fun i hi => by obtain ⟨g, e, _, _, hc, _⟩ := h.at0 i hi; exact ⟨g, 0, e, by rw [Nat.zero_add]; exact hc⟩⟩
theorem MadeI.row (h : MadeI w0 w A n c l) : ∀ k, (Value.slice A n c).ownBlock = some k → w0.heap.size ≤ k ∧ k < w.heap.size := h.own.lt
theorem MadeI.keep (h : MadeI w0 w A n c l) (hg : w.grownBy w' none) : MadeI w0 w' A n c l :=
  ⟨h.own.kept hg (by cases (Value.slice A n c).ownBlock <;> simp), grown_trans h.gr hg⟩
theorem MadeI.alloc (h : MadeI w0 w A n c l) (o : Obj) : MadeI w0 (w.alloc o) A n c l := h.keep (grown_alloc _ _ _)
end
theorem madeI_nil (w0 w : World) (h : w0.grownBy w none) : MadeI w0 w none 0 0 [] := ⟨World.ownsRow_nil _ _ _ _, h⟩
theorem madeI_lit (w0 w : World) (cs : Array Value) (n : Nat) (l : List Int) (hl : cs.toList = ivs l) (hn : l.length = n) (hg : w0.grownBy w none) (hs : n ≤ 1000) : MadeI w0 (w.alloc (.cells cs 3)) (some ⟨w.heap.size, 0, none⟩) n n l := by
  refine ⟨?_, grown_trans hg (grown_alloc _ _ _)⟩
  have hsz : cs.size = n * 1 := by rw [← Array.length_toList, hl, ivs_len]; omega
  have := World.ownsRow_lit (base := w0.heap.size) (e := 3) (size := 1) w cs n hg.size (by unfold maxLen; omega) hsz
  rw [hl] at this
  exact this
section
variable {P : Program}
set_option maxRecDepth 4000 in
theorem appI_run {w0 w : World} {A B : Option Addr} {n c m d : Nat} {l news : List Int} (hm : MadeI w0 w A n c l) (hr : IR w B m news) (hb : n + m ≤ 8796093022208) (ty : TypeId) :
    ∃ A' c' w', (Builtin.append_ #[26, 26] ty #[.slice A n c, .slice B m d]).run Tryz.prog w = .ok (.slice A' (n + m) c') w' ∧ MadeI w0 w' A' (n + m) c' (l ++ news) ∧ w.grownBy w' (Value.slice A n c).ownBlock := by
  obtain ⟨i, hi, hz, hs, hby⟩ := info_parts3
  cases B with
  | none =>
    have h0 : m = 0 := by
      rcases Nat.eq_zero_or_pos m with h0 | h0
      · exact h0
      · obtain ⟨b, off, e, _⟩ := hr.2 0 h0; cases e
    subst h0
    obtain rfl : news = [] := List.eq_nil_of_length_eq_zero hr.1
    refine ⟨A, c, w, ?_, by simpa using hm, grown_refl _ _⟩
    rcases hm.own.2 with ⟨e, hn⟩ | ⟨g, cap, cur, e, _, _, hnc, _⟩
    · injection e with e1 e2 e3
      subst e1; subst e3; subst hn
      simp [Builtin.append_, run_underlying Tryz.underlying26, sizeOf, typeInfo, hi, Builtin.lenOf, Builtin.firstCells]
    · injection e with e1 e2 e3
      subst e1; subst e3
      simp [Builtin.append_, run_underlying Tryz.underlying26, sizeOf, typeInfo, hi, Builtin.lenOf, Builtin.firstCells, hnc, storeCells]
  | some p =>
    have hnews : ∀ j u, (ivs news)[j]? = some u → w.cell? (p.add j) = some u := by
      rcases Nat.eq_zero_or_pos m with h0 | h0
      · intro j u hu
        obtain rfl : news = [] := List.eq_nil_of_length_eq_zero (by rw [hr.1, h0])
        simp [ivs] at hu
      · obtain ⟨b, off, e, _⟩ := hr.2 0 h0
        injection e with e
        subst e
        exact hr.news
    obtain ⟨v', w', hrun, hown, hg, _, _⟩ := run_append_own_at (P := Tryz.prog) w w0.heap.size 26 ty 3 i (.int .i64 0) 1 8 Tryz.underlying26 hi hz hs hby rfl (by omega) (.slice A n c) n (ivs l) hm.own p m d (ivs news)
      (by rw [ivs_len, hr.1]; omega) hnews (ivs_one _) (by unfold maxLen; omega) (by omega) hm.gr.size
    have hown' : w'.ownsRow w0.heap.size 3 1 v' (n + m) (ivs (l ++ news)) := by rw [ivs_append]; exact hown
    have hg' := grown_row hm.gr hg (fun k hk => (hm.row k hk).1)
    rcases hown'.2 with ⟨e, hn⟩ | ⟨g, cap, cur, e, _⟩
    · subst e
      exact ⟨none, 0, w', by rw [hn]; exact hrun, ⟨by rw [hn] at hown' ⊢; exact hown', hg'⟩, hg⟩
    · subst e
      exact ⟨_, cap, w', hrun, ⟨hown', hg'⟩, hg⟩
theorem wpList_appI {w0 w : World} {ops : Array Oper} {rest : List Oper} {o : Oper} {a : Act} {Q : Exit → Act → World → Prop} (hgd : o.guard = none) (s x : Operand)
    (ho : o.op = .call { callee := .builtin .append, args := #[s, x], argTypes := #[26, 26] }) {A B : Option Addr} {n c m d : Nat} {l news : List Int} (hs : a.eval s = .slice A n c) (hx : a.eval x = .slice B m d)
    (hm : MadeI w0 w A n c l) (hr : IR w B m news) (hb : n + m ≤ 8796093022208) (N : Nat) (hN : n + m = N)
    (h : ∀ A' c' w', MadeI w0 w' A' N c' (l ++ news) → w.grownBy w' (Value.slice A n c).ownBlock → wpList Tryz.prog ops Q rest (a.put o.dst (.slice A' N c')) w') : wpList Tryz.prog ops Q (o :: rest) a w := by
  subst hN
  refine wpList_plain hgd fun K hK => ?_
  obtain ⟨A', c', w', hrun, h2, h3⟩ := appI_run (d := d) hm hr hb o.type
  unfold Oper.wp execOp
  simp only [ho, resolve, invoke, builtin, Sem.run_bind, Sem.run_pure, Result.andThen_ok, List.map_toArray, List.map_cons, List.map_nil, hs, hx, hrun]
  exact hK _ _ (h A' c' w' h2 h3)
end
end Go.Proofs.YticmoaebegahgaaGreatDoor.Wr
namespace Go.Proofs.YticmoaebegahgaaGreatDoor.Wr
open Go.ChangeShapes Go.WideShapes Go.ChangeAt Go.RowKit
def tcells (t : Tm.Tg) (V : Value) : Obj := Obj.cells #[.int .i64 t.st, .int .i64 t.ep, .int .i64 t.sq, .int .i64 t.tm, .int .i64 t.kd, V] 28
set_option maxHeartbeats 1000000 in
theorem rvalid_any (t : Tm.Tg) (A : Option Addr) (n c : Nat) (w : World) (h : IR w A n t.vs) (hn : n ≤ 4611686018427387904) :
    Calls Tryz.prog 37 #[tv t (.slice A n c)] w (Ret (.bool t.ok) w) := by
  have HB := Hi h
  have hl := h.1
  clear h
  have HL := Hi hl
  have OK := Hi (show t.ok = (Tm.upTo t.st 255 && (Tm.upTo t.ep 255 && (Tm.upTo t.sq 2147483648 && (Tm.upTo t.tm 1099511627776 && (Tm.upTo t.kd 63 && (Tm.upTo (n : Int) 16 && t.vs.all Tm.inN)))))) by unfold Tm.Tg.ok; rw [hl])
  clear hl
  have C : Hid (∀ i, i < n → ∃ b off, A = some ⟨b, off, none⟩ ∧ (w.alloc (tcells t (.slice A n c))).cell? ⟨b, off + i, none⟩ = some (.int .i64 (t.vs.getD i 0))) := (HB.out.grown (World.grownBy_alloc w _ _)).2
  have G : Hid (w.grownBy (w.alloc (tcells t (.slice A n c))) none) := World.grownBy_alloc _ _ _
  obtain ⟨a, b, s, d, f, vs⟩ := t
  dsimp only [tv, tcells] at *
  obtain ⟨w1, hw1⟩ : ∃ w1, w1 = w.alloc (Obj.cells #[.int .i64 a, .int .i64 b, .int .i64 s, .int .i64 d, .int .i64 f, .slice A n c] 28) := ⟨_, rfl⟩
  have K0 : w1.cell? ⟨w.heap.size, 0, none⟩ = some (.int .i64 a) := by subst hw1; go_simp
  have K1 : w1.cell? ⟨w.heap.size, 1, none⟩ = some (.int .i64 b) := by subst hw1; go_simp
  have K2 : w1.cell? ⟨w.heap.size, 2, none⟩ = some (.int .i64 s) := by subst hw1; go_simp
  have K3 : w1.cell? ⟨w.heap.size, 3, none⟩ = some (.int .i64 d) := by subst hw1; go_simp
  have K4 : w1.cell? ⟨w.heap.size, 4, none⟩ = some (.int .i64 f) := by subst hw1; go_simp
  have K5 : w1.cell? ⟨w.heap.size, 5, none⟩ = some (.slice A n c) := by subst hw1; go_simp
  go_enter Tryz.func37, Tryz.ntmps37
  go_wp2
  rw [← hw1] at C G ⊢
  clear hw1
  go_loopw [7] (fun i wr => ∃ k : Nat, i = .int .i64 k ∧ k ≤ n ∧ w1 = wr ∧ Hid (∀ j, j < k → Tm.inN (vs.getD j 0) = true)) (fun i _ => n - (intOf i).toNat)
  case atStart => exact ⟨0, rfl, by omega, rfl, fun j hj => absurd hj (by omega)⟩
  case round =>
    obtain ⟨k, rfl, hk, rfl, P⟩ := hrel
    by_cases hlt : k < n
    · obtain ⟨B, off, rfl, cc⟩ := C.out k hlt
      have F := Hi (fun h => all_no (vs := vs) (j := k) (by rw [HL.out]; exact hlt) h)
      have S := Hi (fun h => pre_snoc (vs := vs) P.out h)
      generalize vs.getD k 0 = x at *
      by_cases h1 : -9007199254740992 ≤ x
      · by_cases h2 : x ≤ 9007199254740992
        · have S := Hi (S.out (inN_yes h1 h2))
          go_wp2
          go_roundw
          case rel => exact ⟨k + 1, by go_num, by omega, by trivial, S⟩
          case measure => simp [intOf]; omega
        · have F := Hi (F.out (inN_high h2))
          have E := Hi (OK.out.trans (show _ = false by rw [F.out]; simp))
          go_wp2
          go_ret
          exact ret_mk E.out.symm G.out
      · have F := Hi (F.out (inN_low h1))
        have E := Hi (OK.out.trans (show _ = false by rw [F.out]; simp))
        go_wp2
        go_ret
        exact ret_mk E.out.symm G.out
    · obtain rfl : k = n := by omega
      have F := Hi (all_yes (vs := vs) (by rw [HL.out]; exact P.out))
      have OK := Hi (show Tm.Tg.ok ⟨a, b, s, d, f, vs⟩ = (Tm.upTo a 255 && (Tm.upTo b 255 && (Tm.upTo s 2147483648 && (Tm.upTo d 1099511627776 && (Tm.upTo f 63 && Tm.upTo (k : Int) 16))))) by rw [OK.out, F.out]; simp)
      by_cases q0 : Tm.upTo a 255 = true
      · skip
        by_cases q1 : Tm.upTo b 255 = true
        · skip
          by_cases q2 : Tm.upTo s 2147483648 = true
          · skip
            by_cases q3 : Tm.upTo d 1099511627776 = true
            · skip
              by_cases q4 : Tm.upTo f 63 = true
              · skip
                by_cases q5 : Tm.upTo (k : Int) 16 = true
                · skip
                  have E := Hi (OK.out.trans (show _ = true by simp [q0, q1, q2, q3, q4, q5]))
                  have Q0 := Hi q0
                  have Q1 := Hi q1
                  have Q2 := Hi q2
                  have Q3 := Hi q3
                  have Q4 := Hi q4
                  have q5 := (Tm.upTo_iff.1 q5).2
                  clear q0 q1 q2 q3 q4
                  go_wp2_with fail
                  refine (rin_at _ Q0.out).mono ?_
                  rintro e w1 ⟨rfl, rfl⟩
                  go_wp2_with fail
                  refine (rin_at _ Q1.out).mono ?_
                  rintro e w1 ⟨rfl, rfl⟩
                  go_wp2_with fail
                  refine (rin_at _ Q2.out).mono ?_
                  rintro e w1 ⟨rfl, rfl⟩
                  go_wp2_with fail
                  refine (rin_at _ Q3.out).mono ?_
                  rintro e w1 ⟨rfl, rfl⟩
                  go_wp2_with fail
                  refine (rin_at _ Q4.out).mono ?_
                  rintro e w1 ⟨rfl, rfl⟩
                  go_wp2
                  go_ret
                  exact ret_mk E.out.symm G.out
                · have q5 := eq_false_of_ne_true q5
                  have E := Hi (OK.out.trans (show _ = false by simp [q0, q1, q2, q3, q4, q5]))
                  have Q0 := Hi q0
                  have Q1 := Hi q1
                  have Q2 := Hi q2
                  have Q3 := Hi q3
                  have Q4 := Hi q4
                  have q5 : ¬ (k : Int) ≤ 16 := fun h => by rw [Tm.upTo_iff.2 ⟨by omega, h⟩] at q5; cases q5
                  clear q0 q1 q2 q3 q4
                  go_wp2_with fail
                  refine (rin_at _ Q0.out).mono ?_
                  rintro e w1 ⟨rfl, rfl⟩
                  go_wp2_with fail
                  refine (rin_at _ Q1.out).mono ?_
                  rintro e w1 ⟨rfl, rfl⟩
                  go_wp2_with fail
                  refine (rin_at _ Q2.out).mono ?_
                  rintro e w1 ⟨rfl, rfl⟩
                  go_wp2_with fail
                  refine (rin_at _ Q3.out).mono ?_
                  rintro e w1 ⟨rfl, rfl⟩
                  go_wp2_with fail
                  refine (rin_at _ Q4.out).mono ?_
                  rintro e w1 ⟨rfl, rfl⟩
                  go_wp2
                  go_ret
                  exact ret_mk (by rw [E.out]; exact decide_eq_false (by omega)) G.out
              · have q4 := eq_false_of_ne_true q4
                have E := Hi (OK.out.trans (show _ = false by simp [q0, q1, q2, q3, q4]))
                have Q0 := Hi q0
                have Q1 := Hi q1
                have Q2 := Hi q2
                have Q3 := Hi q3
                have Q4 := Hi q4
                clear q0 q1 q2 q3 q4
                go_wp2_with fail
                refine (rin_at _ Q0.out).mono ?_
                rintro e w1 ⟨rfl, rfl⟩
                go_wp2_with fail
                refine (rin_at _ Q1.out).mono ?_
                rintro e w1 ⟨rfl, rfl⟩
                go_wp2_with fail
                refine (rin_at _ Q2.out).mono ?_
                rintro e w1 ⟨rfl, rfl⟩
                go_wp2_with fail
                refine (rin_at _ Q3.out).mono ?_
                rintro e w1 ⟨rfl, rfl⟩
                go_wp2_with fail
                refine (rin_at _ Q4.out).mono ?_
                rintro e w1 ⟨rfl, rfl⟩
                go_wp2
                go_ret
                exact ret_mk E.out.symm G.out
            · have q3 := eq_false_of_ne_true q3
              have E := Hi (OK.out.trans (show _ = false by simp [q0, q1, q2, q3]))
              have Q0 := Hi q0
              have Q1 := Hi q1
              have Q2 := Hi q2
              have Q3 := Hi q3
              clear q0 q1 q2 q3
              go_wp2_with fail
              refine (rin_at _ Q0.out).mono ?_
              rintro e w1 ⟨rfl, rfl⟩
              go_wp2_with fail
              refine (rin_at _ Q1.out).mono ?_
              rintro e w1 ⟨rfl, rfl⟩
              go_wp2_with fail
              refine (rin_at _ Q2.out).mono ?_
              rintro e w1 ⟨rfl, rfl⟩
              go_wp2_with fail
              refine (rin_at _ Q3.out).mono ?_
              rintro e w1 ⟨rfl, rfl⟩
              go_wp2
              go_ret
              exact ret_mk E.out.symm G.out
          · have q2 := eq_false_of_ne_true q2
            have E := Hi (OK.out.trans (show _ = false by simp [q0, q1, q2]))
            have Q0 := Hi q0
            have Q1 := Hi q1
            have Q2 := Hi q2
            clear q0 q1 q2
            go_wp2_with fail
            refine (rin_at _ Q0.out).mono ?_
            rintro e w1 ⟨rfl, rfl⟩
            go_wp2_with fail
            refine (rin_at _ Q1.out).mono ?_
            rintro e w1 ⟨rfl, rfl⟩
            go_wp2_with fail
            refine (rin_at _ Q2.out).mono ?_
            rintro e w1 ⟨rfl, rfl⟩
            go_wp2
            go_ret
            exact ret_mk E.out.symm G.out
        · have q1 := eq_false_of_ne_true q1
          have E := Hi (OK.out.trans (show _ = false by simp [q0, q1]))
          have Q0 := Hi q0
          have Q1 := Hi q1
          clear q0 q1
          go_wp2_with fail
          refine (rin_at _ Q0.out).mono ?_
          rintro e w1 ⟨rfl, rfl⟩
          go_wp2_with fail
          refine (rin_at _ Q1.out).mono ?_
          rintro e w1 ⟨rfl, rfl⟩
          go_wp2
          go_ret
          exact ret_mk E.out.symm G.out
      · have q0 := eq_false_of_ne_true q0
        have E := Hi (OK.out.trans (show _ = false by simp [q0]))
        have Q0 := Hi q0
        clear q0
        go_wp2_with fail
        refine (rin_at _ Q0.out).mono ?_
        rintro e w1 ⟨rfl, rfl⟩
        go_wp2
        go_ret
        exact ret_mk E.out.symm G.out
theorem ints_any (A B : Option Addr) (n c m d : Nat) (vs us : List Int) (w : World) (h : IR w A n vs) (k : IR w B m us) (hn : n ≤ 4611686018427387904) (hm : m ≤ 4611686018427387904) :
    Calls Tryz.prog 61 #[.slice A n c, .slice B m d] w (Ret (.bool (decide (vs = us))) w) := by
  by_cases hnm : n = m
  · subst hnm
    have HA := Hi h
    have HB := Hi k
    clear h k
    go_enter Tryz.func61, Tryz.ntmps61
    go_wp2
    go_loopw [13] (fun i wr => ∃ k q : Nat, i = .int .i64 k ∧ k ≤ n ∧ wr = w.drewN q ∧ Hid (vs.take k = us.take k)) (fun i _ => n - (intOf i).toNat)
    case atStart => exact ⟨0, 0, rfl, by omega, rfl, by first | exact Hi trivial | exact Hi (by simp)⟩
    case round =>
      obtain ⟨k, q, rfl, hk, rfl, P⟩ := hrel
      by_cases hlt : k < n
      · obtain ⟨b1, off1, rfl, c1⟩ := HA.out.2 k hlt
        obtain ⟨b2, off2, rfl, c2⟩ := HB.out.2 k hlt
        have hv : k < vs.length := by rw [HA.out.1]; exact hlt
        have hu : k < us.length := by rw [HB.out.1]; exact hlt
        have T1 : Hid (vs.take (k + 1) = vs.take k ++ [vs.getD k 0]) := by
          show _ = _
          rw [List.take_succ_eq_append_getElem hv]; simp [List.getD, hv]
        have T2 : Hid (us.take (k + 1) = us.take k ++ [us.getD k 0]) := by
          show _ = _
          rw [List.take_succ_eq_append_getElem hu]; simp [List.getD, hu]
        have D : Hid (vs.getD k 0 ≠ us.getD k 0 → decide (vs = us) = false) := by
          show _ → _
          intro h
          rw [decide_eq_false_iff_not]
          rintro rfl
          exact h rfl
        generalize vs.getD k 0 = x at *
        generalize us.getD k 0 = y at *
        clear hv hu
        by_cases hxy : x = y
        · subst hxy
          have T : Hid (vs.take (k + 1) = us.take (k + 1)) := by
            show _ = _
            rw [T1.out, T2.out, P.out]
          go_wp2
          go_quiet (fail)
          go_wp2
          go_roundw
          case rel => exact ⟨k + 1, q + nq, by go_num, by omega, by simp, T⟩
          case measure => simp [intOf]; omega
        · have D := Hi (D.out hxy)
          go_wp2
          go_quiet (fail)
          go_wp2
          go_ret
          exact ret_mk D.out.symm (by simpa using grown_drewN w _ none)
      · obtain rfl : k = n := by omega
        have D : Hid (decide (vs = us) = true) := by
          show _ = _
          have := P.out
          rw [List.take_of_length_le (by rw [HA.out.1]; omega), List.take_of_length_le (by rw [HB.out.1]; omega)] at this
          simp [this]
        go_wp2
        go_ret
        exact ret_mk D.out.symm (grown_drewN _ _ _)
  · have D : Hid (decide (vs = us) = false) := by
      show _ = _
      rw [decide_eq_false_iff_not]
      rintro rfl
      exact hnm (by rw [← h.1, ← k.1])
    clear h k
    go_enter Tryz.func61, Tryz.ntmps61
    go_wp2
    go_ret
    exact ret_mk D.out.symm (grown_refl _ _)
theorem ints_at {A B : Option Addr} {n c m d : Nat} {vs us : List Int} {r : Bool} {w : World} (h : IR w A n vs) (k : IR w B m us) (hn : n ≤ 4611686018427387904) (hm : m ≤ 4611686018427387904) (hr : decide (vs = us) = r) :
    Calls Tryz.prog 61 #[.slice A n c, .slice B m d] w (Ret (.bool r) w) := by
  subst hr; exact ints_any A B n c m d vs us w h k hn hm
theorem same_any (t u : Tm.Tg) (A B : Option Addr) (n c m d : Nat) (w : World) (h : IR w A n t.vs) (k : IR w B m u.vs) (hn : n ≤ 4611686018427387904) (hm : m ≤ 4611686018427387904) :
    Calls Tryz.prog 39 #[tv t (.slice A n c), tv u (.slice B m d)] w (Ret (.bool (Tm.same t u)) w) := by
  obtain ⟨a1, a2, a3, a4, a5, vs⟩ := t
  obtain ⟨b1, b2, b3, b4, b5, us⟩ := u
  have HA := Hi h
  have HB := Hi k
  clear h k
  have hg : ∀ o p, w.grownBy ((w.alloc o).alloc p) none := fun o p => grown_trans (World.grownBy_alloc _ _ _) (World.grownBy_alloc _ _ _)
  have G := Hi hg
  clear hg
  unfold tv
  dsimp only at *
  by_cases h1 : a1 = b1
  · subst h1
    by_cases h2 : a2 = b2
    · subst h2
      by_cases h3 : a3 = b3
      · subst h3
        by_cases h4 : a4 = b4
        · subst h4
          by_cases h5 : a5 = b5
          · subst h5
            by_cases h6 : vs = us
            · have E := Hi (show Tm.same ⟨a1, a2, a3, a4, a5, vs⟩ ⟨a1, a2, a3, a4, a5, us⟩ = true by simp [Tm.same, h6])
              have D := Hi (show decide (vs = us) = true by simp [h6])
              clear h6
              go_enter Tryz.func39, Tryz.ntmps39
              go_wp2_with fail
              refine (ints_at (HA.out.grown (G.out _ _)) (HB.out.grown (G.out _ _)) hn hm D.out).mono ?_
              rintro e w1 ⟨rfl, hg⟩
              have G1 := Hi (grown_trans (G.out _ _) hg)
              clear hg
              go_wp2
              go_ret
              exact ret_mk E.out.symm G1.out
            · have E := Hi (show Tm.same ⟨a1, a2, a3, a4, a5, vs⟩ ⟨a1, a2, a3, a4, a5, us⟩ = false by simp [Tm.same, h6])
              have D := Hi (show decide (vs = us) = false by simp [h6])
              clear h6
              go_enter Tryz.func39, Tryz.ntmps39
              go_wp2_with fail
              refine (ints_at (HA.out.grown (G.out _ _)) (HB.out.grown (G.out _ _)) hn hm D.out).mono ?_
              rintro e w1 ⟨rfl, hg⟩
              have G1 := Hi (grown_trans (G.out _ _) hg)
              clear hg
              go_wp2
              go_ret
              exact ret_mk E.out.symm G1.out
          · have E := Hi (show Tm.same ⟨a1, a2, a3, a4, a5, vs⟩ ⟨a1, a2, a3, a4, b5, us⟩ = false by simp [Tm.same, h5])
            go_enter Tryz.func39, Tryz.ntmps39
            go_wp2
            go_ret
            exact ret_mk E.out.symm (G.out _ _)
        · have E := Hi (show Tm.same ⟨a1, a2, a3, a4, a5, vs⟩ ⟨a1, a2, a3, b4, b5, us⟩ = false by simp [Tm.same, h4])
          go_enter Tryz.func39, Tryz.ntmps39
          go_wp2
          go_ret
          exact ret_mk E.out.symm (G.out _ _)
      · have E := Hi (show Tm.same ⟨a1, a2, a3, a4, a5, vs⟩ ⟨a1, a2, b3, b4, b5, us⟩ = false by simp [Tm.same, h3])
        go_enter Tryz.func39, Tryz.ntmps39
        go_wp2
        go_ret
        exact ret_mk E.out.symm (G.out _ _)
    · have E := Hi (show Tm.same ⟨a1, a2, a3, a4, a5, vs⟩ ⟨a1, b2, b3, b4, b5, us⟩ = false by simp [Tm.same, h2])
      go_enter Tryz.func39, Tryz.ntmps39
      go_wp2
      go_ret
      exact ret_mk E.out.symm (G.out _ _)
  · have E := Hi (show Tm.same ⟨a1, a2, a3, a4, a5, vs⟩ ⟨b1, b2, b3, b4, b5, us⟩ = false by simp [Tm.same, h1])
    go_enter Tryz.func39, Tryz.ntmps39
    go_wp2
    go_ret
    exact ret_mk E.out.symm (G.out _ _)
end Go.Proofs.YticmoaebegahgaaGreatDoor.Wr
namespace Go.Proofs.YticmoaebegahgaaGreatDoor.Wr
open Go.ChangeShapes Go.WideShapes Go.ChangeAt Go.RowKit
theorem valid_at {t : Tm.Tg} {A : Option Addr} {n c : Nat} {w : World} {r : Bool} (h : IR w A n t.vs) (hn : n ≤ 4611686018427387904) (hr : t.ok = r) :
    Calls Tryz.prog 33 #[tv t (.slice A n c)] w (Ret (.bool r) w) := by
  subst hr; exact valid_any t A n c w h hn
theorem boxed_at {t : Tm.Tg} {V : Value} {w w1 : World} (g : (w.alloc (tcells t V)).grownBy w1 none) :
    w1.cell? ⟨w.heap.size, 0, none⟩ = some (.int .i64 t.st) ∧ w1.cell? ⟨w.heap.size, 1, none⟩ = some (.int .i64 t.ep) ∧ w1.cell? ⟨w.heap.size, 2, none⟩ = some (.int .i64 t.sq) ∧ w1.cell? ⟨w.heap.size, 3, none⟩ = some (.int .i64 t.tm) ∧ w1.cell? ⟨w.heap.size, 4, none⟩ = some (.int .i64 t.kd) ∧ w1.cell? ⟨w.heap.size, 5, none⟩ = some V := by
  unfold tcells at g
  have h (i : Nat) (u : Value) (h : (w.alloc (Obj.cells #[.int .i64 t.st, .int .i64 t.ep, .int .i64 t.sq, .int .i64 t.tm, .int .i64 t.kd, V] 28)).cell? ⟨w.heap.size, i, none⟩ = some u) := g.cell h (by simp)
  exact ⟨h 0 _ (by go_simp), h 1 _ (by go_simp), h 2 _ (by go_simp), h 3 _ (by go_simp), h 4 _ (by go_simp), h 5 _ (by go_simp)⟩
end Go.Proofs.YticmoaebegahgaaGreatDoor.Wr
