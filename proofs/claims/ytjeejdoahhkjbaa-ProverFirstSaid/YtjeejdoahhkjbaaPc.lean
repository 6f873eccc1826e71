/- Contracts of slices.Min and slices.Max, of runs and of valid provers. -/
import Derived.Test.YtjeejdoahhkjbaaMx
import Derived.Test.YtjeejdoahhkjbaaPm
namespace Go.Proofs.Ytjeejdoahhkjbaa
open Go.ChangeShapes Go.WideShapes Go.ChangeAt Go.RowKit

def pv (v t : Int) : Value := .agg #[.int .i64 v, .int .i64 t]
/-- In the world w the n places from off on of block b hold the numbers x. -/
def Rw (w : World) (b off n : Nat) (x : Nat → Int) : Prop := ∀ i, i < n → w.cell? ⟨b, off + i, none⟩ = some (.int .i64 (x i))
theorem Rw.grown {w w' : World} {b off n : Nat} {x : Nat → Int} {row : Option Nat} (h : Rw w b off n x) (hg : w.grownBy w' row) (hr : some b ≠ row) : Rw w' b off n x := fun i hi => hg.cell (h i hi) hr
/-- A slice of n numbers x. -/
def Sl (w : World) (a : Option Addr) (n cap : Nat) (x : Nat → Int) : Prop := ∃ b off, (0 < n → a = some ⟨b, off, none⟩) ∧ n ≤ cap ∧ cap ≤ 9223372036854775807 ∧ Rw w b off n x
theorem Sl.grown {w w' : World} {a : Option Addr} {n cap : Nat} {x : Nat → Int} (h : Sl w a n cap x) (hg : w.grownBy w' none) : Sl w' a n cap x := by
  obtain ⟨b, off, h1, h2, h3, h4⟩ := h
  exact ⟨b, off, h1, h2, h3, h4.grown hg (by simp)⟩

theorem min_any (b off n cap : Nat) (x : Nat → Int) (w : World) (hn : 1 ≤ n) (hn2 : n ≤ 4611686018427387904) (h : Rw w b off n x) :
    Calls Try.prog 33 #[.slice (some ⟨b, off, none⟩) n cap] w fun e w' => e = .returned (.int .i64 (Pm.lo x (n - 1))) ∧ w = w' := by
  have H := Lib.hid h
  have c0 := h 0 (by omega)
  rw [Nat.add_zero] at c0
  clear h
  go_enter Try.func33, Try.ntmps33
  go_wp2
  go_loopw [3, 4] (fun s3 s4 wr => ∃ k : Nat, s4 = .int .i64 k ∧ 1 ≤ k ∧ k ≤ n ∧ s3 = .int .i64 (Pm.lo x (k - 1)) ∧ wr = w) (fun _ i _ => n - (intOf i).toNat)
  case atStart => exact ⟨1, rfl, by omega, by omega, rfl, rfl⟩
  case round =>
    obtain ⟨k, rfl, hk1, hk2, rfl, rfl⟩ := hrel
    by_cases hlt : k < n
    · have c1 := H.out k hlt
      have e := Lib.hid (show Pm.lo x k = if Pm.lo x (k - 1) ≤ x k then Pm.lo x (k - 1) else x k from by
        obtain ⟨j, rfl⟩ : ∃ j, k = j + 1 := ⟨k - 1, by omega⟩
        rfl)
      generalize hL : Pm.lo x (k - 1) = L at *
      generalize x k = y at *
      go_wp2
      go_roundw
      case rel => exact ⟨k + 1, by go_num, by omega, by omega, congrArg (Value.int .i64) (by rw [Nat.add_sub_cancel, e.out]; split <;> split <;> omega), trivial⟩
      case measure => simp [intOf]; omega
    · obtain rfl : k = n := by omega
      go_wp2
      go_ret
      exact ⟨rfl, rfl⟩
theorem max_any (b off n cap : Nat) (x : Nat → Int) (w : World) (hn : 1 ≤ n) (hn2 : n ≤ 4611686018427387904) (h : Rw w b off n x) :
    Calls Try.prog 34 #[.slice (some ⟨b, off, none⟩) n cap] w fun e w' => e = .returned (.int .i64 (Pm.hi x (n - 1))) ∧ w = w' := by
  have H := Lib.hid h
  have c0 := h 0 (by omega)
  rw [Nat.add_zero] at c0
  clear h
  go_enter Try.func34, Try.ntmps34
  go_wp2
  go_loopw [3, 4] (fun s3 s4 wr => ∃ k : Nat, s4 = .int .i64 k ∧ 1 ≤ k ∧ k ≤ n ∧ s3 = .int .i64 (Pm.hi x (k - 1)) ∧ wr = w) (fun _ i _ => n - (intOf i).toNat)
  case atStart => exact ⟨1, rfl, by omega, by omega, rfl, rfl⟩
  case round =>
    obtain ⟨k, rfl, hk1, hk2, rfl, rfl⟩ := hrel
    by_cases hlt : k < n
    · have c1 := H.out k hlt
      have e := Lib.hid (show Pm.hi x k = if x k ≤ Pm.hi x (k - 1) then Pm.hi x (k - 1) else x k from by
        obtain ⟨j, rfl⟩ : ∃ j, k = j + 1 := ⟨k - 1, by omega⟩
        rfl)
      generalize hL : Pm.hi x (k - 1) = L at *
      generalize x k = y at *
      go_wp2
      go_roundw
      case rel => exact ⟨k + 1, by go_num, by omega, by omega, congrArg (Value.int .i64) (by rw [Nat.add_sub_cancel, e.out]; split <;> split <;> omega), trivial⟩
      case measure => simp [intOf]; omega
    · obtain rfl : k = n := by omega
      go_wp2
      go_ret
      exact ⟨rfl, rfl⟩

theorem areRuns_yes (b off n cap : Nat) (a : Option Addr) (x : Nat → Int) (w : World) (hn2 : n ≤ 4611686018427387904) (ha : 0 < n → a = some ⟨b, off, none⟩) (h : Rw w b off n x) (hx : Pm.Runs n x) :
    Calls Try.prog 22 #[.slice a n cap] w fun e w' => e = .returned (.bool true) ∧ w = w' := by
  have H := Lib.hid h
  have HA := Lib.hid ha
  have HX := Lib.hid hx
  clear h ha hx
  go_enter Try.func22, Try.ntmps22
  go_wp2
  go_loopw [4, 7] (fun s4 s7 wr => ∃ k : Nat, s7 = .int .i64 k ∧ k ≤ n ∧ wr = w) (fun _ i _ => n - (intOf i).toNat)
  case atStart => exact ⟨0, rfl, by omega, rfl⟩
  case round =>
    obtain ⟨k, rfl, hk2, rfl⟩ := hrel
    by_cases hlt : k < n
    · obtain rfl := HA.out (by omega)
      have c1 := H.out k hlt
      have ⟨r1, r2⟩ := HX.out k hlt
      generalize x k = y at *
      go_wp2
      go_roundw
      case rel => exact ⟨k + 1, by go_num, by omega, trivial⟩
      case measure => simp [intOf]; omega
    · obtain rfl : k = n := by omega
      go_wp2
      go_ret
      exact ⟨rfl, rfl⟩
theorem areRuns_no (b off n cap : Nat) (a : Option Addr) (x : Nat → Int) (w : World) (hn2 : n ≤ 4611686018427387904) (ha : 0 < n → a = some ⟨b, off, none⟩) (h : Rw w b off n x) (j : Nat) (hx : Pm.Bad n x j) :
    Calls Try.prog 22 #[.slice a n cap] w fun e w' => e = .returned (.bool false) ∧ w = w' := by
  have H := Lib.hid h
  obtain ⟨hj, hb, hx⟩ := hx
  obtain rfl := ha (by omega)
  have HB := Lib.hid hb
  have HX := Lib.hid hx
  clear h ha hx hb
  go_enter Try.func22, Try.ntmps22
  go_wp2
  go_loopw [4, 7] (fun s4 s7 wr => ∃ k : Nat, s7 = .int .i64 k ∧ k ≤ j ∧ wr = w) (fun _ i _ => n - (intOf i).toNat)
  case atStart => exact ⟨0, rfl, by omega, rfl⟩
  case round =>
    obtain ⟨k, rfl, hk2, rfl⟩ := hrel
    by_cases hlt : k < j
    · have c1 := H.out k (by omega)
      have ⟨r1, r2⟩ := HX.out k hlt
      have hkn : k < n := by omega
      generalize x k = y at *
      go_wp2
      go_roundw
      case rel => exact ⟨k + 1, by go_num, by omega, trivial⟩
      case measure => simp [intOf]; omega
    · obtain rfl : k = j := by omega
      have c1 := H.out k (by omega)
      generalize x k = y at *
      rcases HB.out with hb | hb
      · go_wp2
        go_ret
        exact ⟨rfl, rfl⟩
      · have hb1 : ¬ y < 1 := by omega
        go_wp2
        go_ret
        exact ⟨rfl, rfl⟩

theorem rproper_yes (b off n cap : Nat) (a : Option Addr) (x : Nat → Int) (w : World) (hn2 : n ≤ 4611686018427387904) (ha : 0 < n → a = some ⟨b, off, none⟩) (h : Rw w b off n x) (hx : Pm.Runs n x) :
    Calls Try.prog 24 #[.slice a n cap] w fun e w' => e = .returned (.bool true) ∧ w = w' := by
  have H := Lib.hid h
  have HA := Lib.hid ha
  have HX := Lib.hid hx
  clear h ha hx
  go_enter Try.func24, Try.ntmps24
  go_wp2
  go_loopw [3, 6] (fun s3 s6 wr => ∃ k : Nat, s6 = .int .i64 k ∧ k ≤ n ∧ wr = w) (fun _ i _ => n - (intOf i).toNat)
  case atStart => exact ⟨0, rfl, by omega, rfl⟩
  case round =>
    obtain ⟨k, rfl, hk2, rfl⟩ := hrel
    by_cases hlt : k < n
    · obtain rfl := HA.out (by omega)
      have c1 := H.out k hlt
      have ⟨r1, r2⟩ := HX.out k hlt
      generalize x k = y at *
      go_wp2
      go_roundw
      case rel => exact ⟨k + 1, by go_num, by omega, trivial⟩
      case measure => simp [intOf]; omega
    · obtain rfl : k = n := by omega
      go_wp2
      go_ret
      exact ⟨rfl, rfl⟩
theorem rproper_no (b off n cap : Nat) (a : Option Addr) (x : Nat → Int) (w : World) (hn2 : n ≤ 4611686018427387904) (ha : 0 < n → a = some ⟨b, off, none⟩) (h : Rw w b off n x) (j : Nat) (hx : Pm.Bad n x j) :
    Calls Try.prog 24 #[.slice a n cap] w fun e w' => e = .returned (.bool false) ∧ w = w' := by
  have H := Lib.hid h
  obtain ⟨hj, hb, hx⟩ := hx
  obtain rfl := ha (by omega)
  have HB := Lib.hid hb
  have HX := Lib.hid hx
  clear h ha hx hb
  go_enter Try.func24, Try.ntmps24
  go_wp2
  go_loopw [3, 6] (fun s3 s6 wr => ∃ k : Nat, s6 = .int .i64 k ∧ k ≤ j ∧ wr = w) (fun _ i _ => n - (intOf i).toNat)
  case atStart => exact ⟨0, rfl, by omega, rfl⟩
  case round =>
    obtain ⟨k, rfl, hk2, rfl⟩ := hrel
    by_cases hlt : k < j
    · have c1 := H.out k (by omega)
      have ⟨r1, r2⟩ := HX.out k hlt
      have hkn : k < n := by omega
      generalize x k = y at *
      go_wp2
      go_roundw
      case rel => exact ⟨k + 1, by go_num, by omega, trivial⟩
      case measure => simp [intOf]; omega
    · obtain rfl : k = j := by omega
      have c1 := H.out k (by omega)
      generalize x k = y at *
      rcases HB.out with hb | hb
      · go_wp2
        go_ret
        exact ⟨rfl, rfl⟩
      · have hb1 : ¬ y < 1 := by omega
        go_wp2
        go_ret
        exact ⟨rfl, rfl⟩

theorem pValid_yes (v t : Int) (w : World) (h : Pm.pvalid v t = true) : Calls Try.prog 14 #[pv v t] w (Ret (.bool true) w) := by
  obtain ⟨h1, h2, h3, h4⟩ := Pm.pvalid_true h
  clear h
  unfold pv
  go_enter Try.func14, Try.ntmps14
  go_wp2
  go_ret
  exact ⟨rfl, World.grownBy_alloc _ _ _⟩
theorem pValid_no (v t : Int) (w : World) (h : Pm.pvalid v t = false) : Calls Try.prog 14 #[pv v t] w (Ret (.bool false) w) := by
  have h := Pm.pvalid_false h
  unfold pv
  by_cases h1 : 1 ≤ v
  · by_cases h2 : v ≤ 100000
    · by_cases h3 : 0 ≤ t
      · have h4 : ¬ t ≤ 10000 := by omega
        clear h
        go_enter Try.func14, Try.ntmps14
        go_wp2
        go_ret
        exact ⟨rfl, World.grownBy_alloc _ _ _⟩
      · clear h
        go_enter Try.func14, Try.ntmps14
        go_wp2
        go_ret
        exact ⟨rfl, World.grownBy_alloc _ _ _⟩
    · clear h
      go_enter Try.func14, Try.ntmps14
      go_wp2
      go_ret
      exact ⟨rfl, World.grownBy_alloc _ _ _⟩
  · clear h
    go_enter Try.func14, Try.ntmps14
    go_wp2
    go_ret
    exact ⟨rfl, World.grownBy_alloc _ _ _⟩
theorem pValid_any (v t : Int) (w : World) : Calls Try.prog 14 #[pv v t] w (Ret (.bool (Pm.pvalid v t)) w) := by
  cases h : Pm.pvalid v t
  · exact pValid_no v t w h
  · exact pValid_yes v t w h

theorem rValid_yes (v t : Int) (w : World) (h : Pm.pvalid v t = true) : Calls Try.prog 15 #[pv v t] w (Ret (.bool true) w) := by
  obtain ⟨h1, h2, h3, h4⟩ := Pm.pvalid_true h
  clear h
  unfold pv
  go_enter Try.func15, Try.ntmps15
  go_wp2
  go_ret
  exact ⟨rfl, World.grownBy_alloc _ _ _⟩
theorem rValid_no (v t : Int) (w : World) (h : Pm.pvalid v t = false) : Calls Try.prog 15 #[pv v t] w (Ret (.bool false) w) := by
  have h := Pm.pvalid_false h
  unfold pv
  by_cases h1 : 1 ≤ v
  · by_cases h2 : v ≤ 100000
    · by_cases h3 : 0 ≤ t
      · have h4 : ¬ t ≤ 10000 := by omega
        clear h
        go_enter Try.func15, Try.ntmps15
        go_wp2
        go_ret
        exact ⟨rfl, World.grownBy_alloc _ _ _⟩
      · clear h
        go_enter Try.func15, Try.ntmps15
        go_wp2
        go_ret
        exact ⟨rfl, World.grownBy_alloc _ _ _⟩
    · clear h
      go_enter Try.func15, Try.ntmps15
      go_wp2
      go_ret
      exact ⟨rfl, World.grownBy_alloc _ _ _⟩
  · clear h
    go_enter Try.func15, Try.ntmps15
    go_wp2
    go_ret
    exact ⟨rfl, World.grownBy_alloc _ _ _⟩
theorem rValid_any (v t : Int) (w : World) : Calls Try.prog 15 #[pv v t] w (Ret (.bool (Pm.pvalid v t)) w) := by
  cases h : Pm.pvalid v t
  · exact rValid_no v t w h
  · exact rValid_yes v t w h
end Go.Proofs.Ytjeejdoahhkjbaa
