/- Contract of read. -/
import Derived.Test.YtcjbhkocpfkcbaaDoorTk
namespace Go.Proofs.YtcjbhkocpfkcbaaDoor.Wr
open Go.ChangeShapes Go.WideShapes Go.ChangeAt Go.RowKit

def ReadEnd (l : List UInt8) (w : World) (e : Ending) (w' : World) : Prop :=
  w.grownBy w' none ∧ ((∃ t Y m cv, e = .returned (.tuple #[tv t (.slice (some ⟨Y, 0, none⟩) m cv), .bool true]) ∧ w.heap.size ≤ Y ∧ IR w' (some ⟨Y, 0, none⟩) m t.vs ∧ m ≤ 16 ∧ t.fits ∧ l = Tm.body t.nums) ∨
    (∃ t V m cv, e = .returned (.tuple #[tv t (.slice V m cv), .bool false]) ∧ ∀ u : Tm.Tg, u.ok = true → l ≠ Tm.body u.nums))

/-- Where the numbers ahead of the values lie. -/
def hb (X : Nat) (i : Nat) : Nat := if i < 5 then X + 1 else X + 1 + 1
def ho (i : Nat) : Nat := if i < 5 then i else 0

def nilV : Value := .slice none 0 0
/-- The world when head has been called. -/
structure Rs (w W : World) (X : Nat) : Prop where
  gr : w.grownBy W none
  size : W.heap.size = X + 4
  res : Six W X Tm.zero nilV
  tel : Six W (X + 1) Tm.zero nilV
  cnt : W.cell? ⟨X + 1 + 1, 0, none⟩ = some (.int .i64 0) ∧ W.frozen? ⟨X + 1 + 1, 0, none⟩ = false
  row : ∀ i, i < 6 → W.cell? ⟨X + 1 + 1 + 1, i, none⟩ = some (.pointer (some ⟨hb X i, ho i, none⟩))
theorem rs_start (w : World) (q : Nat) :
    Rs w (((((w.alloc (tcells Tm.zero nilV)).alloc (tcells Tm.zero nilV)).alloc (.cells #[.int .i64 0] 3)).alloc (hcells (w.heap.size + 1) (w.heap.size + 1 + 1))).drewN q) w.heap.size := by
  have s0 := Six.made w Tm.zero nilV
  have s1 := Six.made (w.alloc (tcells Tm.zero nilV)) Tm.zero nilV
  have e1 : (w.alloc (tcells Tm.zero nilV)).heap.size = w.heap.size + 1 := by simp
  rw [e1] at s1
  have g1 : (w.alloc (tcells Tm.zero nilV)).grownBy ((w.alloc (tcells Tm.zero nilV)).alloc (tcells Tm.zero nilV)) none := World.grownBy_alloc _ _ _
  have g2 : ((w.alloc (tcells Tm.zero nilV)).alloc (tcells Tm.zero nilV)).grownBy (((((w.alloc (tcells Tm.zero nilV)).alloc (tcells Tm.zero nilV)).alloc (.cells #[.int .i64 0] 3)).alloc (hcells (w.heap.size + 1) (w.heap.size + 1 + 1))).drewN q) none :=
    grown_trans (grown_trans (World.grownBy_alloc _ _ _) (World.grownBy_alloc _ _ _)) (grown_drewN _ _ _)
  refine ⟨grown_trans (grown_trans (World.grownBy_alloc _ _ _) g1) g2, ?_, (s0.grown g1 (by simp)).grown g2 (by simp), s1.grown g2 (by simp), ?_, ?_⟩
  · simp [World.drewN]
  · unfold tcells hcells; constructor <;> go_simp
  · intro i hi
    simp only [World.cell?_drewN]
    unfold hcells tcells hb ho
    match i, hi with
    | 0, _ => go_simp
    | 1, _ => go_simp
    | 2, _ => go_simp
    | 3, _ => go_simp
    | 4, _ => go_simp
    | 5, _ => go_simp

theorem Rs.slots {w W : World} {X : Nat} (h : Rs w W X) : ∀ i, i < 6 → hb X i ≠ X + 1 + 1 + 1 ∧ (∃ u, W.cell? ⟨hb X i, ho i, none⟩ = some u) ∧ W.frozen? ⟨hb X i, ho i, none⟩ = false := by
  obtain ⟨_, _, _, ⟨⟨h0, h1, h2, h3, h4, h5⟩, k0, k1, k2, k3, k4, k5⟩, ⟨h6, k6⟩, _⟩ := h
  intro i hi
  unfold hb ho
  match i, hi with
  | 0, _ => exact ⟨by simp, ⟨_, h0⟩, k0⟩
  | 1, _ => exact ⟨by simp, ⟨_, h1⟩, k1⟩
  | 2, _ => exact ⟨by simp, ⟨_, h2⟩, k2⟩
  | 3, _ => exact ⟨by simp, ⟨_, h3⟩, k3⟩
  | 4, _ => exact ⟨by simp, ⟨_, h4⟩, k4⟩
  | 5, _ => exact ⟨by simp, ⟨_, h6⟩, k6⟩
theorem hb_low (X i : Nat) : X + 1 ≤ hb X i := by unfold hb; split <;> omega
theorem ho_inj (X : Nat) : ∀ i j, i < j → j < 6 → (⟨hb X j, ho j, none⟩ : Addr) ≠ ⟨hb X i, ho i, none⟩ := by
  intro i j hij hj e
  injection e with e1 e2
  by_cases hi : i < 5
  · by_cases hj5 : j < 5
    · simp only [ho, if_pos hi, if_pos hj5] at e2; omega
    · simp only [hb, if_pos hi, if_neg hj5] at e1; omega
  · omega
theorem Rs.first {w W : World} {X : Nat} (h : Rs w W X) (f : Nat → Int) :
    Six (put W (hb X) ho f 6) (X + 1) ⟨f 0, f 1, f 2, f 3, f 4, []⟩ nilV ∧ (put W (hb X) ho f 6).cell? ⟨X + 1 + 1, 0, none⟩ = some (.int .i64 (f 5)) ∧ (put W (hb X) ho f 6).heap.size = X + 4 := by
  have hs := h.slots
  have P := put_at (n := 6) W (hb X) ho f (fun i => by
    by_cases hi : i < 6
    · obtain ⟨u, hu⟩ := (hs i hi).2.1; exact ⟨u, fun _ => hu⟩
    · exact ⟨.int .i64 0, fun h => absurd h hi⟩) (fun i j => ho_inj X i j) 6 (Nat.le_refl _)
  have F (i : Nat) (hi : i < 6) : (put W (hb X) ho f 6).frozen? ⟨hb X i, ho i, none⟩ = false := by rw [put_frozen]; exact (hs i hi).2.2
  refine ⟨⟨⟨P 0 (by omega), P 1 (by omega), P 2 (by omega), P 3 (by omega), P 4 (by omega), ?_⟩, F 0 (by omega), F 1 (by omega), F 2 (by omega), F 3 (by omega), F 4 (by omega), ?_⟩, P 5 (by omega), by rw [put_size]; exact h.size⟩
  · rw [put_other _ _ _ _ _ _ (fun i hi e => ?_)]
    · exact h.tel.1.2.2.2.2.2
    · injection e with e1 e2
      by_cases hi5 : i < 5
      · simp only [ho, if_pos hi5] at e2; omega
      · simp only [hb, if_neg hi5] at e1; omega
  · rw [put_frozen]; exact h.tel.2.2.2.2.2.2
/-- The second part: the values. -/
structure Rt (w W : World) (X K : Nat) (t : Tm.Tg) : Prop where
  gr : w.grownBy W none
  res : Six W X Tm.zero nilV
  tel : Six W (X + 1) t (.slice (some ⟨X + 4, 0, none⟩) K K)
  ptr : ∀ i, i < K → W.cell? ⟨X + 4 + 1, i, none⟩ = some (.pointer (some ⟨X + 4, i, none⟩))
  vals : ∀ i, i < K → W.cell? ⟨X + 4, i, none⟩ = some (.int .i64 0) ∧ W.frozen? ⟨X + 4, i, none⟩ = false
theorem rb_lt {w : World} {A : Option Addr} {n : Nat} {l : List UInt8} (h : RB w A n l) (hn : 0 < n) : ∀ b off, A = some ⟨b, off, none⟩ → b < w.heap.size := by
  intro b off e
  obtain ⟨b', off', e', hc⟩ := h.2 0 hn
  rw [e] at e'
  injection e' with e'
  injection e' with e1 _
  subst e1
  exact World.block_lt_of_cell? w _ hc
def six6 (u : Tm.Tg) : List Int := [u.st, u.ep, u.sq, u.tm, u.kd, (u.vs.length : Int)]
theorem nums_six (u : Tm.Tg) : u.nums = six6 u ++ u.vs := rfl
theorem six_i64 {u : Tm.Tg} (h : u.ok = true) : ∀ x ∈ six6 u, Tm.I64 x := fun x hx => Tm.Tg.nums_ok h x (by rw [nums_six]; exact List.mem_append_left _ hx)
theorem no_first {l : List UInt8} (h : ∀ ns r, ns.length = 6 → (∀ x ∈ ns, Tm.I64 x) → l.drop 0 ≠ Tm.body ns ++ r) : ∀ u : Tm.Tg, u.ok = true → l ≠ Tm.body u.nums := by
  intro u hu e
  refine h (six6 u) (Tm.body u.vs) rfl (six_i64 hu) ?_
  rw [List.drop_zero, e, nums_six, Tm.body_append]
/-- The six numbers that were read are those of the telegram. -/
theorem first_is {l : List UInt8} {f : Nat → Int} {pos : Nat} (h : RdS l 0 f 6 pos) {u : Tm.Tg} (hu : u.ok = true) (e : l = Tm.body u.nums) : lst f 6 = six6 u ∧ l.drop pos = Tm.body u.vs := by
  have h2 := h.2.2
  rw [List.drop_zero, e, nums_six, Tm.body_append] at h2
  obtain ⟨e1, e2⟩ := Tm.body_prefix (six_i64 hu) (fun x hx => by obtain ⟨i, hi, rfl⟩ := lst_mem hx; exact h.1 i hi) (by rw [lst_len]; rfl) h2
  exact ⟨e1.symm, by rw [e, nums_six, Tm.body_append]; exact e2.symm⟩
theorem lst6 (f : Nat → Int) : lst f 6 = [f 0, f 1, f 2, f 3, f 4, f 5] := rfl
theorem no_count {l : List UInt8} {f : Nat → Int} {pos : Nat} (h : RdS l 0 f 6 pos) (hc : Tm.upTo (f 5) 16 = false) : ∀ u : Tm.Tg, u.ok = true → l ≠ Tm.body u.nums := by
  intro u hu e
  have h1 := (first_is h hu e).1
  rw [lst6] at h1
  unfold six6 at h1
  simp only [List.cons.injEq, and_true] at h1
  have h3 := h1.2.2.2.2.2
  have h4 := ((Tm.Tg.ok_iff u).1 hu).2.2.2.2.2.1
  have : Tm.upTo (f 5) 16 = true := Tm.upTo_iff.2 (by omega)
  rw [hc] at this
  cases this

theorem rt_made {w W4 : World} {X K : Nat} {t : Tm.Tg} (hX : w.heap.size = X) (g : w.grownBy W4 none) (z : W4.heap.size = X + 4) (hr : Six W4 X Tm.zero nilV) (ht : Six W4 (X + 1) t nilV) :
    let W6 := (W4.setCell ⟨X + 1, 5, none⟩ (.slice (some ⟨X + 4, 0, none⟩) K K)).alloc (.cells (madeCells #[.int .i64 0] K) 3)
    w.grownBy W6 none ∧ W6.heap.size = X + 4 + 1 ∧ Six W6 X Tm.zero nilV ∧ Six W6 (X + 1) t (.slice (some ⟨X + 4, 0, none⟩) K K) ∧ PV W6 (X + 4) K (fun _ => .int .i64 0) := by
  have z5 : (W4.setCell ⟨X + 1, 5, none⟩ (.slice (some ⟨X + 4, 0, none⟩) K K)).heap.size = X + 4 := by simpa [World.setCell] using z
  have g5 : W4.grownBy (W4.setCell ⟨X + 1, 5, none⟩ (.slice (some ⟨X + 4, 0, none⟩) K K)) (some (X + 1)) := grown_set W4 ⟨X + 1, 5, none⟩ _
  have g6 : (W4.setCell ⟨X + 1, 5, none⟩ (.slice (some ⟨X + 4, 0, none⟩) K K)).grownBy ((W4.setCell ⟨X + 1, 5, none⟩ (.slice (some ⟨X + 4, 0, none⟩) K K)).alloc (.cells (madeCells #[.int .i64 0] K) 3)) none := World.grownBy_alloc _ _ _
  refine ⟨grown_trans (grown_off g g5 (by omega)) g6, ?_, (hr.grown g5 (by intro e; injection e; omega)).grown g6 (by simp), ?_, ?_⟩
  · simp [z5]
  · obtain ⟨⟨h0, h1, h2, h3, h4, h5⟩, k0, k1, k2, k3, k4, k5⟩ := ht
    have d (j : Nat) (e : 5 ≠ j) := off_ne (X + 1) e
    refine Six.grown (w := W4.setCell ⟨X + 1, 5, none⟩ (.slice (some ⟨X + 4, 0, none⟩) K K)) ⟨⟨set_miss _ (d 0 (by omega)) h0, set_miss _ (d 1 (by omega)) h1, set_miss _ (d 2 (by omega)) h2, set_miss _ (d 3 (by omega)) h3, set_miss _ (d 4 (by omega)) h4, set_hit _ h5⟩, ?_⟩ g6 (by simp)
    simp only [World.frozen?_setCell]; exact ⟨k0, k1, k2, k3, k4, k5⟩
  · have := PV.made (W4.setCell ⟨X + 1, 5, none⟩ (.slice (some ⟨X + 4, 0, none⟩) K K)) (.int .i64 0) K 3
    rw [z5] at this
    exact this
theorem PV.grown {w w' : World} {B n : Nat} {f : Nat → Value} (h : PV w B n f) (g : w.grownBy w' none) (hB : B < w.heap.size) : PV w' B n f :=
  ⟨fun p hp => g.cell (h.1 p hp) (by simp), fun p => by rw [World.frozen?_of_block (g.block B hB (by simp))]; exact h.2 p⟩
theorem IR.apart {w w' : World} {Y X n : Nat} {vs : List Int} (h : IR w (some ⟨Y, 0, none⟩) n vs) (g : w.grownBy w' (some X)) (hne : Y ≠ X) : IR w' (some ⟨Y, 0, none⟩) n vs :=
  ⟨h.1, fun i hi => by
    obtain ⟨b, off, e, hc⟩ := h.2 i hi
    injection e with e
    injection e with e1 e2
    subst e1; subst e2
    exact ⟨Y, 0, rfl, g.cell hc (by intro e; injection e with e; exact hne e)⟩⟩
theorem rt_row {W8 W7 : World} {Y K : Nat} {g : Nat → Int} (h : PV W7 Y K (fun _ => .int .i64 0)) (hW : W8 = put W7 (fun _ => Y) (fun i => i) g K) : IR W8 (some ⟨Y, 0, none⟩) K (lst g K) := by
  refine ⟨lst_len _ _, fun i hi => ⟨Y, 0, rfl, ?_⟩⟩
  rw [hW, Nat.zero_add, put_at (n := K) W7 (fun _ => Y) (fun i => i) g (fun i => by
    by_cases hi : i < K
    · exact ⟨_, fun _ => h.1 i hi⟩
    · exact ⟨.int .i64 0, fun h => absurd h hi⟩) (fun i j hij _ => off_ne Y (by omega)) K (Nat.le_refl _) i hi]
  simp [lst, hi]
theorem read_all {l : List UInt8} {f g : Nat → Int} {pos pos2 K : Nat} (h : RdS l 0 f 6 pos) (k : RdS l pos g K pos2) (h5 : f 5 = (K : Int)) (hl : pos2 = l.length) :
    Tm.Tg.fits ⟨f 0, f 1, f 2, f 3, f 4, lst g K⟩ ∧ l = Tm.body (Tm.Tg.mk (f 0) (f 1) (f 2) (f 3) (f 4) (lst g K)).nums := by
  refine ⟨⟨h.1 0 (by omega), h.1 1 (by omega), h.1 2 (by omega), h.1 3 (by omega), h.1 4 (by omega), fun v hv => ?_⟩, ?_⟩
  · obtain ⟨i, hi, rfl⟩ := lst_mem hv; exact k.1 i hi
  · have h2 := h.2.2
    rw [List.drop_zero, k.2.2, hl, List.drop_length, List.append_nil, lst6, h5, ← Tm.body_append] at h2
    rw [h2]
    show _ = Tm.body (f 0 :: f 1 :: f 2 :: f 3 :: f 4 :: ((lst g K).length : Int) :: lst g K)
    rw [lst_len]; rfl
theorem read_more {l : List UInt8} {f g : Nat → Int} {pos pos2 K : Nat} (h : RdS l 0 f 6 pos) (k : RdS l pos g K pos2) (h5 : f 5 = (K : Int)) (hl : pos2 ≠ l.length) (hle : pos2 ≤ l.length) : ∀ u : Tm.Tg, u.ok = true → l ≠ Tm.body u.nums := by
  intro u hu e
  obtain ⟨h1, h2⟩ := first_is h hu e
  have hK : u.vs.length = K := by
    rw [lst6] at h1
    unfold six6 at h1
    simp only [List.cons.injEq, and_true] at h1
    omega
  have h3 := k.2.2
  rw [h2] at h3
  obtain ⟨_, e2⟩ := Tm.body_prefix (r := []) (fun x hx => Tm.Tg.nums_ok hu x (by rw [nums_six]; exact List.mem_append_right _ hx)) (fun x hx => by obtain ⟨i, hi, rfl⟩ := lst_mem hx; exact k.1 i hi) (by rw [lst_len, hK]) (by rw [List.append_nil]; exact h3)
  have := congrArg List.length e2
  rw [List.length_drop, List.length_nil] at this
  omega
theorem read_less {l : List UInt8} {f : Nat → Int} {pos K : Nat} (h : RdS l 0 f 6 pos) (h5 : f 5 = (K : Int)) (k : ∀ ns r, ns.length = K → (∀ x ∈ ns, Tm.I64 x) → l.drop pos ≠ Tm.body ns ++ r) : ∀ u : Tm.Tg, u.ok = true → l ≠ Tm.body u.nums := by
  intro u hu e
  obtain ⟨h1, h2⟩ := first_is h hu e
  have hK : u.vs.length = K := by
    rw [lst6] at h1
    unfold six6 at h1
    simp only [List.cons.injEq, and_true] at h1
    omega
  exact k u.vs [] hK (fun x hx => Tm.Tg.nums_ok hu x (by rw [nums_six]; exact List.mem_append_right _ hx)) (by rw [List.append_nil]; exact h2)

set_option maxHeartbeats 1000000 in
theorem read_any (A : Option Addr) (n c : Nat) (l : List UInt8) (w : World) (h : RB w A n l) (hc : n ≤ c) (hc2 : c ≤ 9223372036854775807) (hn : n ≤ 1000000) :
    Calls Tryd.prog 40 #[.slice A n c] w (ReadEnd l w) := by
  have HB := Lib.hid h
  go_enter Tryd.func40, Tryd.ntmps40
  go_wp2_with fail
  refine (head_any (w.heap.size + 1) (w.heap.size + 1 + 1) _).mono ?_
  rintro e W3 ⟨rfl, q, hW⟩
  have S3 : Hid (Rs w W3 w.heap.size) := by rw [hW]; exact rs_start w q
  clear hW
  obtain ⟨X, hX⟩ : ∃ X, w.heap.size = X := ⟨_, rfl⟩
  rw [hX] at S3 ⊢
  go_wp2_with fail
  refine (readinto_any (X + 1 + 1 + 1) 6 6 (hb X) ho A n c l 0 W3 S3.out.row S3.out.slots (HB.out.grown S3.out.gr) hc hc2 hn ?_ (by omega) (by omega)).mono ?_
  · intro h0 b off e i _ e2
    have := rb_lt HB.out h0 b off e
    have := hb_low X i
    omega
  rintro e W4 ⟨q4, er, j, f, rfl, hj, hW4, HR⟩
  have G4 : Hid (w.grownBy W4 none) := by rw [hW4]; exact put_grown S3.out.gr _ _ _ _ (fun i _ => by have := hb_low X i; omega)
  have X4 : Hid (Six W4 X Tm.zero nilV) := by rw [hW4]; exact S3.out.res.put _ _ _ _ (fun i _ => by have := hb_low X i; omega)
  by_cases her : er = 0
  · subst her
    obtain ⟨rfl, pos, rfl, hD⟩ : j = 6 ∧ ∃ pos : Nat, q4 = pos ∧ RdS l 0 f 6 pos := by
      rcases HR with ⟨_, h1, h2⟩ | ⟨h0, _⟩
      · exact ⟨h1, h2⟩
      · exact absurd rfl h0
    have HD := Lib.hid hD
    obtain ⟨T4, c4, z4⟩ := S3.out.first f
    rw [← hW4] at T4 c4 z4
    have T4 := Lib.hid T4
    clear HR hW4 S3 hD
    by_cases hcount : Tm.upTo (f 5) 16 = true
    · obtain ⟨K, hK5, hK16⟩ : ∃ K : Nat, f 5 = (K : Int) ∧ K ≤ 16 := by
        have := Tm.upTo_iff.1 hcount
        exact ⟨(f 5).toNat, by omega, by omega⟩
      rw [hK5] at c4
      have HK := Lib.hid hK5
      have HU : Hid (Tm.upTo (K : Int) 16 = true) := by rw [← hK5]; exact hcount
      clear hcount hK5
      have hmk := run_make_row' (P := Tryd.prog) 22 3 (.int .i64 0) 8 Tryd.underlying22 info3 rfl .i64 .i64 K (by omega) (by omega)
      obtain ⟨⟨d0, d1, d2, d3, d4, d5⟩, e0, e1, e2, e3, e4, e5⟩ := T4.out
      dsimp only at d0 d1 d2 d3 d4 d5
      unfold nilV at d5
      go_wp2_with fail
      refine (upto_at _ HU.out).mono ?_
      rintro e w5 ⟨rfl, rfl⟩
      go_wp2_with fail
      obtain ⟨G6, z6, X6, T6, V6⟩ := rt_made (K := K) hX G4.out z4 X4.out T4.out
      generalize ((W4.setCell ⟨X + 1, 5, none⟩ (.slice (some ⟨X + 4, 0, none⟩) K K)).alloc (.cells (madeCells #[.int .i64 0] K) 3)) = W6 at *
      clear hmk d0 d1 d2 d3 d4 d5 e0 e1 e2 e3 e4 e5 c4 z4 T4 X4 G4
      have HP := pointers_any (X + 4) K K W6 (by omega)
      rw [z6] at HP
      refine HP.mono ?_
      clear HP
      rintro e W7 ⟨rfl, g7, P7⟩
      have G7 := Lib.hid (grown_trans G6 g7)
      have X7 := Lib.hid (X6.grown g7 (by simp))
      have T7 := Lib.hid (T6.grown g7 (by simp))
      have V7 := Lib.hid (V6.grown g7 (by omega))
      have P7 := Lib.hid P7
      clear G6 X6 T6 V6 g7 z6
      go_wp2_with fail
      have hpos : pos ≤ n := by have := HD.out.pos_le (by omega); rw [HB.out.1] at this; exact this
      refine (readinto_any (X + 4 + 1) K K (fun _ => X + 4) (fun i => i) A n c l pos W7 (fun i hi => ?_) (fun i hi => ⟨by omega, ⟨_, V7.out.1 i hi⟩, V7.out.2 i⟩) (HB.out.grown G7.out) hc hc2 hn ?_ hpos (by omega)).mono ?_
      · have := P7.out.1 i hi
        unfold ptrs at this
        rw [if_pos hi] at this
        exact this
      · intro h0 b off e i _ e2
        have := rb_lt HB.out h0 b off e
        omega
      rintro e W8 ⟨q8, er, j, g, rfl, hj8, hW8, HR⟩
      have G8 : Hid (w.grownBy W8 none) := by rw [hW8]; exact put_grown G7.out _ _ _ _ (fun i _ => by show _ ≤ X + 4; omega)
      have X8 : Hid (Six W8 X Tm.zero nilV) := by rw [hW8]; exact X7.out.put _ _ _ _ (fun i _ => by omega)
      have T8 : Hid (Six W8 (X + 1) ⟨f 0, f 1, f 2, f 3, f 4, []⟩ (.slice (some ⟨X + 4, 0, none⟩) K K)) := by rw [hW8]; exact T7.out.put _ _ _ _ (fun i _ => by omega)
      obtain ⟨⟨a0, a1, a2, a3, a4, a5⟩, b0, b1, b2, b3, b4, b5⟩ := X8.out
      dsimp only [Tm.zero] at a0 a1 a2 a3 a4 a5
      unfold nilV at a5
      obtain ⟨⟨d0, d1, d2, d3, d4, d5⟩, e0, e1, e2, e3, e4, e5⟩ := T8.out
      dsimp only at d0 d1 d2 d3 d4 d5
      obtain ⟨⟨q0, q1, q2, q3, q4, q5⟩, _⟩ := X8.out.store ⟨f 0, f 1, f 2, f 3, f 4, []⟩ (.slice (some ⟨X + 4, 0, none⟩) K K)
      unfold six at q0 q1 q2 q3 q4 q5
      dsimp only at q0 q1 q2 q3 q4 q5
      by_cases her : er = 0
      · subst her
        obtain ⟨rfl, pos2, rfl, hD2⟩ : j = K ∧ ∃ pos2 : Nat, q8 = pos2 ∧ RdS l pos g K pos2 := by
          rcases HR with ⟨_, h1, h2⟩ | ⟨h0, _⟩
          · exact ⟨h1, h2⟩
          · exact absurd rfl h0
        have hp2 := hD2.pos_le (by rw [HB.out.1]; exact hpos)
        rw [HB.out.1] at hp2
        have HI := Lib.hid (rt_row V7.out hW8)
        have HD2 := Lib.hid hD2
        clear HR hW8 hD2 T8 T7 V7 P7
        by_cases hend : pos2 = n
        · obtain ⟨hfit, hl⟩ := read_all HD.out HD2.out HK.out (by rw [HB.out.1]; exact hend)
          have HF := Lib.hid hfit
          have HL := Lib.hid hl
          clear hfit hl
          go_wp2
          refine bodyPost_ret (v := .tuple #[tv ⟨f 0, f 1, f 2, f 3, f 4, lst g j⟩ (.slice (some ⟨X + 4, 0, none⟩) j j), .bool true]) (by simp [results, Tryd.results40, go_sem, q0, q1, q2, q3, q4, q5, tv]) rfl ⟨grown_off G8.out (six_grown _ X ⟨f 0, f 1, f 2, f 3, f 4, []⟩ _) (by omega), .inl ⟨_, _, _, _, rfl, by omega, ?_, by omega, HF.out, HL.out⟩⟩
          exact IR.apart HI.out (six_grown _ X ⟨f 0, f 1, f 2, f 3, f 4, []⟩ _) (by omega)
        · have hend' : ¬ (pos2 : Int) = (n : Int) := by omega
          have HNO := Lib.hid (read_more HD.out HD2.out HK.out (by rw [HB.out.1]; exact hend) (by rw [HB.out.1]; exact hp2))
          go_wp2
          refine bodyPost_ret (v := .tuple #[tv ⟨f 0, f 1, f 2, f 3, f 4, []⟩ (.slice (some ⟨X + 4, 0, none⟩) j j), .bool false]) (by simp [results, Tryd.results40, go_sem, q0, q1, q2, q3, q4, q5, tv, hend']) rfl ⟨grown_off G8.out (six_grown _ X ⟨f 0, f 1, f 2, f 3, f 4, []⟩ _) (by omega), .inr ⟨_, _, _, _, rfl, HNO.out⟩⟩
      · have HNO : Hid (∀ u : Tm.Tg, u.ok = true → l ≠ Tm.body u.nums) := by
          rcases HR with ⟨h0, _⟩ | ⟨_, h1⟩
          · exact absurd h0 her
          · exact read_less HD.out HK.out h1
        clear HR hW8 T8 T7 V7 P7
        go_wp2
        refine bodyPost_ret (v := .tuple #[tv ⟨f 0, f 1, f 2, f 3, f 4, []⟩ (.slice (some ⟨X + 4, 0, none⟩) K K), .bool false]) (by simp [results, Tryd.results40, go_sem, q0, q1, q2, q3, q4, q5, tv]) rfl ⟨grown_off G8.out (six_grown _ X ⟨f 0, f 1, f 2, f 3, f 4, []⟩ _) (by omega), .inr ⟨_, _, _, _, rfl, HNO.out⟩⟩
    · have hcount := eq_false_of_ne_true hcount
      have HNO := Lib.hid (no_count HD.out hcount)
      have HU := Lib.hid hcount
      clear hcount
      obtain ⟨⟨a0, a1, a2, a3, a4, a5⟩, b0, b1, b2, b3, b4, b5⟩ := X4.out
      dsimp only [Tm.zero] at a0 a1 a2 a3 a4 a5
      unfold nilV at a5
      go_wp2_with fail
      refine (upto_at _ HU.out).mono ?_
      rintro e w5 ⟨rfl, rfl⟩
      go_wp2
      have X5 := X4.out.store Tm.zero nilV
      obtain ⟨⟨q0, q1, q2, q3, q4, q5⟩, _⟩ := X5
      unfold six nilV at q0 q1 q2 q3 q4 q5
      dsimp only [Tm.zero] at q0 q1 q2 q3 q4 q5
      refine bodyPost_ret (v := .tuple #[tv Tm.zero nilV, .bool false]) (by simp [results, Tryd.results40, go_sem, q0, q1, q2, q3, q4, q5, tv, Tm.zero, nilV]) rfl ⟨grown_off G4.out (six_grown _ X Tm.zero nilV) (by omega), .inr ⟨Tm.zero, none, 0, 0, rfl, HNO.out⟩⟩
  · have HNO : Hid (∀ u : Tm.Tg, u.ok = true → l ≠ Tm.body u.nums) := by
      rcases HR with ⟨h0, _⟩ | ⟨_, h1⟩
      · exact absurd h0 her
      · exact no_first h1
    clear HR hW4 S3
    obtain ⟨⟨a0, a1, a2, a3, a4, a5⟩, b0, b1, b2, b3, b4, b5⟩ := X4.out
    dsimp only [Tm.zero] at a0 a1 a2 a3 a4 a5
    unfold nilV at a5
    go_wp2
    have X5 := X4.out.store Tm.zero nilV
    obtain ⟨⟨q0, q1, q2, q3, q4, q5⟩, _⟩ := X5
    unfold six nilV at q0 q1 q2 q3 q4 q5
    dsimp only [Tm.zero] at q0 q1 q2 q3 q4 q5
    refine bodyPost_ret (v := .tuple #[tv Tm.zero nilV, .bool false]) (by simp [results, Tryd.results40, go_sem, q0, q1, q2, q3, q4, q5, tv, Tm.zero, nilV]) rfl ⟨grown_off G4.out (six_grown _ X Tm.zero nilV) (by omega), .inr ⟨Tm.zero, none, 0, 0, rfl, HNO.out⟩⟩
end Go.Proofs.YtcjbhkocpfkcbaaDoor.Wr
