/- Contracts of pointers and readInto. -/
import Derived.Test.YtcjbhkocpfkcbaaDoorTc
import Derived.Test.YtcjbhkocpfkcbaaDoorWireInt
import Derived.Deep.OwnRows
import Derived.Laws.OwnMore
import Derived.WalkMore
namespace Go.Proofs.YtcjbhkocpfkcbaaDoor.Wr
open Go.ChangeShapes Go.WideShapes Go.ChangeAt Go.RowKit

theorem made_get (z : Value) (n p : Nat) (hp : p < n) : (madeCells #[z] n)[p]? = some z := by
  rw [← Array.getElem?_toList, toList_madeCells_one, List.getElem?_replicate, if_pos hp]
theorem made_cell (w : World) (z : Value) (n p : Nat) (t : TypeId) (hp : p < n) : (w.alloc (.cells (madeCells #[z] n) t)).cell? ⟨w.heap.size, p, none⟩ = some z := by
  rw [World.cell?_alloc_at _ _ _ _ rfl, made_get z n p hp]
theorem info70 : (Tryd.prog.info? 70).map (fun i => (i.zero, i.size, i.bytes)) = some (some (.pointer none), 1, 8) := by kernel_rfl
theorem info3 : (Tryd.prog.info? 3).map (fun i => (i.zero, i.size, i.bytes)) = some (some (.int .i64 0), 1, 8) := by kernel_rfl

/-- The row of block B holds f, and may be written. -/
def PV (w : World) (B n : Nat) (f : Nat → Value) : Prop := (∀ p, p < n → w.cell? ⟨B, p, none⟩ = some (f p)) ∧ ∀ p, w.frozen? ⟨B, p, none⟩ = false
theorem PV.set {w : World} {B n : Nat} {f : Nat → Value} (h : PV w B n f) (k : Nat) (v : Value) : PV (w.setCell ⟨B, k, none⟩ v) B n (fun p => if p = k then v else f p) := by
  refine ⟨fun p hp => ?_, fun p => by rw [World.frozen?_setCell]; exact h.2 p⟩
  by_cases e : p = k
  · subst e; simp only [if_true]; exact World.cell?_setCell_same _ _ _ (h.1 p hp)
  · simp only [if_neg e]
    rw [World.cell?_setCell_other _ _ _ _ (by intro e2; injection e2 with _ e3 _; exact e e3.symm)]
    exact h.1 p hp
theorem PV.congr {w : World} {B n : Nat} {f g : Nat → Value} (h : PV w B n f) (e : ∀ p, p < n → f p = g p) : PV w B n g := ⟨fun p hp => by rw [← e p hp]; exact h.1 p hp, h.2⟩
theorem PV.made (w : World) (z : Value) (n : Nat) (t : TypeId) : PV (w.alloc (.cells (madeCells #[z] n) t)) w.heap.size n (fun _ => z) :=
  ⟨fun p hp => made_cell w z n p t hp, fun p => by simp⟩
theorem grown_frozen {w w' : World} {row : Option Nat} (h : w.grownBy w' row) {a : Addr} {v : Value} (hc : w.cell? a = some v) (hf : w.frozen? a = false) (hr : some a.block ≠ row) : w'.frozen? a = false := by
  rw [World.frozen?_of_block (h.block a.block (World.block_lt_of_cell? _ _ hc) hr)]; exact hf

def ptrs (V k : Nat) : Nat → Value := fun p => if p < k then .pointer (some ⟨V, p, none⟩) else .pointer none

set_option maxHeartbeats 1000000 in
theorem pointers_any (V n c : Nat) (w : World) (hn : n ≤ 1000) :
    Calls Tryd.prog 51 #[.slice (some ⟨V, 0, none⟩) n c] w fun e w' => e = .returned (.slice (some ⟨w.heap.size, 0, none⟩) n n) ∧ w.grownBy w' none ∧ PV w' w.heap.size n (ptrs V n) := by
  have hmk := run_make_row' (P := Tryd.prog) 67 70 (.pointer none) 8 Tryd.underlying67 info70 rfl .i64 .i64 n (by omega) (by omega)
  have H0 := Lib.hid (show w.grownBy (w.alloc (.cells (madeCells #[.pointer none] n) 70)) none ∧ PV (w.alloc (.cells (madeCells #[.pointer none] n) 70)) w.heap.size n (ptrs V 0) ∧ w.heap.size < (w.alloc (.cells (madeCells #[.pointer none] n) 70)).heap.size from
    ⟨World.grownBy_alloc _ _ _, (PV.made _ _ _ _).congr (fun p _ => by unfold ptrs; rw [if_neg (by omega)]), by simp⟩)
  go_enter Tryd.func51, Tryd.ntmps51
  go_wp2
  go_loopw [10] (fun s wr => ∃ k : Nat, s = .int .i64 k ∧ k ≤ n ∧ Hid (w.grownBy wr none ∧ PV wr w.heap.size n (ptrs V k) ∧ w.heap.size < wr.heap.size)) (fun i _ => n - (intOf i).toNat)
  case atStart => exact ⟨0, rfl, by omega, H0⟩
  case round =>
    obtain ⟨k, rfl, hk, I⟩ := hrel
    by_cases hlt : k < n
    · have c1 := I.out.2.1.1 k hlt
      have f1 := I.out.2.1.2 k
      have I2 : Hid (w.grownBy (wr.setCell ⟨w.heap.size, k, none⟩ (.pointer (some ⟨V, k, none⟩))) none ∧ PV (wr.setCell ⟨w.heap.size, k, none⟩ (.pointer (some ⟨V, k, none⟩))) w.heap.size n (ptrs V (k + 1)) ∧ w.heap.size < (wr.setCell ⟨w.heap.size, k, none⟩ (.pointer (some ⟨V, k, none⟩))).heap.size) := by
        refine ⟨grown_off I.out.1 (grown_set wr ⟨w.heap.size, k, none⟩ _) (Nat.le_refl _), (I.out.2.1.set k _).congr (fun p _ => ?_), by simpa [World.setCell] using I.out.2.2⟩
        unfold ptrs
        by_cases e : p = k
        · rw [if_pos e, if_pos (by omega), e]
        · rw [if_neg e]
          by_cases e2 : p < k
          · rw [if_pos e2, if_pos (by omega)]
          · rw [if_neg e2, if_neg (by omega)]
      clear I
      go_wp2
      go_roundw
      case rel => exact ⟨k + 1, by go_num, by omega, I2⟩
      case measure => simp [intOf]; omega
    · obtain rfl : k = n := by omega
      go_wp2
      go_ret
      exact ⟨rfl, I.out.1, I.out.2.1⟩

/-! ## Numbers are written where the pointers point -/
def put (w : World) (pb po : Nat → Nat) (f : Nat → Int) : Nat → World
  | 0 => w
  | k + 1 => (put w pb po f k).setCell ⟨pb k, po k, none⟩ (.int .i64 (f k))
theorem put_congr (w : World) (pb po : Nat → Nat) {f g : Nat → Int} : ∀ k, (∀ i, i < k → f i = g i) → put w pb po f k = put w pb po g k
  | 0, _ => rfl
  | k + 1, h => by
    show (put w pb po f k).setCell _ _ = (put w pb po g k).setCell _ _
    rw [put_congr w pb po k (fun i hi => h i (by omega)), h k (by omega)]
theorem put_frozen (w : World) (pb po : Nat → Nat) (f : Nat → Int) (a : Addr) : ∀ k, (put w pb po f k).frozen? a = w.frozen? a
  | 0 => rfl
  | k + 1 => by
    show ((put w pb po f k).setCell _ _).frozen? a = _
    rw [World.frozen?_setCell]; exact put_frozen w pb po f a k
theorem put_other (w : World) (pb po : Nat → Nat) (f : Nat → Int) (a : Addr) : ∀ k, (∀ i, i < k → (⟨pb i, po i, none⟩ : Addr) ≠ a) → (put w pb po f k).cell? a = w.cell? a
  | 0, _ => rfl
  | k + 1, h => by
    show ((put w pb po f k).setCell _ _).cell? a = _
    rw [World.cell?_setCell_other _ _ _ _ (h k (by omega))]
    exact put_other w pb po f a k (fun i hi => h i (by omega))
theorem put_some (w : World) (pb po : Nat → Nat) (f : Nat → Int) {a : Addr} {u : Value} (h : w.cell? a = some u) : ∀ k, ∃ u', (put w pb po f k).cell? a = some u'
  | 0 => ⟨u, h⟩
  | k + 1 => by
    obtain ⟨u', hu⟩ := put_some w pb po f h k
    by_cases e : (⟨pb k, po k, none⟩ : Addr) = a
    · subst e; exact ⟨_, World.cell?_setCell_same _ _ _ hu⟩
    · exact ⟨u', (World.cell?_setCell_other _ _ _ _ e).trans hu⟩
theorem put_at {n : Nat} (w : World) (pb po : Nat → Nat) (f : Nat → Int) (hs : ∀ i, ∃ u, i < n → w.cell? ⟨pb i, po i, none⟩ = some u) (hd : ∀ i j, i < j → j < n → (⟨pb j, po j, none⟩ : Addr) ≠ ⟨pb i, po i, none⟩) :
    ∀ k, k ≤ n → ∀ i, i < k → (put w pb po f k).cell? ⟨pb i, po i, none⟩ = some (.int .i64 (f i))
  | 0, _, i, hi => absurd hi (by omega)
  | k + 1, hk, i, hi => by
    by_cases e : i = k
    · subst e
      obtain ⟨u, hu⟩ := hs i
      obtain ⟨u', hu'⟩ := put_some w pb po f (hu (by omega)) i
      exact World.cell?_setCell_same _ _ _ hu'
    · exact (World.cell?_setCell_other _ _ _ _ (hd i k (by omega) (by omega))).trans (put_at w pb po f hs hd k (by omega) i (by omega))
theorem put_size (w : World) (pb po : Nat → Nat) (f : Nat → Int) : ∀ k, (put w pb po f k).heap.size = w.heap.size
  | 0 => rfl
  | k + 1 => by
    have := put_size w pb po f k
    simpa [put, World.setCell] using this
theorem put_grown {w0 w : World} (h : w0.grownBy w none) (pb po : Nat → Nat) (f : Nat → Int) : ∀ k, (∀ i, i < k → w0.heap.size ≤ pb i) → w0.grownBy (put w pb po f k) none
  | 0, _ => h
  | k + 1, hb => grown_off (put_grown h pb po f k (fun i hi => hb i (by omega))) (grown_set _ ⟨pb k, po k, none⟩ _) (hb k (by omega))

def lst (f : Nat → Int) (k : Nat) : List Int := (List.range k).map f
theorem lst_len (f : Nat → Int) (k : Nat) : (lst f k).length = k := by simp [lst]
theorem lst_snoc (f : Nat → Int) (k : Nat) : lst f (k + 1) = lst f k ++ [f k] := by simp [lst, List.range_succ]
theorem lst_congr {f g : Nat → Int} {k : Nat} (h : ∀ i, i < k → f i = g i) : lst f k = lst g k := List.map_congr_left fun i hi => h i (List.mem_range.1 hi)
theorem lst_mem {f : Nat → Int} {k : Nat} {n : Int} (h : n ∈ lst f k) : ∃ i, i < k ∧ n = f i := by
  obtain ⟨i, hi, rfl⟩ := List.mem_map.1 h
  exact ⟨i, List.mem_range.1 hi, rfl⟩
def setF (f : Nat → Int) (k : Nat) (v : Int) : Nat → Int := fun p => if p = k then v else f p
theorem setF_at (f : Nat → Int) (k : Nat) (v : Int) : setF f k v k = v := by simp [setF]
theorem setF_ne (f : Nat → Int) (k : Nat) (v : Int) {i : Nat} (h : i < k) : f i = setF f k v i := by unfold setF; rw [if_neg (by omega)]

/-- What readInto has read when k numbers are there: pos is the index behind them. -/
def RdS (l : List UInt8) (p0 : Nat) (f : Nat → Int) (k pos : Nat) : Prop :=
  (∀ i, i < k → Tm.I64 (f i)) ∧ pos = p0 + (Tm.body (lst f k)).length ∧ l.drop p0 = Tm.body (lst f k) ++ l.drop pos
theorem RdS.pos_le {l : List UInt8} {p0 : Nat} {f : Nat → Int} {k pos : Nat} (h : RdS l p0 f k pos) (hp : p0 ≤ l.length) : pos ≤ l.length := by
  have := congrArg List.length h.2.2
  simp only [List.length_drop, List.length_append] at this
  have := h.2.1
  omega
theorem RdS.next {l : List UInt8} {p0 : Nat} {f : Nat → Int} {k pos : Nat} {n q : Int} (h : RdS l p0 f k pos) (hr : Wm.intR l (pos : Int) = (n, q, 0)) :
    ∃ pos', q = ((pos' : Nat) : Int) ∧ RdS l p0 (setF f k n) (k + 1) pos' := by
  obtain ⟨h1, h2, r, h3⟩ := Tm.intR_ok hr rfl
  have hl : lst (setF f k n) (k + 1) = lst f k ++ [n] := by
    rw [lst_snoc, setF_at, lst_congr (fun i hi => (setF_ne f k n hi).symm)]
  refine ⟨_, h2, fun i hi => ?_, ?_, ?_⟩
  · by_cases e : i = k
    · rw [e, setF_at]; exact h1
    · rw [← setF_ne f k n (by omega)]; exact h.1 i (by omega)
  · rw [hl, Tm.body_snoc, List.length_append, h.2.1]; omega
  · rw [hl, Tm.body_snoc, h.2.2, List.append_assoc]
    congr 1
    rw [← List.drop_drop, h3, List.drop_left]
theorem RdS.none {l : List UInt8} {p0 : Nat} {f : Nat → Int} {k K pos : Nat} {n q er : Int} (h : RdS l p0 f k pos) (hp : p0 ≤ l.length) (hk : k < K) (hr : Wm.intR l (pos : Int) = (n, q, er)) (he : er ≠ 0)
    (ns : List Int) (r : List UInt8) (hn : ns.length = K) (hi : ∀ x ∈ ns, Tm.I64 x) : l.drop p0 ≠ Tm.body ns ++ r := by
  intro e
  have hle := h.pos_le hp
  rw [h.2.2] at e
  have hs : ns = ns.take k ++ ns.drop k := (List.take_append_drop k ns).symm
  rw [hs, Tm.body_append, List.append_assoc] at e
  have hlt : k < ns.length := by omega
  obtain ⟨e1, e2⟩ := Tm.body_prefix (fun x hx => by obtain ⟨i, hi, rfl⟩ := lst_mem hx; exact h.1 i hi) (fun x hx => hi x (List.mem_of_mem_take hx)) (by rw [lst_len, List.length_take]; omega) e
  rw [List.drop_eq_getElem_cons hlt] at e2
  simp only [Tm.body, List.append_assoc] at e2
  have := Tm.intR_at hle (hi _ (List.getElem_mem hlt)) e2
  rw [hr] at this
  exact he (congrArg (·.2.2) this)

def RdEnd (w : World) (pb po : Nat → Nat) (K : Nat) (l : List UInt8) (p0 : Nat) (e : Ending) (w' : World) : Prop :=
  ∃ (q er : Int) (j : Nat) (f : Nat → Int), e = .returned (.tuple #[.int .i64 q, .int .i64 er]) ∧ j ≤ K ∧ w' = put w pb po f j ∧
    ((er = 0 ∧ j = K ∧ ∃ pos : Nat, q = pos ∧ RdS l p0 f K pos) ∨ (er ≠ 0 ∧ ∀ ns r, ns.length = K → (∀ x ∈ ns, Tm.I64 x) → l.drop p0 ≠ Tm.body ns ++ r))

set_option maxHeartbeats 1000000 in
theorem readinto_any (R K C : Nat) (pb po : Nat → Nat) (A : Option Addr) (n c : Nat) (l : List UInt8) (p0 : Nat) (w : World)
    (hR : ∀ i, i < K → w.cell? ⟨R, i, none⟩ = some (.pointer (some ⟨pb i, po i, none⟩)))
    (hs : ∀ i, i < K → pb i ≠ R ∧ (∃ u, w.cell? ⟨pb i, po i, none⟩ = some u) ∧ w.frozen? ⟨pb i, po i, none⟩ = false)
    (hb : RB w A n l) (hc : n ≤ c) (hc2 : c ≤ 9223372036854775807) (hn : n ≤ 1000000) (hB : 0 < n → ∀ b off, A = some ⟨b, off, none⟩ → ∀ i, i < K → pb i ≠ b) (hp : p0 ≤ n) (hK : K ≤ 1000) :
    Calls Tryd.prog 50 #[.slice (some ⟨R, 0, none⟩) K C, .slice A n c, .int .i64 (p0 : Int)] w (RdEnd w pb po K l p0) := by
  have HR := Lib.hid hR
  have HS := Lib.hid hs
  have HB := Lib.hid hb
  have HN := Lib.hid hB
  clear hR hs hb hB
  go_enter Tryd.func50, Tryd.ntmps50
  go_wp2
  go_step3
  go_wp2
  go_step3
  go_wp2
  go_loopw [2, 8, 13] (fun s2 s8 s13 wr => ∃ (k pos : Nat) (f : Nat → Int), s13 = .int .i64 k ∧ k ≤ K ∧ s2 = .int .i64 pos ∧ pos ≤ n ∧ s8 = .int .i64 0 ∧ Hid (wr = put w pb po f k) ∧ Hid (RdS l p0 f k pos)) (fun _ _ i _ => K - (intOf i).toNat)
  case atStart => exact ⟨0, p0, fun _ => 0, rfl, by omega, rfl, hp, rfl, rfl, ⟨fun i hi => absurd hi (by omega), by simp [lst, Tm.body], by simp [lst, Tm.body]⟩⟩
  case round =>
    obtain ⟨k, pos, f, rfl, hk, rfl, hpos, rfl, HW, HD⟩ := hrel
    by_cases hlt : k < K
    · have hRb : RB wr A n l := by
        rw [HW.out]
        refine ⟨HB.out.1, fun i hi => ?_⟩
        obtain ⟨b, off, e, hc⟩ := HB.out.2 i hi
        exact ⟨b, off, e, (put_other _ _ _ _ _ _ (fun j hj e2 => HN.out (by omega) b off e j (by omega) (by injection e2))).trans hc⟩
      have c1 : wr.cell? ⟨R, k, none⟩ = some (.pointer (some ⟨pb k, po k, none⟩)) := by
        rw [HW.out]
        exact (put_other _ _ _ _ _ _ (fun j hj e2 => (HS.out j (by omega)).1 (by injection e2))).trans (HR.out k hlt)
      obtain ⟨_, ⟨u, hu⟩, hf⟩ := HS.out k hlt
      obtain ⟨u', c2⟩ : ∃ u', wr.cell? ⟨pb k, po k, none⟩ = some u' := by rw [HW.out]; exact put_some w pb po f hu k
      have f2 : wr.frozen? ⟨pb k, po k, none⟩ = false := by rw [HW.out, put_frozen]; exact hf
      have HI := Lib.hid (int_any A n c l (pos : Int) wr hRb hc hc2 (by omega) (by omega) (by omega))
      have HX : Hid (∀ v : Int, wr.setCell ⟨pb k, po k, none⟩ (.int .i64 v) = put w pb po (setF f k v) (k + 1)) := by
        intro v
        show _ = (put w pb po (setF f k v) k).setCell ⟨pb k, po k, none⟩ (.int .i64 (setF f k v k))
        rw [setF_at, HW.out, put_congr w pb po k (fun i hi => setF_ne f k v hi)]
      clear hRb hu hf
      generalize hbk : pb k = Bk at *
      generalize hok : po k = Ok at *
      obtain ⟨⟨x, q, er⟩, hr⟩ : ∃ r, Wm.intR l (pos : Int) = r := ⟨_, rfl⟩
      rw [hr] at HI
      have HQ := Lib.hid hr
      clear hr hbk hok
      by_cases he : er = 0
      · subst he
        obtain ⟨pos', rfl, hD2⟩ := HD.out.next HQ.out
        have hp2 := hD2.pos_le (by rw [HB.out.1]; exact hp)
        rw [HB.out.1] at hp2
        have HD2 := Lib.hid hD2
        have HX := Lib.hid (HX.out x)
        clear HD hD2 HQ HW
        go_wp2_with fail
        refine HI.out.mono ?_
        rintro e w' ⟨rfl, rfl⟩
        go_wp2
        go_roundw
        case rel => exact ⟨k + 1, pos', setF f k x, by go_num, by omega, rfl, hp2, rfl, HX, HD2⟩
        case measure => simp [intOf]; omega
      · have HZ := Lib.hid (HD.out.none (by rw [HB.out.1]; exact hp) hlt HQ.out he)
        have HX := Lib.hid (HX.out x)
        clear HD HQ HW
        go_wp2_with fail
        refine HI.out.mono ?_
        rintro e w' ⟨rfl, rfl⟩
        go_wp2
        go_ret2
        exact ⟨q, er, k + 1, setF f k x, rfl, by omega, HX.out, .inr ⟨he, HZ.out⟩⟩
    · obtain rfl : k = K := by omega
      go_wp2
      go_ret2
      exact ⟨pos, 0, k, f, rfl, Nat.le_refl _, HW.out, .inl ⟨rfl, rfl, pos, rfl, HD.out⟩⟩
end Go.Proofs.YtcjbhkocpfkcbaaDoor.Wr
