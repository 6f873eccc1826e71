import Derived.Test.YticmoaebegahgaaT1
import Derived.Deep.RegionHeld3
import Derived.Test.YticmoaebegahgaaW2
import Derived.Deep.OwnRows
import Derived.Laws.OwnMore
import Derived.WalkMore
/- Contracts of the reference's Inside and Encode. -/
namespace Go.Proofs.Yticmoaebegahgaa.Wr
open Go.ChangeShapes Go.WideShapes Go.ChangeAt Go.RowKit

set_option maxHeartbeats 1000000 in
theorem rinside_any (t : Tm.Tg) (V : Option Addr) (n cv : Nat) (w : World) (h : IR w V n t.vs) (hf : t.fits) (hn : n ≤ 16) :
    Calls Try.prog 44 #[tv t (.slice V n cv)] w (OwnEnd t.inside w) := by
  have hfit : ∀ x ∈ t.nums, Tm.I64 x := Tm.Tg.nums_fit hf (by rw [h.1]; exact hn)
  have hlen : t.nums.length = 6 + n := by have := h.1; simp only [Tm.Tg.nums, List.length_cons]; omega
  have hnums : [t.st, t.ep, t.sq, t.tm, t.kd, (n : Int)] ++ t.vs = t.nums := by rw [← h.1]; rfl
  have HI := Lib.hid h
  have E := Lib.hid (show t.inside = Tm.shut (Tm.body t.nums) from rfl)
  obtain ⟨a, b, s, d, f, vs⟩ := t
  dsimp only [tv] at *
  generalize (Tm.Tg.mk a b s d f vs).inside = IN at *
  generalize (Tm.Tg.mk a b s d f vs).nums = ns at *
  have HFIT := Lib.hid hfit
  have HLEN := Lib.hid hlen
  have HN := Lib.hid hnums
  clear hfit hlen h hf hnums
  have M1 : Hid (MadeI w ((w.alloc (Obj.cells #[.int .i64 a, .int .i64 b, .int .i64 s, .int .i64 d, .int .i64 f, .slice V n cv] 38)).alloc (Obj.cells #[.int .i64 a, .int .i64 b, .int .i64 s, .int .i64 d, .int .i64 f, .int .i64 n] 3)) (some ⟨w.heap.size + 1, 0, none⟩) 6 6 [a, b, s, d, f, (n : Int)]) := by
    have := madeI_lit w (w.alloc (Obj.cells #[.int .i64 a, .int .i64 b, .int .i64 s, .int .i64 d, .int .i64 f, .slice V n cv] 38)) #[.int .i64 a, .int .i64 b, .int .i64 s, .int .i64 d, .int .i64 f, .int .i64 n] 6 [a, b, s, d, f, (n : Int)] rfl rfl (World.grownBy_alloc _ _ _) (by omega)
    rw [show (w.alloc (Obj.cells #[.int .i64 a, .int .i64 b, .int .i64 s, .int .i64 d, .int .i64 f, .slice V n cv] 38)).heap.size = w.heap.size + 1 by go_simp] at this
    exact this
  go_enter Try.func44, Try.ntmps44
  go_wp2_with (first
    | (at_builtin; refine wpList_appI rfl (.tmp 19) (.tmp 21) rfl rfl rfl M1.out (HI.out.grown (grown_trans (World.grownBy_alloc _ _ _) (World.grownBy_alloc _ _ _))) (by omega) (6 + n) rfl ?_; intro A2 c2 w2 hm2 _; have M2 := Lib.hid (by have := hm2; rw [HN.out] at this; exact this); clear hm2)
    | fail)
  have hc2 := M2.out.shape
  go_loopw [3, 24] (fun s3 s24 wr => ∃ (k N c : Nat) (A : Option Addr), s24 = .int .i64 k ∧ k ≤ 6 + n ∧ s3 = .slice A N c ∧ N ≤ 10 * k ∧ Hid (Made w wr A N c (Tm.body (ns.take k))) ∧ Hid (w2.grownBy wr none)) (fun _ i _ => 6 + n - (intOf i).toNat)
  case atStart => exact ⟨0, 0, 0, none, rfl, by omega, rfl, by omega, (show Made _ _ _ _ _ _ by simpa [Tm.body] using made_nil _ _ M2.out.gr), grown_refl _ _⟩
  case round =>
    obtain ⟨k, N, c3, A3, rfl, hk, rfl, hN, M3, G3⟩ := hrel
    by_cases hlt : k < 6 + n
    · obtain ⟨B, hA, _, _, cc, _⟩ := M2.out.at0 k hlt
      subst hA
      have cc := G3.out.cell cc (by simp)
      have hL : k < ns.length := by rw [HLEN.out]; omega
      have HE := Lib.hid (body_next ns k hL)
      have HX := HFIT.out _ (getD_mem hL)
      have HT := Lib.hid (take_len10 HFIT.out (k + 1))
      generalize ns.getD k 0 = x at *
      clear hL
      have HP := Lib.hid (rput_any A3 N c3 (Tm.body (ns.take k)) x wr M3.out.rb (by omega) HX.1 HX.2)
      rw [HE.out] at HP
      clear HE HX
      go_wp2_with fail
      refine HP.out.mono ?_
      rintro e w4 ⟨A4, N4, c4, rfl, hm4⟩
      have hN4 : N4 ≤ 10 * (k + 1) := by have := hm4.len; have := HT.out; omega
      have M4 := Lib.hid (hm4.base M3.out.gr)
      have G4 := Lib.hid (grown_trans G3.out hm4.gr)
      clear hm4
      go_wp2
      go_roundw
      case rel => exact ⟨k + 1, N4, c4, A4, by go_num, by omega, rfl, hN4, M4, G4⟩
      case measure => simp [intOf]; omega
    · obtain rfl : k = 6 + n := by omega
      have HZ : Hid (ns.take (6 + n) = ns) := List.take_of_length_le (by rw [HLEN.out]; exact Nat.le_refl _)
      have M3 := Lib.hid (by have := M3.out; rw [HZ.out] at this; exact this)
      go_wp2_with fail
      refine (rseal_any A3 N c3 _ wr M3.out.rb (by omega)).mono ?_
      rintro e w4 ⟨A4, N4, c4, rfl, hm4⟩
      have M4 := Lib.hid (hm4.base M3.out.gr)
      rw [← E.out] at M4
      clear hm4
      go_wp2
      go_ret
      exact ⟨A4, N4, c4, rfl, M4.out⟩

theorem rvalid_at {t : Tm.Tg} {A : Option Addr} {n c : Nat} {w : World} {r : Bool} (h : IR w A n t.vs) (hn : n ≤ 4611686018427387904) (hr : t.ok = r) :
    Calls Try.prog 57 #[tv t (.slice A n c)] w (Ret (.bool r) w) := by
  subst hr; exact rvalid_any t A n c w h hn

end Go.Proofs.Yticmoaebegahgaa.Wr

/- Contract of checked. -/
namespace Go.Proofs.Yticmoaebegahgaa.Wr
open Go.ChangeShapes Go.WideShapes Go.ChangeAt Go.RowKit

end Go.Proofs.Yticmoaebegahgaa.Wr

/- Contracts of pointers and readInto. -/
namespace Go.Proofs.Yticmoaebegahgaa.Wr
open Go.ChangeShapes Go.WideShapes Go.ChangeAt Go.RowKit

theorem made_get (z : Value) (n p : Nat) (hp : p < n) : (madeCells #[z] n)[p]? = some z := by
  rw [← Array.getElem?_toList, toList_madeCells_one, List.getElem?_replicate, if_pos hp]
theorem made_cell (w : World) (z : Value) (n p : Nat) (t : TypeId) (hp : p < n) : (w.alloc (.cells (madeCells #[z] n) t)).cell? ⟨w.heap.size, p, none⟩ = some z := by
  rw [World.cell?_alloc_at _ _ _ _ rfl, made_get z n p hp]
theorem info3 : (Try.prog.info? 3).map (fun i => (i.zero, i.size, i.bytes)) = some (some (.int .i64 0), 1, 8) := by kernel_rfl

/-- The row of block B holds f, and may be written. -/
def PV (w : World) (B n : Nat) (f : Nat → Value) : Prop := (∀ p, p < n → w.cell? ⟨B, p, none⟩ = some (f p)) ∧ ∀ p, w.frozen? ⟨B, p, none⟩ = false
theorem PV.set {w : World} {B n : Nat} {f : Nat → Value} (h : PV w B n f) (k : Nat) (v : Value) : PV (w.setCell ⟨B, k, none⟩ v) B n (fun p => if p = k then v else f p) := by
  refine ⟨fun p hp => ?_, fun p => by rw [World.frozen?_setCell]; exact h.2 p⟩
  by_cases e : p = k
  · subst e; simp only [if_true]; exact World.cell?_setCell_same _ _ _ (h.1 p hp)
  · simp only [if_neg e]
    rw [World.cell?_setCell_other _ _ _ _ (by intro e2; injection e2 with _ e3 _; exact e e3.symm)]
    exact h.1 p hp
theorem PV.congr {w : World} {B n : Nat} {f g : Nat → Value} (h : PV w B n f) (e : ∀ p, p < n → f p = g p) : PV w B n g := ⟨fun p hp => by rw [← e p hp]; exact h.1 p hp, h.2⟩
theorem PV.made (w : World) (z : Value) (n : Nat) (t : TypeId) : PV (w.alloc (.cells (madeCells #[z] n) t)) w.heap.size n (fun _ => z) :=
  ⟨fun p hp => made_cell w z n p t hp, fun p => by simp⟩
theorem grown_frozen {w w' : World} {row : Option Nat} (h : w.grownBy w' row) {a : Addr} {v : Value} (hc : w.cell? a = some v) (hf : w.frozen? a = false) (hr : some a.block ≠ row) : w'.frozen? a = false := by
  rw [World.frozen?_of_block (h.block a.block (World.block_lt_of_cell? _ _ hc) hr)]; exact hf

def ptrs (V k : Nat) : Nat → Value := fun p => if p < k then .pointer (some ⟨V, p, none⟩) else .pointer none

/-! ## Numbers are written where the pointers point -/
def put (w : World) (pb po : Nat → Nat) (f : Nat → Int) : Nat → World
  | 0 => w
  | k + 1 => (put w pb po f k).setCell ⟨pb k, po k, none⟩ (.int .i64 (f k))
theorem put_congr (w : World) (pb po : Nat → Nat) {f g : Nat → Int} : ∀ k, (∀ i, i < k → f i = g i) → put w pb po f k = put w pb po g k
  | 0, _ => rfl
  | k + 1, h => by
    show (put w pb po f k).setCell _ _ = (put w pb po g k).setCell _ _
    rw [put_congr w pb po k (fun i hi => h i (by omega)), h k (by omega)]
theorem put_frozen (w : World) (pb po : Nat → Nat) (f : Nat → Int) (a : Addr) : ∀ k, (put w pb po f k).frozen? a = w.frozen? a
  | 0 => rfl
  | k + 1 => by
    show ((put w pb po f k).setCell _ _).frozen? a = _
    rw [World.frozen?_setCell]; exact put_frozen w pb po f a k
theorem put_other (w : World) (pb po : Nat → Nat) (f : Nat → Int) (a : Addr) : ∀ k, (∀ i, i < k → (⟨pb i, po i, none⟩ : Addr) ≠ a) → (put w pb po f k).cell? a = w.cell? a
  | 0, _ => rfl
  | k + 1, h => by
    show ((put w pb po f k).setCell _ _).cell? a = _
    rw [World.cell?_setCell_other _ _ _ _ (h k (by omega))]
    exact put_other w pb po f a k (fun i hi => h i (by omega))
theorem put_some (w : World) (pb po : Nat → Nat) (f : Nat → Int) {a : Addr} {u : Value} (h : w.cell? a = some u) : ∀ k, ∃ u', (put w pb po f k).cell? a = some u'
  | 0 => ⟨u, h⟩
  | k + 1 => by
    obtain ⟨u', hu⟩ := put_some w pb po f h k
    by_cases e : (⟨pb k, po k, none⟩ : Addr) = a
    · subst e; exact ⟨_, World.cell?_setCell_same _ _ _ hu⟩
    · exact ⟨u', (World.cell?_setCell_other _ _ _ _ e).trans hu⟩
theorem put_at {n : Nat} (w : World) (pb po : Nat → Nat) (f : Nat → Int) (hs : ∀ i, ∃ u, i < n → w.cell? ⟨pb i, po i, none⟩ = some u) (hd : ∀ i j, i < j → j < n → (⟨pb j, po j, none⟩ : Addr) ≠ ⟨pb i, po i, none⟩) :
    ∀ k, k ≤ n → ∀ i, i < k → (put w pb po f k).cell? ⟨pb i, po i, none⟩ = some (.int .i64 (f i))
  | 0, _, i, hi => absurd hi (by omega)
  | k + 1, hk, i, hi => by
    by_cases e : i = k
    · subst e
      obtain ⟨u, hu⟩ := hs i
      obtain ⟨u', hu'⟩ := put_some w pb po f (hu (by omega)) i
      exact World.cell?_setCell_same _ _ _ hu'
    · exact (World.cell?_setCell_other _ _ _ _ (hd i k (by omega) (by omega))).trans (put_at w pb po f hs hd k (by omega) i (by omega))
theorem put_size (w : World) (pb po : Nat → Nat) (f : Nat → Int) : ∀ k, (put w pb po f k).heap.size = w.heap.size
  | 0 => rfl
  | k + 1 => by
    have := put_size w pb po f k
    simpa [put, World.setCell] using this
theorem put_grown {w0 w : World} (h : w0.grownBy w none) (pb po : Nat → Nat) (f : Nat → Int) : ∀ k, (∀ i, i < k → w0.heap.size ≤ pb i) → w0.grownBy (put w pb po f k) none
  | 0, _ => h
  | k + 1, hb => grown_off (put_grown h pb po f k (fun i hi => hb i (by omega))) (grown_set _ ⟨pb k, po k, none⟩ _) (hb k (by omega))

def lst (f : Nat → Int) (k : Nat) : List Int := (List.range k).map f
theorem lst_len (f : Nat → Int) (k : Nat) : (lst f k).length = k := by simp [lst]
theorem lst_snoc (f : Nat → Int) (k : Nat) : lst f (k + 1) = lst f k ++ [f k] := by simp [lst, List.range_succ]
theorem lst_congr {f g : Nat → Int} {k : Nat} (h : ∀ i, i < k → f i = g i) : lst f k = lst g k := List.map_congr_left fun i hi => h i (List.mem_range.1 hi)
theorem lst_mem {f : Nat → Int} {k : Nat} {n : Int} (h : n ∈ lst f k) : ∃ i, i < k ∧ n = f i := by
  obtain ⟨i, hi, rfl⟩ := List.mem_map.1 h
  exact ⟨i, List.mem_range.1 hi, rfl⟩
def setF (f : Nat → Int) (k : Nat) (v : Int) : Nat → Int := fun p => if p = k then v else f p
theorem setF_at (f : Nat → Int) (k : Nat) (v : Int) : setF f k v k = v := by simp [setF]
theorem setF_ne (f : Nat → Int) (k : Nat) (v : Int) {i : Nat} (h : i < k) : f i = setF f k v i := by unfold setF; rw [if_neg (by omega)]

/-- What readInto has read when k numbers are there: pos is the index behind them. -/
def RdS (l : List UInt8) (p0 : Nat) (f : Nat → Int) (k pos : Nat) : Prop :=
  (∀ i, i < k → Tm.I64 (f i)) ∧ pos = p0 + (Tm.body (lst f k)).length ∧ l.drop p0 = Tm.body (lst f k) ++ l.drop pos
theorem RdS.pos_le {l : List UInt8} {p0 : Nat} {f : Nat → Int} {k pos : Nat} (h : RdS l p0 f k pos) (hp : p0 ≤ l.length) : pos ≤ l.length := by
  have := congrArg List.length h.2.2
  simp only [List.length_drop, List.length_append] at this
  have := h.2.1
  omega
theorem RdS.next {l : List UInt8} {p0 : Nat} {f : Nat → Int} {k pos : Nat} {n q : Int} (h : RdS l p0 f k pos) (hr : Wm.intR l (pos : Int) = (n, q, 0)) :
    ∃ pos', q = ((pos' : Nat) : Int) ∧ RdS l p0 (setF f k n) (k + 1) pos' := by
  obtain ⟨h1, h2, r, h3⟩ := Tm.intR_ok hr rfl
  have hl : lst (setF f k n) (k + 1) = lst f k ++ [n] := by
    rw [lst_snoc, setF_at, lst_congr (fun i hi => (setF_ne f k n hi).symm)]
  refine ⟨_, h2, fun i hi => ?_, ?_, ?_⟩
  · by_cases e : i = k
    · rw [e, setF_at]; exact h1
    · rw [← setF_ne f k n (by omega)]; exact h.1 i (by omega)
  · rw [hl, Tm.body_snoc, List.length_append, h.2.1]; omega
  · rw [hl, Tm.body_snoc, h.2.2, List.append_assoc]
    congr 1
    rw [← List.drop_drop, h3, List.drop_left]
theorem RdS.none {l : List UInt8} {p0 : Nat} {f : Nat → Int} {k K pos : Nat} {n q er : Int} (h : RdS l p0 f k pos) (hp : p0 ≤ l.length) (hk : k < K) (hr : Wm.intR l (pos : Int) = (n, q, er)) (he : er ≠ 0)
    (ns : List Int) (r : List UInt8) (hn : ns.length = K) (hi : ∀ x ∈ ns, Tm.I64 x) : l.drop p0 ≠ Tm.body ns ++ r := by
  intro e
  have hle := h.pos_le hp
  rw [h.2.2] at e
  have hs : ns = ns.take k ++ ns.drop k := (List.take_append_drop k ns).symm
  rw [hs, Tm.body_append, List.append_assoc] at e
  have hlt : k < ns.length := by omega
  obtain ⟨e1, e2⟩ := Tm.body_prefix (fun x hx => by obtain ⟨i, hi, rfl⟩ := lst_mem hx; exact h.1 i hi) (fun x hx => hi x (List.mem_of_mem_take hx)) (by rw [lst_len, List.length_take]; omega) e
  rw [List.drop_eq_getElem_cons hlt] at e2
  simp only [Tm.body, List.append_assoc] at e2
  have := Tm.intR_at hle (hi _ (List.getElem_mem hlt)) e2
  rw [hr] at this
  exact he (congrArg (·.2.2) this)

def RdEnd (w : World) (pb po : Nat → Nat) (K : Nat) (l : List UInt8) (p0 : Nat) (e : Ending) (w' : World) : Prop :=
  ∃ (q er : Int) (j : Nat) (f : Nat → Int), e = .returned (.tuple #[.int .i64 q, .int .i64 er]) ∧ j ≤ K ∧ w' = put w pb po f j ∧
    ((er = 0 ∧ j = K ∧ ∃ pos : Nat, q = pos ∧ RdS l p0 f K pos) ∨ (er ≠ 0 ∧ ∀ ns r, ns.length = K → (∀ x ∈ ns, Tm.I64 x) → l.drop p0 ≠ Tm.body ns ++ r))

end Go.Proofs.Yticmoaebegahgaa.Wr

/- Six cells of a telegram in memory. -/
namespace Go.Proofs.Yticmoaebegahgaa.Wr
open Go.ChangeShapes Go.WideShapes Go.ChangeAt Go.RowKit

/-- Block B holds a telegram, and may be written. -/
def Six (w : World) (B : Nat) (t : Tm.Tg) (V : Value) : Prop :=
  (w.cell? ⟨B, 0, none⟩ = some (.int .i64 t.st) ∧ w.cell? ⟨B, 1, none⟩ = some (.int .i64 t.ep) ∧ w.cell? ⟨B, 2, none⟩ = some (.int .i64 t.sq) ∧ w.cell? ⟨B, 3, none⟩ = some (.int .i64 t.tm) ∧ w.cell? ⟨B, 4, none⟩ = some (.int .i64 t.kd) ∧ w.cell? ⟨B, 5, none⟩ = some V) ∧
  (w.frozen? ⟨B, 0, none⟩ = false ∧ w.frozen? ⟨B, 1, none⟩ = false ∧ w.frozen? ⟨B, 2, none⟩ = false ∧ w.frozen? ⟨B, 3, none⟩ = false ∧ w.frozen? ⟨B, 4, none⟩ = false ∧ w.frozen? ⟨B, 5, none⟩ = false)
theorem Six.grown {w w' : World} {B : Nat} {t : Tm.Tg} {V : Value} {row : Option Nat} (h : Six w B t V) (g : w.grownBy w' row) (hr : some B ≠ row) : Six w' B t V := by
  obtain ⟨⟨h0, h1, h2, h3, h4, h5⟩, k0, k1, k2, k3, k4, k5⟩ := h
  exact ⟨⟨g.cell h0 hr, g.cell h1 hr, g.cell h2 hr, g.cell h3 hr, g.cell h4 hr, g.cell h5 hr⟩, grown_frozen g h0 k0 hr, grown_frozen g h1 k1 hr, grown_frozen g h2 k2 hr, grown_frozen g h3 k3 hr, grown_frozen g h4 k4 hr, grown_frozen g h5 k5 hr⟩
/-- A telegram is stored in block B. -/
def six (w : World) (B : Nat) (t : Tm.Tg) (V : Value) : World :=
  (((((w.setCell ⟨B, 0, none⟩ (.int .i64 t.st)).setCell ⟨B, 1, none⟩ (.int .i64 t.ep)).setCell ⟨B, 2, none⟩ (.int .i64 t.sq)).setCell ⟨B, 3, none⟩ (.int .i64 t.tm)).setCell ⟨B, 4, none⟩ (.int .i64 t.kd)).setCell ⟨B, 5, none⟩ V
theorem six_grown (w : World) (B : Nat) (t : Tm.Tg) (V : Value) : w.grownBy (six w B t V) (some B) :=
  grown_trans (grown_trans (grown_trans (grown_trans (grown_trans (grown_set w ⟨B, 0, none⟩ _) (grown_set _ ⟨B, 1, none⟩ _)) (grown_set _ ⟨B, 2, none⟩ _)) (grown_set _ ⟨B, 3, none⟩ _)) (grown_set _ ⟨B, 4, none⟩ _)) (grown_set _ ⟨B, 5, none⟩ _)
theorem set_hit {w : World} {a : Addr} {u : Value} (v : Value) (h : w.cell? a = some u) : (w.setCell a v).cell? a = some v := World.cell?_setCell_same _ _ _ h
theorem set_miss {w : World} {a b : Addr} {u : Value} (v : Value) (n : a ≠ b) (h : w.cell? b = some u) : (w.setCell a v).cell? b = some u := (World.cell?_setCell_other _ _ _ _ n).trans h
theorem off_ne (B : Nat) {i j : Nat} (h : i ≠ j) : (⟨B, i, none⟩ : Addr) ≠ ⟨B, j, none⟩ := by intro e; injection e with _ e2 _; exact h e2
theorem Six.store {w : World} {B : Nat} {t : Tm.Tg} {V : Value} (h : Six w B t V) (u : Tm.Tg) (U : Value) : Six (six w B u U) B u U := by
  obtain ⟨⟨h0, h1, h2, h3, h4, h5⟩, k0, k1, k2, k3, k4, k5⟩ := h
  have d (i j : Nat) (e : i ≠ j) := off_ne B e
  unfold six
  refine ⟨⟨?_, ?_, ?_, ?_, ?_, ?_⟩, ?_, ?_, ?_, ?_, ?_, ?_⟩
  · exact set_miss _ (d 5 0 (by omega)) (set_miss _ (d 4 0 (by omega)) (set_miss _ (d 3 0 (by omega)) (set_miss _ (d 2 0 (by omega)) (set_miss _ (d 1 0 (by omega)) (set_hit _ h0)))))
  · exact set_miss _ (d 5 1 (by omega)) (set_miss _ (d 4 1 (by omega)) (set_miss _ (d 3 1 (by omega)) (set_miss _ (d 2 1 (by omega)) (set_hit _ (set_miss _ (d 0 1 (by omega)) h1)))))
  · exact set_miss _ (d 5 2 (by omega)) (set_miss _ (d 4 2 (by omega)) (set_miss _ (d 3 2 (by omega)) (set_hit _ (set_miss _ (d 1 2 (by omega)) (set_miss _ (d 0 2 (by omega)) h2)))))
  · exact set_miss _ (d 5 3 (by omega)) (set_miss _ (d 4 3 (by omega)) (set_hit _ (set_miss _ (d 2 3 (by omega)) (set_miss _ (d 1 3 (by omega)) (set_miss _ (d 0 3 (by omega)) h3)))))
  · exact set_miss _ (d 5 4 (by omega)) (set_hit _ (set_miss _ (d 3 4 (by omega)) (set_miss _ (d 2 4 (by omega)) (set_miss _ (d 1 4 (by omega)) (set_miss _ (d 0 4 (by omega)) h4)))))
  · exact set_hit _ (set_miss _ (d 4 5 (by omega)) (set_miss _ (d 3 5 (by omega)) (set_miss _ (d 2 5 (by omega)) (set_miss _ (d 1 5 (by omega)) (set_miss _ (d 0 5 (by omega)) h5)))))
  all_goals simp only [World.frozen?_setCell]; assumption
theorem Six.made (w : World) (t : Tm.Tg) (V : Value) : Six (w.alloc (tcells t V)) w.heap.size t V := by
  obtain ⟨h0, h1, h2, h3, h4, h5⟩ := boxed_at (t := t) (V := V) (grown_refl (w.alloc (tcells t V)) none)
  exact ⟨⟨h0, h1, h2, h3, h4, h5⟩, by unfold tcells; simp⟩
theorem Six.put {w : World} {B : Nat} {t : Tm.Tg} {V : Value} (h : Six w B t V) (pb po : Nat → Nat) (f : Nat → Int) (k : Nat) (hn : ∀ i, i < k → pb i ≠ B) : Six (Wr.put w pb po f k) B t V := by
  obtain ⟨⟨h0, h1, h2, h3, h4, h5⟩, k0, k1, k2, k3, k4, k5⟩ := h
  have d (o : Nat) : ∀ i, i < k → (⟨pb i, po i, none⟩ : Addr) ≠ ⟨B, o, none⟩ := fun i hi e => hn i hi (by injection e)
  simp only [Six, put_other w pb po f _ k (d _), put_frozen]
  exact ⟨⟨h0, h1, h2, h3, h4, h5⟩, k0, k1, k2, k3, k4, k5⟩
end Go.Proofs.Yticmoaebegahgaa.Wr

/- Contract of read. -/
namespace Go.Proofs.Yticmoaebegahgaa.Wr
open Go.ChangeShapes Go.WideShapes Go.ChangeAt Go.RowKit

def ReadEnd (l : List UInt8) (w : World) (e : Ending) (w' : World) : Prop :=
  w.grownBy w' none ∧ ((∃ t Y m cv, e = .returned (.tuple #[tv t (.slice (some ⟨Y, 0, none⟩) m cv), .bool true]) ∧ w.heap.size ≤ Y ∧ IR w' (some ⟨Y, 0, none⟩) m t.vs ∧ m ≤ 16 ∧ t.fits ∧ l = Tm.body t.nums ∧ cv = m) ∨
    (∃ t V m cv, e = .returned (.tuple #[tv t (.slice V m cv), .bool false]) ∧ ∀ u : Tm.Tg, u.ok = true → l ≠ Tm.body u.nums))

/-- Where the numbers ahead of the values lie. -/
def hb (X : Nat) (i : Nat) : Nat := if i < 5 then X + 1 else X + 1 + 1
def ho (i : Nat) : Nat := if i < 5 then i else 0

def nilV : Value := .slice none 0 0
/-- The world when head has been called. -/
structure Rs (w W : World) (X : Nat) : Prop where
  gr : w.grownBy W none
  size : W.heap.size = X + 4
  res : Six W X Tm.zero nilV
  tel : Six W (X + 1) Tm.zero nilV
  cnt : W.cell? ⟨X + 1 + 1, 0, none⟩ = some (.int .i64 0) ∧ W.frozen? ⟨X + 1 + 1, 0, none⟩ = false
  row : ∀ i, i < 6 → W.cell? ⟨X + 1 + 1 + 1, i, none⟩ = some (.pointer (some ⟨hb X i, ho i, none⟩))
theorem Rs.slots {w W : World} {X : Nat} (h : Rs w W X) : ∀ i, i < 6 → hb X i ≠ X + 1 + 1 + 1 ∧ (∃ u, W.cell? ⟨hb X i, ho i, none⟩ = some u) ∧ W.frozen? ⟨hb X i, ho i, none⟩ = false := by
  obtain ⟨_, _, _, ⟨⟨h0, h1, h2, h3, h4, h5⟩, k0, k1, k2, k3, k4, k5⟩, ⟨h6, k6⟩, _⟩ := h
  intro i hi
  unfold hb ho
  match i, hi with
  | 0, _ => exact ⟨by simp, ⟨_, h0⟩, k0⟩
  | 1, _ => exact ⟨by simp, ⟨_, h1⟩, k1⟩
  | 2, _ => exact ⟨by simp, ⟨_, h2⟩, k2⟩
  | 3, _ => exact ⟨by simp, ⟨_, h3⟩, k3⟩
  | 4, _ => exact ⟨by simp, ⟨_, h4⟩, k4⟩
  | 5, _ => exact ⟨by simp, ⟨_, h6⟩, k6⟩
theorem hb_low (X i : Nat) : X + 1 ≤ hb X i := by unfold hb; split <;> omega
theorem ho_inj (X : Nat) : ∀ i j, i < j → j < 6 → (⟨hb X j, ho j, none⟩ : Addr) ≠ ⟨hb X i, ho i, none⟩ := by
  intro i j hij hj e
  injection e with e1 e2
  by_cases hi : i < 5
  · by_cases hj5 : j < 5
    · simp only [ho, if_pos hi, if_pos hj5] at e2; omega
    · simp only [hb, if_pos hi, if_neg hj5] at e1; omega
  · omega
theorem Rs.first {w W : World} {X : Nat} (h : Rs w W X) (f : Nat → Int) :
    Six (put W (hb X) ho f 6) (X + 1) ⟨f 0, f 1, f 2, f 3, f 4, []⟩ nilV ∧ (put W (hb X) ho f 6).cell? ⟨X + 1 + 1, 0, none⟩ = some (.int .i64 (f 5)) ∧ (put W (hb X) ho f 6).heap.size = X + 4 := by
  have hs := h.slots
  have P := put_at (n := 6) W (hb X) ho f (fun i => by
    by_cases hi : i < 6
    · obtain ⟨u, hu⟩ := (hs i hi).2.1; exact ⟨u, fun _ => hu⟩
    · exact ⟨.int .i64 0, fun h => absurd h hi⟩) (fun i j => ho_inj X i j) 6 (Nat.le_refl _)
  have F (i : Nat) (hi : i < 6) : (put W (hb X) ho f 6).frozen? ⟨hb X i, ho i, none⟩ = false := by rw [put_frozen]; exact (hs i hi).2.2
  refine ⟨⟨⟨P 0 (by omega), P 1 (by omega), P 2 (by omega), P 3 (by omega), P 4 (by omega), ?_⟩, F 0 (by omega), F 1 (by omega), F 2 (by omega), F 3 (by omega), F 4 (by omega), ?_⟩, P 5 (by omega), by rw [put_size]; exact h.size⟩
  · rw [put_other _ _ _ _ _ _ (fun i hi e => ?_)]
    · exact h.tel.1.2.2.2.2.2
    · injection e with e1 e2
      by_cases hi5 : i < 5
      · simp only [ho, if_pos hi5] at e2; omega
      · simp only [hb, if_neg hi5] at e1; omega
  · rw [put_frozen]; exact h.tel.2.2.2.2.2.2
/-- The second part: the values. -/
structure Rt (w W : World) (X K : Nat) (t : Tm.Tg) : Prop where
  gr : w.grownBy W none
  res : Six W X Tm.zero nilV
  tel : Six W (X + 1) t (.slice (some ⟨X + 4, 0, none⟩) K K)
  ptr : ∀ i, i < K → W.cell? ⟨X + 4 + 1, i, none⟩ = some (.pointer (some ⟨X + 4, i, none⟩))
  vals : ∀ i, i < K → W.cell? ⟨X + 4, i, none⟩ = some (.int .i64 0) ∧ W.frozen? ⟨X + 4, i, none⟩ = false
theorem rb_lt {w : World} {A : Option Addr} {n : Nat} {l : List UInt8} (h : RB w A n l) (hn : 0 < n) : ∀ b off, A = some ⟨b, off, none⟩ → b < w.heap.size := by
  intro b off e
  obtain ⟨b', off', e', hc⟩ := h.2 0 hn
  rw [e] at e'
  injection e' with e'
  injection e' with e1 _
  subst e1
  exact World.block_lt_of_cell? w _ hc
def six6 (u : Tm.Tg) : List Int := [u.st, u.ep, u.sq, u.tm, u.kd, (u.vs.length : Int)]
theorem nums_six (u : Tm.Tg) : u.nums = six6 u ++ u.vs := rfl
theorem six_i64 {u : Tm.Tg} (h : u.ok = true) : ∀ x ∈ six6 u, Tm.I64 x := fun x hx => Tm.Tg.nums_ok h x (by rw [nums_six]; exact List.mem_append_left _ hx)
theorem no_first {l : List UInt8} (h : ∀ ns r, ns.length = 6 → (∀ x ∈ ns, Tm.I64 x) → l.drop 0 ≠ Tm.body ns ++ r) : ∀ u : Tm.Tg, u.ok = true → l ≠ Tm.body u.nums := by
  intro u hu e
  refine h (six6 u) (Tm.body u.vs) rfl (six_i64 hu) ?_
  rw [List.drop_zero, e, nums_six, Tm.body_append]
/-- The six numbers that were read are those of the telegram. -/
theorem first_is {l : List UInt8} {f : Nat → Int} {pos : Nat} (h : RdS l 0 f 6 pos) {u : Tm.Tg} (hu : u.ok = true) (e : l = Tm.body u.nums) : lst f 6 = six6 u ∧ l.drop pos = Tm.body u.vs := by
  have h2 := h.2.2
  rw [List.drop_zero, e, nums_six, Tm.body_append] at h2
  obtain ⟨e1, e2⟩ := Tm.body_prefix (six_i64 hu) (fun x hx => by obtain ⟨i, hi, rfl⟩ := lst_mem hx; exact h.1 i hi) (by rw [lst_len]; rfl) h2
  exact ⟨e1.symm, by rw [e, nums_six, Tm.body_append]; exact e2.symm⟩
theorem lst6 (f : Nat → Int) : lst f 6 = [f 0, f 1, f 2, f 3, f 4, f 5] := rfl
theorem no_count {l : List UInt8} {f : Nat → Int} {pos : Nat} (h : RdS l 0 f 6 pos) (hc : Tm.upTo (f 5) 16 = false) : ∀ u : Tm.Tg, u.ok = true → l ≠ Tm.body u.nums := by
  intro u hu e
  have h1 := (first_is h hu e).1
  rw [lst6] at h1
  unfold six6 at h1
  simp only [List.cons.injEq, and_true] at h1
  have h3 := h1.2.2.2.2.2
  have h4 := ((Tm.Tg.ok_iff u).1 hu).2.2.2.2.2.1
  have : Tm.upTo (f 5) 16 = true := Tm.upTo_iff.2 (by omega)
  rw [hc] at this
  cases this

theorem rt_made {w W4 : World} {X K : Nat} {t : Tm.Tg} (hX : w.heap.size = X) (g : w.grownBy W4 none) (z : W4.heap.size = X + 4) (hr : Six W4 X Tm.zero nilV) (ht : Six W4 (X + 1) t nilV) :
    let W6 := (W4.setCell ⟨X + 1, 5, none⟩ (.slice (some ⟨X + 4, 0, none⟩) K K)).alloc (.cells (madeCells #[.int .i64 0] K) 3)
    w.grownBy W6 none ∧ W6.heap.size = X + 4 + 1 ∧ Six W6 X Tm.zero nilV ∧ Six W6 (X + 1) t (.slice (some ⟨X + 4, 0, none⟩) K K) ∧ PV W6 (X + 4) K (fun _ => .int .i64 0) := by
  have z5 : (W4.setCell ⟨X + 1, 5, none⟩ (.slice (some ⟨X + 4, 0, none⟩) K K)).heap.size = X + 4 := by simpa [World.setCell] using z
  have g5 : W4.grownBy (W4.setCell ⟨X + 1, 5, none⟩ (.slice (some ⟨X + 4, 0, none⟩) K K)) (some (X + 1)) := grown_set W4 ⟨X + 1, 5, none⟩ _
  have g6 : (W4.setCell ⟨X + 1, 5, none⟩ (.slice (some ⟨X + 4, 0, none⟩) K K)).grownBy ((W4.setCell ⟨X + 1, 5, none⟩ (.slice (some ⟨X + 4, 0, none⟩) K K)).alloc (.cells (madeCells #[.int .i64 0] K) 3)) none := World.grownBy_alloc _ _ _
  refine ⟨grown_trans (grown_off g g5 (by omega)) g6, ?_, (hr.grown g5 (by intro e; injection e; omega)).grown g6 (by simp), ?_, ?_⟩
  · simp [z5]
  · obtain ⟨⟨h0, h1, h2, h3, h4, h5⟩, k0, k1, k2, k3, k4, k5⟩ := ht
    have d (j : Nat) (e : 5 ≠ j) := off_ne (X + 1) e
    refine Six.grown (w := W4.setCell ⟨X + 1, 5, none⟩ (.slice (some ⟨X + 4, 0, none⟩) K K)) ⟨⟨set_miss _ (d 0 (by omega)) h0, set_miss _ (d 1 (by omega)) h1, set_miss _ (d 2 (by omega)) h2, set_miss _ (d 3 (by omega)) h3, set_miss _ (d 4 (by omega)) h4, set_hit _ h5⟩, ?_⟩ g6 (by simp)
    simp only [World.frozen?_setCell]; exact ⟨k0, k1, k2, k3, k4, k5⟩
  · have := PV.made (W4.setCell ⟨X + 1, 5, none⟩ (.slice (some ⟨X + 4, 0, none⟩) K K)) (.int .i64 0) K 3
    rw [z5] at this
    exact this
theorem PV.grown {w w' : World} {B n : Nat} {f : Nat → Value} (h : PV w B n f) (g : w.grownBy w' none) (hB : B < w.heap.size) : PV w' B n f :=
  ⟨fun p hp => g.cell (h.1 p hp) (by simp), fun p => by rw [World.frozen?_of_block (g.block B hB (by simp))]; exact h.2 p⟩
theorem IR.apart {w w' : World} {Y X n : Nat} {vs : List Int} (h : IR w (some ⟨Y, 0, none⟩) n vs) (g : w.grownBy w' (some X)) (hne : Y ≠ X) : IR w' (some ⟨Y, 0, none⟩) n vs :=
  ⟨h.1, fun i hi => by
    obtain ⟨b, off, e, hc⟩ := h.2 i hi
    injection e with e
    injection e with e1 e2
    subst e1; subst e2
    exact ⟨Y, 0, rfl, g.cell hc (by intro e; injection e with e; exact hne e)⟩⟩
theorem rt_row {W8 W7 : World} {Y K : Nat} {g : Nat → Int} (h : PV W7 Y K (fun _ => .int .i64 0)) (hW : W8 = put W7 (fun _ => Y) (fun i => i) g K) : IR W8 (some ⟨Y, 0, none⟩) K (lst g K) := by
  refine ⟨lst_len _ _, fun i hi => ⟨Y, 0, rfl, ?_⟩⟩
  rw [hW, Nat.zero_add, put_at (n := K) W7 (fun _ => Y) (fun i => i) g (fun i => by
    by_cases hi : i < K
    · exact ⟨_, fun _ => h.1 i hi⟩
    · exact ⟨.int .i64 0, fun h => absurd h hi⟩) (fun i j hij _ => off_ne Y (by omega)) K (Nat.le_refl _) i hi]
  simp [lst, hi]
theorem read_all {l : List UInt8} {f g : Nat → Int} {pos pos2 K : Nat} (h : RdS l 0 f 6 pos) (k : RdS l pos g K pos2) (h5 : f 5 = (K : Int)) (hl : pos2 = l.length) :
    Tm.Tg.fits ⟨f 0, f 1, f 2, f 3, f 4, lst g K⟩ ∧ l = Tm.body (Tm.Tg.mk (f 0) (f 1) (f 2) (f 3) (f 4) (lst g K)).nums := by
  refine ⟨⟨h.1 0 (by omega), h.1 1 (by omega), h.1 2 (by omega), h.1 3 (by omega), h.1 4 (by omega), fun v hv => ?_⟩, ?_⟩
  · obtain ⟨i, hi, rfl⟩ := lst_mem hv; exact k.1 i hi
  · have h2 := h.2.2
    rw [List.drop_zero, k.2.2, hl, List.drop_length, List.append_nil, lst6, h5, ← Tm.body_append] at h2
    rw [h2]
    show _ = Tm.body (f 0 :: f 1 :: f 2 :: f 3 :: f 4 :: ((lst g K).length : Int) :: lst g K)
    rw [lst_len]; rfl
theorem read_more {l : List UInt8} {f g : Nat → Int} {pos pos2 K : Nat} (h : RdS l 0 f 6 pos) (k : RdS l pos g K pos2) (h5 : f 5 = (K : Int)) (hl : pos2 ≠ l.length) (hle : pos2 ≤ l.length) : ∀ u : Tm.Tg, u.ok = true → l ≠ Tm.body u.nums := by
  intro u hu e
  obtain ⟨h1, h2⟩ := first_is h hu e
  have hK : u.vs.length = K := by
    rw [lst6] at h1
    unfold six6 at h1
    simp only [List.cons.injEq, and_true] at h1
    omega
  have h3 := k.2.2
  rw [h2] at h3
  obtain ⟨_, e2⟩ := Tm.body_prefix (r := []) (fun x hx => Tm.Tg.nums_ok hu x (by rw [nums_six]; exact List.mem_append_right _ hx)) (fun x hx => by obtain ⟨i, hi, rfl⟩ := lst_mem hx; exact k.1 i hi) (by rw [lst_len, hK]) (by rw [List.append_nil]; exact h3)
  have := congrArg List.length e2
  rw [List.length_drop, List.length_nil] at this
  omega
theorem read_less {l : List UInt8} {f : Nat → Int} {pos K : Nat} (h : RdS l 0 f 6 pos) (h5 : f 5 = (K : Int)) (k : ∀ ns r, ns.length = K → (∀ x ∈ ns, Tm.I64 x) → l.drop pos ≠ Tm.body ns ++ r) : ∀ u : Tm.Tg, u.ok = true → l ≠ Tm.body u.nums := by
  intro u hu e
  obtain ⟨h1, h2⟩ := first_is h hu e
  have hK : u.vs.length = K := by
    rw [lst6] at h1
    unfold six6 at h1
    simp only [List.cons.injEq, and_true] at h1
    omega
  exact k u.vs [] hK (fun x hx => Tm.Tg.nums_ok hu x (by rw [nums_six]; exact List.mem_append_right _ hx)) (by rw [List.append_nil]; exact h2)

end Go.Proofs.Yticmoaebegahgaa.Wr

/- Contract of Decode. -/
namespace Go.Proofs.Yticmoaebegahgaa.Wr
open Go.ChangeShapes Go.WideShapes Go.ChangeAt Go.RowKit

def DecEnd (l : List UInt8) (w : World) (e : Ending) (w' : World) : Prop :=
  w.grownBy w' none ∧ ∃ t V m cv er, e = .returned (.tuple #[tv t (.slice V m cv), .int .i64 er]) ∧ IR w' V m t.vs ∧ m ≤ 16 ∧ Tm.Dc l t er
theorem decEnd_bad {l : List UInt8} {w w' : World} {er : Int} (g : w.grownBy w' none) (h : Tm.Dc l Tm.zero er) : DecEnd l w (.returned (.tuple #[tv Tm.zero nilV, .int .i64 er])) w' :=
  ⟨g, Tm.zero, none, 0, 0, er, rfl, IR.nil _ _, by omega, h⟩

theorem unst_len {l : List UInt8} (h : (Wm.unst l).2 = 0) : (Wm.unst l).1.length ≤ l.length := by
  have h1 := congrArg List.length (Wm.unst_ok h)
  have h2 := (Wm.esc_len (Wm.unst l).1).1
  rw [Wm.frame_len] at h1
  omega

theorem read_bad {y : List UInt8} {t : Tm.Tg} (h : y = Tm.body t.nums) (hf : t.fits) (hl : t.vs.length ≤ 16) (hok : t.ok = false) : ∀ u : Tm.Tg, u.ok = true → y ≠ Tm.body u.nums := by
  intro u hu e
  have := Tm.Tg.nums_inj (Tm.body_inj (Tm.Tg.nums_fit hf hl) (Tm.Tg.nums_ok hu) (h.symm.trans e))
  subst this
  rw [hok] at hu
  cases hu

/-- The same, and the values' row is new. -/
def DecX (l : List UInt8) (w : World) (e : Ending) (w' : World) : Prop :=
  w.grownBy w' none ∧ ∃ t V m cv er, e = .returned (.tuple #[tv t (.slice V m cv), .int .i64 er]) ∧ IR w' V m t.vs ∧ m ≤ 16 ∧ Tm.Dc l t er ∧ (m ≤ cv ∧ cv ≤ 16) ∧ ∀ b, V.map (·.block) = some b → w.heap.size ≤ b
theorem decX_bad {l : List UInt8} {w w' : World} {er : Int} (g : w.grownBy w' none) (h : Tm.Dc l Tm.zero er) : DecX l w (.returned (.tuple #[tv Tm.zero nilV, .int .i64 er])) w' :=
  ⟨g, Tm.zero, none, 0, 0, er, rfl, IR.nil _ _, by omega, h, ⟨by omega, by omega⟩, fun b hb => by cases hb⟩

end Go.Proofs.Yticmoaebegahgaa.Wr
