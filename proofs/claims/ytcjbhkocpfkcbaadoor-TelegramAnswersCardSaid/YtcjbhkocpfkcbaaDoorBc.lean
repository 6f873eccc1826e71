/- What TelegramAnswers keeps on its way: rows of bytes beside the reader of numbers. -/
import Derived.Test.YtcjbhkocpfkcbaaDoorBa
namespace Go.Proofs.YtcjbhkocpfkcbaaDoor.Wr
open Go.ChangeShapes Go.WideShapes Go.ChangeAt Go.RowKit

/-- The slices vs can be read; the reader lies in block S. -/
structure R3 (w : World) (S : Nat) (vs : List Value) (wr : World) : Prop where
  gr : w.grownBy wr none
  src : SrcOK wr S
  all : ∀ v ∈ vs, Fb wr S v
section
variable {w wr w' : World} {S : Nat} {vs : List Value} {A : Option Addr} {n c : Nat}
theorem R3.lt (h : R3 w S vs wr) : S < wr.heap.size := src_lt h.src
theorem R3.step (h : R3 w S vs wr) (g : wr.grownBy w' none) : R3 w S vs w' := ⟨grown_trans h.gr g, h.src.grown g, fun v hv => (h.all v hv).grown g⟩
theorem R3.read (h : R3 w S vs wr) (hS : w.heap.size ≤ S) (g : wr.grownBy w' (some S)) (hs : SrcOK w' S) : R3 w S vs w' := ⟨grown_off h.gr g hS, hs, fun v hv => (h.all v hv).src g⟩
theorem R3.one (h : R3 w S vs wr) {v : Value} (hv : Fb wr S v) : R3 w S (v :: vs) wr :=
  ⟨h.gr, h.src, fun u hu => by rcases List.mem_cons.1 hu with rfl | hu; exact hv; exact h.all u hu⟩
theorem R3.less (h : R3 w S vs wr) (us : List Value) (hu : ∀ v ∈ us, v ∈ vs) : R3 w S us wr := ⟨h.gr, h.src, fun v hv => h.all v (hu v hv)⟩
theorem R3.row (h : R3 w S vs wr) (hv : Value.slice A n c ∈ vs) : n ≤ 100000 ∧ n ≤ c ∧ c ≤ 9223372036854775807 ∧ ∃ l, RBx wr S A n l := by
  obtain ⟨A', n', c', l, e, h1, h2, h3, h4⟩ := h.all _ hv
  injection e with e1 e2 e3
  subst e1; subst e2; subst e3
  exact ⟨h1, h2, h3, l, h4⟩
theorem RBx.take {l : List UInt8} (h : RBx w S A n l) (k : Nat) (hk : k ≤ n) : RBx w S A k (l.take k) := by
  refine ⟨by rw [List.length_take, h.1]; omega, fun i hi => ?_⟩
  obtain ⟨b, off, hb, e, hc⟩ := h.2 i (by omega)
  exact ⟨b, off, hb, e, by rw [hc]; simp [List.getD_eq_getElem?_getD, hi]⟩
theorem R3.cut (h : R3 w S vs wr) (hv : Value.slice A n c ∈ vs) (k : Nat) (hk : k ≤ n) : R3 w S (.slice A k c :: vs) wr := by
  obtain ⟨h1, h2, h3, l, h4⟩ := h.row hv
  exact h.one ⟨A, k, c, l.take k, rfl, by omega, by omega, h3, h4.take k hk⟩
theorem R3.made (h : R3 w S vs wr) {l : List UInt8} (hm : Made wr w' A n c l) (hn : n ≤ 100000) : R3 w S (.slice A n c :: vs) w' :=
  (h.step hm.gr).one (hm.fb h.lt hn)
end
/-- A function that makes a slice of L to N bytes. -/
def R3End (w : World) (S : Nat) (vs : List Value) (L N : Nat) (e : Ending) (w' : World) : Prop :=
  ∃ A n c, e = .returned (.slice A n c) ∧ L ≤ n ∧ n ≤ N ∧ R3 w S (.slice A n c :: vs) w'
theorem stuff3 {w wr : World} {S : Nat} {vs : List Value} {A : Option Addr} {n c : Nat} (h : R3 w S vs wr) (hv : Value.slice A n c ∈ vs) (hn : n ≤ 40000) :
    Calls Tryd.prog 22 #[.slice A n c] wr (R3End w S vs 2 (2 * n + 2)) := by
  obtain ⟨h1, h2, h3, l, h4⟩ := h.row hv
  refine (rstuff_any A n c l wr h4.rb (by omega)).mono ?_
  rintro e w' ⟨A', n', c', rfl, hm⟩
  have hl : 2 ≤ n' ∧ n' ≤ 2 * n + 2 := by
    have h5 := hm.len
    have h6 := (Wm.esc_len l).2
    have h7 := h4.1
    rw [Wm.frame_len] at h5; omega
  exact ⟨A', n', c', rfl, hl.1, hl.2, h.made hm (by omega)⟩
theorem seal3 {w wr : World} {S : Nat} {vs : List Value} {A : Option Addr} {n c : Nat} (h : R3 w S vs wr) (hv : Value.slice A n c ∈ vs) (hn : n ≤ 40000) :
    Calls Tryd.prog 23 #[.slice A n c] wr (R3End w S vs 4 (n + 4)) := by
  obtain ⟨h1, h2, h3, l, h4⟩ := h.row hv
  refine (rseal_any A n c l wr h4.rb (by omega)).mono ?_
  rintro e w' ⟨A', n', c', rfl, hm⟩
  have hl : n' = n + 4 := by
    have h5 := hm.len
    have h7 := h4.1
    rw [Tm.shut_len] at h5; omega
  exact ⟨A', n', c', rfl, by omega, by omega, h.made hm (by omega)⟩
theorem put3 {w wr : World} {S : Nat} {vs : List Value} {A : Option Addr} {n c : Nat} (x : Int) (h : R3 w S vs wr) (hv : Value.slice A n c ∈ vs) (hn : n ≤ 40000) (h1 : -9223372036854775808 ≤ x) (h2 : x ≤ 9223372036854775807) :
    Calls Tryd.prog 20 #[.slice A n c, .int .i64 x] wr (R3End w S vs n (n + 10)) := by
  obtain ⟨_, k2, k3, l, h4⟩ := h.row hv
  refine (rput_any A n c l x wr h4.rb (by omega) h1 h2).mono ?_
  rintro e w' ⟨A', n', c', rfl, hm⟩
  have hl : n ≤ n' ∧ n' ≤ n + 10 := by
    have h5 := hm.len
    have h6 := Wm.enc_ten _ (Wm.fold_lt x h1 h2)
    have h7 := h4.1
    rw [List.length_append] at h5; omega
  exact ⟨A', n', c', rfl, hl.1, hl.2, h.made hm (by omega)⟩
theorem fb_nil (w : World) (S : Nat) : Fb w S (.slice none 0 0) := ⟨none, 0, 0, [], rfl, by omega, by omega, by omega, rfl, fun i hi => absurd hi (by omega)⟩
def R3N (w : World) (S : Nat) (vs : List Value) (k : Nat) (e : Ending) (w' : World) : Prop := ∃ r : Nat, r < k ∧ e = .returned (.int .i64 (r : Int)) ∧ R3 w S vs w'
theorem num3 {w wr : World} {S : Nat} {vs : List Value} (h : R3 w S vs wr) (hS : w.heap.size ≤ S) (k : Nat) (k1 : 1 ≤ k) (k2 : k ≤ 1000000) :
    Calls Tryd.prog 19 #[.pointer (some ⟨S, 0, none⟩), .int .i64 (k : Int)] wr (R3N w S vs k) := by
  refine (n_any S k wr h.src (by omega) (by omega)).mono ?_
  rintro e w' ⟨r, ⟨h1, h2⟩, rfl, hg, hs⟩
  obtain ⟨R, rfl⟩ := Int.eq_ofNat_of_zero_le h1
  exact ⟨R, by omega, rfl, h.read hS hg hs⟩
theorem zeros3 {w wr : World} {S : Nat} {vs : List Value} (h : R3 w S vs wr) : R3 w S (.slice (some ⟨wr.heap.size, 0, none⟩) 399 399 :: vs) (wr.alloc (.cells (madeCells #[.int .u8 0] 399) 5)) :=
  h.made (made_lit wr wr (madeCells #[.int .u8 0] 399) 399 (List.replicate 399 0) (by rw [toList_madeCells_one]; unfold bvs; rw [List.map_replicate]; rfl) List.length_replicate (grown_refl _ _) (by omega)) (by omega)

theorem rbx_cell {w : World} {S g n i : Nat} {l : List UInt8} (h : RBx w S (some ⟨g, 0, none⟩) n l) (hi : i < n) : w.cell? ⟨g, i, none⟩ = some (.int .u8 ((l.getD i 0).toNat : Int)) := by
  obtain ⟨b, off, _, e, hc⟩ := h.2 i hi
  injection e with e
  injection e with e1 e2
  subst e1; subst e2
  rwa [Nat.zero_add] at hc
/-- One byte of what the call itself made is replaced. -/
theorem R3.store {w W w1 w2 : World} {S g n c : Nat} {vs : List Value} {l : List UInt8} (h : R3 w S vs W) (hS : w.heap.size ≤ S) (hm : Made W w1 (some ⟨g, 0, none⟩) n c l) (hg : W.heap.size ≤ g) (hn : n ≤ 100000)
    (g2 : w1.grownBy w2 (some S)) (s2 : SrcOK w2 S) (i : Nat) (y : UInt8) : R3 w S (.slice (some ⟨g, 0, none⟩) n c :: vs) (w2.setCell ⟨g, i, none⟩ (.int .u8 (y.toNat : Int))) := by
  have hSW := h.lt
  have G2 : W.grownBy w2 (some S) := grown_trans (grown_weak _ hm.gr) g2
  have O2 := hm.own.kept g2 (.inr (by simp [Value.ownBlock]; omega))
  obtain ⟨O3, G3⟩ := O2.stored i (bv y)
  have s3 : SrcOK (w2.setCell ⟨g, i, none⟩ (.int .u8 (y.toNat : Int))) S := s2.grownRow G3 (fun k e => by injection e; omega)
  have r3 := h.read hS (grown_rowS G2 G3 (fun b e => .inr (by injection e; omega))) s3
  exact r3.one ⟨_, n, c, l.set i y, rfl, hn, hm.shape.1, hm.shape.2.1, own_rbx (by rw [bvs_set]; exact O3) (by omega)⟩
theorem made_cell8 {W w1 w2 : World} {S g n c i : Nat} {l : List UInt8} (hm : Made W w1 (some ⟨g, 0, none⟩) n c l) (g2 : w1.grownBy w2 (some S)) (hgS : g ≠ S) (hi : i < n) :
    w2.cell? ⟨g, i, none⟩ = some (.int .u8 ((l.getD i 0).toNat : Int)) ∧ w2.frozen? ⟨g, i, none⟩ = false := by
  have O2 := hm.own.kept g2 (.inr (by simp [Value.ownBlock]; exact hgS))
  exact ⟨by rw [O2.cellAt i (by omega), bvs_get l i (by rw [hm.len]; exact hi)]; rfl, O2.frozenAt i⟩

theorem shl8 (k : Nat) (h : k < 8) : ∃ p : UInt8, IntKind.u8.wrap (2 ^ k) = ((p.toNat : Nat) : Int) := by
  match k, h with
  | 0, _ => exact ⟨1, rfl⟩
  | 1, _ => exact ⟨2, rfl⟩
  | 2, _ => exact ⟨4, rfl⟩
  | 3, _ => exact ⟨8, rfl⟩
  | 4, _ => exact ⟨16, rfl⟩
  | 5, _ => exact ⟨32, rfl⟩
  | 6, _ => exact ⟨64, rfl⟩
  | 7, _ => exact ⟨128, rfl⟩

/-- What the last loop reads: nine slices in block D. -/
def Nine (wr : World) (D S : Nat) : Prop := ∀ j, j < 9 → ∃ v, wr.cell? ⟨D, j, none⟩ = some v ∧ Fb wr S v
theorem nine_mk {w wr : World} {S : Nat} {vs : List Value} (h : R3 w S vs wr) (a0 a1 a2 a3 a4 a5 a6 a7 a8 : Value) (hv : ∀ v ∈ [a0, a1, a2, a3, a4, a5, a6, a7, a8], v ∈ vs) (t : TypeId) :
    Nine (wr.alloc (.cells #[a0, a1, a2, a3, a4, a5, a6, a7, a8] t)) wr.heap.size S := by
  have g : wr.grownBy (wr.alloc (.cells #[a0, a1, a2, a3, a4, a5, a6, a7, a8] t)) none := World.grownBy_alloc _ _ _
  intro j hj
  match j, hj with
  | 0, _ => exact ⟨a0, by simp, (h.all a0 (hv a0 (by simp))).grown g⟩
  | 1, _ => exact ⟨a1, by simp, (h.all a1 (hv a1 (by simp))).grown g⟩
  | 2, _ => exact ⟨a2, by simp, (h.all a2 (hv a2 (by simp))).grown g⟩
  | 3, _ => exact ⟨a3, by simp, (h.all a3 (hv a3 (by simp))).grown g⟩
  | 4, _ => exact ⟨a4, by simp, (h.all a4 (hv a4 (by simp))).grown g⟩
  | 5, _ => exact ⟨a5, by simp, (h.all a5 (hv a5 (by simp))).grown g⟩
  | 6, _ => exact ⟨a6, by simp, (h.all a6 (hv a6 (by simp))).grown g⟩
  | 7, _ => exact ⟨a7, by simp, (h.all a7 (hv a7 (by simp))).grown g⟩
  | 8, _ => exact ⟨a8, by simp, (h.all a8 (hv a8 (by simp))).grown g⟩
theorem Nine.grown {w w' : World} {D S : Nat} (h : Nine w D S) (g : w.grownBy w' none) : Nine w' D S := fun j hj => by
  obtain ⟨v, hc, hf⟩ := h j hj
  exact ⟨v, g.cell hc (by simp), hf.grown g⟩

/-- Three telegrams in one block. -/
def c18 (x y z : Tm.Tg) (U V W : Value) : Obj := Obj.cells #[.int .i64 x.st, .int .i64 x.ep, .int .i64 x.sq, .int .i64 x.tm, .int .i64 x.kd, U, .int .i64 y.st, .int .i64 y.ep, .int .i64 y.sq, .int .i64 y.tm, .int .i64 y.kd, V, .int .i64 z.st, .int .i64 z.ep, .int .i64 z.sq, .int .i64 z.tm, .int .i64 z.kd, W] 24
def Arr3 (w : World) (D : Nat) (x y z : Tm.Tg) (U V W : Value) : Prop :=
  (w.cell? ⟨D, 0, none⟩ = some (.int .i64 x.st) ∧ w.cell? ⟨D, 1, none⟩ = some (.int .i64 x.ep) ∧ w.cell? ⟨D, 2, none⟩ = some (.int .i64 x.sq) ∧ w.cell? ⟨D, 3, none⟩ = some (.int .i64 x.tm) ∧ w.cell? ⟨D, 4, none⟩ = some (.int .i64 x.kd) ∧ w.cell? ⟨D, 5, none⟩ = some U) ∧
  (w.cell? ⟨D, 6, none⟩ = some (.int .i64 y.st) ∧ w.cell? ⟨D, 7, none⟩ = some (.int .i64 y.ep) ∧ w.cell? ⟨D, 8, none⟩ = some (.int .i64 y.sq) ∧ w.cell? ⟨D, 9, none⟩ = some (.int .i64 y.tm) ∧ w.cell? ⟨D, 10, none⟩ = some (.int .i64 y.kd) ∧ w.cell? ⟨D, 11, none⟩ = some V) ∧
  (w.cell? ⟨D, 12, none⟩ = some (.int .i64 z.st) ∧ w.cell? ⟨D, 13, none⟩ = some (.int .i64 z.ep) ∧ w.cell? ⟨D, 14, none⟩ = some (.int .i64 z.sq) ∧ w.cell? ⟨D, 15, none⟩ = some (.int .i64 z.tm) ∧ w.cell? ⟨D, 16, none⟩ = some (.int .i64 z.kd) ∧ w.cell? ⟨D, 17, none⟩ = some W)
theorem arr3_made (w : World) (x y z : Tm.Tg) (U V W : Value) : Arr3 (w.alloc (c18 x y z U V W)) w.heap.size x y z U V W := by
  unfold Arr3 c18
  refine ⟨⟨?_, ?_, ?_, ?_, ?_, ?_⟩, ⟨?_, ?_, ?_, ?_, ?_, ?_⟩, ?_, ?_, ?_, ?_, ?_, ?_⟩ <;> simp
theorem enc_at {t : Tm.Tg} {r : List UInt8 × Int} (hr : encR t = r) {V : Option Addr} {n cv : Nat} {w : World} (h : IR w V n t.vs) (hn : n ≤ 4611686018427387904) (ht : Tabled w) :
    Calls Tryd.prog 11 #[tv t (.slice V n cv)] w (UnEnd r w) := by
  subst hr; exact encode_any t V n cv w h hn ht
theorem renc_at {t : Tm.Tg} {r : List UInt8 × Int} (hr : encR t = r) {V : Option Addr} {n cv : Nat} {w : World} (h : IR w V n t.vs) (hn : n ≤ 4611686018427387904) :
    Calls Tryd.prog 12 #[tv t (.slice V n cv)] w (UnEnd r w) := by
  subst hr; exact rencode_any t V n cv w h hn

/-- Both Decodes return the same. -/
def DecT (t : Tm.Tg) (er : Int) (w : World) (e : Ending) (w' : World) : Prop :=
  w.grownBy w' none ∧ ∃ (V : Option Addr) (m cv : Nat), e = .returned (.tuple #[tv t (.slice V m cv), .int .i64 er]) ∧ IR w' V m t.vs ∧ m ≤ 16
theorem rdec_at {l : List UInt8} {t : Tm.Tg} {er : Int} (hd : Tm.Dc l t er) {A : Option Addr} {n c : Nat} {w : World} (h : RB w A n l) (hn : n ≤ 900000) :
    Calls Tryd.prog 25 #[.slice A n c] w (DecT t er w) := by
  refine (rdecode_any A n c l w h hn).mono ?_
  rintro e w' ⟨hg, u, V, m, cv, er', rfl, hi, hm, hd'⟩
  obtain ⟨rfl, rfl⟩ := Tm.dc_unique hd' hd
  exact ⟨hg, V, m, cv, rfl, hi, hm⟩
theorem body_least {ns : List Int} : ns.length ≤ (Tm.body ns).length := by
  induction ns with
  | nil => simp [Tm.body]
  | cons n t ih =>
    have := Wm.enc_pos (Wm.fold n)
    simp only [Tm.body, List.length_append, List.length_cons]; omega
theorem inside_least (t : Tm.Tg) : 10 ≤ t.inside.length := by
  have h := body_least (ns := t.nums)
  unfold Tm.Tg.inside
  rw [Tm.shut_len]
  have e : t.nums.length = t.vs.length + 6 := by simp only [Tm.Tg.nums, List.length_cons]
  omega
theorem rbefore_at {t u : Tm.Tg} {b : Bool} (h : Tm.before t u = b) (w : World) (A B : Option Addr) (n c m d : Nat) :
    Calls Tryd.prog 16 #[tv t (.slice A n c), tv u (.slice B m d)] w (Ret (.bool b) w) := by
  subst h; exact rbefore_any t u A B n c m d w
end Go.Proofs.YtcjbhkocpfkcbaaDoor.Wr
