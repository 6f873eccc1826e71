/- Rows of ints of the call's own; the pieces that PieceMerges draws. -/
import Derived.Test.YtaghcdelnjjncaaFu
namespace Go.Proofs.Ytaghcdelnjjncaa
open Go.ChangeShapes Go.WideShapes Go.ChangeAt Go.RowKit

theorem info_i : (Try.prog.info? 3).map (fun i => (i.zero, i.size, i.bytes)) = some (some (.int .i64 0), 1, 8) := by kernel_rfl
theorem parts_i : ∃ i, Try.prog.info? 3 = some i ∧ i.zero = some (.int .i64 0) ∧ i.size = 1 ∧ i.bytes = 8 := by
  obtain ⟨i, hi, hz⟩ := Option.map_eq_some_iff.1 info_i
  simp only [Prod.mk.injEq] at hz
  exact ⟨i, hi, hz.1, hz.2.1, hz.2.2⟩
def ivs (l : List Int) : List Value := l.map (Value.int .i64)
theorem ivs_one (l : List Int) : ∀ v ∈ ivs l, v.oneCell' = true := by
  intro v hv
  obtain ⟨x, _, rfl⟩ := List.mem_map.1 hv
  rfl
theorem ivs_snoc (l : List Int) (x : Int) : ivs l ++ ivs [x] = ivs (l ++ [x]) := by simp [ivs]
/-- Ints that the call made since base. -/
abbrev OI (base : Nat) (w : World) (s : Sl) (l : List Int) : Prop := OR base w 3 1 s (ivs l)
theorem OI.sli {base : Nat} {w : World} {s : Sl} {l : List Int} (h : OI base w s l) : SlI w s.v l := by
  have hl := h.len
  simp only [ivs, List.length_map, Nat.mul_one] at hl
  rcases h.form with ⟨h1, h2, h3, h4⟩ | ⟨g, h1, _, _⟩
  · have : l = [] := by simpa [ivs] using h4
    subst this
    refine ⟨s.a, 0, 0, s.c, by rw [hl]; rfl, fun h => by simp at h, fun i hi => by simp at hi⟩
  · refine ⟨s.a, g, 0, s.c, by rw [hl]; rfl, fun _ => h1, fun i hi => ?_⟩
    obtain ⟨b, off, e, hc⟩ := h.cr i (.int .i64 (l.getD i 0)) (by simp [ivs, List.getD_eq_getElem?_getD, List.getElem?_eq_getElem hi])
    rw [h1] at e
    cases e
    simpa using hc
theorem cr_one (w : World) (x : Int) {A : Nat} (hA : A = w.heap.size) : CR (w.alloc (.cells #[.int .i64 x] 3)) ⟨some ⟨A, 0, none⟩, 1, 1⟩ (ivs [x]) := by
  subst hA
  intro j u hu
  refine ⟨w.heap.size, 0, rfl, ?_⟩
  rw [Nat.zero_add]
  match j, hu with
  | 0, hu => simp [ivs] at hu; subst hu; simp
/-- A row of ints that is being made, and a piece at hand. -/
structure Ai (wm : World) (s : Sl) (l : List Int) (B : Nat) (x y : Int) (wq : World) : Prop where
  own : OI wm.heap.size wq s l
  gr : wm.grownBy wq none
  ne : s.blk ≠ some B
  lt : B < wq.heap.size
  c0 : wq.cell? ⟨B, 0, none⟩ = some (.int .i64 x)
  c1 : wq.cell? ⟨B, 1, none⟩ = some (.int .i64 y)
theorem Ai.new {wm wr : World} {s : Sl} {l : List Int} (h : OI wm.heap.size wr s l) (g : wm.grownBy wr none) (x y : Int) : Ai wm s l wr.heap.size x y (wr.alloc (.cells #[.int .i64 x, .int .i64 y] 30)) :=
  ⟨h.grown (World.grownBy_alloc _ _ _), grown_trans g (World.grownBy_alloc _ _ _), fun e => by have := (h.blk _ e).2; omega, by simp, by simp, by simp⟩
theorem Ai.drew {wm wq : World} {s : Sl} {l : List Int} {B : Nat} {x y : Int} (h : Ai wm s l B x y wq) (k : Nat) : Ai wm s l B x y (wq.drewN k) :=
  ⟨h.own.grown (grown_drewN _ _ _), grown_trans h.gr (grown_drewN _ _ _), h.ne, by simpa using h.lt, (grown_drewN wq k none).cell h.c0 (by simp), (grown_drewN wq k none).cell h.c1 (by simp)⟩
theorem Ai.put {wm wq wd : World} {s r : Sl} {l : List Int} {B : Nat} {x y z : Int} {o : Obj} (h : Ai wm s l B x y wq) (hr : OI wm.heap.size wd r (l ++ [z])) (hg : (wq.alloc o).grownBy wd s.blk) (hbl : ∀ b, r.blk = some b → s.blk = some b ∨ b = (wq.alloc o).heap.size) : Ai wm r (l ++ [z]) B x y wd := by
  have ga := World.grownBy_alloc wq o none
  have hlt := h.lt
  refine ⟨hr, grown_row0 (grown_trans h.gr ga) hg (fun b hb => (h.own.blk b hb).1), fun e => ?_, ?_, hg.cell (ga.cell h.c0 (by simp)) (fun e => h.ne e.symm), hg.cell (ga.cell h.c1 (by simp)) (fun e => h.ne e.symm)⟩
  · rcases hbl B e with e2 | e2
    · exact h.ne e2
    · simp at e2; omega
  · have := hg.size
    simp at this
    omega

/-- Small pieces. -/
def Sm (f : List Fm.Pc) : Prop := ∀ p ∈ f, 0 ≤ p.1 ∧ p.1 < 3 ∧ 0 ≤ p.2 ∧ p.2 < 4
theorem Sm.nil : Sm [] := fun p hp => by cases hp
theorem Sm.snoc {f : List Fm.Pc} (h : Sm f) {x y : Int} (h1 : 0 ≤ x ∧ x < 3) (h2 : 0 ≤ y ∧ y < 4) : Sm (f ++ [(x, y)]) := fun p hp => by
  rcases List.mem_append.1 hp with e | e
  · exact h p e
  · rw [List.mem_singleton] at e; subst e; exact ⟨h1.1, h1.2, h2.1, h2.2⟩
theorem Sm.pos {f : List Fm.Pc} (h : Sm f) : Fm.Pos f := fun p hp => (h p hp).2.2.1
theorem Sm.vol {f : List Fm.Pc} (h : Sm f) : Fm.vol f ≤ 3 * f.length := by
  induction f with
  | nil => simp [Fm.vol]
  | cons p r ih =>
    have h1 := ih fun q hq => h q (by simp [hq])
    have h2 := h p (by simp)
    simp only [Fm.vol, List.length_cons]
    omega
theorem Sm.mok {f : List Fm.Pc} (h : Sm f) (hl : f.length ≤ 19) : Mok f := ⟨by omega, fun p hp => by have := h p hp; unfold okm; omega⟩
/-- What Merge makes of them. -/
structure Md (f m : List Fm.Pc) : Prop where
  eq : merged f = m
  again : merged m = m
  lit : Fm.lit m = Fm.lit f
  vol : Fm.vol m = Fm.vol f
  mgd : Fm.Mgd m
  len : m.length ≤ 19
  top : ∀ p ∈ m, p.2 ≤ 57
theorem Sm.md {f : List Fm.Pc} (h : Sm f) (hl : f.length ≤ 19) : Md f (Fm.mer (Fm.lit f)) := by
  have h1 := Fm.mer_mgd (Fm.lit f)
  have h2 : Fm.lit (Fm.mer (Fm.lit f)) = Fm.lit f := Fm.lit_mer _
  have h3 := Fm.lit_len h1.pos
  have h4 := Fm.lit_len h.pos
  have h5 := Fm.mer_lit_len f
  have h6 := h.vol
  rw [h2] at h3
  have hb : ∀ b ∈ Fm.lit f, 0 ≤ b ∧ b < 1000 := fun b hb => by
    obtain ⟨p, hp, e, _⟩ := Fm.lit_mem hb
    have := h p hp
    omega
  have hv := Fm.val_mer (l := Fm.lit f) (by omega) hb (by omega)
  have ht : ∀ p ∈ Fm.mer (Fm.lit f), p.2 ≤ 57 := fun p hp => by
    have hpos := h1.pos
    have h7 : Fm.vol (Fm.mer (Fm.lit f)) ≤ 57 := by omega
    obtain ⟨a, b, e⟩ := List.append_of_mem hp
    rw [e] at hpos h7
    rw [Fm.vol_app, Fm.vol] at h7
    have h8 := Fm.vol_pos (f := a) (fun q hq => hpos q (List.mem_append_left _ hq))
    have h9 := Fm.vol_pos (f := b) (fun q hq => hpos q (List.mem_append_right _ (by simp [hq])))
    omega
  refine ⟨merged_yes (h.mok hl), ?_, h2, by omega, h1, by omega, ht⟩
  rw [merged_yes ⟨by omega, fun p hp => ?_⟩, h2]
  have := hv.ok p hp
  unfold Fm.okp at this
  unfold okm
  omega
theorem lit_step {f : List Fm.Pc} {k : Nat} {x y : Int} (hk : k < f.length) (hp : f.getD k Fm.zp = (x, y)) (hy : 0 ≤ y) {j : Int} (hj : ¬ j < y) (hj2 : j ≤ y) : Fm.lit (f.take k) ++ List.replicate j.toNat x = Fm.lit (f.take (k + 1)) := by
  rw [Fm.take_next hk, Fm.lit_app, hp, Fm.lit_one]
  rw [show j.toNat = y.toNat by omega]
theorem rep_snoc (l : List Int) {j x : Int} (hj : 0 ≤ j) : (l ++ List.replicate j.toNat x) ++ [x] = l ++ List.replicate (j + 1).toNat x := by
  rw [show (j + 1).toNat = j.toNat + 1 by omega, List.replicate_succ', List.append_assoc]
theorem lit_small {f : List Fm.Pc} {n : Nat} (h : Sm f) (hl : f.length = n) (hn : n ≤ 19) (k : Nat) : (Fm.lit (f.take k)).length ≤ 57 := by
  have h1 := Fm.lit_len (h.pos.take k)
  have h2 := Fm.vol_take_le h.pos k
  have h3 := h.vol
  omega
/-- A piece is put to a row. -/
theorem Fw.put {w wc wd : World} {S : Nat} {o r : Sl} {f : List Fm.Pc} {p : Fm.Pc} (h : Fw w S o f wc) (hr : OP w.heap.size wd r (f ++ [p])) (g : wc.grownBy wd o.blk) : Fw w S r (f ++ [p]) wd := by
  have hlt := h.lt
  have hb : ∀ k, o.blk = some k → S < k := fun k hk => by have := (h.own.blk k hk).1; omega
  refine ⟨hr, h.src.grownRow g hb, ?_, hlt⟩
  cases ho : o.blk with
  | none => rw [ho] at g; exact grown_trans h.gr (grown_weak _ g)
  | some k => rw [ho] at g; exact grown_skip h.gr g (h.own.blk k ho).1
end Go.Proofs.Ytaghcdelnjjncaa
