/- Two intakes and two rows of telegrams side by side: what the law of the stations keeps. -/
import Derived.Test.YticmoaebegahgaaJ5
import Derived.Test.YticmoaebegahgaaT4
namespace Go.Proofs.Yticmoaebegahgaa.Iw
open Go.ChangeShapes Go.WideShapes Go.ChangeAt Go.RowKit
open Wr (IR RB iv ivs bv bvs grown_trans grown_refl grown_alloc ret_int ret_bool tv Ret ret_mk)

/-! ## Lengths -/
theorem give_len (l : List Tm.Tg) : ∀ n, (Im.give l n).1.length + (Im.give l n).2.2.length = l.length := by
  induction l with
  | nil => intro n; rfl
  | cons t r ih =>
    intro n
    unfold Im.give
    split
    · have := ih (n + 1); simp only [List.length_cons]; omega
    · simp
theorem settle_len (win st ep nx : Int) (held out : List Tm.Tg) : (Im.settle win st ep nx held out).2.length ≤ out.length + held.length := by
  have h1 := give_len held nx
  have h2 := give_len (Im.give held nx).1 ((Im.give held nx).1.headD Tm.zero).sq
  unfold Im.settle
  split <;> simp only [List.length_append] <;> omega
theorem take_len (win : Int) (w : Im.Wt) (t : Tm.Tg) : (Im.take win w t).2.length ≤ w.held.length + 1 := by
  unfold Im.take
  split
  · simp
  · split
    · have := settle_len win w.st t.ep 0 [t] w.held; simp only [List.length_cons, List.length_nil] at this; omega
    · split
      · simp
      · have := settle_len win w.st w.ep w.nx (Im.lows t.sq w.held ++ t :: Im.highs t.sq w.held) []
        rw [Im.len_insert] at this; simp only [List.length_nil] at this; omega
theorem few_out {win : Int} (hw : 0 ≤ win ∧ win ≤ 4) {s : List Im.Wt} {t : Tm.Tg} (h : Im.Few win s) (ht : t.ok = true) (h2 : t.st ≤ 2) : (Im.acc win s t).2.length ≤ 5 := by
  obtain ⟨_, e, _⟩ := Im.few_acc hw.1 h ht h2
  have h1 := take_len win ((Im.ent s t.st).getD (Im.new t)) t
  have h3 := (Im.ent_ok hw.1 h.1 ht).1.len
  rw [e]; omega
theorem few_run {win : Int} (hw : 0 ≤ win ∧ win ≤ 4) (l : List Tm.Tg) : ∀ s, Im.Few win s → (∀ t ∈ l, t.ok = true ∧ t.st ≤ 2) → Im.Few win (Im.run win s l).1 ∧ (Im.run win s l).2.length ≤ 5 * l.length := by
  induction l with
  | nil => intro s h _; exact ⟨h, by simp [Im.run]⟩
  | cons t r ih =>
    intro s h ha
    obtain ⟨a1, a2⟩ := ha t List.mem_cons_self
    have h1 := (Im.few_acc hw.1 h a1 a2).1
    obtain ⟨k1, k2⟩ := ih _ h1 (fun x hx => ha x (List.mem_cons_of_mem _ hx))
    have k3 := few_out hw h a1 a2
    refine ⟨k1, ?_⟩
    simp only [Im.run, List.length_append, List.length_cons]
    omega
theorem few_nil (win : Int) : Im.Few win [] := ⟨Im.sok_nil win, fun w h => by cases h⟩
theorem run_snoc (win : Int) (l : List Tm.Tg) (t : Tm.Tg) (s : List Im.Wt) : Im.run win s (l ++ [t]) = ((Im.acc win (Im.run win s l).1 t).1, (Im.run win s l).2 ++ (Im.acc win (Im.run win s l).1 t).2) := by
  rw [Im.run_append]; simp [Im.run]
theorem ofSt_snoc (k : Int) (l : List Tm.Tg) (t : Tm.Tg) : Im.ofSt k (l ++ [t]) = if t.st = k then Im.ofSt k l ++ [t] else Im.ofSt k l := by
  unfold Im.ofSt
  rw [List.filter_append]
  by_cases h : t.st = k
  · rw [if_pos h, List.filter_cons_of_pos (by simpa using h)]; rfl
  · rw [if_neg h, List.filter_cons_of_neg (by simpa using h)]; simp
theorem few_accF {win : Int} (hw : 0 ≤ win ∧ win ≤ 4) {s : List Im.Wt} {t : Tm.Tg} (h : Im.Few win s) (ht : t.ok = true) : accF ⟨win, [], s⟩ t = (⟨win, [], (Im.acc win s t).1⟩, (Im.acc win s t).2, 0) := by
  have hk : (Ik.mk win [] s).ok = true := Ik.ok_iff.2 ⟨⟨hw.1, by dsimp only; omega⟩, by simp, .inl rfl, h.1⟩
  have hl := h.len
  unfold accF
  rw [if_pos hk, if_pos ht, if_pos (.inl (by dsimp only; omega))]

/-! ## New, with its slices -/
set_option maxHeartbeats 1000000 in
theorem new_nil (n : Int) (w : World) : Calls Try.prog 8 #[.int .i64 n] w (fun e w' => e = .returned (.tuple #[iv3 (newF n).1.win nilS nilS, .int .i64 (newF n).2]) ∧ w.grownBy w' none) := by
  obtain ⟨w1, hw1⟩ : ∃ w1, w1 = w.alloc (Obj.cells #[.int .i64 0, .slice none 0 0, .slice none 0 0] 29) := ⟨_, rfl⟩
  have G1 := Lib.hid (show w.grownBy w1 none by subst hw1; exact grown_alloc _ _ _)
  have B1 := Lib.hid (show Tri w1 w.heap.size (.int .i64 0) (.slice none 0 0) (.slice none 0 0) by subst hw1; exact tri_made _ _ _ _ _)
  obtain ⟨⟨k0, k1, k2⟩, F⟩ := B1.out
  have f0 := F 0
  have f1 := F 1
  have f2 := F 2
  clear F
  rcases Bool.eq_false_or_eq_true (Tm.upTo n 16) with q | q
  · have Q := Lib.hid q
    have E := Lib.hid (show newF n = (⟨n, [], []⟩, 0) by unfold newF; rw [if_pos q])
    clear q
    go_enter Try.func8, Try.ntmps8
    go_wp2_with fail
    rw [← hw1]
    clear hw1
    refine (iupto_at _ Q.out).mono ?_
    rintro e w2 ⟨rfl, rfl⟩
    go_wp2
    try simp only [Exit.inBlock, Exit.then]
    refine bodyPost_ret (v := .tuple #[iv3 n nilS nilS, .int .i64 0]) ?hr rfl ?hE
    case hr =>
      rw [results_cell2 rfl]
      go_simp
      rfl
    case hE =>
      have g := (((Chg.refl [w.heap.size] w1).set ⟨w.heap.size, 0, none⟩ (.int .i64 n) (by simp)).set ⟨w.heap.size, 1, none⟩ (.slice none 0 0) (by simp)).set ⟨w.heap.size, 2, none⟩ (.slice none 0 0) (by simp)
      exact ⟨by rw [E.out], g.grown G1.out (fun b hb => by rw [List.mem_singleton] at hb; omega)⟩
  · have Q := Lib.hid q
    have E := Lib.hid (show newF n = (⟨0, [], []⟩, 1) by unfold newF; rw [if_neg (by rw [q]; simp)])
    clear q
    go_enter Try.func8, Try.ntmps8
    go_wp2_with fail
    rw [← hw1]
    clear hw1
    refine (iupto_at _ Q.out).mono ?_
    rintro e w2 ⟨rfl, rfl⟩
    go_wp2
    try simp only [Exit.inBlock, Exit.then]
    refine bodyPost_ret (v := .tuple #[iv3 0 nilS nilS, .int .i64 1]) ?hr rfl ?hE
    case hr =>
      rw [results_cell2 rfl]
      go_simp
      rfl
    case hE =>
      have g := (((Chg.refl [w.heap.size] w1).set ⟨w.heap.size, 0, none⟩ (.int .i64 0) (by simp)).set ⟨w.heap.size, 1, none⟩ (.slice none 0 0) (by simp)).set ⟨w.heap.size, 2, none⟩ (.slice none 0 0) (by simp)
      exact ⟨by rw [E.out], g.grown G1.out (fun b hb => by rw [List.mem_singleton] at hb; omega)⟩
/-! ## Stable under changes of blocks L -/
def KL (L : List Nat) (w : World) (T E : Sl) (k : Ik) : Prop := ∀ w', Chg L w w' → KR w' T E k
theorem KL.now {L : List Nat} {w : World} {T E : Sl} {k : Ik} (h : KL L w T E k) : KR w T E k := h w (Chg.refl _ _)
theorem KL.step {L L' M : List Nat} {w w' : World} {T E : Sl} {k : Ik} (h : KL L w T E k) (g : Chg M w w') (hM : ∀ b ∈ M, b ∈ L ∨ w.heap.size ≤ b) (hL : ∀ b ∈ L', b ∈ L ∨ w.heap.size ≤ b) : KL L' w' T E k :=
  fun w2 g2 => h w2 (((Chg.refl L w).then g hM).then g2 hL)
theorem KL.grown {L : List Nat} {w w' : World} {T E : Sl} {k : Ik} (h : KL L w T E k) (g : w.grownBy w' none) : KL L w' T E k := h.step (M := []) (Chg.of0 g) (fun _ h => by cases h) (fun _ hb => .inl hb)
theorem kl_nil (L : List Nat) (w : World) (n : Int) : KL L w nilS nilS ⟨n, [], []⟩ := fun w' _ => kr_nil w' n

/-- The rows that may change. -/
def LL (lo : Nat) (A B : Sl) : List Nat := List.range lo ++ (A.blk.toList ++ B.blk.toList)
theorem ll_lo {lo : Nat} {A B : Sl} {b : Nat} (h : b < lo) : b ∈ LL lo A B := List.mem_append_left _ (List.mem_range.2 h)
theorem ll_a {lo : Nat} {A B : Sl} {b : Nat} (h : A.blk = some b) : b ∈ LL lo A B := List.mem_append_right _ (List.mem_append_left _ (by simpa using h))
theorem ll_b {lo : Nat} {A B : Sl} {b : Nat} (h : B.blk = some b) : b ∈ LL lo A B := List.mem_append_right _ (List.mem_append_right _ (by simpa using h))
theorem ll_mem {lo : Nat} {A B : Sl} {b : Nat} (h : b ∈ LL lo A B) : b < lo ∨ A.blk = some b ∨ B.blk = some b := by
  rcases List.mem_append.1 h with h | h
  · exact .inl (List.mem_range.1 h)
  · rcases List.mem_append.1 h with h | h
    · exact .inr (.inl (by simpa using h))
    · exact .inr (.inr (by simpa using h))
/-- A row of telegrams grows. -/
theorem TO.grow {lo : Nat} {L L' : List Nat} {w w' : World} {A r : Sl} {xs : List TV} {zs : List TV} (hv : ∀ x ∈ xs, VI w L x.2 x.1.vs) (hz : ∀ z ∈ zs, VI w L z.2 z.1.vs) (hr : OR lo w' 38 6 r (f6 (xs ++ zs))) (g : w.grownBy w' A.blk) (hA : ∀ b, A.blk = some b → b ∈ L) (hL : ∀ b ∈ L', b ∈ L ∨ w.heap.size ≤ b) : TO lo w' L' r (xs.map Prod.fst ++ zs.map Prod.fst) :=
  ⟨xs ++ zs, List.map_append, hr, fun x hx => by
    have gc : Chg L w w' := Chg.of g hA
    rcases List.mem_append.1 hx with hx | hx
    · exact (hv x hx).step gc hL
    · exact (hz x hx).step gc hL⟩

structure Sta (lo S sB tB : Nat) (win : Int) (es ft : List Im.Wt) (xs ys : List Tm.Tg) (Ts Es Tt Et A B : Sl) (w : World) : Prop where
  src : Wr.SrcOK w S
  bs : Tri w sB (.int .i64 win) Ts.v Es.v
  bt : Tri w tB (.int .i64 win) Tt.v Et.v
  ks : KL (LL lo A B) w Ts Es ⟨win, [], es⟩
  kt : KL (LL lo A B) w Tt Et ⟨win, [], ft⟩
  a : TO lo w (LL lo A B) A xs
  b : TO lo w (LL lo A B) B ys
  ab : ∀ x, A.blk = some x → B.blk ≠ some x
  low : lo ≤ w.heap.size
  ord : S < sB ∧ sB < tB ∧ tB < lo
  nil : Ts.n = 0 ∧ Tt.n = 0
section
variable {lo S sB tB : Nat} {win : Int} {es ft : List Im.Wt} {xs ys : List Tm.Tg} {Ts Es Tt Et A B : Sl} {w w' : World}
theorem Sta.lt (h : Sta lo S sB tB win es ft xs ys Ts Es Tt Et A B w) : ∀ b ∈ LL lo A B, b < w.heap.size := by
  intro b hb
  rcases ll_mem hb with e | e | e
  · have := h.low; omega
  · exact (h.a.blk b e).2
  · exact (h.b.blk b e).2
theorem Sta.src_ (h : Sta lo S sB tB win es ft xs ys Ts Es Tt Et A B w) (g : w.grownBy w' (some S)) (hs : Wr.SrcOK w' S) : Sta lo S sB tB win es ft xs ys Ts Es Tt Et A B w' := by
  obtain ⟨o1, o2, o3⟩ := h.ord
  have gc : Chg [S] w w' := Chg.of g (fun b hb => by injection hb with hb; subst hb; exact List.mem_cons_self)
  have hM : ∀ b ∈ [S], b ∈ LL lo A B ∨ w.heap.size ≤ b := fun b hb => by rw [List.mem_singleton] at hb; subst hb; exact .inl (ll_lo (by omega))
  refine ⟨hs, h.bs.step gc (by simp; omega), h.bt.step gc (by simp; omega), h.ks.step gc hM (fun _ hb => .inl hb), h.kt.step gc hM (fun _ hb => .inl hb), h.a.step gc (fun b hb hm => ?_) hM (fun _ hb => .inl hb), h.b.step gc (fun b hb hm => ?_) hM (fun _ hb => .inl hb), h.ab, Nat.le_trans h.low g.size, h.ord, h.nil⟩
  · rw [List.mem_singleton] at hm; have := (h.a.blk b hb).1; omega
  · rw [List.mem_singleton] at hm; have := (h.b.blk b hb).1; omega
theorem Sta.grown (h : Sta lo S sB tB win es ft xs ys Ts Es Tt Et A B w) (g : w.grownBy w' none) : Sta lo S sB tB win es ft xs ys Ts Es Tt Et A B w' :=
  ⟨h.src.grown g, h.bs.grown g, h.bt.grown g, h.ks.grown g, h.kt.grown g, h.a.grown g, h.b.grown g, h.ab, Nat.le_trans h.low g.size, h.ord, h.nil⟩
theorem src_chg {x : Nat} (h : Wr.SrcOK w S) (g : Chg [x] w w') (hx : S < x) : Wr.SrcOK w' S :=
  h.grownRow (row := some x) ⟨g.os, g.tape, g.output, g.size, fun i hi hn => g.block i hi (by rw [List.mem_singleton]; intro e; subst e; exact hn rfl)⟩ (fun k hk => by injection hk with hk; omega)
theorem Sta.setS {es' : List Im.Wt} {Ts' Es' : Sl} (h : Sta lo S sB tB win es ft xs ys Ts Es Tt Et A B w) (g : Chg [sB] w w') (hb : Tri w' sB (.int .i64 win) Ts'.v Es'.v) (hk : KL (LL lo A B) w Ts' Es' ⟨win, [], es'⟩) (hn : Ts'.n = 0) : Sta lo S sB tB win es' ft xs ys Ts' Es' Tt Et A B w' := by
  obtain ⟨o1, o2, o3⟩ := h.ord
  have hM : ∀ b ∈ [sB], b ∈ LL lo A B ∨ w.heap.size ≤ b := fun b hb => by rw [List.mem_singleton] at hb; subst hb; exact .inl (ll_lo (by omega))
  refine ⟨src_chg h.src g o1, hb, h.bt.step g (by simp; omega), hk.step g hM (fun _ hb => .inl hb), h.kt.step g hM (fun _ hb => .inl hb), h.a.step g (fun b hb hm => ?_) hM (fun _ hb => .inl hb), h.b.step g (fun b hb hm => ?_) hM (fun _ hb => .inl hb), h.ab, Nat.le_trans h.low g.size, h.ord, hn, h.nil.2⟩
  · rw [List.mem_singleton] at hm; have := (h.a.blk b hb).1; omega
  · rw [List.mem_singleton] at hm; have := (h.b.blk b hb).1; omega
theorem Sta.setT {ft' : List Im.Wt} {Tt' Et' : Sl} (h : Sta lo S sB tB win es ft xs ys Ts Es Tt Et A B w) (g : Chg [tB] w w') (hb : Tri w' tB (.int .i64 win) Tt'.v Et'.v) (hk : KL (LL lo A B) w Tt' Et' ⟨win, [], ft'⟩) (hn : Tt'.n = 0) : Sta lo S sB tB win es ft' xs ys Ts Es Tt' Et' A B w' := by
  obtain ⟨o1, o2, o3⟩ := h.ord
  have hM : ∀ b ∈ [tB], b ∈ LL lo A B ∨ w.heap.size ≤ b := fun b hb => by rw [List.mem_singleton] at hb; subst hb; exact .inl (ll_lo (by omega))
  refine ⟨src_chg h.src g (by omega), h.bs.step g (by simp; omega), hb, h.ks.step g hM (fun _ hb => .inl hb), hk.step g hM (fun _ hb => .inl hb), h.a.step g (fun b hb hm => ?_) hM (fun _ hb => .inl hb), h.b.step g (fun b hb hm => ?_) hM (fun _ hb => .inl hb), h.ab, Nat.le_trans h.low g.size, h.ord, h.nil.1, hn⟩
  · rw [List.mem_singleton] at hm; have := (h.a.blk b hb).1; omega
  · rw [List.mem_singleton] at hm; have := (h.b.blk b hb).1; omega
theorem ll_newA {r : Sl} {n : Nat} (hrb : ∀ b, r.blk = some b → A.blk = some b ∨ b = n) : ∀ b ∈ LL lo r B, b ∈ LL lo A B ∨ n ≤ b := by
  intro b hb
  rcases ll_mem hb with e | e | e
  · exact .inl (ll_lo e)
  · rcases hrb b e with e | e
    · exact .inl (ll_a e)
    · exact .inr (by omega)
  · exact .inl (ll_b e)
theorem ll_newB {r : Sl} {n : Nat} (hrb : ∀ b, r.blk = some b → B.blk = some b ∨ b = n) : ∀ b ∈ LL lo A r, b ∈ LL lo A B ∨ n ≤ b := by
  intro b hb
  rcases ll_mem hb with e | e | e
  · exact .inl (ll_lo e)
  · exact .inl (ll_a e)
  · rcases hrb b e with e | e
    · exact .inl (ll_b e)
    · exact .inr (by omega)
theorem Sta.appA {r : Sl} {us zs : List TV} (h : Sta lo S sB tB win es ft xs ys Ts Es Tt Et A B w) (hu : us.map Prod.fst = xs) (hv : ∀ x ∈ us, VI w (LL lo A B) x.2 x.1.vs) (hz : ∀ z ∈ zs, VI w (LL lo A B) z.2 z.1.vs) (hr : OR lo w' 38 6 r (f6 (us ++ zs))) (g : w.grownBy w' A.blk) (hrb : ∀ b, r.blk = some b → A.blk = some b ∨ b = w.heap.size) :
    Sta lo S sB tB win es ft (xs ++ zs.map Prod.fst) ys Ts Es Tt Et r B w' := by
  obtain ⟨o1, o2, o3⟩ := h.ord
  have gc : Chg A.blk.toList w w' := Chg.of g (fun b hb => by simpa using hb)
  have hne : ∀ x, x < lo → x ∉ A.blk.toList := fun x hx hm => by have := (h.a.blk x (by simpa using hm)).1; omega
  have hM : ∀ b ∈ A.blk.toList, b ∈ LL lo A B ∨ w.heap.size ≤ b := fun b hb => .inl (ll_a (by simpa using hb))
  have hL := ll_newA (lo := lo) (B := B) hrb
  have hS : Wr.SrcOK w' S := h.src.grownRow g (fun k hk => by have := (h.a.blk k hk).1; omega)
  refine ⟨hS, h.bs.step gc (hne _ (by omega)), h.bt.step gc (hne _ (by omega)), h.ks.step gc hM hL, h.kt.step gc hM hL, ?_, h.b.step gc (fun b hb hm => h.ab b (by simpa using hm) hb) hM hL, fun x hx hb => ?_, Nat.le_trans h.low g.size, h.ord, h.nil⟩
  · rw [← hu]; exact TO.grow hv hz hr g (fun b hb => ll_a hb) hL
  · rcases hrb x hx with e | e
    · exact h.ab x e hb
    · have := (h.b.blk x hb).2; omega
theorem Sta.appB {r : Sl} {us zs : List TV} (h : Sta lo S sB tB win es ft xs ys Ts Es Tt Et A B w) (hu : us.map Prod.fst = ys) (hv : ∀ x ∈ us, VI w (LL lo A B) x.2 x.1.vs) (hz : ∀ z ∈ zs, VI w (LL lo A B) z.2 z.1.vs) (hr : OR lo w' 38 6 r (f6 (us ++ zs))) (g : w.grownBy w' B.blk) (hrb : ∀ b, r.blk = some b → B.blk = some b ∨ b = w.heap.size) :
    Sta lo S sB tB win es ft xs (ys ++ zs.map Prod.fst) Ts Es Tt Et A r w' := by
  obtain ⟨o1, o2, o3⟩ := h.ord
  have gc : Chg B.blk.toList w w' := Chg.of g (fun b hb => by simpa using hb)
  have hne : ∀ x, x < lo → x ∉ B.blk.toList := fun x hx hm => by have := (h.b.blk x (by simpa using hm)).1; omega
  have hM : ∀ b ∈ B.blk.toList, b ∈ LL lo A B ∨ w.heap.size ≤ b := fun b hb => .inl (ll_b (by simpa using hb))
  have hL := ll_newB (lo := lo) (A := A) hrb
  have hS : Wr.SrcOK w' S := h.src.grownRow g (fun k hk => by have := (h.b.blk k hk).1; omega)
  refine ⟨hS, h.bs.step gc (hne _ (by omega)), h.bt.step gc (hne _ (by omega)), h.ks.step gc hM hL, h.kt.step gc hM hL, h.a.step gc (fun b hb hm => h.ab b hb (by simpa using hm)) hM hL, ?_, fun x hx hb => ?_, Nat.le_trans h.low g.size, h.ord, h.nil⟩
  · rw [← hu]; exact TO.grow hv hz hr g (fun b hb => ll_b hb) hL
  · rcases hrb x hb with e | e
    · exact h.ab x hx e
    · have := (h.a.blk x hx).2; omega
end
theorem vi_own {w : World} {base : Nat} {A : Option Addr} {n c : Nat} {l : List Int} (h : Wr.OI base w A n c l) (hl : l.length ≤ 1000) : VI w (List.range base) ⟨A, n, c⟩ l := by
  obtain ⟨s1, s2, s3⟩ := h.shape
  have := h.len
  refine ⟨⟨s1, s2⟩, by dsimp only; omega, h.ir, fun b hb hn hm => ?_⟩
  obtain ⟨g, e, hg, _⟩ := s3 hn
  have hb : A.map (·.block) = some b := hb
  rw [e] at hb
  injection hb with hb
  have hb : g = b := hb
  have := List.mem_range.1 hm
  omega
end Go.Proofs.Yticmoaebegahgaa.Iw
