import Derived.Test.YticmoaebegahgaaGreatDoorJ5
import Derived.Test.YticmoaebegahgaaGreatDoorT4
set_option linter.all false
namespace Go.Proofs.YticmoaebegahgaaGreatDoor.Iw
open Go.ChangeShapes Go.WideShapes Go.ChangeAt Go.RowKit
open Wr (IR RB iv ivs bv bvs grown_trans grown_refl grown_alloc ret_int ret_bool tv Ret ret_mk)
theorem give_len (l : List Tm.Tg) : ∀ n, (Im.give l n).1.length + (Im.give l n).2.2.length = l.length := by
  induction l with
  | nil => intro n; rfl
  | cons t r ih =>
    intro n
    unfold Im.give
    split
    · have := ih (n + 1); simp only [List.length_cons]; omega
    · simp
theorem settle_len (win st ep nx : Int) (held out : List Tm.Tg) : (Im.settle win st ep nx held out).2.length ≤ out.length + held.length := by
  have h1 := give_len held nx
  have h2 := give_len (Im.give held nx).1 ((Im.give held nx).1.headD Tm.zero).sq
  unfold Im.settle
  split <;> simp only [List.length_append] <;> omega
theorem take_len (win : Int) (w : Im.Wt) (t : Tm.Tg) : (Im.take win w t).2.length ≤ w.held.length + 1 := by
  unfold Im.take
  split
  · simp
  · split
    · have := settle_len win w.st t.ep 0 [t] w.held; simp only [List.length_cons, List.length_nil] at this; omega
    · split
      · simp
      · have := settle_len win w.st w.ep w.nx (Im.lows t.sq w.held ++ t :: Im.highs t.sq w.held) []
        rw [Im.len_insert] at this; simp only [List.length_nil] at this; omega
set_option maxHeartbeats 1000000 in
theorem new_nil (n : Int) (w : World) : Calls Tryz.prog 10 #[.int .i64 n] w (fun e w' => e = .returned (.tuple #[iv3 (newF n).1.win nilS nilS, .int .i64 (newF n).2]) ∧ w.grownBy w' none) := by
  obtain ⟨w1, hw1⟩ : ∃ w1, w1 = w.alloc (Obj.cells #[.int .i64 0, .slice none 0 0, .slice none 0 0] 25) := ⟨_, rfl⟩
  have G1 := Hi (show w.grownBy w1 none by subst hw1; exact grown_alloc _ _ _)
  have B1 := Hi (show Tri w1 w.heap.size (.int .i64 0) (.slice none 0 0) (.slice none 0 0) by subst hw1; exact tri_made _ _ _ _ _)
  obtain ⟨⟨k0, k1, k2⟩, F⟩ := B1.out
  have f0 := F 0
  have f1 := F 1
  have f2 := F 2
  clear F
  rcases Bool.eq_false_or_eq_true (Tm.upTo n 16) with q | q
  · have Q := Hi q
    have E := Hi (show newF n = (⟨n, [], []⟩, 0) by unfold newF; rw [if_pos q])
    clear q
    go_enter Tryz.func10, Tryz.ntmps10
    go_wp2_with fail
    rw [← hw1]
    clear hw1
    refine (iupto_at _ Q.out).mono ?_
    rintro e w2 ⟨rfl, rfl⟩
    go_wp2
    try simp only [Exit.inBlock, Exit.then]
    refine bodyPost_ret (v := .tuple #[iv3 n nilS nilS, .int .i64 0]) ?hr rfl ?hE
    case hr =>
      rw [results_cell2 rfl]
      go_simp
      rfl
    case hE =>
      have g := (((Chg.refl [w.heap.size] w1).set ⟨w.heap.size, 0, none⟩ (.int .i64 n) (by simp)).set ⟨w.heap.size, 1, none⟩ (.slice none 0 0) (by simp)).set ⟨w.heap.size, 2, none⟩ (.slice none 0 0) (by simp)
      exact ⟨by rw [E.out], g.grown G1.out (fun b hb => by rw [List.mem_singleton] at hb; omega)⟩
  · have Q := Hi q
    have E := Hi (show newF n = (⟨0, [], []⟩, 1) by unfold newF; rw [if_neg (by rw [q]; simp)])
    clear q
    go_enter Tryz.func10, Tryz.ntmps10
    go_wp2_with fail
    rw [← hw1]
    clear hw1
    refine (iupto_at _ Q.out).mono ?_
    rintro e w2 ⟨rfl, rfl⟩
    go_wp2
    try simp only [Exit.inBlock, Exit.then]
    refine bodyPost_ret (v := .tuple #[iv3 0 nilS nilS, .int .i64 1]) ?hr rfl ?hE
    case hr =>
      rw [results_cell2 rfl]
      go_simp
      rfl
    case hE =>
      have g := (((Chg.refl [w.heap.size] w1).set ⟨w.heap.size, 0, none⟩ (.int .i64 0) (by simp)).set ⟨w.heap.size, 1, none⟩ (.slice none 0 0) (by simp)).set ⟨w.heap.size, 2, none⟩ (.slice none 0 0) (by simp)
      exact ⟨by rw [E.out], g.grown G1.out (fun b hb => by rw [List.mem_singleton] at hb; omega)⟩
def KL (L : List Nat) (w : World) (T E : Sl) (k : Ik) : Prop := ∀ w', Chg L w w' → KR w' T E k
def LL (lo : Nat) (A B : Sl) : List Nat := List.range lo ++ (A.blk.toList ++ B.blk.toList)
theorem TO.grow {lo : Nat} {L L' : List Nat} {w w' : World} {A r : Sl} {xs : List TV} {zs : List TV} (hv : ∀ x ∈ xs, VI w L x.2 x.1.vs) (hz : ∀ z ∈ zs, VI w L z.2 z.1.vs) (hr : OR lo w' 28 6 r (f6 (xs ++ zs))) (g : w.grownBy w' A.blk) (hA : ∀ b, A.blk = some b → b ∈ L) (hL : ∀ b ∈ L', b ∈ L ∨ w.heap.size ≤ b) : TO lo w' L' r (xs.map Prod.fst ++ zs.map Prod.fst) :=
  ⟨xs ++ zs, List.map_append, hr, fun x hx => by
    have gc : Chg L w w' := Chg.of g hA
    rcases List.mem_append.1 hx with hx | hx
    · exact (hv x hx).step gc hL
    · exact (hz x hx).step gc hL⟩
structure Sta (lo S sB tB : Nat) (win : Int) (es ft : List Im.Wt) (xs ys : List Tm.Tg) (Ts Es Tt Et A B : Sl) (w : World) : Prop where
  src : Wr.SrcOK w S
  bs : Tri w sB (.int .i64 win) Ts.v Es.v
  bt : Tri w tB (.int .i64 win) Tt.v Et.v
  ks : KL (LL lo A B) w Ts Es ⟨win, [], es⟩
  kt : KL (LL lo A B) w Tt Et ⟨win, [], ft⟩
  a : TO lo w (LL lo A B) A xs
  b : TO lo w (LL lo A B) B ys
  ab : ∀ x, A.blk = some x → B.blk ≠ some x
  low : lo ≤ w.heap.size
  ord : S < sB ∧ sB < tB ∧ tB < lo
  nil : Ts.n = 0 ∧ Tt.n = 0
section
variable {lo S sB tB : Nat} {win : Int} {es ft : List Im.Wt} {xs ys : List Tm.Tg} {Ts Es Tt Et A B : Sl} {w w' : World}
theorem src_chg {x : Nat} (h : Wr.SrcOK w S) (g : Chg [x] w w') (hx : S < x) : Wr.SrcOK w' S :=
  h.grownRow (row := some x) ⟨g.os, g.tape, g.output, g.size, fun i hi hn => g.block i hi (by rw [List.mem_singleton]; intro e; subst e; exact hn rfl)⟩ (fun k hk => by injection hk with hk; omega)
end
theorem vi_own {w : World} {base : Nat} {A : Option Addr} {n c : Nat} {l : List Int} (h : Wr.OI base w A n c l) (hl : l.length ≤ 1000) : VI w (List.range base) ⟨A, n, c⟩ l := by
  obtain ⟨s1, s2, s3⟩ := h.shape
  have := h.len
  refine ⟨⟨s1, s2⟩, by dsimp only; omega, h.ir, fun b hb hn hm => ?_⟩
  obtain ⟨g, e, hg, _⟩ := s3 hn
  have hb : A.map (·.block) = some b := hb
  rw [e] at hb
  injection hb with hb
  have hb : g = b := hb
  have := List.mem_range.1 hm
  omega
end Go.Proofs.YticmoaebegahgaaGreatDoor.Iw
