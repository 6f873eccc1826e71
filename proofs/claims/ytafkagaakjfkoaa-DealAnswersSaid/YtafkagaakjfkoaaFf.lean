/- Contract of the reference's Split: two rows side by side. -/
import Derived.Test.YtafkagaakjfkoaaFe
import Derived.Deep.DeepCutAuto
namespace Go.Proofs.Ytafkagaakjfkoaa
open Go.ChangeShapes Go.WideShapes Go.ChangeAt Go.RowKit

/-- Two rows that are being made. -/
structure PR2 (w wr : World) (s8 s9 : Sl) (f g : List Fm.Pc) : Prop where
  o8 : OP w.heap.size wr s8 f
  o9 : OP w.heap.size wr s9 g
  ne : ∀ b, s8.blk = some b → s9.blk ≠ some b
  gr : w.grownBy wr none
/-- Behind the first of two appends. -/
structure Hf2 (w wr W w1 : World) (r8 s9 : Sl) (f g : List Fm.Pc) : Prop where
  o8 : OP w.heap.size w1 r8 f
  o9 : OP w.heap.size w1 s9 g
  ne : ∀ b, r8.blk = some b → s9.blk ≠ some b
  gr : w.grownBy w1 none
  new : ∀ (A o : Nat) (u : Value), wr.heap.size ≤ A → W.cell? ⟨A, o, none⟩ = some u → w1.cell? ⟨A, o, none⟩ = some u
theorem grown_drew' {a b : World} {row : Option Nat} (h : a.grownBy b row) : a.grownBy b.drew row := ⟨h.os, h.tape, h.output, h.size, h.block⟩
theorem cr_two {W : World} {A : Nat} {p : Fm.Pc} (h0 : W.cell? ⟨A, 0, none⟩ = some (.int .i64 p.1)) (h1 : W.cell? ⟨A, 1, none⟩ = some (.int .i64 p.2)) : CR W ⟨some ⟨A, 0, none⟩, 1, 1⟩ (pcs p) := by
  intro j u hu
  refine ⟨A, 0, rfl, ?_⟩
  rw [Nat.zero_add]
  match j, hu with
  | 0, hu => simp [pcs] at hu; subst hu; exact h0
  | 1, hu => simp [pcs] at hu; subst hu; exact h1
section
variable {ops : Array Oper} {o : Oper} {a : Act} {K : Act → World → Prop} {Q : Exit → Act → World → Prop} {E : Prop} {w wr W W0 w1 : World} {s8 s9 r8 : Sl} {f g : List Fm.Pc}
theorem step8p (hgd : o.guard = none) (s x : Operand) (ho : o.op = .call { callee := .builtin .append, args := #[s, x], argTypes := #[23, 23] })
    (P : PR2 w wr s8 s9 f g) (hs : a.eval s = s8.v) (A : Nat) (hx : a.eval x = .slice (some ⟨A, 0, none⟩) 1 1) (hW : wr.grownBy W none) (p : Fm.Pc)
    (h0 : W.cell? ⟨A, 0, none⟩ = some (.int .i64 p.1)) (h1 : W.cell? ⟨A, 1, none⟩ = some (.int .i64 p.2)) (hk : s8.n ≤ 100000)
    (h : ∀ r w1, Hf2 w wr W w1 r s9 (f ++ [p]) g → (∀ (A o : Nat) (u : Value), s8.blk ≠ some A → wr.cell? ⟨A, o, none⟩ = some u → w1.cell? ⟨A, o, none⟩ = some u) → K (a.put o.dst r.v) w1) :
    if Region.wanted o (yielded ops a.tmps) = true then Oper.wp Try.prog o a W K Q else E := by
  obtain ⟨i0, hi, hz0, hz1, hz2⟩ := parts_p
  have sz := hW.size
  have szw := P.gr.size
  refine step_appV hgd s x 23 ho (S := s8) (V := ⟨some ⟨A, 0, none⟩, 1, 1⟩) (vs := pcs p) Try.underlying23 hi hz0 hz1 hz2 (by rfl) (by omega) hs hx (P.o8.grown hW) (by omega) (by rfl) (cr_two h0 h1) (pcs_one _) (by dsimp only; omega) (by dsimp only; omega) ?_
  intro r w1 hrn hr hg hbl
  have lt8 := P.o8.blk
  have lt9 := P.o9.blk
  rw [f2_snoc2] at hr
  refine h r w1 ⟨hr, (P.o9.grown hW).chg (Chg.of hg (L := s8.blk.toList) (fun b hb => by rw [hb]; simp)) (fun b hb hm => ?_), fun b hb h9 => ?_, grown_row0 (grown_trans P.gr hW) hg (fun b hb => (lt8 b hb).1), fun A' o' u hA' hcell => hg.cell hcell (fun e => by have := (lt8 A' e.symm).2; omega)⟩ (fun A' o' u hn hc => hg.cell (hW.cell hc (by simp)) (fun e => hn e.symm))
  · cases h8 : s8.blk with
    | none => rw [h8] at hm; simp at hm
    | some b' =>
      rw [h8] at hm
      simp at hm
      subst hm
      exact P.ne b h8 hb
  · rcases hbl b hb with e | e
    · exact P.ne b e h9
    · have := (lt9 b h9).2; omega
theorem step9p (hgd : o.guard = none) (s x : Operand) (ho : o.op = .call { callee := .builtin .append, args := #[s, x], argTypes := #[23, 23] })
    (H : Hf2 w wr W0 w1 r8 s9 f g) (hs : a.eval s = s9.v) (A : Nat) (hx : a.eval x = .slice (some ⟨A, 0, none⟩) 1 1) (hW : w1.grownBy W none) (p : Fm.Pc)
    (h0 : W.cell? ⟨A, 0, none⟩ = some (.int .i64 p.1)) (h1 : W.cell? ⟨A, 1, none⟩ = some (.int .i64 p.2)) (hk : s9.n ≤ 100000)
    (h : ∀ r w2, PR2 w w2 r8 r f (g ++ [p]) → (∀ (A o : Nat) (u : Value), s9.blk ≠ some A → w1.cell? ⟨A, o, none⟩ = some u → w2.cell? ⟨A, o, none⟩ = some u) → K (a.put o.dst r.v) w2) :
    if Region.wanted o (yielded ops a.tmps) = true then Oper.wp Try.prog o a W K Q else E := by
  obtain ⟨i0, hi, hz0, hz1, hz2⟩ := parts_p
  have sz := hW.size
  have szw := H.gr.size
  refine step_appV hgd s x 23 ho (S := s9) (V := ⟨some ⟨A, 0, none⟩, 1, 1⟩) (vs := pcs p) Try.underlying23 hi hz0 hz1 hz2 (by rfl) (by omega) hs hx (H.o9.grown hW) (by omega) (by rfl) (cr_two h0 h1) (pcs_one _) (by dsimp only; omega) (by dsimp only; omega) ?_
  intro r w2 hrn hr hg hbl
  have lt8 := H.o8.blk
  have lt9 := H.o9.blk
  rw [f2_snoc2] at hr
  refine h r w2 ⟨(H.o8.grown hW).chg (Chg.of hg (L := s9.blk.toList) (fun b hb => by rw [hb]; simp)) (fun b hb hm => ?_), hr, fun b hb h9 => ?_, grown_row0 (grown_trans H.gr hW) hg (fun b hb => (lt9 b hb).1)⟩ (fun A' o' u hn hc => hg.cell (hW.cell hc (by simp)) (fun e => hn e.symm))
  · cases h9 : s9.blk with
    | none => rw [h9] at hm; simp at hm
    | some b' =>
      rw [h9] at hm
      simp at hm
      subst hm
      exact H.ne b hb h9
  · rcases hbl b h9 with e | e
    · exact H.ne b hb e
    · have := (lt8 b hb).2; omega
end

/-- Two rows of pieces of the call's own. -/
def SplitEnd (p q : List Fm.Pc) (w : World) (e : Ending) (w' : World) : Prop :=
  ∃ r t : Sl, e = .returned (.tuple #[r.v, t.v]) ∧ OP w.heap.size w' r p ∧ OP w.heap.size w' t q ∧ w.grownBy w' none
set_option maxHeartbeats 2000000 in
theorem rsplit_any (s : Sl) (f : List Fm.Pc) (K0 : Int) (w : World) (h : FR w s f) (hp : Fm.Pos f) (hl : f.length ≤ 100000) (hv : Fm.vol f ≤ 1152921504606846976) (hK : 0 ≤ K0) (hK2 : K0 ≤ 1152921504606846976) :
    Calls Try.prog 24 #[s.v, .int .i64 K0] w (SplitEnd (Fm.mer ((Fm.lit f).take K0.toNat)) (Fm.mer ((Fm.lit f).drop K0.toNat)) w) := by
  obtain ⟨a, n, c⟩ := s
  have hlen := h.len
  have fit := h.fit
  dsimp only [Sl.fit] at hlen fit
  have HF := Lib.hid h
  have HP := Lib.hid hp
  have HV := Lib.hid (fun k => Fm.vol_take_le hp k)
  clear h hp
  unfold Sl.v
  dsimp only
  go_enter Try.func24, Try.ntmps24
  go_wp2
  go_loopw [1, 6, 7, 13] (fun li so so2 i wr => ∃ (k : Nat) (o t : Sl) (L : Int), li = .int .i64 L ∧ so = .slice o.a o.n o.c ∧ so2 = .slice t.a t.n t.c ∧ i = .int .i64 k ∧ k ≤ n ∧ Hid (L = Fm.left K0 (f.take k)) ∧ Hid (PR2 w wr o t (Fm.cutA K0 (f.take k)) (Fm.cutB K0 (f.take k)))) (fun _ _ _ i _ => n - (intOf i).toNat)
  case atStart => exact ⟨0, ⟨none, 0, 0⟩, ⟨none, 0, 0⟩, K0, rfl, rfl, rfl, rfl, by omega, Lib.hid (by simp [Fm.left]), Lib.hid ⟨or_nil _ _ _ _, or_nil _ _ _ _, fun b hb => (by cases hb), grown_refl _ _⟩⟩
  case round =>
    obtain ⟨k, ⟨oa, on, oc⟩, ⟨ta, tn, tc⟩, L, rfl, rfl, rfl, rfl, hk, LL, P⟩ := hrel
    dsimp only
    have on_ : on = min k n := by have := P.out.o8.fr.len; rw [(Fm.cut_len _ _).1, List.length_take] at this; dsimp only at this; omega
    have tn_ : tn = min k n := by have := P.out.o9.fr.len; rw [(Fm.cut_len _ _).2, List.length_take] at this; dsimp only at this; omega
    have on2 : on ≤ 100000 := by omega
    have tn2 : tn ≤ 100000 := by omega
    have ON := Lib.hid on_
    have TN := Lib.hid tn_
    clear on_ tn_
    by_cases hlt : k < n
    · obtain ⟨b, off, x0, y0, rfl, hp0, c0, c1⟩ := (HF.out.grown P.out.gr).at_ k hlt
      have hy := HP.out _ (Fm.getD_mem (f := f) (i := k) (by omega))
      rw [hp0] at hy
      dsimp only at hy
      have hy2 := HV.out (k + 1)
      rw [Fm.vol_next (by omega), hp0] at hy2
      dsimp only at hy2
      have hy3 := HV.out k
      have hL := Fm.left_range (f.take k) (HP.out.take k) K0 hK
      rw [← LL.out] at hL
      have E1 := Lib.hid (show L - min L y0 = Fm.left K0 (f.take (k + 1)) by rw [Fm.take_next (by omega), Fm.left_snoc, hp0, ← LL.out])
      have E2 := Lib.hid (show Fm.cutA K0 (f.take k) ++ [(x0, min L y0)] = Fm.cutA K0 (f.take (k + 1)) by rw [Fm.take_next (i := k) (by omega), Fm.cutA_snoc, hp0, ← LL.out])
      have E3 := Lib.hid (show Fm.cutB K0 (f.take k) ++ [(x0, y0 - min L y0)] = Fm.cutB K0 (f.take (k + 1)) by rw [Fm.take_next (i := k) (by omega), Fm.cutB_snoc, hp0, ← LL.out])
      clear hp0
      obtain ⟨m, hm⟩ : ∃ m, m = min L y0 := ⟨_, rfl⟩
      rw [← hm] at E1 E2 E3
      have hm2 : 0 ≤ m ∧ m ≤ L ∧ m ≤ y0 := by omega
      have HM := Lib.hid hm
      clear hm
      go_upto_region 5 with fail
      go_cut [10] (fun s10 wc => s10 = .int .i64 m ∧ wc = wr.alloc (.cells #[.int .i64 x0, .int .i64 y0] 38))
      case first =>
        by_cases hc : L ≤ y0
        · have e : m = L := by have := HM.out; omega
          subst e
          go_wp2
          go_meet
          case rel => exact ⟨rfl, rfl⟩
        · have e : m = y0 := by have := HM.out; omega
          subst e
          go_wp2
          go_meet
          case rel => exact ⟨rfl, rfl⟩
      case rest =>
        obtain ⟨rfl, rfl⟩ := hcut
        have PA := Lib.hid (show PR2 w (wr.alloc (.cells #[.int .i64 x0, .int .i64 y0] 38)) ⟨oa, on, oc⟩ ⟨ta, tn, tc⟩ (Fm.cutA K0 (f.take k)) (Fm.cutB K0 (f.take k)) from ⟨P.out.o8.grown (World.grownBy_alloc _ _ _), P.out.o9.grown (World.grownBy_alloc _ _ _), P.out.ne, grown_trans P.out.gr (World.grownBy_alloc _ _ _)⟩)
        have n8 : (⟨oa, on, oc⟩ : Sl).blk ≠ some wr.heap.size := fun e => by have := (P.out.o8.blk _ e).2; omega
        have n9 : (⟨ta, tn, tc⟩ : Sl).blk ≠ some wr.heap.size := fun e => by have := (P.out.o9.blk _ e).2; omega
        have N8 := Lib.hid n8
        have N9 := Lib.hid n9
        have sw := P.out.gr.size
        obtain ⟨wa, hwa⟩ : ∃ wa, wa = wr.alloc (.cells #[.int .i64 x0, .int .i64 y0] 38) := ⟨_, rfl⟩
        have d0 : wa.cell? ⟨wr.heap.size, 0, none⟩ = some (.int .i64 x0) := by rw [hwa]; simp
        have d1 : wa.cell? ⟨wr.heap.size, 1, none⟩ = some (.int .i64 y0) := by rw [hwa]; simp
        rw [← hwa] at PA ⊢
        clear hwa n8 n9 c0 c1
        generalize wr.heap.size = B at *
        have hwm : IntKind.i64.wrap (y0 - m) = y0 - m := IntWalk.i64_in _ (by omega)
        go_wp2
        go_region_held3 (fun w' => w'.cell? ⟨B, 0, none⟩ = some (.int .i64 x0) ∧ w'.cell? ⟨B, 1, none⟩ = some (.int .i64 y0))
          (first | go_keep | exact ⟨ho _ _ _ N8.out d0, ho _ _ _ N8.out d1⟩ | exact ⟨ho2 _ _ _ N9.out (ho _ _ _ N8.out d0), ho2 _ _ _ N9.out (ho _ _ _ N8.out d1)⟩ | fail)
          (first
            | (refine step8p rfl (.tmp 24) (.tmp 29) rfl PA.out (by rfl) _ (by rfl) (by first | exact grown_drew' (World.grownBy_alloc _ _ _) | exact grown_drew' (grown_trans (World.grownBy_alloc _ _ _) (World.grownBy_alloc _ _ _))) (x0, m) (by simp) (by simp) on2 ?_; intro r1 wq hh ho)
            | (refine step9p rfl (.tmp 31) (.tmp 39) rfl hh (by rfl) _ (by rfl) (by first | exact grown_refl _ _ | exact World.grownBy_alloc _ _ _) (x0, y0 - m) (by first | (simp; done) | exact hh.new _ _ _ (by simp) (by simp)) (by first | (simp; done) | exact hh.new _ _ _ (by simp) (by simp)) tn2 ?_; intro r2 wq2 hp ho2)
            | fail)
        all_goals
          have HP2 := Lib.hid hp
          obtain ⟨r1a, r1n, r1c⟩ := r1
          obtain ⟨r2a, r2n, r2c⟩ := r2
          rw [E2.out, E3.out] at HP2
          clear hp hh ho ho2 d0 d1 hwm
          dsimp only [Sl.v]
          go_wp2
          go_roundw
          case rel => exact ⟨k + 1, ⟨r1a, r1n, r1c⟩, ⟨r2a, r2n, r2c⟩, L - m, rfl, rfl, rfl, by go_num, by omega, E1, HP2⟩
          case measure => simp [intOf]; omega
    · obtain rfl : k = n := by omega
      have PP := P.out
      rw [List.take_of_length_le (by omega)] at PP
      have CP := Fm.cut_pos f HP.out K0 hK
      have CL := Fm.cut_lit f HP.out K0 hK
      have CN := Fm.cut_len f K0
      have VA := Fm.lit_len CP.1
      have VB := Fm.lit_len CP.2
      have VF := Fm.lit_len HP.out
      have vv : Fm.vol (Fm.cutA K0 f) ≤ 1152921504606846976 ∧ Fm.vol (Fm.cutB K0 f) ≤ 1152921504606846976 := by
        rw [CL.1, List.length_take] at VA
        rw [CL.2, List.length_drop] at VB
        omega
      have PP := Lib.hid PP
      have CP := Lib.hid CP
      have CL := Lib.hid CL
      have CN := Lib.hid CN
      have VV := Lib.hid vv
      clear VA VB VF vv P
      go_wp2_with fail
      refine (rjoined_any ⟨oa, on, oc⟩ (Fm.cutA K0 f) wr PP.out.o8.fr CP.out.1 (by rw [CN.out.1]; exact hl) VV.out.1).mono ?_
      rintro e w1 ⟨⟨ra, rn, rc⟩, rfl, hr, hg⟩
      have R1 := Lib.hid hr
      have G1 := Lib.hid hg
      clear hr hg
      dsimp only [Sl.v]
      go_wp2_with fail
      refine (rjoined_any ⟨ta, tn, tc⟩ (Fm.cutB K0 f) w1 (PP.out.o9.fr.grown G1.out) CP.out.2 (by rw [CN.out.2]; exact hl) VV.out.2).mono ?_
      rintro e w2 ⟨⟨qa, qn, qc⟩, rfl, hr, hg⟩
      have R2 := Lib.hid hr
      have G2 := Lib.hid hg
      clear hr hg
      dsimp only [Sl.v]
      go_wp2
      go_ret2
      have s0 := PP.out.gr.size
      have s1 := G1.out.size
      refine ⟨⟨ra, rn, rc⟩, ⟨qa, qn, qc⟩, rfl, ?_, ?_, grown_trans PP.out.gr (grown_trans G1.out G2.out)⟩
      · rw [← CL.out.1]; exact (R1.out.grown G2.out).base_ s0
      · rw [← CL.out.2]; exact R2.out.base_ (by omega)
end Go.Proofs.Ytafkagaakjfkoaa
