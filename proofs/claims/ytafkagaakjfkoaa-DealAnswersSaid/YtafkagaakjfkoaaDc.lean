/- Contract of the reference's Counts. -/
import Derived.Test.YtafkagaakjfkoaaDb
namespace Go.Proofs.Ytafkagaakjfkoaa
open Go.ChangeShapes Go.WideShapes Go.ChangeAt Go.RowKit

theorem ni_set (g : List Int) (i : Nat) (v : Int) : (ni g).set i (.int .i64 v) = ni (g.set i v) := by unfold ni; rw [List.map_set]
theorem made_ni (n : Nat) : (madeCells (Value.int .i64 0).cells (n * 1)).toList = ni (Dm.zeros n) := by
  rw [Nat.mul_one, show (Value.int .i64 0).cells = #[Value.int .i64 0] from rfl, toList_madeCells_one]
  simp [ni, Dm.zeros]
section
variable {w : World} {ops : Array Oper} {rest : List Oper} {o : Oper} {a : Act} {Q : Exit → Act → World → Prop}
/-- 'make([]int, n)'. -/
theorem wpList_mkn (hgd : o.guard = none) (lo co : Operand) (hop : o.op = Op.makeSlice 22 lo co) (n : Nat) (hl : a.eval lo = .int .i64 n) (hc : a.eval co = .int .i64 n) (hn : n ≤ 1000)
    (h : ∀ w', ON w.heap.size w' ⟨some ⟨w.heap.size, 0, none⟩, n, n⟩ (Dm.zeros n) → w.grownBy w' none → wpList Try.prog ops Q rest (a.put o.dst (.slice (some ⟨w.heap.size, 0, none⟩) n n)) w') : wpList Try.prog ops Q (o :: rest) a w := by
  obtain ⟨i, hi, hz, hs, hby⟩ := parts_n
  refine wpList_make_full w hgd lo co 22 hop w.heap.size 3 i (.int .i64 0) 1 Try.underlying22 hi hz hs .i64 .i64 n n n hl hc rfl rfl (by rw [hby]; omega) (by unfold maxLen; omega) (Nat.le_refl _) ?_
  intro w' ho hg
  rw [made_ni] at ho
  exact h w' ⟨ho⟩ hg
end
/-- Counts, where there is no error. -/
noncomputable def cntF (r : List Int) (k : Int) : List Int := if chk r k = 0 then Dm.cnt r k.toNat else []
/-- A row of numbers, and an error. -/
def NumEnd (l : List Int) (c : Int) (w : World) (e : Ending) (w' : World) : Prop := ∃ q : Sl, e = .returned (.tuple #[q.v, .int .i64 c]) ∧ NR w' q l ∧ w.grownBy w' none
theorem cnt_okg {r : List Int} {k : Int} (h : Rok r k) {d : Nat} (hd : (d : Int) ≤ k) : okg (Dm.cnt r d) := fun i hi => by
  have hl := Dm.cnt_len r d
  have h1 := (Dm.inv_cnt h.pos d).nn i
  have h2 := Dm.cnt_cap h.nn h.pos (k := d) (by have := h.k1; omega) i (by omega)
  have h3 := (h.ok i (by omega)).2
  omega

set_option maxHeartbeats 1000000 in
theorem rcounts_any (s : Sl) (r : List Int) (k : Int) (w : World) (h : NR w s r) : Calls Try.prog 15 #[s.v, .int .i64 k] w (NumEnd (cntF r k) (chk r k) w) := by
  have HF := Lib.hid h
  clear h
  by_cases hE : chk r k = 0
  · have ok := chk_ok.1 hE
    have OK := Lib.hid ok
    have F := Lib.hid (show cntF r k = Dm.cnt r k.toNat from if_pos hE)
    obtain ⟨K, rfl⟩ : ∃ K : Nat, k = K := ⟨k.toNat, by have := ok.k0; omega⟩
    obtain ⟨a, n, c⟩ := s
    have hlen := HF.out.len
    have fit := HF.out.fit
    have n64 := ok.len
    have kmax := ok.max
    have k1 := ok.k1
    dsimp only [Sl.fit] at hlen fit
    have HE := Lib.hid hE
    unfold Sl.v
    dsimp only
    rw [hE]
    clear hE ok
    go_enter Try.func15, Try.ntmps15
    go_wp2_with fail
    refine (rcheck_any ⟨a, n, c⟩ r K w HF.out).mono ?_
    rw [HE.out]
    rintro e w1 ⟨rfl, rfl⟩
    go_wp2_with (at_make; refine wpList_mkn rfl _ _ rfl n rfl rfl (by omega) ?_; intro w2 ho hg; have O2 := Lib.hid ho; have G2 := Lib.hid hg; clear ho hg)
    obtain ⟨G, hG⟩ : ∃ G, G = w1.heap.size := ⟨_, rfl⟩
    rw [← hG] at O2 ⊢
    have HG := Lib.hid hG
    clear hG
    go_loopw [1] (fun i wr => ∃ (j d : Nat), i = .int .i64 j ∧ d + j = K ∧ Hid (ON G wr ⟨some ⟨G, 0, none⟩, n, n⟩ (Dm.cnt r d)) ∧ Hid (w1.grownBy wr none)) (fun i _ => (intOf i).toNat)
    case atStart => exact ⟨K, 0, rfl, by omega, Lib.hid (by have := O2.out; rw [← hlen] at this ⊢; exact this), G2⟩
    case round =>
      obtain ⟨j, d, rfl, hd, O, GG⟩ := hrel
      by_cases hlt : 0 < j
      · have hj : (0 : Int) < (j : Int) := by omega
        obtain ⟨b, hb⟩ := Dm.next_is (g := Dm.cnt r d) OK.out.pos
        have hbn := (Dm.next_some hb).1
        have B := Lib.hid hb
        have NX := Lib.hid (rnext_any ⟨a, n, c⟩ ⟨some ⟨G, 0, none⟩, n, n⟩ r (Dm.cnt r d) wr (HF.out.grown GG.out) O.out.nr OK.out.ok (cnt_okg OK.out (by omega)) (Dm.cnt_len r d) (by omega))
        unfold Sl.v at NX
        dsimp only at NX
        rw [hb] at NX
        clear hb
        go_wp2_with fail
        refine NX.out.mono ?_
        rintro e w3 ⟨rfl, hg⟩
        have O3 := Lib.hid (O.out.grown hg)
        have G3 := Lib.hid (grown_trans GG.out hg)
        clear hg NX
        have c0 := O3.out.nr.got b (by omega)
        rw [Nat.zero_add] at c0
        have fz := O3.out.own.frozenAt b
        have bd := cnt_okg OK.out (d := d) (by omega) b (by rw [Dm.cnt_len]; exact hbn)
        have hbn2 : (b : Int) < (n : Int) := by omega
        have ST := Lib.hid (O3.out.stored b (.int .i64 ((Dm.cnt r d).getD b 0 + 1)))
        rw [ni_set, ← Dm.step_some B.out, ← Dm.cnt_succ] at ST
        obtain ⟨y, hy⟩ : ∃ y, y = (Dm.cnt r d).getD b 0 := ⟨_, rfl⟩
        rw [← hy] at c0 bd ST
        clear hy
        unfold nb
        dsimp only
        go_wp2
        have S2 := Lib.hid (grown_row0 G3.out ST.out.2 (fun b hb => by cases hb; have := HG.out; omega))
        go_roundw
        case rel => exact ⟨j - 1, d + 1, by go_num, by omega, Lib.hid ST.out.1, S2⟩
        case measure => simp [intOf]; omega
      · obtain rfl : j = 0 := by omega
        obtain rfl : d = K := by omega
        go_wp2
        go_ret2
        exact ⟨⟨some ⟨G, 0, none⟩, n, n⟩, rfl, by rw [F.out]; exact O.out.nr, GG.out⟩
  · have F := Lib.hid (show cntF r k = [] from if_neg hE)
    obtain ⟨E, hEE⟩ : ∃ E, E = chk r k := ⟨_, rfl⟩
    have hE0 : (E != 0) = true := by rw [hEE]; simp [hE]
    have HE := Lib.hid hEE
    rw [← hEE]
    clear hEE hE
    go_enter Try.func15, Try.ntmps15
    go_wp2_with fail
    refine (rcheck_any s r k w HF.out).mono ?_
    rw [← HE.out]
    rintro e w1 ⟨rfl, rfl⟩
    go_wp2
    go_ret2
    exact ⟨⟨none, 0, 0⟩, rfl, by rw [F.out]; exact NR.nil, grown_refl _ _⟩
end Go.Proofs.Ytafkagaakjfkoaa
