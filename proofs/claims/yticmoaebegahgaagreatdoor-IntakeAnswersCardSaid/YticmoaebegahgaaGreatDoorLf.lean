import Derived.Test.YticmoaebegahgaaGreatDoorLd
import Derived.Test.YticmoaebegahgaaGreatDoorLv
import Derived.Test.YticmoaebegahgaaGreatDoorKa
set_option linter.all false
namespace Go.Proofs.YticmoaebegahgaaGreatDoor.Iw
open Go.ChangeShapes Go.WideShapes Go.ChangeAt Go.RowKit
open Wr (IR RB iv ivs bv bvs grown_trans grown_refl grown_alloc ret_int ret_bool tv Ret ret_mk Made OwnEnd)
attribute [local go_sem] Oper.semAt_some
theorem step_appIn {F : Fence} {N : Nat} {P : Program} {w : World} {ops : Array Oper} {o : Oper} {a : Act} {Q : Exit → Act → World → Prop} {K : Act → World → Prop} {E : Prop} (hgd : o.guard = none) (s x : Operand) (t : TypeId) (ho : o.op = .call { callee := .builtin .append, args := #[s, x], argTypes := #[t, t] })
    {base : Nat} {e : TypeId} {i : TypeInfo} {z : Value} {k bytes : Nat} {S V : Sl} {us vs : List Value}
    (ht : P.underlying t = some (.slice e)) (hi : P.info? e = some i) (hz : i.zero = some z) (hsz : i.size = k) (hby : i.bytes = bytes) (hzs : z.cells.size = k) (hk : 0 < k)
    (hs : a.eval s = S.v) (hx : a.eval x = V.v) (own : OR base w e k S us) (hb0 : base ≤ w.heap.size) (hl : vs.length = V.n * k) (hv : CR w V vs) (h1 : ∀ u ∈ vs, u.oneCell' = true) (hb : (S.n + V.n) * bytes ≤ 140737488355328) (h63 : S.n + V.n ≤ 1000000000)
    (hq : ∀ (r : Sl) (w' : World), r.n = S.n + V.n → OR base w' e k r (us ++ vs) → w.grownBy w' S.blk → (∀ b, r.blk = some b → S.blk = some b ∨ b = w.heap.size) → K (a.put o.dst r.v) w') :
    if Region.wanted o (yielded ops a.tmps) = true then Oper.wpIn F N P o a w K Q else E := by
  have hw : Region.wanted o (yielded ops a.tmps) = true := by simp [Region.wanted, hgd]
  rw [if_pos hw]
  obtain ⟨r, w', hr, h2, h3, h4, h5⟩ := appV_run (P := P) t o.type ht hi hz hsz hby hzs hk own hb0 hl hv h1 hb h63
  unfold Oper.wpIn
  refine ⟨?_, ?_⟩
  · simp [Oper.about, ho, resolve, Target.leads, Sem.run_pure]
  · rw [Oper.semAt_plain F _ _ (by rw [ho]; intro c hc'; cases hc')]
    simp [execOp, ho, resolve, invoke, builtin, hs, hx, hr, Result.andThen]
    exact hq r w' h2 h3 h4 h5
theorem chg_kx {base : Nat} {X L : List Nat} {w w' : World} (h : Chg L w w') (k : KX base X w w') : Chg (L.filter fun b => decide (b ∉ X)) w w' :=
  ⟨h.os, h.tape, h.output, h.size, fun i hi hn => by
    by_cases hx : i ∈ X
    · exact k.2 i hi (.inr hx)
    · exact h.block i hi (fun hm => hn (List.mem_filter.2 ⟨hm, by simpa using hx⟩))⟩
theorem run_len {win : Int} (hw : 0 ≤ win ∧ win ≤ 16) (l : List Tm.Tg) : ∀ s, Im.SOk win s → (∀ t ∈ l, t.ok = true) → (Im.run win s l).2.length ≤ 17 * l.length := by
  induction l with
  | nil => intro s _ _; simp [Im.run]
  | cons t r ih =>
    intro s hs ha
    have ht := ha t (by simp)
    show ((Im.acc win s t).2 ++ (Im.run win (Im.acc win s t).1 r).2).length ≤ _
    rw [List.length_append, List.length_cons]
    rcases Im.acc_spec hw.1 hs ht with ⟨_, _, e⟩ | ⟨_, h, h2, _⟩
    · rw [e]
      have := ih s hs (fun x hx => ha x (by simp [hx]))
      simp only [List.length_nil]
      omega
    · have h3 := ih _ h (fun x hx => ha x (by simp [hx]))
      have h4 := take_len win ((Im.ent s t.st).getD (Im.new t)) t
      have h5 := (Im.ent_ok hw.1 hs ht).1.len
      rw [h2]
      omega
theorem gets_len (fs : List (List UInt8)) : (Im.gets fs).length ≤ fs.length := List.length_filterMap_le _ _
theorem lp_fin {w lo W0s Gx Bs sb B win T es0 fs L E ys D gs W} (h : Lp w lo W0s Gx Bs sb B win T es0 fs L E ys D gs W) {X : Nat} (hX : X + 2 = lo) {Wz Wf W5 : World} {T' : Sl} {tl' : List UInt8} (g1 : Chg [B] W Wz) (hT : OR lo Wz 5 1 T' (bvs tl')) (g2 : Chg [X + 1] Wz Wf) (np : Np Wf W5) :
    KS X W5 T' E ⟨win, tl', ys.map Prod.fst⟩ ∧ T'.n = tl'.length ∧ TRS X W5 D (gs.map Prod.fst) := by
  have hBL := h.st.bl
  have hX1 : X + 1 ∈ L := h.low _ (by omega)
  have hBl : lo ≤ B := h.st.bb
  have e1 : EO lo Wz L E ys := h.st.eo.step g1 (fun b hb => by rw [List.mem_singleton] at hb; subst hb; exact .inl hBL) (fun b hb => by rw [List.mem_singleton] at hb; subst hb; exact h.st.eb) (fun y hy b hb => by rw [List.mem_singleton] at hb; subst hb; exact h.st.yb y hy)
  have e2 : EO lo Wf L E ys := e1.step g2 (fun b hb => by rw [List.mem_singleton] at hb; subst hb; exact .inl hX1) (fun b hb e => by rw [List.mem_singleton] at hb; have := (e1.row.blk b e).1; omega) (fun y hy b hb e => by
    rw [List.mem_singleton] at hb
    obtain ⟨xs, _, k2, _⟩ := (e1.held y hy).row
    have := (k2.blk b e).1; omega)
  have e3 : EO lo W5 L E ys := np.ep e2
  have t3 : OR lo W5 5 1 T' (bvs tl') := np.or (hT.chg g2 (fun b hb hm => by rw [List.mem_singleton] at hm; have := (hT.blk b hb).1; omega))
  have d0 : OR lo Wz 28 6 D (f6 gs) := h.row.chg g1 (fun b hb hm => by rw [List.mem_singleton] at hm; subst hm; exact h.xo.xB (List.mem_cons_of_mem _ (by simpa using hb)))
  have d3 : OR lo W5 28 6 D (f6 gs) := np.or (d0.chg g2 (fun b hb hm => by rw [List.mem_singleton] at hm; have := (d0.blk b hb).1; omega))
  refine ⟨fun w' g => kr_of (win := win) t3 e3 g (fun b hb => ?_), ?_, ⟨gs, rfl, d3.base_ (by omega), fun y hy => ?_⟩⟩
  · have := List.mem_range.1 hb
    exact ⟨by omega, h.low b (by omega)⟩
  · have := t3.len; rw [Wr.bvs_len] at this; omega
  · have v1 := (h.vi y hy).step (L' := L) (g1.weak (fun b hb => by rw [List.mem_singleton] at hb; subst hb; exact hBL)) (fun b hb => .inl hb)
    have v2 := v1.step (L' := L) (g2.weak (fun b hb => by rw [List.mem_singleton] at hb; subst hb; exact hX1)) (fun b hb => .inl hb)
    exact (np.vi v2).less (fun b hb => h.low b (by have := List.mem_range.1 hb; omega))
noncomputable def feedF (k : Ik) (b : List UInt8) : Ik × List Tm.Tg × Int := (⟨k.win, (Im.feed k.win k.tail k.es b).1, (Im.feed k.win k.tail k.es b).2.1⟩, (Im.feed k.win k.tail k.es b).2.2, 0)
set_option maxRecDepth 100000 in
set_option maxHeartbeats 8000000 in
theorem feed_any (T E : Sl) (k : Ik) (A : Option Addr) (n c : Nat) (b : List UInt8) (w : World) (h : KR w T E k) (hk : k.ok = true) (hb : RB w A n b) (hc : n ≤ c) (hc2 : c ≤ 9223372036854775807) (hn : n ≤ 400000) (ht : Wr.Tabled w) :
    Calls Tryz.prog 20 #[iv3 k.win T E, .slice A n c] w (AccE (feedF k b) w) := by
  have hok := Ik.ok_iff.1 hk
  have HK := Hi h
  have HTN := Hi (show T.n ≤ 400 by have := h.tl.1; have := hok.2.1; omega)
  have CO := Hi (fun (W : World) (hW : KR W T E k) => copyof_any T E k W hW (by have := HTN.out; omega) (by have h1 := h.es.len; have h2 := hok.2.2.2.len; omega) (fun e he => by have h1 := (hok.2.2.2.all e he).len; have h2 := hok.1; omega))
  have IV := Hi (fun (W : World) (hW : KR W T E k) => isvalid_any T E k W hW (by have := HTN.out; omega))
  simp only [hk] at IV
  have HB := Hi hb
  have HT := Hi ht
  have HOK := Hi hok
  obtain ⟨win, tl, es⟩ := k
  obtain ⟨TA, tn, tc⟩ := T
  obtain ⟨EA, en, ec⟩ := E
  dsimp only [iv3, Sl.v] at *
  obtain ⟨X, hX⟩ : ∃ X, X = w.heap.size := ⟨_, rfl⟩
  obtain ⟨w1, hw1⟩ : ∃ w1, w1 = w.alloc (Obj.cells #[.int .i64 win, .slice TA tn tc, .slice EA en ec] 25) := ⟨_, rfl⟩
  obtain ⟨w2, hw2⟩ : ∃ w2, w2 = w1.alloc (Obj.cells #[.int .i64 0, .slice none 0 0, .slice none 0 0] 25) := ⟨_, rfl⟩
  have z1 : w1.heap.size = X + 1 := by subst hw1; subst hX; simp
  have z2 : w2.heap.size = X + 2 := by subst hw2; simp [z1]
  have g1 : w.grownBy w1 none := by subst hw1; exact grown_alloc _ _ _
  have g2 : w1.grownBy w2 none := by subst hw2; exact grown_alloc _ _ _
  have G2 := Hi (grown_trans g1 g2)
  have BS := Hi (show Tri w2 X (.int .i64 win) (.slice TA tn tc) (.slice EA en ec) from (show Tri w1 X _ _ _ by subst hw1; subst hX; exact tri_made _ _ _ _ _).grown g2)
  have BR := Hi (show Tri w2 (X + 1) (.int .i64 0) (.slice none 0 0) (.slice none 0 0) by subst hw2; rw [← z1]; exact tri_made _ _ _ _ _)
  have HX0 := Hi hX
  have Z2 := Hi z2
  have BR2 := Hi BR.out
  clear g1 g2 h hb ht hok
  obtain ⟨⟨s0, s1, s2⟩, -⟩ := BS.out
  refine (callsIn_wide (n := 5)).1 (callsIn_of_wp_marks Tryz.func20 rfl trivial (wpIn_wide.2 ?_) rfl)
  simp only [Tryz.ntmps20, List.size_toArray, List.length_cons, List.length_nil, Nat.reduceAdd, Nat.reduceSub, Array.replicate_succ, Array.replicate_zero, List.push_toArray, List.append_toArray, List.nil_append, List.cons_append]
  go_wp2_with fail
  rw [← hw1, ← hw2]
  simp only [← hX]
  try simp only [z1]
  clear hw1 hw2 hX
  refine (CO.out _ (HK.out.grown G2.out)).mono ?_
  rintro e w4 ⟨T', E', L, ys, rfl, hT', hTL, hys, hEO, hLo, g4⟩
  dsimp only at hT' hys
  obtain ⟨ta, tn', tc'⟩ := T'
  obtain ⟨ea, en', ec'⟩ := E'
  obtain ⟨B, hBw⟩ : ∃ B, B = w4.heap.size := ⟨_, rfl⟩
  obtain ⟨w5, hw5⟩ : ∃ w5, w5 = w4.alloc (Obj.cells #[.int .i64 win, .slice ta tn' tc', .slice ea en' ec'] 25) := ⟨_, rfl⟩
  have g5 : w4.grownBy w5 none := by subst hw5; exact grown_alloc _ _ _
  have BN := Hi (show Tri w5 B (.int .i64 win) (.slice ta tn' tc') (.slice ea en' ec') by subst hw5; subst hBw; exact tri_made _ _ _ _ _)
  have z5 : w5.heap.size = B + 1 := by subst hw5; subst hBw; simp
  have G5 := Hi (grown_trans G2.out (grown_trans g4 g5))
  have H5 := Hi (grown_trans g4 g5)
  have hs4 := g4.size
  have hlB : ∀ b ∈ L, b < B := fun b hb => by have := hEO.new b hb; omega
  have T5 := Hi (hT'.grown g5)
  have ST5 := Hi (show St w2.heap.size w5 (B :: L) B win ⟨ta, tn', tc'⟩ ⟨ea, en', ec'⟩ ys from
    ⟨BN.out, ⟨hEO.row.grown g5, (fun y hy => (hEO.held y hy).step (M := []) (Chg.of0 g5) (fun _ _ h => by cases h) (fun _ h => by cases h) (fun b hb => by
      rcases List.mem_cons.1 hb with rfl | hb
      · exact .inr (by omega)
      · exact .inl hb)), (fun y hy b hb => List.mem_cons_of_mem _ (hEO.sub y hy b hb)), (fun b hb => List.mem_cons_of_mem _ (hEO.rowin b hb)), hEO.apart, hEO.pair, (fun b hb => by
      rcases List.mem_cons.1 hb with rfl | hb
      · exact BN.out.lt
      · exact Nat.lt_of_lt_of_le (hEO.new b hb) g5.size)⟩, List.mem_cons_self, (fun e => by have := hlB B (hEO.rowin B e); omega), (fun y hy e => by have := hlB B (hEO.sub y hy B e); omega), by rw [hys]; exact HOK.out.2.2.2, HOK.out.1, Nat.le_trans g4.size g5.size, by omega⟩)
  have HYS := Hi hys
  have HLL := Hi (show (∀ b ∈ B :: L, b ≤ B) ∧ (∀ b, b < w2.heap.size → b ∈ B :: L) ∧ (∀ b, Sl.blk ⟨ta, tn', tc'⟩ = some b → b ∉ B :: L) from
    ⟨fun b hb => by
      rcases List.mem_cons.1 hb with rfl | hb
      · omega
      · have := hlB b hb; omega, fun b hb => List.mem_cons_of_mem _ (hLo b hb), fun b hb hm => by
      rcases List.mem_cons.1 hm with rfl | hm
      · have := (hT'.blk _ hb).2; omega
      · exact hTL b hb hm⟩)
  have BS := Hi (BS.out.grown (grown_trans g4 g5))
  have ZB := Hi (show X + 2 ≤ B by omega)
  have Z5 := Hi z5
  obtain ⟨⟨s0, s1, s2⟩, -⟩ := BS.out
  clear hT' hTL hys hEO hLo g4 g5 z1 z2 z5 hs4 hlB
  have s0a : (w4.alloc (Obj.cells #[.int .i64 win, .slice ta tn' tc', .slice ea en' ec'] 25)).cell? ⟨X, 0, none⟩ = some (.int .i64 win) := by rw [← hw5]; exact s0
  have s1a : (w4.alloc (Obj.cells #[.int .i64 win, .slice ta tn' tc', .slice ea en' ec'] 25)).cell? ⟨X, 1, none⟩ = some (.slice TA tn tc) := by rw [← hw5]; exact s1
  have s2a : (w4.alloc (Obj.cells #[.int .i64 win, .slice ta tn' tc', .slice ea en' ec'] 25)).cell? ⟨X, 2, none⟩ = some (.slice EA en ec) := by rw [← hw5]; exact s2
  dsimp only [iv3, Sl.v]
  go_wp2_with fail
  rw [← hw5]
  simp only [← hBw]
  clear hw5 hBw s0a s1a s2a
  refine (IV.out w5 (HK.out.grown G5.out)).mono ?_
  rintro e w6 ⟨rfl, g6⟩
  have G6 := Hi (grown_trans G5.out g6)
  have H6 := Hi (grown_trans H5.out g6)
  have s1 := g6.cell s1 (by simp)
  have ST6 := Hi (ST5.out.step (M := []) (Chg.of0 g6) (fun _ h => by cases h) (fun h => by cases h) (fun _ _ h => by cases h) (fun _ _ _ _ h => by cases h) (fun _ h => h) (fun _ h => .inl h))
  have T6 := Hi (T5.out.grown g6)
  have Z6 := Hi (show B + 1 ≤ w6.heap.size by have := Z5.out; have := g6.size; omega)
  clear g6 ST5 T5 BS s0 s2 BN CO IV H5 BR
  obtain ⟨w7, hw7⟩ : ∃ w7, w7 = w6.alloc (Obj.cells #[.slice TA tn tc, .slice A n c] 22) := ⟨_, rfl⟩
  obtain ⟨Q, hQ⟩ : ∃ Q, Q = w6.heap.size := ⟨_, rfl⟩
  have g7 : w6.grownBy w7 none := by subst hw7; exact grown_alloc _ _ _
  have z7 : w7.heap.size = Q + 1 := by subst hw7; subst hQ; simp
  have q0 : w7.cell? ⟨Q, 0, none⟩ = some (.slice TA tn tc) := by subst hw7; subst hQ; go_simp
  have q1 : w7.cell? ⟨Q, 1, none⟩ = some (.slice A n c) := by subst hw7; subst hQ; go_simp
  have G7 := Hi (grown_trans G6.out g7)
  have CC := Hi (concat_b Q 2 TA A tn tc n c tl b w7 q0 q1 (HK.out.tl.grown G7.out) (HB.out.grown G7.out) (by have := HTN.out; omega) hn)
  clear q0 q1
  go_wp2_with fail
  rw [← hw7]
  simp only [← hQ]
  clear hw7
  refine CC.out.mono ?_
  rintro e w8 ⟨SA, SN, SC, rfl, hm8⟩
  have M8 := Hi hm8
  have g8 : w6.grownBy w8 none := grown_trans g7 hm8.gr
  have G8 := Hi (grown_trans G6.out g8)
  have HSN := Hi (show tn + n = SN ∧ (tl ++ b).length = SN by have h1 := hm8.len; have h2 := HK.out.tl.1; have h3 := HB.out.1; rw [List.length_append] at h1 ⊢; dsimp only at h2; omega)
  have ZQ := Hi (show B < Q ∧ w7.heap.size = Q + 1 by have := Z6.out; omega)
  clear hm8 CC z7
  obtain ⟨sb, hsb, hsb2, hsb3⟩ : ∃ sb, (0 < SN → SA = some ⟨sb, 0, none⟩) ∧ B < sb ∧ sb < w8.heap.size := by
    have h1 := ZQ.out
    have h2 := M8.out.gr.size
    rcases Nat.eq_zero_or_pos SN with h0 | h0
    · exact ⟨Q, fun e => by omega, by omega, by omega⟩
    · obtain ⟨g, e1, e2, e3⟩ := M8.out.shape.2.2 h0
      exact ⟨g, fun _ => e1, by omega, e3⟩
  have HSB := Hi hsb
  have HS2 := Hi (And.intro hsb2 hsb3)
  have SHP := Hi (show SN ≤ SC ∧ SC ≤ 9223372036854775807 from ⟨M8.out.shape.1, M8.out.shape.2.1⟩)
  clear hsb hsb2 hsb3 hQ
  obtain ⟨w9, hw9⟩ : ∃ w9, w9 = w8.alloc (Obj.cells #[.slice none 0 0] 30) := ⟨_, rfl⟩
  obtain ⟨Gx, hGx⟩ : ∃ Gx, Gx = w8.heap.size := ⟨_, rfl⟩
  have g9 : w8.grownBy w9 none := by subst hw9; exact grown_alloc _ _ _
  have z9 : w9.heap.size = Gx + 1 := by subst hw9; subst hGx; simp
  have bx : w9.cell? ⟨Gx, 0, none⟩ = some (.slice none 0 0) ∧ w9.frozen? ⟨Gx, 0, none⟩ = false := by
    subst hw9; subst hGx; exact ⟨by go_simp, by go_simp⟩
  have BX := Hi bx
  clear bx
  go_wp2_with fail
  rw [← hw9]
  simp only [← hGx]
  clear hw9
  refine (framesof_any SA SN SC w9).mono ?_
  rintro e w10 ⟨rfl, hw10⟩
  simp only [z9]
  go_wp2_with fail
  have hB0 : w10.cell? ⟨Gx + 1, 0, none⟩ = some (.slice SA SN SC) := by subst hw10; rw [← z9]; go_simp
  have g10 : w9.grownBy w10 none := by subst hw10; exact grown_alloc _ _ _
  have z10 : w10.heap.size = Gx + 2 := by subst hw10; simp [z9]
  have H10 := Hi (grown_trans H6.out (grown_trans g8 (grown_trans g9 g10)))
  have G810 := Hi (grown_trans g9 g10)
  have G610 := Hi (grown_trans g8 (grown_trans g9 g10))
  have hcs : ∀ j, j < SN → w10.cell? ⟨sb, 0 + j, none⟩ = some (.int .u8 (((tl ++ b).getD j 0).toNat : Int)) := fun j hj => by
    obtain ⟨b', off, e1, e2⟩ := M8.out.rb.2 j hj
    rw [HSB.out (by omega)] at e1
    injection e1 with e1
    injection e1 with e1 e3 _
    subst e1; subst e3
    exact G810.out.cell e2 (by simp)
  have hZ := ZQ.out
  have hS2 := HS2.out
  have hZB := ZB.out
  have hZ2 := Z2.out
  have hX0 := HX0.out
  have hG8 := M8.out.gr.size
  have L10 : Lp w2 w2.heap.size w10.heap.size Gx (Gx + 1) sb B win ⟨ta, tn', tc'⟩ es [] (Gx :: B :: L) ⟨ea, en', ec'⟩ ys nilS [] w10 := by
    refine ⟨H10.out, ST6.out.step (M := []) (Chg.of0 G610.out) (fun _ h => by cases h) (fun h => by cases h) (fun _ _ h => by cases h) (fun _ _ _ _ h => by cases h) (fun b hb => List.mem_cons_of_mem _ hb) (fun b hb => ?_), HYS.out, ⟨g10.cell BX.out.1 (by simp), Wr.grown_frozen g10 BX.out.1 BX.out.2 (by simp)⟩, or_nil _ _ _ _, rfl, (fun y hy => by cases hy), (fun b hb => by cases hb), List.mem_cons_self, (fun e => by cases e), ⟨fun b hb hm => ?_, fun y hy b hb hm => ?_, fun b hm => ?_, fun hm => ?_⟩, fun b hb h0 => ?_, fun b hb => ?_, ⟨Nat.le_refl _, by omega, by omega, Nat.le_refl _⟩, fun b hb => List.mem_cons_of_mem _ (HLL.out.2.1 b hb), ⟨by omega, by omega⟩⟩
    · rcases List.mem_cons.1 hb with rfl | hb
      · have := M8.out.gr.size; have := g7.size; exact .inr ⟨by omega, by omega⟩
      · exact .inl hb
    · have h1 := HLL.out.1 b (ST6.out.eo.rowin b hb)
      have h2 : b = Gx := by simpa [nilS, Sl.blk] using hm
      omega
    · have h1 := HLL.out.1 b (ST6.out.eo.sub y hy b hb)
      have h2 : b = Gx := by simpa [nilS, Sl.blk] using hm
      omega
    · have h2 : b = Gx := by simpa [nilS, Sl.blk] using hm
      omega
    · have h2 : B = Gx := by simpa [nilS, Sl.blk] using hm
      omega
    · exfalso
      rcases List.mem_cons.1 hb with e | hb
      · omega
      · have := HLL.out.1 b hb; omega
    · rcases List.mem_cons.1 hb with e | hb
      · omega
      · have := HLL.out.1 b hb; omega
  have LP := Hi L10
  clear L10 g10 g9 g8 g7 hZ hZB hG8
  have HGx := Hi hGx
  have HB0 := Hi hB0
  have Z10 := Hi z10
  clear hX0 hZ2 z9 hw10 hGx z10 s1 s0 s2 hS2
  refine wpIn_wide.1 (wpIn_rangeFunc_ownG (n := 5) (F := Fence.wide) rfl (by omega) (gf := 48) (lb := #[.pointer (some ⟨Gx + 1, 0, none⟩)]) rfl trivial (enters_of Tryz.func48 (by kernel_rfl) rfl)
    (frames_stops 4 (by omega) (Gx + 1) sb 0 SN SC SA (tl ++ b) HSN.out.2 SHP.out.1 (by have := HSN.out; have := HTN.out; omega) w10 hB0 HSB.out hcs) (fun h k => h.trans k) (fun W l o o' _ h ho _ => kb_b W l o o' h ho) (Below.refl _ _) (fun _ => rfl)
    (fun pre W => (∃ (L : List Nat) (E : Sl) (ys : List EV) (D : Sl) (gs : List TV), Lp w2 w2.heap.size w10.heap.size Gx (Gx + 1) sb B win ⟨ta, tn', tc'⟩ es (pre.map fun x => ix (tl ++ b) x.1) L E ys D gs W) ∧ ∀ j, j < SN → W.cell? ⟨sb, 0 + j, none⟩ = some (.int .u8 (((tl ++ b).getD j 0).toNat : Int)))
    (fun _ _ _ => False)
    (fun s W W' row hs hg hr => by
      obtain ⟨⟨L, E, ys, D, gs, hL⟩, hc⟩ := hs
      exact ⟨⟨L, E, ys, D, gs, hL.np hg hr⟩, fun j hj => cell_kept (hc j hj) hg (fun r e => (hr r e).2)⟩)
    (fun _ _ _ _ _ hs _ _ => hs)
    ⟨⟨_, _, _, _, _, LP.out⟩, hcs⟩
    (fun x => { tmps := #[.agg #[.int .i64 win, .slice TA tn tc, .slice EA en ec], .slice A n c, .pointer (some ⟨X, 0, none⟩), undef, .pointer (some ⟨X + 1, 0, none⟩), .slice none 0 0, .int .i64 0, .pointer (some ⟨B, 0, none⟩), .slice SA SN SC, .pointer (some ⟨Gx, 0, none⟩), .slice (some ⟨sb, 0 + x.1.1, none⟩) (x.1.2 - x.1.1) (SC - x.1.1), undef,
      .agg #[.int .i64 win, .slice TA tn tc, .slice EA en ec], .agg #[.int .i64 win, .slice ta tn' tc', .slice ea en' ec'], .agg #[.int .i64 win, .slice TA tn tc, .slice EA en ec], .bool true, .bool false, undef, .pointer (some ⟨X, 1, none⟩), .slice TA tn tc, .slice A n c, .slice (some ⟨Q, 0, none⟩) 2 2, .slice SA SN SC, .slice SA SN SC, .func (.func 48) #[] #[.pointer (some ⟨Gx + 1, 0, none⟩)],
      .slice (some ⟨sb, 0 + x.1.1, none⟩) (x.1.2 - x.1.1) (SC - x.1.1), undef, undef, undef, undef, undef, undef, undef, undef, undef, undef, undef, undef, undef, undef, undef], defers := [] }) ?assign ?body ?done ?stop)
  case assign =>
    intro l x W K hK
    dsimp only [enx]
    simp only [Nat.zero_add] at hK ⊢
    gi_wp2
    exact hK
  case body =>
    rintro r pre x W ⟨⟨L1, E1, ys1, D1, gs1, LW⟩, hcW⟩ hlt
    gi_wp2
    have hij := x.2
    obtain ⟨i, hi⟩ : ∃ i, i = x.val.1 := ⟨_, rfl⟩
    obtain ⟨j, hj⟩ : ∃ j, j = x.val.2 := ⟨_, rfl⟩
    have HXX := Hi (show ix (tl ++ b) x.1 = ix (tl ++ b) (i, j) by rw [hi, hj])
    simp only [← hi, ← hj] at hij ⊢
    obtain ⟨da, dn, dc⟩ := D1
    clear hi hj
    have hg := Wr.grown_drew W none
    have LD := Hi (LW.grown hg)
    have HN := Hi HSN.out
    have hlen : (tl ++ b).length = SN := HSN.out.2
    have hM0 : i < j ∧ j ≤ SN := hij
    have hRB : RB W.drew (some ⟨sb, i, none⟩) (j - i) (ix (tl ++ b) (i, j)) := by
      refine ⟨by unfold ix; rw [List.length_drop, List.length_take]; omega, fun q hq => ⟨sb, i, rfl, ?_⟩⟩
      have h1 := hcW (i + q) (by omega)
      rw [Nat.zero_add] at h1
      have e1 : (ix (tl ++ b) (i, j)).getD q 0 = (tl ++ b).getD (i + q) 0 := by
        unfold ix
        simp only [List.getD_eq_getElem?_getD, List.getElem?_drop, List.getElem?_take]
        rw [if_pos (by omega)]
      rw [e1]
      exact hg.cell h1 (by simp)
    have AF := Hi (acceptframe_any w2.heap.size (Gx :: (Sl.blk ⟨da, dn, dc⟩).toList) L1 B win ⟨ta, tn', tc'⟩ E1 ys1 (some ⟨sb, i, none⟩) (j - i) (SC - i) (ix (tl ++ b) (i, j)) W.drew LD.out.st LD.out.xo hRB (by have := SHP.out; omega) (by have := SHP.out; omega) (by have := HSN.out; have := HTN.out; omega) ((HT.out.grown G2.out).grown LD.out.g))
    have hc2 : ∀ q, q < SN → W.drew.cell? ⟨sb, 0 + q, none⟩ = some (.int .u8 (((tl ++ b).getD q 0).toNat : Int)) := fun q hq => hg.cell (hcW q hq) (by simp)
    have HCW := Hi hc2
    have KD : KeepsFrom w10.heap.size W W.drew ∧ KB [Gx + 1, sb] W W.drew := ⟨(KeepsOthers.drew W).from _, fun a v _ hv => hg.cell hv (by simp)⟩
    have HKD := Hi KD
    have bx := LD.out.box.1
    dsimp only [Sl.v] at bx
    have HIJ := Hi hM0
    clear hRB hcW hc2 LW hg KD hM0 hlen
    refine wpIn_region_any (by kernel_rfl) ?_
    change wpAnyIn _ _ _ _ _ _ _ _ _ (World.drew _)
    generalize W.drew = WD at *
    refine wpAnyIn_ready (rs := [0, 1]) (by kernel_rfl) (by simp) ?_
    refine AllReadyIn.cons rfl (fun K hK => ?_) (AllReadyIn.cons rfl (fun K hK => ?_) AllReadyIn.nil)
    · go_simp
      refine hK _ _ ?_
      clear hK K
      refine wpAnyIn_ready (rs := [1]) (by kernel_rfl) (by simp) ?_
      refine AllReadyIn.cons rfl (fun K hK => ?_) AllReadyIn.nil
      go_simp
      refine hK _ _ ?_
      clear hK K
      refine wpAnyIn_ready (rs := [2]) (by kernel_rfl) (by simp) ?_
      refine AllReadyIn.cons rfl (fun K hK => ?_) AllReadyIn.nil
      go_simp
      refine ⟨trivial, (CallsIn.inRound r (callsIn_wide.2 AF.out)).mono ?_⟩
      rintro e W1 ⟨L2, E2, G, zs, rfl, h1, h2, hG, h4, h5, h6, h7, h8, h9⟩
      refine hK _ _ ?_
      clear hK K
      obtain ⟨dx, hdx, hdo, hdv, hdn⟩ := hG.off
      obtain ⟨ga, gn, gc⟩ := G
      dsimp only [Sl.v]
      have bx1 : W1.cell? ⟨Gx, 0, none⟩ = some (.slice da dn dc) := by
        rw [World.cell?_of_block (h7.2 Gx (World.block_lt_of_cell? _ _ bx) (.inr List.mem_cons_self))]
        exact bx
      have hD1 : OR w2.heap.size W1 28 6 ⟨da, dn, dc⟩ (f6 gs1) := LD.out.row.chg (chg_kx h6 h7) (fun b hb hm => by
        have h10 := (List.mem_filter.1 hm).2
        simp only [decide_eq_true_eq] at h10
        exact h10 (List.mem_cons_of_mem _ (by simpa using hb)))
      have hdx17 : gn ≤ 17 := by
        have e1 := run_len LD.out.st.w0 (Im.gets [ix (tl ++ b) (i, j)]) _ LD.out.st.ok (Im.gets_ok _)
        have e2 := gets_len [ix (tl ++ b) (i, j)]
        have e3 := hG.len
        dsimp only at e3
        simp only [List.length_singleton] at e2
        omega
      have hdn17 : dn ≤ 17 * 400400 := by
        have e1 := run_len HOK.out.1 (Im.gets (pre.map fun x => ix (tl ++ b) x.1)) es HOK.out.2.2.2 (Im.gets_ok _)
        have e2 := gets_len (pre.map fun x => ix (tl ++ b) x.1)
        have e3 := congrArg List.length LD.out.gs_
        have e4 := LD.out.row.len
        rw [f6_len] at e4
        dsimp only at e4
        rw [List.length_map] at e2 e3
        have e5 := HSN.out.1
        have e6 := HTN.out
        omega
      obtain ⟨I, hI, hz, hsz, hby⟩ := parts_t
      refine wpAnyIn_ready (rs := [3]) (by kernel_rfl) (by simp) ?_
      refine AllReadyIn.cons rfl (fun K hK => ?_) AllReadyIn.nil
      refine step_appIn rfl (.tmp 26) (.tmp 28) 30 rfl (S := ⟨da, dn, dc⟩) (V := ⟨ga, gn, gc⟩) Tryz.underlying30 hI hz hsz hby (by rfl) (by omega) rfl rfl hD1 h1.hb (hdo.len) hdo.cr (f6_one dx) (by dsimp only; omega) (by dsimp only; omega) ?_
      intro r2 W2 hrn hr2 hg2 hrb2
      clear hrn
      refine hK _ _ ?_
      clear hK K
      obtain ⟨L3, hLp, hKF, hKB⟩ := LD.out.step h1 h2 hdx hdv h4 h5 h6 h7 h8 hr2 hg2 hrb2
      have bx2 : W2.cell? ⟨Gx, 0, none⟩ = some (.slice da dn dc) := hg2.cell bx1 (fun e => LD.out.dg e.symm)
      have fz2 : W2.frozen? ⟨Gx, 0, none⟩ = false := by
        have hlt2 : Gx < WD.heap.size := World.block_lt_of_cell? _ _ bx
        have hlt3 : Gx < W1.heap.size := World.block_lt_of_cell? _ _ bx1
        rw [World.frozen?_of_block (a := ⟨Gx, 0, none⟩) ((hg2.block Gx hlt3 (fun e => LD.out.dg e.symm)).trans (h7.2 Gx hlt2 (.inr List.mem_cons_self)))]
        exact LD.out.box.2
      obtain ⟨ra, rn, rc⟩ := r2
      dsimp only [Sl.v] at hLp hKF hKB ⊢
      refine wpAnyIn_ready (rs := [4]) (by kernel_rfl) (by simp) ?_
      refine AllReadyIn.cons rfl (fun K hK => ?_) AllReadyIn.nil
      go_simp
      refine hK _ _ ?_
      clear hK K
      refine wpAnyIn_done (by kernel_rfl) ?_ _
      have hfin : KeepsFrom w10.heap.size W (W2.setCell ⟨Gx, 0, none⟩ (.slice ra rn rc)) ∧ KB [Gx + 1, sb] W (W2.setCell ⟨Gx, 0, none⟩ (.slice ra rn rc)) ∧ (∃ (L : List Nat) (E : Sl) (ys : List EV) (D : Sl) (gs : List TV), Lp w2 w2.heap.size w10.heap.size Gx (Gx + 1) sb B win ⟨ta, tn', tc'⟩ es ((pre ++ [x]).map fun x => ix (tl ++ b) x.1) L E ys D gs (W2.setCell ⟨Gx, 0, none⟩ (.slice ra rn rc))) ∧ ∀ j, j < SN → (W2.setCell ⟨Gx, 0, none⟩ (.slice ra rn rc)).cell? ⟨sb, 0 + j, none⟩ = some (.int .u8 (((tl ++ b).getD j 0).toNat : Int)) := by
        refine ⟨HKD.out.1.trans hKF, HKD.out.2.trans hKB, ⟨L3, E2, zs, ⟨ra, rn, rc⟩, gs1 ++ dx, ?_⟩, fun q hq => hKB _ _ (by simp) (HCW.out q hq)⟩
        rw [List.map_append, List.map_cons, List.map_nil, HXX.out]
        exact hLp
      have HF := Hi hfin
      clear hfin
      gi_wp2
      exact ⟨HF.out.1, HF.out.2.1, by simpa using HF.out.2.2⟩
    · go_simp
      refine hK _ _ ?_
      clear hK K
      refine wpAnyIn_ready (rs := [0, 2]) (by kernel_rfl) (by simp) ?_
      refine AllReadyIn.cons rfl (fun K hK => ?_) (AllReadyIn.cons rfl (fun K hK => ?_) AllReadyIn.nil)
      · go_simp
        refine hK _ _ ?_
        clear hK K
        refine wpAnyIn_ready (rs := [2]) (by kernel_rfl) (by simp) ?_
        refine AllReadyIn.cons rfl (fun K hK => ?_) AllReadyIn.nil
        go_simp
        refine ⟨trivial, (CallsIn.inRound r (callsIn_wide.2 AF.out)).mono ?_⟩
        rintro e W1 ⟨L2, E2, G, zs, rfl, h1, h2, hG, h4, h5, h6, h7, h8, h9⟩
        refine hK _ _ ?_
        clear hK K
        obtain ⟨dx, hdx, hdo, hdv, hdn⟩ := hG.off
        obtain ⟨ga, gn, gc⟩ := G
        dsimp only [Sl.v]
        have bx1 : W1.cell? ⟨Gx, 0, none⟩ = some (.slice da dn dc) := by
          rw [World.cell?_of_block (h7.2 Gx (World.block_lt_of_cell? _ _ bx) (.inr List.mem_cons_self))]
          exact bx
        have hD1 : OR w2.heap.size W1 28 6 ⟨da, dn, dc⟩ (f6 gs1) := LD.out.row.chg (chg_kx h6 h7) (fun b hb hm => by
          have h10 := (List.mem_filter.1 hm).2
          simp only [decide_eq_true_eq] at h10
          exact h10 (List.mem_cons_of_mem _ (by simpa using hb)))
        have hdx17 : gn ≤ 17 := by
          have e1 := run_len LD.out.st.w0 (Im.gets [ix (tl ++ b) (i, j)]) _ LD.out.st.ok (Im.gets_ok _)
          have e2 := gets_len [ix (tl ++ b) (i, j)]
          have e3 := hG.len
          dsimp only at e3
          simp only [List.length_singleton] at e2
          omega
        have hdn17 : dn ≤ 17 * 400400 := by
          have e1 := run_len HOK.out.1 (Im.gets (pre.map fun x => ix (tl ++ b) x.1)) es HOK.out.2.2.2 (Im.gets_ok _)
          have e2 := gets_len (pre.map fun x => ix (tl ++ b) x.1)
          have e3 := congrArg List.length LD.out.gs_
          have e4 := LD.out.row.len
          rw [f6_len] at e4
          dsimp only at e4
          rw [List.length_map] at e2 e3
          have e5 := HSN.out.1
          have e6 := HTN.out
          omega
        obtain ⟨I, hI, hz, hsz, hby⟩ := parts_t
        refine wpAnyIn_ready (rs := [3]) (by kernel_rfl) (by simp) ?_
        refine AllReadyIn.cons rfl (fun K hK => ?_) AllReadyIn.nil
        refine step_appIn rfl (.tmp 26) (.tmp 28) 30 rfl (S := ⟨da, dn, dc⟩) (V := ⟨ga, gn, gc⟩) Tryz.underlying30 hI hz hsz hby (by rfl) (by omega) rfl rfl hD1 h1.hb (hdo.len) hdo.cr (f6_one dx) (by dsimp only; omega) (by dsimp only; omega) ?_
        intro r2 W2 hrn hr2 hg2 hrb2
        clear hrn
        refine hK _ _ ?_
        clear hK K
        obtain ⟨L3, hLp, hKF, hKB⟩ := LD.out.step h1 h2 hdx hdv h4 h5 h6 h7 h8 hr2 hg2 hrb2
        have bx2 : W2.cell? ⟨Gx, 0, none⟩ = some (.slice da dn dc) := hg2.cell bx1 (fun e => LD.out.dg e.symm)
        have fz2 : W2.frozen? ⟨Gx, 0, none⟩ = false := by
          have hlt2 : Gx < WD.heap.size := World.block_lt_of_cell? _ _ bx
          have hlt3 : Gx < W1.heap.size := World.block_lt_of_cell? _ _ bx1
          rw [World.frozen?_of_block (a := ⟨Gx, 0, none⟩) ((hg2.block Gx hlt3 (fun e => LD.out.dg e.symm)).trans (h7.2 Gx hlt2 (.inr List.mem_cons_self)))]
          exact LD.out.box.2
        obtain ⟨ra, rn, rc⟩ := r2
        dsimp only [Sl.v] at hLp hKF hKB ⊢
        refine wpAnyIn_ready (rs := [4]) (by kernel_rfl) (by simp) ?_
        refine AllReadyIn.cons rfl (fun K hK => ?_) AllReadyIn.nil
        go_simp
        refine hK _ _ ?_
        clear hK K
        refine wpAnyIn_done (by kernel_rfl) ?_ _
        have hfin : KeepsFrom w10.heap.size W (W2.setCell ⟨Gx, 0, none⟩ (.slice ra rn rc)) ∧ KB [Gx + 1, sb] W (W2.setCell ⟨Gx, 0, none⟩ (.slice ra rn rc)) ∧ (∃ (L : List Nat) (E : Sl) (ys : List EV) (D : Sl) (gs : List TV), Lp w2 w2.heap.size w10.heap.size Gx (Gx + 1) sb B win ⟨ta, tn', tc'⟩ es ((pre ++ [x]).map fun x => ix (tl ++ b) x.1) L E ys D gs (W2.setCell ⟨Gx, 0, none⟩ (.slice ra rn rc))) ∧ ∀ j, j < SN → (W2.setCell ⟨Gx, 0, none⟩ (.slice ra rn rc)).cell? ⟨sb, 0 + j, none⟩ = some (.int .u8 (((tl ++ b).getD j 0).toNat : Int)) := by
          refine ⟨HKD.out.1.trans hKF, HKD.out.2.trans hKB, ⟨L3, E2, zs, ⟨ra, rn, rc⟩, gs1 ++ dx, ?_⟩, fun q hq => hKB _ _ (by simp) (HCW.out q hq)⟩
          rw [List.map_append, List.map_cons, List.map_nil, HXX.out]
          exact hLp
        have HF := Hi hfin
        clear hfin
        gi_wp2
        exact ⟨HF.out.1, HF.out.2.1, by simpa using HF.out.2.2⟩
      · go_simp
        refine ⟨trivial, (CallsIn.inRound r (callsIn_wide.2 AF.out)).mono ?_⟩
        rintro e W1 ⟨L2, E2, G, zs, rfl, h1, h2, hG, h4, h5, h6, h7, h8, h9⟩
        refine hK _ _ ?_
        clear hK K
        obtain ⟨dx, hdx, hdo, hdv, hdn⟩ := hG.off
        obtain ⟨ga, gn, gc⟩ := G
        dsimp only [Sl.v]
        have bx1 : W1.cell? ⟨Gx, 0, none⟩ = some (.slice da dn dc) := by
          rw [World.cell?_of_block (h7.2 Gx (World.block_lt_of_cell? _ _ bx) (.inr List.mem_cons_self))]
          exact bx
        have hD1 : OR w2.heap.size W1 28 6 ⟨da, dn, dc⟩ (f6 gs1) := LD.out.row.chg (chg_kx h6 h7) (fun b hb hm => by
          have h10 := (List.mem_filter.1 hm).2
          simp only [decide_eq_true_eq] at h10
          exact h10 (List.mem_cons_of_mem _ (by simpa using hb)))
        have hdx17 : gn ≤ 17 := by
          have e1 := run_len LD.out.st.w0 (Im.gets [ix (tl ++ b) (i, j)]) _ LD.out.st.ok (Im.gets_ok _)
          have e2 := gets_len [ix (tl ++ b) (i, j)]
          have e3 := hG.len
          dsimp only at e3
          simp only [List.length_singleton] at e2
          omega
        have hdn17 : dn ≤ 17 * 400400 := by
          have e1 := run_len HOK.out.1 (Im.gets (pre.map fun x => ix (tl ++ b) x.1)) es HOK.out.2.2.2 (Im.gets_ok _)
          have e2 := gets_len (pre.map fun x => ix (tl ++ b) x.1)
          have e3 := congrArg List.length LD.out.gs_
          have e4 := LD.out.row.len
          rw [f6_len] at e4
          dsimp only at e4
          rw [List.length_map] at e2 e3
          have e5 := HSN.out.1
          have e6 := HTN.out
          omega
        obtain ⟨I, hI, hz, hsz, hby⟩ := parts_t
        refine wpAnyIn_ready (rs := [0]) (by kernel_rfl) (by simp) ?_
        refine AllReadyIn.cons rfl (fun K hK => ?_) AllReadyIn.nil
        go_simp
        refine hK _ _ ?_
        clear hK K
        refine wpAnyIn_ready (rs := [3]) (by kernel_rfl) (by simp) ?_
        refine AllReadyIn.cons rfl (fun K hK => ?_) AllReadyIn.nil
        refine step_appIn rfl (.tmp 26) (.tmp 28) 30 rfl (S := ⟨da, dn, dc⟩) (V := ⟨ga, gn, gc⟩) Tryz.underlying30 hI hz hsz hby (by rfl) (by omega) rfl rfl hD1 h1.hb (hdo.len) hdo.cr (f6_one dx) (by dsimp only; omega) (by dsimp only; omega) ?_
        intro r2 W2 hrn hr2 hg2 hrb2
        clear hrn
        refine hK _ _ ?_
        clear hK K
        obtain ⟨L3, hLp, hKF, hKB⟩ := LD.out.step h1 h2 hdx hdv h4 h5 h6 h7 h8 hr2 hg2 hrb2
        have bx2 : W2.cell? ⟨Gx, 0, none⟩ = some (.slice da dn dc) := hg2.cell bx1 (fun e => LD.out.dg e.symm)
        have fz2 : W2.frozen? ⟨Gx, 0, none⟩ = false := by
          have hlt2 : Gx < WD.heap.size := World.block_lt_of_cell? _ _ bx
          have hlt3 : Gx < W1.heap.size := World.block_lt_of_cell? _ _ bx1
          rw [World.frozen?_of_block (a := ⟨Gx, 0, none⟩) ((hg2.block Gx hlt3 (fun e => LD.out.dg e.symm)).trans (h7.2 Gx hlt2 (.inr List.mem_cons_self)))]
          exact LD.out.box.2
        obtain ⟨ra, rn, rc⟩ := r2
        dsimp only [Sl.v] at hLp hKF hKB ⊢
        refine wpAnyIn_ready (rs := [4]) (by kernel_rfl) (by simp) ?_
        refine AllReadyIn.cons rfl (fun K hK => ?_) AllReadyIn.nil
        go_simp
        refine hK _ _ ?_
        clear hK K
        refine wpAnyIn_done (by kernel_rfl) ?_ _
        have hfin : KeepsFrom w10.heap.size W (W2.setCell ⟨Gx, 0, none⟩ (.slice ra rn rc)) ∧ KB [Gx + 1, sb] W (W2.setCell ⟨Gx, 0, none⟩ (.slice ra rn rc)) ∧ (∃ (L : List Nat) (E : Sl) (ys : List EV) (D : Sl) (gs : List TV), Lp w2 w2.heap.size w10.heap.size Gx (Gx + 1) sb B win ⟨ta, tn', tc'⟩ es ((pre ++ [x]).map fun x => ix (tl ++ b) x.1) L E ys D gs (W2.setCell ⟨Gx, 0, none⟩ (.slice ra rn rc))) ∧ ∀ j, j < SN → (W2.setCell ⟨Gx, 0, none⟩ (.slice ra rn rc)).cell? ⟨sb, 0 + j, none⟩ = some (.int .u8 (((tl ++ b).getD j 0).toNat : Int)) := by
          refine ⟨HKD.out.1.trans hKF, HKD.out.2.trans hKB, ⟨L3, E2, zs, ⟨ra, rn, rc⟩, gs1 ++ dx, ?_⟩, fun q hq => hKB _ _ (by simp) (HCW.out q hq)⟩
          rw [List.map_append, List.map_cons, List.map_nil, HXX.out]
          exact hLp
        have HF := Hi hfin
        clear hfin
        gi_wp2
        exact ⟨HF.out.1, HF.out.2.1, by simpa using HF.out.2.2⟩
  case done =>
    rintro Dd xs W hD hS ⟨⟨L1, E1, ys1, D1, gs1, LW⟩, hcW⟩ hKd
    have LWH := Hi LW
    have FSC := Hi (show (xs.map fun x => ix (tl ++ b) x.1) = (Im.scan (Im.ofTail tl) b).out by rw [← Im.scan_of HOK.out.2.2.1 b]; exact hS.symm)
    have GW := Hi (grown_trans G2.out LW.g)
    have KDH := Hi hKd
    have hBsb : B ≠ sb ∧ sb < Gx := by have := HS2.out; have := HGx.out; omega
    have HBB := Hi hBsb
    have RBW := Hi (show RB W SA SN (tl ++ b) from ⟨HSN.out.2, fun i hi => ⟨sb, 0, HSB.out (by omega), by have := hcW i hi; rw [Nat.zero_add] at this ⊢; exact this⟩⟩)
    have ZDd := Hi (show B < Dd ∧ X + 1 < Dd by have h1 := Z10.out; have h2 := HBB.out; have h3 := HS2.out; have h4 := ZB.out; omega)
    obtain ⟨⟨m0, m1, m2⟩, mf⟩ := LW.st.tri
    have mf1 := mf 1
    obtain ⟨⟨r0, r1, r2⟩, rf⟩ := BR2.out.grown LW.g
    have f0 := rf 0
    have f1 := rf 1
    have f2 := rf 2
    have bx := LW.box.1
    have HXW := Hi (show X + 1 < W.heap.size from World.block_lt_of_cell? _ _ r0)
    obtain ⟨e1a, e1n, e1c⟩ := E1
    obtain ⟨da, dn, dc⟩ := D1
    dsimp only [Sl.v] at m0 m1 m2 bx
    have NE := Hi (show B ≠ X + 1 ∧ Gx ≠ B ∧ Gx ≠ X + 1 by have h1 := ZB.out; have h2 := HBB.out; have h3 := HS2.out; omega)
    obtain ⟨Wa, hWa⟩ : ∃ Wa, Wa = W.setCell ⟨B, 1, none⟩ (.slice none 0 0) := ⟨_, rfl⟩
    have ga := chg_set W B 1 (.slice none 0 0)
    have TRa := Hi (Tri.set1 LW.st.tri (.slice none 0 0))
    rw [← hWa] at ga TRa
    have GA := Hi ga
    have RBA := Hi (show RB Wa SA SN (tl ++ b) from ⟨HSN.out.2, fun i hi => by
      obtain ⟨b', off, e1, e2⟩ := RBW.out.2 i hi
      refine ⟨b', off, e1, ga.cell e2 (fun hm => ?_)⟩
      rw [List.mem_singleton] at hm
      rw [HSB.out (by omega)] at e1
      injection e1 with e1
      injection e1 with e1 _ _
      have hm : b' = B := hm
      exact HBB.out.1 (by rw [← hm, e1])⟩)
    have TO_ := Hi (tailof_any SA SN SC (tl ++ b) Wa RBA.out SHP.out.1 (by have := HSN.out; have := HTN.out; omega))
    clear hS hKd hBsb LW hcW mf rf hD
    go_wp2_with fail
    rw [← hWa]
    clear hWa m0 m1 m2 mf1 r0 r1 r2 f0 f1 f2 bx ga
    refine TO_.out.mono ?_
    rintro e Wb ⟨rfl, hcase⟩
    clear TO_
    rcases hcase with ⟨rfl, hcur⟩ | ⟨b', off', i, hSA, hi, rfl, hcur⟩
    · have CL := Hi (clone_b nilS [] Wa (fun j u hj => by simp at hj) rfl (fun u hu => by cases hu) (by simp [nilS]))
      have CUT := Hi (show (Im.feed win tl es b).1 = [] by unfold Im.feed; dsimp only; rw [← Im.scan_of HOK.out.2.2.1 b, hcur]; rfl)
      dsimp only [nilS, Sl.v] at CL
      clear hcur
      go_wp2_with fail
      refine CL.out.mono ?_
      rintro e Wc ⟨⟨qa, qn, qc⟩, rfl, hro, gc⟩
      obtain ⟨Wd, hWd⟩ : ∃ Wd, Wd = Wc.setCell ⟨B, 1, none⟩ (.slice qa qn qc) := ⟨_, rfl⟩
      have gd := chg_set Wc B 1 (.slice qa qn qc)
      have trd := Tri.set1 (TRa.out.grown gc) (.slice qa qn qc)
      have hgS := GA.out.size
      have hgc := gc.size
      have otd : OR w2.heap.size (Wc.setCell ⟨B, 1, none⟩ (.slice qa qn qc)) 5 1 ⟨qa, qn, qc⟩ (bvs []) := (hro.chg gd (fun b hb hm => by rw [List.mem_singleton] at hm; have h1 := (hro.blk b hb).1; have h2 := LWH.out.st.tri.lt; omega)).base_ (by have := LWH.out.st.hb; omega)
      obtain ⟨⟨m0, m1, m2⟩, mf⟩ := TRa.out.grown gc
      have mf1 := mf 1
      have gdd := (GA.out.trans (Chg.of0 gc)).trans gd
      rw [← hWd] at trd otd gdd
      have TRD := Hi trd
      have OTD := Hi otd
      have GD := Hi gdd
      clear trd otd gdd gd gc hro hgS hgc mf CL
      dsimp only [Sl.v] at m0 m1 m2 ⊢
      clear TRa GA
      go_upto_region 13 with fail
      rw [← hWd]
      obtain ⟨⟨m0, m1, m2⟩, -⟩ := TRD.out
      have brd := (BR2.out.grown LWH.out.g).step GD.out (fun hm => by rw [List.mem_singleton] at hm; exact NE.out.1 hm.symm)
      obtain ⟨⟨r0, r1, r2⟩, rf⟩ := brd
      have f0 := rf 0
      have f1 := rf 1
      have f2 := rf 2
      have bx := GD.out.cell LWH.out.box.1 (fun hm => by rw [List.mem_singleton] at hm; exact NE.out.2.1 hm)
      dsimp only [Sl.v] at m0 m1 m2 bx
      have HBRD := Hi ((BR2.out.grown LWH.out.g).step GD.out (fun hm => by rw [List.mem_singleton] at hm; exact NE.out.1 hm.symm))
      clear rf hWd
      have hne := NE.out.2.2
      go_region
      all_goals
        go_wp2
        clear m0 m1 m2 r0 r1 r2 f0 f1 f2 bx
        obtain ⟨Wf, hWf⟩ : ∃ Wf, Wf = World.drew (((Wd.setCell ⟨X + 1, 0, none⟩ (.int .i64 win)).setCell ⟨X + 1, 1, none⟩ ((.slice qa qn qc))).setCell ⟨X + 1, 2, none⟩ (.slice e1a e1n e1c)) := ⟨_, rfl⟩
        rw [← hWf]
        have hdr : Chg [B] W Wd := GD.out
        have gf : Chg [X + 1] Wd Wf := by subst hWf; exact ((((Chg.refl [X + 1] Wd).set ⟨X + 1, 0, none⟩ (.int .i64 win) (by simp)).set ⟨X + 1, 1, none⟩ ((.slice qa qn qc)) (by simp)).set ⟨X + 1, 2, none⟩ (.slice e1a e1n e1c) (by simp)).trans (Chg.of0 (Wr.grown_drew _ none))
        have trf : Tri Wf (X + 1) (.int .i64 win) ((.slice qa qn qc)) (.slice e1a e1n e1c) := by subst hWf; exact Tri.grown ((((HBRD.out).set0 (.int .i64 win)).set1 ((.slice qa qn qc))).set2 (.slice e1a e1n e1c)) (Wr.grown_drew _ none)
        have hlt : Dd < W.heap.size := (Array.getElem?_eq_some_iff.1 KDH.out).1
        have hKz : Wf.heap[Dd]? = some (.deferred (some [])) := by
          rw [gf.block Dd (Nat.lt_of_lt_of_le hlt hdr.size) (fun hm => by rw [List.mem_singleton] at hm; have := ZDd.out; omega), hdr.block Dd hlt (fun hm => by rw [List.mem_singleton] at hm; have := ZDd.out; omega)]
          exact KDH.out
        have np : Np Wf (Wf.putObj Dd (.deferred none)) := ⟨some Dd, grownBy_putObj' Wf Dd _, fun r e => by cases e; exact ⟨_, hKz, rfl⟩⟩
        obtain ⟨k1, k2, k3⟩ := lp_fin LWH.out (X := X) Z2.out.symm hdr (T' := ⟨qa, qn, qc⟩) (tl' := []) OTD.out gf np
        have gw : w.grownBy Wf none := gf.grown (hdr.grown GW.out (fun b hb => by rw [List.mem_singleton] at hb; have h1 := ZB.out; have h2 := HX0.out; omega)) (fun b hb => by rw [List.mem_singleton] at hb; have h2 := HX0.out; omega)
        have gw5 : w.grownBy (Wf.putObj Dd (.deferred none)) none := (Chg.of (L := [Dd]) (grownBy_putObj' Wf Dd (.deferred none)) (fun b hb => by injection hb with hb; simp [hb])).grown gw (fun b hb => by rw [List.mem_singleton] at hb; have h1 := ZDd.out; have h2 := HX0.out; omega)
        have q0 := np.cell trf.1.1
        have q1 := np.cell trf.1.2.1
        have q2 := np.cell trf.1.2.2
        have FY : (Im.feed win tl es b).2.1 = ys1.map Prod.fst ∧ (Im.feed win tl es b).2.2 = gs1.map Prod.fst := by
          unfold Im.feed
          rw [LWH.out.ys_, LWH.out.gs_, FSC.out]
          exact ⟨rfl, rfl⟩
        refine ⟨by simp, .inl ⟨_, _, rfl, run_takeDeferred hKz, ?_⟩⟩
        refine ⟨.tuple #[.agg #[.int .i64 win, (.slice qa qn qc), .slice e1a e1n e1c], .slice da dn dc, .int .i64 0], ?_, ⟨⟨qa, qn, qc⟩, ⟨e1a, e1n, e1c⟩, ⟨da, dn, dc⟩, rfl, ?_, ?_, ?_, gw5⟩⟩
        · rw [results_cell3 rfl]
          clear hWf hdr gf trf hlt hKz k1 k2 k3 gw gw5 FY np
          go_simp
          all_goals (first | rfl | exact ⟨rfl, rfl⟩ | exact ⟨rfl, rfl, rfl⟩)
        · unfold feedF
          dsimp only
          rw [FY.1, CUT.out, ← HX0.out]
          exact k1
        · unfold feedF
          dsimp only
          rw [CUT.out]
          exact k2
        · unfold feedF
          dsimp only
          rw [FY.2, ← HX0.out]
          exact k3
    · have hS0 := HSB.out (by omega)
      rw [hS0] at hSA
      injection hSA with hSA
      injection hSA with hs1 hs2 _
      subst hs1
      subst hs2
      rw [hS0] at RBA
      have RD := Hi (RBA.out.drop i (SN - i) (by omega))
      have hl2 : ((tl ++ b).drop i).length = SN - i := RD.out.1
      simp only [Nat.zero_add] at RD ⊢
      generalize hdl : (tl ++ b).drop i = tt at *
      obtain ⟨M, hM⟩ : ∃ M, M = SN - i := ⟨_, rfl⟩
      rw [← hM] at RD hl2 ⊢
      have hM2 : M ≤ 400400 := by have := HSN.out; have := HTN.out; omega
      have hl3 := Hi hl2
      have CU0 := Hi (show (Im.scan (Im.ofTail tl) b).cur = some tt by rw [← Im.scan_of HOK.out.2.2.1 b, hcur])
      clear hcur hdl hM hi hl2 hS0
      by_cases hM4 : M ≤ 400
      · have hd4 : decide ((M : Int) ≤ 400) = true := by simp; omega
        have CUT := Hi (show (Im.feed win tl es b).1 = tt by
          unfold Im.feed
          dsimp only
          rw [CU0.out]
          unfold Im.cut
          exact if_pos (by have := hl3.out; simp; omega))
        have CL := Hi (clone_b ⟨some ⟨sb, i, none⟩, M, SC - i⟩ (bvs tt) Wa (crRB RD.out) (by rw [Wr.bvs_len]; have := hl3.out; dsimp only; omega) (Wr.bvs_one _) (by dsimp only; omega))
        dsimp only [Sl.v] at CL
        go_wp2_with fail
        refine CL.out.mono ?_
        rintro e Wc ⟨⟨qa, qn, qc⟩, rfl, hro, gc⟩
        obtain ⟨Wd, hWd⟩ : ∃ Wd, Wd = Wc.setCell ⟨B, 1, none⟩ (.slice qa qn qc) := ⟨_, rfl⟩
        have gd := chg_set Wc B 1 (.slice qa qn qc)
        have trd := Tri.set1 (TRa.out.grown gc) (.slice qa qn qc)
        have hgS := GA.out.size
        have hgc := gc.size
        have otd : OR w2.heap.size (Wc.setCell ⟨B, 1, none⟩ (.slice qa qn qc)) 5 1 ⟨qa, qn, qc⟩ (bvs tt) := (hro.chg gd (fun b hb hm => by rw [List.mem_singleton] at hm; have h1 := (hro.blk b hb).1; have h2 := LWH.out.st.tri.lt; omega)).base_ (by have := LWH.out.st.hb; omega)
        obtain ⟨⟨m0, m1, m2⟩, mf⟩ := TRa.out.grown gc
        have mf1 := mf 1
        have gdd := (GA.out.trans (Chg.of0 gc)).trans gd
        rw [← hWd] at trd otd gdd
        have TRD := Hi trd
        have OTD := Hi otd
        have GD := Hi gdd
        clear trd otd gdd gd gc hro hgS hgc mf CL
        dsimp only [Sl.v] at m0 m1 m2 ⊢
        clear TRa GA
        go_upto_region 13 with fail
        rw [← hWd]
        obtain ⟨⟨m0, m1, m2⟩, -⟩ := TRD.out
        have brd := (BR2.out.grown LWH.out.g).step GD.out (fun hm => by rw [List.mem_singleton] at hm; exact NE.out.1 hm.symm)
        obtain ⟨⟨r0, r1, r2⟩, rf⟩ := brd
        have f0 := rf 0
        have f1 := rf 1
        have f2 := rf 2
        have bx := GD.out.cell LWH.out.box.1 (fun hm => by rw [List.mem_singleton] at hm; exact NE.out.2.1 hm)
        dsimp only [Sl.v] at m0 m1 m2 bx
        have HBRD := Hi ((BR2.out.grown LWH.out.g).step GD.out (fun hm => by rw [List.mem_singleton] at hm; exact NE.out.1 hm.symm))
        clear rf hWd
        have hne := NE.out.2.2
        go_region
        all_goals
          go_wp2
          clear m0 m1 m2 r0 r1 r2 f0 f1 f2 bx
          obtain ⟨Wf, hWf⟩ : ∃ Wf, Wf = World.drew (((Wd.setCell ⟨X + 1, 0, none⟩ (.int .i64 win)).setCell ⟨X + 1, 1, none⟩ ((.slice qa qn qc))).setCell ⟨X + 1, 2, none⟩ (.slice e1a e1n e1c)) := ⟨_, rfl⟩
          rw [← hWf]
          have hdr : Chg [B] W Wd := GD.out
          have gf : Chg [X + 1] Wd Wf := by subst hWf; exact ((((Chg.refl [X + 1] Wd).set ⟨X + 1, 0, none⟩ (.int .i64 win) (by simp)).set ⟨X + 1, 1, none⟩ ((.slice qa qn qc)) (by simp)).set ⟨X + 1, 2, none⟩ (.slice e1a e1n e1c) (by simp)).trans (Chg.of0 (Wr.grown_drew _ none))
          have trf : Tri Wf (X + 1) (.int .i64 win) ((.slice qa qn qc)) (.slice e1a e1n e1c) := by subst hWf; exact Tri.grown ((((HBRD.out).set0 (.int .i64 win)).set1 ((.slice qa qn qc))).set2 (.slice e1a e1n e1c)) (Wr.grown_drew _ none)
          have hlt : Dd < W.heap.size := (Array.getElem?_eq_some_iff.1 KDH.out).1
          have hKz : Wf.heap[Dd]? = some (.deferred (some [])) := by
            rw [gf.block Dd (Nat.lt_of_lt_of_le hlt hdr.size) (fun hm => by rw [List.mem_singleton] at hm; have := ZDd.out; omega), hdr.block Dd hlt (fun hm => by rw [List.mem_singleton] at hm; have := ZDd.out; omega)]
            exact KDH.out
          have np : Np Wf (Wf.putObj Dd (.deferred none)) := ⟨some Dd, grownBy_putObj' Wf Dd _, fun r e => by cases e; exact ⟨_, hKz, rfl⟩⟩
          obtain ⟨k1, k2, k3⟩ := lp_fin LWH.out (X := X) Z2.out.symm hdr (T' := ⟨qa, qn, qc⟩) (tl' := tt) OTD.out gf np
          have gw : w.grownBy Wf none := gf.grown (hdr.grown GW.out (fun b hb => by rw [List.mem_singleton] at hb; have h1 := ZB.out; have h2 := HX0.out; omega)) (fun b hb => by rw [List.mem_singleton] at hb; have h2 := HX0.out; omega)
          have gw5 : w.grownBy (Wf.putObj Dd (.deferred none)) none := (Chg.of (L := [Dd]) (grownBy_putObj' Wf Dd (.deferred none)) (fun b hb => by injection hb with hb; simp [hb])).grown gw (fun b hb => by rw [List.mem_singleton] at hb; have h1 := ZDd.out; have h2 := HX0.out; omega)
          have q0 := np.cell trf.1.1
          have q1 := np.cell trf.1.2.1
          have q2 := np.cell trf.1.2.2
          have FY : (Im.feed win tl es b).2.1 = ys1.map Prod.fst ∧ (Im.feed win tl es b).2.2 = gs1.map Prod.fst := by
            unfold Im.feed
            rw [LWH.out.ys_, LWH.out.gs_, FSC.out]
            exact ⟨rfl, rfl⟩
          refine ⟨by simp, .inl ⟨_, _, rfl, run_takeDeferred hKz, ?_⟩⟩
          refine ⟨.tuple #[.agg #[.int .i64 win, (.slice qa qn qc), .slice e1a e1n e1c], .slice da dn dc, .int .i64 0], ?_, ⟨⟨qa, qn, qc⟩, ⟨e1a, e1n, e1c⟩, ⟨da, dn, dc⟩, rfl, ?_, ?_, ?_, gw5⟩⟩
          · rw [results_cell3 rfl]
            clear hWf hdr gf trf hlt hKz k1 k2 k3 gw gw5 FY np
            go_simp
            all_goals (first | rfl | exact ⟨rfl, rfl⟩ | exact ⟨rfl, rfl, rfl⟩)
          · unfold feedF
            dsimp only
            rw [FY.1, CUT.out, ← HX0.out]
            exact k1
          · unfold feedF
            dsimp only
            rw [CUT.out]
            exact k2
          · unfold feedF
            dsimp only
            rw [FY.2, ← HX0.out]
            exact k3
      · have hd4 : decide ((M : Int) ≤ 400) = false := by simp; omega
        have CUT := Hi (show (Im.feed win tl es b).1 = [] by
          unfold Im.feed
          dsimp only
          rw [CU0.out]
          unfold Im.cut
          exact if_neg (by have := hl3.out; simp; omega))
        have TRD := TRa
        have GD := GA
        have OTD := Hi (show OR w2.heap.size Wa 5 1 nilS (bvs []) from or_nil _ _ _ _)
        clear TRa GA
        go_upto_region 13 with fail
        obtain ⟨⟨m0, m1, m2⟩, -⟩ := TRD.out
        have brd := (BR2.out.grown LWH.out.g).step GD.out (fun hm => by rw [List.mem_singleton] at hm; exact NE.out.1 hm.symm)
        obtain ⟨⟨r0, r1, r2⟩, rf⟩ := brd
        have f0 := rf 0
        have f1 := rf 1
        have f2 := rf 2
        have bx := GD.out.cell LWH.out.box.1 (fun hm => by rw [List.mem_singleton] at hm; exact NE.out.2.1 hm)
        dsimp only [Sl.v] at m0 m1 m2 bx
        have HBRD := Hi ((BR2.out.grown LWH.out.g).step GD.out (fun hm => by rw [List.mem_singleton] at hm; exact NE.out.1 hm.symm))
        clear rf
        have hne := NE.out.2.2
        go_region
        all_goals
          go_wp2
          clear m0 m1 m2 r0 r1 r2 f0 f1 f2 bx
          obtain ⟨Wf, hWf⟩ : ∃ Wf, Wf = World.drew (((Wa.setCell ⟨X + 1, 0, none⟩ (.int .i64 win)).setCell ⟨X + 1, 1, none⟩ ((.slice none 0 0))).setCell ⟨X + 1, 2, none⟩ (.slice e1a e1n e1c)) := ⟨_, rfl⟩
          rw [← hWf]
          have hdr : Chg [B] W Wa := GD.out
          have gf : Chg [X + 1] Wa Wf := by subst hWf; exact ((((Chg.refl [X + 1] Wa).set ⟨X + 1, 0, none⟩ (.int .i64 win) (by simp)).set ⟨X + 1, 1, none⟩ ((.slice none 0 0)) (by simp)).set ⟨X + 1, 2, none⟩ (.slice e1a e1n e1c) (by simp)).trans (Chg.of0 (Wr.grown_drew _ none))
          have trf : Tri Wf (X + 1) (.int .i64 win) ((.slice none 0 0)) (.slice e1a e1n e1c) := by subst hWf; exact Tri.grown ((((HBRD.out).set0 (.int .i64 win)).set1 ((.slice none 0 0))).set2 (.slice e1a e1n e1c)) (Wr.grown_drew _ none)
          have hlt : Dd < W.heap.size := (Array.getElem?_eq_some_iff.1 KDH.out).1
          have hKz : Wf.heap[Dd]? = some (.deferred (some [])) := by
            rw [gf.block Dd (Nat.lt_of_lt_of_le hlt hdr.size) (fun hm => by rw [List.mem_singleton] at hm; have := ZDd.out; omega), hdr.block Dd hlt (fun hm => by rw [List.mem_singleton] at hm; have := ZDd.out; omega)]
            exact KDH.out
          have np : Np Wf (Wf.putObj Dd (.deferred none)) := ⟨some Dd, grownBy_putObj' Wf Dd _, fun r e => by cases e; exact ⟨_, hKz, rfl⟩⟩
          obtain ⟨k1, k2, k3⟩ := lp_fin LWH.out (X := X) Z2.out.symm hdr (T' := nilS) (tl' := []) OTD.out gf np
          have gw : w.grownBy Wf none := gf.grown (hdr.grown GW.out (fun b hb => by rw [List.mem_singleton] at hb; have h1 := ZB.out; have h2 := HX0.out; omega)) (fun b hb => by rw [List.mem_singleton] at hb; have h2 := HX0.out; omega)
          have gw5 : w.grownBy (Wf.putObj Dd (.deferred none)) none := (Chg.of (L := [Dd]) (grownBy_putObj' Wf Dd (.deferred none)) (fun b hb => by injection hb with hb; simp [hb])).grown gw (fun b hb => by rw [List.mem_singleton] at hb; have h1 := ZDd.out; have h2 := HX0.out; omega)
          have q0 := np.cell trf.1.1
          have q1 := np.cell trf.1.2.1
          have q2 := np.cell trf.1.2.2
          have FY : (Im.feed win tl es b).2.1 = ys1.map Prod.fst ∧ (Im.feed win tl es b).2.2 = gs1.map Prod.fst := by
            unfold Im.feed
            rw [LWH.out.ys_, LWH.out.gs_, FSC.out]
            exact ⟨rfl, rfl⟩
          refine ⟨by simp, .inl ⟨_, _, rfl, run_takeDeferred hKz, ?_⟩⟩
          refine ⟨.tuple #[.agg #[.int .i64 win, (.slice none 0 0), .slice e1a e1n e1c], .slice da dn dc, .int .i64 0], ?_, ⟨nilS, ⟨e1a, e1n, e1c⟩, ⟨da, dn, dc⟩, rfl, ?_, ?_, ?_, gw5⟩⟩
          · rw [results_cell3 rfl]
            clear hWf hdr gf trf hlt hKz k1 k2 k3 gw gw5 FY np
            go_simp
            all_goals (first | rfl | exact ⟨rfl, rfl⟩ | exact ⟨rfl, rfl, rfl⟩)
          · unfold feedF
            dsimp only
            rw [FY.1, CUT.out, ← HX0.out]
            exact k1
          · unfold feedF
            dsimp only
            rw [CUT.out]
            exact k2
          · unfold feedF
            dsimp only
            rw [FY.2, ← HX0.out]
            exact k3
  case stop =>
    rintro Dd cc pre W _ _ hh _
    exact hh.elim
end Go.Proofs.YticmoaebegahgaaGreatDoor.Iw
