/- BoundaryAhead: the walk. -/
import Derived.Test.YtagemdgbnajobaaHf
namespace Go.Proofs.Ytagemdgbnajobaa
open Go.ChangeShapes Go.WideShapes Go.ChangeAt Go.RowKit

theorem nine_val {n : Int} (h1 : 1 ≤ n) (h2 : n ≤ 1000000) : Fm.Val [(9, n)] :=
  ⟨by simp, fun p hp => by simp at hp; subst hp; exact ⟨by omega, by omega, h1, h2⟩, ⟨h1, fun q hq => by simp at hq, trivial⟩, by rw [Fm.vol_one]; exact h2⟩
theorem nine_few {n : Int} (h1 : 1 ≤ n) (h2 : n ≤ 1000000) : Few [(9, n)] 12 := ⟨nine_val h1 h2, by simp⟩
theorem nil_few : Few [] 12 := ⟨Fm.Val.nil, by simp⟩
theorem dir_lit (f : List Fm.Pc) (back : Bool) : Fm.lit (dirOf f back) = if back then Fm.lit f else (Fm.lit f).reverse := by
  unfold dirOf
  cases back
  · simp [Bm.lit_reverse]
  · simp
theorem dir_one {f : List Fm.Pc} (h : Fm.Val f) (back : Bool) : ∀ p ∈ dirOf f back, 1 ≤ p.2 := by
  intro p hp
  unfold dirOf at hp
  split at hp
  · exact (h.ok p hp).2.2.1
  · exact (h.ok p (List.mem_reverse.1 hp)).2.2.1
theorem dir_mem {f : List Fm.Pc} {back : Bool} {p : Fm.Pc} (h : p ∈ f) : p ∈ dirOf f back := by
  unfold dirOf
  split
  · exact h
  · exact List.mem_reverse.2 h
/-- What Ahead says of a fill. -/
theorem ahead_cases {f : List Fm.Pc} (h : Fm.Val f) (b : Int) (back : Bool) :
    (batchOf f b = 0 ∧ aheadE f b back = 8) ∨
    (batchOf f b ≠ 0 ∧ aheadE f b back = 0 ∧ ∃ m : Nat, aheadV f b back = m ∧ (m : Int) < volume f ∧
      ∀ g : List Fm.Pc, ((Fm.lit g).length : Int) = m → Fm.Val g → g.length ≤ 12 → f.length ≤ 12 → batchOf (ou f g back) b = 0 ∧ atOf (nx f g back) (if back then 0 else volume (nx f g back) - 1) = b) := by
  have hv := Fm.valid_yes h
  have h1 : ∀ p ∈ f, 1 ≤ p.2 := fun p hp => (h.ok p hp).2.2.1
  have ev : aheadV f b back = (Bm.ahd b 0 (dirOf f back)).getD 0 := if_pos hv
  have ee : aheadE f b back = if (Bm.ahd b 0 (dirOf f back)).isSome = true then 0 else 8 := if_pos hv
  cases e : Bm.ahd b 0 (dirOf f back) with
  | none =>
    left
    refine ⟨?_, by rw [ee, e]; rfl⟩
    unfold batchOf
    rw [if_pos hv, Bm.of_zero h1]
    exact fun p hp => Bm.ahd_none e p (dir_mem hp)
  | some n =>
    right
    obtain ⟨m, hm, m1, m2, m3⟩ := Bm.ahd_lit (dir_one h back) e
    rw [dir_lit] at m1 m2 m3
    have ml : m < (Fm.lit f).length := by
      cases back
      · simpa using m1
      · simpa using m1
    refine ⟨?_, by rw [ee, e]; rfl, m, by rw [ev, e]; simp; omega, by rw [volume_val h]; omega, fun g hg vg g12 f12 => ?_⟩
    · unfold batchOf
      rw [if_pos hv, Fm.of_lit b h.pos]
      have : b ∈ Fm.lit f := by
        have := List.mem_of_getElem? m3
        cases back
        · simpa using this
        · simpa using this
      have := List.count_pos_iff.2 this
      omega
    · have hx : (Fm.lit g).length = m := by omega
      obtain ⟨s1, s2⟩ := Bm.shift_ahead (back := back) hx ml m2 m3
      obtain ⟨a1, a2⟩ := Few.nx (f := f) (g := g) ⟨h, f12⟩ ⟨vg, g12⟩ (by omega) back
      refine ⟨?_, ?_⟩
      · unfold batchOf
        rw [if_pos (Fm.valid_yes a2.val)]
        exact Bm.of_none s1
      · unfold atOf
        rw [if_pos (Fm.valid_yes a1.val), lit_nx, volume_val a1.val, lit_nx, (Fm.shift_len _ _ _).1]
        exact s2
set_option maxRecDepth 100000 in
set_option maxHeartbeats 2000000 in
theorem ahead_walk (a : Option Addr) (len cap : Nat) (zs : List Int) (d : Int) (back : Bool) (wf : (Lit.int .u8 d).wf = true) (w : World) (hi : InRow w a len cap zs) :
    Calls Try.prog 5 #[.slice a len cap, .int .u8 d, .bool back] w fun e w' => e = .returned (.bool true) ∧ Below w.heap.size w w' := by
  have hd := bounds_u8 wf
  clear wf
  go_enter Try.func5, Try.ntmps5
  go_wp2_with fail
  refine (new_any a len cap zs w hi).mono ?_
  rintro e w1 ⟨rfl, hg, hs, _⟩
  have G := Lib.hid hg
  have HS := Lib.hid hs
  clear hi hg hs
  obtain ⟨S, hS⟩ : ∃ S, S = w.heap.size := ⟨_, rfl⟩
  have SW := Lib.hid hS
  rw [← hS] at HS ⊢
  clear hS
  go_wp2_with fail
  refine (n_any S 200 w1 HS.out (by omega) (by omega)).mono ?_
  rintro e w2 ⟨V1, ⟨hv1, hv2⟩, rfl, hg, hs⟩
  replace G := Lib.hid (G.out.under SW.out hg)
  replace HS := Lib.hid hs
  clear hg hs
  have hwv : IntKind.i64.wrap (1 + V1) = 1 + V1 := IntWalk.i64_in _ (by omega)
  go_wp2_with fail
  refine (fill_any S (1 + V1) 4 w2 HS.out (by omega) (by omega) (by omega) (by omega)).mono ?_
  rintro e w3 ⟨⟨fa, fn, fc⟩, f, rfl, ho, hf, hg, hs⟩
  have F := Lib.hid ho.fr
  have FF := Lib.hid hf
  replace G := Lib.hid (G.out.under SW.out hg)
  clear ho hf hg hs HS
  dsimp only [Sl.v]
  have hfn : f.length = fn := F.out.len
  have hfn12 : fn ≤ 12 := by have := FF.out.len; omega
  obtain ⟨K, hK⟩ : ∃ K, K = d % 4 := ⟨_, rfl⟩
  go_wp2_with fail
  rw [← hK]
  have hk4 : 0 ≤ K ∧ K < 4 := by omega
  clear hK
  rcases ahead_cases FF.out.val K back with ⟨b0, e8⟩ | ⟨b1, e0, m, v0, hm, rest⟩
  · obtain ⟨V, hV⟩ : ∃ V, V = aheadV f K back := ⟨_, rfl⟩
    have E8 := Lib.hid e8
    have B0 := Lib.hid b0
    clear e8 b0
    refine (bahead_any ⟨fa, fn, fc⟩ f K back w3 F.out ⟨by omega, by omega⟩).mono ?_
    rw [← hV, E8.out]
    rintro e w4 ⟨rfl, hg⟩
    replace F := Lib.hid (F.out.grown hg)
    replace G := Lib.hid (grown_trans G.out hg)
    clear hg hV
    go_wp2_with fail
    refine (rbatch_any ⟨fa, fn, fc⟩ f K w4 F.out).mono ?_
    rw [B0.out]
    rintro e w5 ⟨rfl, hg⟩
    replace G := Lib.hid (grown_trans G.out hg)
    clear hg
    go_wp2_with fail
    refine (awake15_any w5).mono ?_
    rintro e w6 ⟨rfl, hg⟩
    replace G := Lib.hid (grown_trans G.out hg)
    clear hg
    go_wp2
    go_ret
    exact ⟨rfl, grown_below G.out⟩
  · have E0 := Lib.hid e0
    have V0 := Lib.hid v0
    have R := Lib.hid rest
    obtain ⟨q, hq⟩ : ∃ q, q = batchOf f K := ⟨_, rfl⟩
    have hqb : (q == 0) = false := by rw [beq_eq_false_iff_ne, hq]; exact b1
    have Q := Lib.hid hq
    obtain ⟨vv, hvv⟩ : ∃ vv, vv = volume f := ⟨_, rfl⟩
    have hvr : vv ≤ 1000000 := by rw [hvv, volume_val FF.out.val]; have := FF.out.val.litlen; omega
    rw [← hvv] at hm
    have VV := Lib.hid hvv
    have hmn : decide (vv ≤ (m : Int)) = false := decide_eq_false (by omega)
    clear e0 v0 rest hq b1 hvv
    refine (bahead_any ⟨fa, fn, fc⟩ f K back w3 F.out ⟨by omega, by omega⟩).mono ?_
    rw [V0.out, E0.out]
    rintro e w4 ⟨rfl, hg⟩
    replace F := Lib.hid (F.out.grown hg)
    replace G := Lib.hid (grown_trans G.out hg)
    clear hg
    go_wp2_with fail
    refine (rbatch_any ⟨fa, fn, fc⟩ f K w4 F.out).mono ?_
    rw [← Q.out]
    rintro e w5 ⟨rfl, hg⟩
    replace F := Lib.hid (F.out.grown hg)
    replace G := Lib.hid (grown_trans G.out hg)
    clear hg
    go_wp2_with fail
    refine (rvolume_any ⟨fa, fn, fc⟩ f w5 F.out).mono ?_
    rw [← VV.out]
    rintro e w6 ⟨rfl, hg⟩
    replace F := Lib.hid (F.out.grown hg)
    replace G := Lib.hid (grown_trans G.out hg)
    clear hg hqb hmn
    obtain ⟨N0, hN0⟩ : ∃ x, x = w6.heap.size := ⟨_, rfl⟩
    have GN := Lib.hid (World.grownBy_alloc w6 (.cells #[.int .i64 9, .int .i64 m] 49) none)
    by_cases hz : m = 0
    · subst hz
      have gf : Few [] 12 := nil_few
      have P := Lib.hid (FF.out.few.pushed gf (by omega) back)
      have RR := Lib.hid (R.out [] (by rfl) gf.val gf.len FF.out.len)
      have NV := Lib.hid (FF.out.few.nx gf (by omega) back)
      have TG := Lib.hid (show FR (w6.alloc (.cells #[.int .i64 9, .int .i64 ((0 : Nat) : Int)] 49)) ⟨none, 0, 0⟩ [] from FR.nil)
      clear gf
      go_wp2_with fail
      
      refine (rpush_any ⟨fa, fn, fc⟩ ⟨none, 0, 0⟩ f [] back _ (F.out.grown GN.out) TG.out P.out).mono ?_
      rintro e w7 ⟨⟨xa, xn, xc⟩, ⟨ya, yn, yc⟩, rfl, hx, hy, hg⟩
      have X := Lib.hid hx
      have Y := Lib.hid hy
      replace G := Lib.hid (grown_trans G.out (grown_trans GN.out hg))
      clear hx hy hg TG hN0
      dsimp only [Sl.v]
      obtain ⟨vn, hvn⟩ : ∃ vn, vn = volume (nx f [] back) := ⟨_, rfl⟩
      have hvn2 : 0 ≤ vn ∧ vn ≤ 1000000 := by rw [hvn, volume_val NV.out.1.val]; have := NV.out.1.val.litlen; omega
      have VN := Lib.hid hvn
      have hw : IntKind.i64.wrap (vn - 1) = vn - 1 := IntWalk.i64_in _ (by omega)
      clear hvn
      go_wp2_with fail
      refine (rvolume_any ⟨xa, xn, xc⟩ _ w7 X.out).mono ?_
      rw [← VN.out]
      rintro e w8 ⟨rfl, hg⟩
      replace X := Lib.hid (X.out.grown hg)
      replace Y := Lib.hid (Y.out.grown hg)
      replace G := Lib.hid (grown_trans G.out hg)
      clear hg
      cases back with
      | true =>
        go_wp2_with fail
        refine (rbatch_any ⟨ya, yn, yc⟩ _ K w8 Y.out).mono ?_
        rw [RR.out.1]
        rintro e w9 ⟨rfl, hg⟩
        replace X := Lib.hid (X.out.grown hg)
        replace G := Lib.hid (grown_trans G.out hg)
        clear hg
        go_wp2_with fail
        refine (rat_any ⟨xa, xn, xc⟩ _ 0 w9 X.out (by omega)).mono ?_
        rw [show atOf (nx f [] true) 0 = K from RR.out.2]
        rintro e w10 ⟨rfl, hg⟩
        replace G := Lib.hid (grown_trans G.out hg)
        clear hg
        go_wp2_with fail
        refine (awake15_any w10).mono ?_
        rintro e w11 ⟨rfl, hg⟩
        replace G := Lib.hid (grown_trans G.out hg)
        clear hg
        go_wp2
        go_ret
        exact ⟨rfl, grown_below G.out⟩
      | false =>
        go_wp2_with fail
        refine (rbatch_any ⟨ya, yn, yc⟩ _ K w8 Y.out).mono ?_
        rw [RR.out.1]
        rintro e w9 ⟨rfl, hg⟩
        replace X := Lib.hid (X.out.grown hg)
        replace G := Lib.hid (grown_trans G.out hg)
        clear hg
        go_wp2_with fail
        refine (rat_any ⟨xa, xn, xc⟩ _ (vn - 1) w9 X.out (by omega)).mono ?_
        rw [show atOf (nx f [] false) (vn - 1) = K from (by rw [VN.out]; exact RR.out.2)]
        rintro e w10 ⟨rfl, hg⟩
        replace G := Lib.hid (grown_trans G.out hg)
        clear hg
        go_wp2_with fail
        refine (awake15_any w10).mono ?_
        rintro e w11 ⟨rfl, hg⟩
        replace G := Lib.hid (grown_trans G.out hg)
        clear hg
        go_wp2
        go_ret
        exact ⟨rfl, grown_below G.out⟩
    · have hzb : ((m : Int) == 0) = false := by rw [beq_eq_false_iff_ne]; omega
      have gf : Few [(9, (m : Int))] 12 := nine_few (by omega) (by omega)
      have P := Lib.hid (FF.out.few.pushed gf (by omega) back)
      have RR := Lib.hid (R.out [(9, (m : Int))] (by rw [Fm.lit_one, List.length_replicate]; dsimp only; omega) gf.val gf.len FF.out.len)
      have NV := Lib.hid (FF.out.few.nx gf (by omega) back)
      have TG := Lib.hid (show FR (w6.alloc (.cells #[.int .i64 9, .int .i64 m] 49)) ⟨some ⟨N0, 0, none⟩, 1, 1⟩ [(9, (m : Int))] from (fr_new w6 [(9, (m : Int))] (cs := #[.int .i64 9, .int .i64 m]) hN0 rfl (by simp)))
      clear gf
      go_wp2_with fail
      rw [← hN0]
      refine (rpush_any ⟨fa, fn, fc⟩ ⟨some ⟨N0, 0, none⟩, 1, 1⟩ f [(9, (m : Int))] back _ (F.out.grown GN.out) TG.out P.out).mono ?_
      rintro e w7 ⟨⟨xa, xn, xc⟩, ⟨ya, yn, yc⟩, rfl, hx, hy, hg⟩
      have X := Lib.hid hx
      have Y := Lib.hid hy
      replace G := Lib.hid (grown_trans G.out (grown_trans GN.out hg))
      clear hx hy hg TG hN0
      dsimp only [Sl.v]
      obtain ⟨vn, hvn⟩ : ∃ vn, vn = volume (nx f [(9, (m : Int))] back) := ⟨_, rfl⟩
      have hvn2 : 0 ≤ vn ∧ vn ≤ 1000000 := by rw [hvn, volume_val NV.out.1.val]; have := NV.out.1.val.litlen; omega
      have VN := Lib.hid hvn
      have hw : IntKind.i64.wrap (vn - 1) = vn - 1 := IntWalk.i64_in _ (by omega)
      clear hvn
      go_wp2_with fail
      refine (rvolume_any ⟨xa, xn, xc⟩ _ w7 X.out).mono ?_
      rw [← VN.out]
      rintro e w8 ⟨rfl, hg⟩
      replace X := Lib.hid (X.out.grown hg)
      replace Y := Lib.hid (Y.out.grown hg)
      replace G := Lib.hid (grown_trans G.out hg)
      clear hg
      cases back with
      | true =>
        go_wp2_with fail
        refine (rbatch_any ⟨ya, yn, yc⟩ _ K w8 Y.out).mono ?_
        rw [RR.out.1]
        rintro e w9 ⟨rfl, hg⟩
        replace X := Lib.hid (X.out.grown hg)
        replace G := Lib.hid (grown_trans G.out hg)
        clear hg
        go_wp2_with fail
        refine (rat_any ⟨xa, xn, xc⟩ _ 0 w9 X.out (by omega)).mono ?_
        rw [show atOf (nx f [(9, (m : Int))] true) 0 = K from RR.out.2]
        rintro e w10 ⟨rfl, hg⟩
        replace G := Lib.hid (grown_trans G.out hg)
        clear hg
        go_wp2_with fail
        refine (awake15_any w10).mono ?_
        rintro e w11 ⟨rfl, hg⟩
        replace G := Lib.hid (grown_trans G.out hg)
        clear hg
        go_wp2
        go_ret
        exact ⟨rfl, grown_below G.out⟩
      | false =>
        go_wp2_with fail
        refine (rbatch_any ⟨ya, yn, yc⟩ _ K w8 Y.out).mono ?_
        rw [RR.out.1]
        rintro e w9 ⟨rfl, hg⟩
        replace X := Lib.hid (X.out.grown hg)
        replace G := Lib.hid (grown_trans G.out hg)
        clear hg
        go_wp2_with fail
        refine (rat_any ⟨xa, xn, xc⟩ _ (vn - 1) w9 X.out (by omega)).mono ?_
        rw [show atOf (nx f [(9, (m : Int))] false) (vn - 1) = K from (by rw [VN.out]; exact RR.out.2)]
        rintro e w10 ⟨rfl, hg⟩
        replace G := Lib.hid (grown_trans G.out hg)
        clear hg
        go_wp2_with fail
        refine (awake15_any w10).mono ?_
        rintro e w11 ⟨rfl, hg⟩
        replace G := Lib.hid (grown_trans G.out hg)
        clear hg
        go_wp2
        go_ret
        exact ⟨rfl, grown_below G.out⟩
end Go.Proofs.Ytagemdgbnajobaa
