/- The walk of RoundOrder. -/
import Derived.Test.YtkpmhgikcipedaaLawS
import Derived.Deep.RegionLaw
namespace Go.Proofs.Ytkpmhgikcipedaa
open Go.ChangeShapes Go.WideShapes Go.ChangeAt Go.RowKit

/-- append to a row of the call's own, as one step of a region that draws. -/
theorem step_append_own {P : Program} {ops : Array Oper} {o : Oper} {a : Act} {w : World} {K : Act → World → Prop} {Q : Exit → Act → World → Prop} {E : Prop} (hgd : o.guard = none) (s x : Operand) (t : TypeId)
    (ho : o.op = .call { callee := .builtin .append, args := #[s, x], argTypes := #[t, t] })
    (base : Nat) (e : TypeId) (i : TypeInfo) (z : Value) (size bytes : Nat) (ht : P.underlying t = some (.slice e)) (hi : P.info? e = some i) (hz : i.zero = some z)
    (hsize : i.size = size) (hby : i.bytes = bytes) (hzs : z.cells.size = size) (hsz : 0 < size)
    (v : Value) (n : Nat) (xs : List Value) (hs : a.eval s = v) (hown : w.ownsRow base e size v n xs)
    (ad : Addr) (m c : Nat) (news : List Value) (hx : a.eval x = .slice (some ad) m c) (hl : news.length = m * size) (hnews : ∀ j u, news[j]? = some u → w.cell? (ad.add j) = some u) (h1 : ∀ u ∈ news, u.oneCell' = true)
    (h63 : n + m ≤ maxLen) (hbytes : (n + m) * bytes ≤ 140737488355328) (hbase : base ≤ w.heap.size)
    (h : ∀ v' w', w'.ownsRow base e size v' (n + m) (xs ++ news) → w.grownBy w' v.ownBlock → K (a.put o.dst v') w') :
    if Region.wanted o (yielded ops a.tmps) = true then Oper.wp P o a w K Q else E := by
  have hw : Region.wanted o (yielded ops a.tmps) = true := by simp [Region.wanted, hgd]
  rw [if_pos hw]
  exact wp_append_own w s x t ho base e i z size bytes ht hi hz hsize hby hzs hsz v n xs hs hown ad m c news hx hl hnews h1 h63 hbytes hbase fun v' w' h2 h3 _ => h v' w' h2 h3

theorem grown_drew {a b : World} {row : Option Nat} (h : a.grownBy b row) : a.grownBy b.drew row := ⟨h.os, h.tape, h.output, h.size, h.block⟩

/-- The places, turned by k. -/
def rot (m k p : Nat) : Nat := if p + k < m then p + k else p + k - m

theorem rot_oneOne (m k : Nat) (hk : k < m) : OneOne (rot m k) m := by
  refine ⟨fun p hp => ?_, fun i j hij hj => ?_⟩
  · unfold rot; split <;> omega
  · unfold rot; split <;> split <;> omega

theorem psum_rot (x : Nat → Int) (m k : Nat) (hk : k < m) : psum (fun p => x (rot m k p)) m = psum x m := psum_perm x (rot m k) m (rot_oneOne m k hk)

theorem vals_drop (x : Nat → Int) (m k : Nat) : (vals x m).drop k = (List.range (m - k)).map (fun i => Value.int .i64 (x (k + i))) := by
  apply List.ext_getElem?
  intro i
  rw [List.getElem?_drop]
  by_cases h : i < m - k
  · rw [vals_get x m (k + i) (by omega)]; simp [h]
  · rw [List.getElem?_eq_none (by rw [vals_len]; omega), List.getElem?_eq_none (by simp; omega)]
theorem vals_take (x : Nat → Int) (m k : Nat) (h : k ≤ m) : (vals x m).take k = vals x k := by
  apply List.ext_getElem?
  intro i
  rw [List.getElem?_take]
  by_cases h1 : i < k
  · rw [if_pos h1, vals_get x m i (by omega), vals_get x k i h1]
  · rw [if_neg h1, List.getElem?_eq_none (by rw [vals_len]; omega)]
theorem vals_rot (x : Nat → Int) (m k : Nat) (h : k < m) : (List.range (m - k)).map (fun i => Value.int .i64 (x (k + i))) ++ vals x k = vals (fun p => x (rot m k p)) m := by
  apply List.ext_getElem?
  intro i
  by_cases h0 : i < m
  · rw [vals_get _ m i h0]
    unfold rot
    by_cases h1 : i < m - k
    · rw [List.getElem?_append_left (by simpa using h1), if_pos (by omega), Nat.add_comm i k]; simp [h1]
    · rw [List.getElem?_append_right (by simp; omega), if_neg (by omega), List.length_map, List.length_range, vals_get x k _ (by omega)]
      rw [show i - (m - k) = i + k - m by omega]
  · rw [List.getElem?_eq_none (by simp [vals]; omega), List.getElem?_eq_none (by rw [vals_len]; omega)]

/-- The weights, each of at least 1. -/
def WOK1 (w : World) (S : Nat) (wr : World) (v : Value) (m : Nat) (x : Nat → Int) : Prop := WOK w S wr v m x ∧ ∀ p, p < m → 1 ≤ x p

theorem psum_pos (x : Nat → Int) (m : Nat) (h : ∀ p, p < m → 1 ≤ x p) (hm : 0 < m) : 1 ≤ psum x m := by
  have a := psum_mono x m (fun i hi => by have := h i hi; omega) 1 hm
  have b := h 0 hm
  have e : psum x 1 = 0 + x 0 := rfl
  omega

/-- A cell of the row, at the place that a slice of it begins with. -/
theorem own_at {w : World} {base m cap g : Nat} {x : Nat → Int} (h : w.ownsRow base 3 1 (.slice (some ⟨g, 0, none⟩) m cap) m (vals x m)) (k : Nat) :
    ∀ j u, ((vals x m).drop k)[j]? = some u → w.cell? ((⟨g, k, none⟩ : Addr).add j) = some u := by
  intro j u hu
  rw [List.getElem?_drop] at hu
  have := h.cells (g := g) rfl (k + j) u hu
  rw [addr_add _ g 0 rfl] at this
  rw [addr_add _ g k rfl]
  simpa using this

theorem order_turned {w wr w1 w2 : World} {S m cap g k : Nat} {v1 v2 : Value} {x : Nat → Int} (W : WOK w S wr (.slice (some ⟨g, 0, none⟩) m cap) m x) (hg : g < wr.heap.size) (hk : k < m)
    (ho1 : w1.ownsRow wr.heap.size 3 1 v1 (0 + (m - k)) ([] ++ (vals x m).drop k)) (hg1 : (wr.alloc (.cells #[] 3)).drew.grownBy w1 (some wr.heap.size))
    (ho2 : w2.ownsRow wr.heap.size 3 1 v2 (0 + (m - k) + k) ([] ++ (vals x m).drop k ++ (vals x m).take k)) (hg2 : w1.grownBy w2 v1.ownBlock) :
    w.grownBy w2 none ∧ S < w2.heap.size ∧ Ws w2 (some ⟨g, 0, none⟩) m x ∧ ∃ a2 cap2, v2 = .slice a2 m cap2 ∧ Ws w2 a2 m (fun p => x (rot m k p)) := by
  have gW : wr.grownBy (wr.alloc (.cells #[] 3)).drew none := grown_drew (World.grownBy_alloc wr (.cells #[] 3) none)
  have sz := W.2.2.2.1.size
  have g1 := grown_off (grown_trans W.2.2.2.1 gW) hg1 sz
  have lt1 : ∀ b, v1.ownBlock = some b → wr.heap.size ≤ b := fun b hb => (ho1.lt b hb).1
  have g2 : w.grownBy w2 none := by
    cases hv : v1.ownBlock with
    | none => rw [hv] at hg2; exact grown_trans g1 hg2
    | some b => rw [hv] at hg2; exact grown_off g1 hg2 (by have := lt1 b hv; omega)
  refine ⟨g2, ?_, fun i hi => ⟨g, 0, rfl, ?_⟩, ?_⟩
  · have a := W.2.2.2.2; have b := gW.size; have c := hg1.size; have d := hg2.size; omega
  · rw [Nat.zero_add]
    refine hg2.cell (hg1.cell (gW.cell (own_cells W.1 i hi) (by simp)) (by simp; omega)) ?_
    intro e
    have := lt1 g e.symm
    omega
  · rw [show 0 + (m - k) + k = m by omega, List.nil_append, vals_drop, vals_take x m k (by omega), vals_rot x m k hk] at ho2
    obtain ⟨a, c, e, ha⟩ := own_shape ho2
    subst e
    exact ⟨a, c, rfl, own_ws ho2⟩

theorem near (a b : Int) (h : a = b ∨ a = b + 1 ∨ a = b - 1) :
    ((a != b) = false ∧ (a == b) = true) ∨ ((a != b) = true ∧ (a == b) = false ∧ (a != b + 1) = false ∧ (a == b + 1) = true) ∨
    ((a != b) = true ∧ (a == b) = false ∧ (a != b + 1) = true ∧ (a == b + 1) = false ∧ (a != b - 1) = false ∧ (a == b - 1) = true) := by
  rcases h with h | h | h
  · exact .inl (by simp [h])
  · refine .inr (.inl ⟨?_, ?_, by simp [h], by simp [h]⟩)
    · rw [bne_iff_ne]; omega
    · rw [beq_eq_false_iff_ne]; omega
  · refine .inr (.inr ⟨?_, ?_, ?_, ?_, by simp [h], by simp [h]⟩)
    · rw [bne_iff_ne]; omega
    · rw [beq_eq_false_iff_ne]; omega
    · rw [bne_iff_ne]; omega
    · rw [beq_eq_false_iff_ne]; omega

set_option maxRecDepth 100000 in
set_option maxHeartbeats 1000000 in
theorem orderLaw (a0 : Option Addr) (len0 cap0 : Nat) (zs : List Int) (t u : Int) (w : World) (hin : InRow w a0 len0 cap0 zs) (ht : 0 ≤ t) (ht2 : t ≤ 4294967295) (hu : 0 ≤ u) (hu2 : u ≤ 255) :
    Calls Try.prog 7 #[.slice a0 len0 cap0, .int .u32 t, .int .u8 u] w fun e w' => e = .returned (.bool true) ∧ Below w.heap.size w w' := by
  obtain ⟨i0, hi, hz0, hz1, hz2⟩ := info_parts3
  have HI := Lib.hid hin
  clear hin
  go_enter Try.func7, Try.ntmps7
  go_wp2_with fail
  refine (new_any a0 len0 cap0 zs w HI.out).mono ?_
  rintro e w1 ⟨rfl, hg1, hs1, hb1⟩
  generalize hS : w.heap.size = S at *
  have HS := Lib.hid hS
  have G1 := Lib.hid hg1
  have S1 := Lib.hid hs1
  clear hS hg1 hs1
  go_wp2_with fail
  refine (range_any S 1 8 w1 S1.out (by omega) (by omega) (by omega)).mono ?_
  rintro e w2 ⟨N, hN, rfl, hg2, hs2⟩
  have hb2 : S < w2.heap.size := by have := hg2.size; omega
  have G2 := Lib.hid (grown_off G1.out hg2 (by rw [HS.out]; exact Nat.le_refl _))
  have S2 := Lib.hid hs2
  clear hg2 hs2 G1 S1
  go_wp2
  go_loopw [8, 9, 10] (fun s8 s9 s10 wr => ∃ (i y : Int) (m : Nat) (x : Nat → Int), s10 = .int .i64 i ∧ s9 = .int .i64 y ∧ 0 ≤ i ∧ m + i = N ∧ 0 ≤ y ∧ y ≤ 40 * m ∧ Hid (WOK1 w S wr s8 m x)) (fun _ _ s _ => (intOf s).toNat)
  case atStart => exact ⟨N, 0, 0, fun _ => 0, rfl, rfl, by omega, by omega, by omega, by omega, ⟨World.ownsRow_nil _ _ _ _, fun p hp => absurd hp (by omega), S2.out, G2.out, hb2⟩, fun p hp => absurd hp (by omega)⟩
  case round =>
    obtain ⟨i, y, m, x, rfl, rfl, hi0, hmi, hy0, hy1, W⟩ := hrel
    by_cases hlt : 0 < i
    · have hm7 : (m : Int) ≤ 7 := by omega
      have hi8 : i ≤ 8 := by omega
      have HM := Lib.hid hmi
      clear hmi
      go_wp2_with fail
      refine (range_any S 1 40 wr W.out.1.2.2.1 (by omega) (by omega) (by omega)).mono ?_
      rintro e w4 ⟨r, hr, rfl, hg4, hs4⟩
      have G4 := Lib.hid hg4
      have S4 := Lib.hid hs4
      have O4 := Lib.hid (own_kept W.out.1.1 G4.out)
      clear hg4 hs4
      go_wp2_with (at_builtin; refine wpList_append_own _ rfl _ _ 22 rfl (S + 1) 3 i0 (.int .i64 0) 1 8 Try.underlying22 hi hz0 hz1 hz2 rfl (by decide) _ _ _ rfl (O4.out.alloc _) ⟨w4.heap.size, 0, none⟩ 1 1 [.int .i64 (y + r)] rfl rfl ?c1 ?c2 ?c3 ?c4 ?c5 ?_)
      case c1 => exact cell_one_new _ _ _
      case c2 => intro u hu; simp at hu; subst hu; rfl
      case c3 => unfold maxLen; omega
      case c4 => omega
      case c5 => simp; have := G4.out.size; have := W.out.1.2.2.2.2; omega
      intro v' w5 hown hg5 _
      have W5 := Lib.hid (show WOK1 w S w5 v' (m + 1) (setF x m (y + r)) from ⟨W.out.1.next HS.out w4 _ G4.out S4.out (World.grownBy_alloc w4 _ none) hown hg5 (by omega), fun p hp => by
        unfold setF
        by_cases e : p = m
        · rw [if_pos e]; omega
        · rw [if_neg e]; exact W.out.2 p (by omega)⟩)
      clear hown hg5
      go_wp2
      go_roundw
      case rel => exact ⟨i - 1, y + r, m + 1, setF x m (y + r), rfl, rfl, by omega, by have := HM.out; omega, by omega, by omega, W5⟩
      case measure => simp [intOf]; omega
    · obtain rfl : i = 0 := by omega
      have hm1 : 1 ≤ m := by omega
      have hm8 : m ≤ 8 := by omega
      obtain ⟨a, cap, rfl, ha⟩ := own_shape W.out.1.1
      obtain ⟨g, rfl, hg0, hg1⟩ := ha (by omega)
      have hcap : m ≤ cap := by
        rcases W.out.1.1.2 with ⟨h, _⟩ | ⟨_, _, _, h, _, _, h2, _⟩
        · cases h
        · injection h with _ _ h3; omega
      have hcap2 : cap ≤ 9223372036854775807 := by
        rcases W.out.1.1.2 with ⟨h, _⟩ | ⟨_, _, _, h, _, _, _, h2, _⟩
        · cases h
        · injection h with _ _ h3; unfold maxLen at h2; omega
      have hr := Rd.tmod_range u m (by omega)
      have hr0 : 0 ≤ u.tmod m := Int.tmod_nonneg _ hu
      obtain ⟨k, hk⟩ : ∃ k : Nat, u.tmod m = (k : Int) := ⟨(u.tmod m).toNat, by omega⟩
      have hkm : k < m := by omega
      clear hmi hlt hi0 hN ha
      have hkm2 : k ≤ m := by omega
      have hkm3 : k ≤ cap := by omega
      have hkc : (cap = k) = False := by simp; omega
      have L1 := Lib.hid (show ((vals x m).drop k).length = (m - k) * 1 by rw [List.length_drop, vals_len]; omega)
      have L2 := Lib.hid (show ((vals x m).take k).length = k * 1 by rw [List.length_take, vals_len]; omega)
      have OW := Lib.hid (World.ownsRow_lit (base := wr.heap.size) (size := 1) (e := 3) wr #[] 0 (Nat.le_refl _) (by decide) rfl)
      have gW : wr.grownBy (wr.alloc (.cells #[] 3)).drew none := grown_drew (World.grownBy_alloc wr (.cells #[] 3) none)
      have N1 := Lib.hid (show ∀ j u, ((vals x m).drop k)[j]? = some u → (wr.alloc (.cells #[] 3)).drew.cell? ((⟨g, k, none⟩ : Addr).add j) = some u from fun j u hu => gW.cell (own_at W.out.1.1 k j u hu) (by simp))
      have V1 := Lib.hid (show ∀ u ∈ (vals x m).drop k, u.oneCell' = true from fun u hu => by
        have := List.mem_of_mem_drop hu; unfold vals at this; simp at this; obtain ⟨_, _, rfl⟩ := this; rfl)
      have V2 := Lib.hid (show ∀ u ∈ (vals x m).take k, u.oneCell' = true from fun u hu => by
        have := List.mem_of_mem_take hu; unfold vals at this; simp at this; obtain ⟨_, _, rfl⟩ := this; rfl)
      have N2 := Lib.hid (show ∀ (w1 : World), (wr.alloc (.cells #[] 3)).drew.grownBy w1 (some wr.heap.size) → ∀ j u, ((vals x m).take k)[j]? = some u → w1.cell? ((⟨g, 0, none⟩ : Addr).add j) = some u from fun w1 h1 j u hu => by
        have hj : ((vals x m).drop 0)[j]? = some u := by
          rw [List.getElem?_take] at hu; split at hu
          · simpa using hu
          · cases hu
        have := gW.cell (own_at W.out.1.1 0 j u hj) (by simp)
        exact h1.cell this (by simp; rw [addr_add _ g 0 rfl]; simp; omega))
      have B1 := Lib.hid (show wr.heap.size ≤ (wr.alloc (.cells #[] 3)).drew.heap.size by simp)
      have M1 := Lib.hid (show 0 + (m - k) ≤ maxLen ∧ (0 + (m - k)) * 8 ≤ 140737488355328 ∧ 0 + (m - k) + k ≤ maxLen ∧ (0 + (m - k) + k) * 8 ≤ 140737488355328 by unfold maxLen; omega)
      clear gW
      go_wp2
      go_region_law (first | (refine step_append_own rfl (.tmp 40) (.tmp 43) 22 rfl wr.heap.size 3 i0 (.int .i64 0) 1 8 Try.underlying22 hi hz0 hz1 hz2 rfl (by decide) (.slice (some ⟨wr.heap.size, 0, none⟩) 0 0) 0 [] (by simp [Act.eval]) (by exact OW.out) ⟨g, k, none⟩ (m - k) (cap - k) ((vals x m).drop k) (by simp [Act.eval]) L1.out (by exact N1.out) V1.out M1.out.1 M1.out.2.1 B1.out ?_; intro v1 wv1 ho1 hgv1) | (refine step_append_own rfl (.tmp 44) (.tmp 47) 22 rfl wr.heap.size 3 i0 (.int .i64 0) 1 8 Try.underlying22 hi hz0 hz1 hz2 rfl (by decide) v1 (0 + (m - k)) _ (by simp [Act.eval]) ho1 ⟨g, 0, none⟩ k cap ((vals x m).take k) (by simp [Act.eval]) L2.out (by exact N2.out _ hgv1) V2.out M1.out.2.2.1 M1.out.2.2.2 (by have := B1.out; have := hgv1.size; omega) ?_; intro v2 wv2 ho2 hgv2))
      obtain ⟨t1, t2, t3, a2, cap2, rfl, t4⟩ := order_turned W.out.1 hg1 hkm ho1 hgv1 ho2 hgv2
      have T1 := Lib.hid t1
      have T3 := Lib.hid t3
      have T4 := Lib.hid t4
      have hsp := psum_pos x m W.out.2 (by omega)
      have GX := Lib.hid (show ∀ i, i < m → goodW (x i) from fun i hi => by have := W.out.1.2.1 i hi; exact ⟨this.1, by omega⟩)
      have GY := Lib.hid (show ∀ i, i < m → goodW (x (rot m k i)) from fun i hi => GX.out _ ((rot_oneOne m k hkm).1 i hi))
      have h1 := shares_ok t (psum x m) (some ⟨g, 0, none⟩) m cap x wv2 (by omega) (by omega) ht (by omega) T3.out GX.out rfl hsp
      have H1 := Lib.hid h1
      have HSP := Lib.hid hsp
      clear t1 t3 t4 ho1 hgv1 ho2 hgv2 h1 hsp N1 N2 V1 V2 B1 M1 OW L1 L2 hkc
      go_wp2_with fail
      refine H1.out.mono ?_
      rintro e w6 ⟨B, gs, rfl, hB, hB2, hso, hrow, hg6⟩
      have G6 := Lib.hid (grown_trans T1.out hg6)
      have RW1 := Lib.hid hrow
      have T5 := Lib.hid (show Ws w6 a2 m (fun p => x (rot m k p)) from fun i hi => by
        obtain ⟨b, off, e, c⟩ := T4.out i hi
        exact ⟨b, off, e, hg6.cell c (by simp)⟩)
      clear hso hrow hg6 T3 T4 H1
      have h2 := shares_ok t (psum x m) a2 m cap2 (fun p => x (rot m k p)) w6 (by omega) (by omega) ht (by omega) T5.out GY.out (psum_rot x m k hkm) HSP.out
      have H2 := Lib.hid h2
      clear h2
      go_wp2_with fail
      refine H2.out.mono ?_
      rintro e w7 ⟨C, gt, rfl, hC, hC2, hso2, hrow2, hg7⟩
      have G7 := Lib.hid (grown_trans G6.out hg7)
      have RWS := Lib.hid (RW1.out.grown hg7 (by omega) (by simp))
      have RWT := Lib.hid hrow2
      obtain ⟨sh, hsh⟩ : ∃ sh, sh = share t (psum x m) x gs (left t (psum x m) x m).toNat := ⟨_, rfl⟩
      obtain ⟨th, hth⟩ : ∃ th, th = share t (psum x m) (fun p => x (rot m k p)) gt (left t (psum x m) (fun p => x (rot m k p)) m).toNat := ⟨_, rfl⟩
      have RS := Lib.hid (show RowZ w7 B m sh from by rw [hsh]; exact RWS.out)
      have RT := Lib.hid (show RowZ w7 C m th from by rw [hth]; exact RWT.out)
      have F1 := Lib.hid (show ∀ i, i < m → 0 ≤ sh i ∧ sh i ≤ 1152921504606846977 from fun i hi => by rw [hsh]; exact share_range t _ x m gs _ i ht (by omega) HSP.out GX.out hi)
      have F2 := Lib.hid (show ∀ i, i < m → 0 ≤ th i ∧ th i ≤ 1152921504606846977 from fun i hi => by rw [hth]; exact share_range t _ (fun p => x (rot m k p)) m gt _ i ht (by omega) HSP.out GY.out hi)
      have F3 := Lib.hid (show ∀ i j, rot m k j = i → sh i = th j ∨ sh i = th j + 1 ∨ sh i = th j - 1 from fun i j e => by
        rw [hsh, hth]
        unfold share quo
        dsimp only
        rw [e]
        split <;> split <;> omega)
      clear hso2 hrow2 hg7 hsh hth RWS RWT RW1 H2
      go_wp2
      go_loopw [17, 18, 85] (fun _ _ s85 wr => ∃ (i q : Nat), s85 = .int .i64 i ∧ i ≤ m ∧ wr = w7.drewN q) (fun _ _ i _ => m - (intOf i).toNat)
      case atStart => exact ⟨0, 0, rfl, by omega, rfl⟩
      case round =>
        obtain ⟨i, q, rfl, hi, rfl⟩ := hrel
        by_cases hlt : i < m
        · have hmod : (((i : Int) + (m : Int) - (k : Int)) % (m : Int)) = ((if k ≤ i then i - k else i + m - k : Nat) : Int) := by
            split
            · rw [show (i : Int) + (m : Int) - (k : Int) = (i - k : Nat) + (m : Int) by omega, Int.add_emod_right, Int.emod_eq_of_lt (by omega) (by omega)]
            · rw [Int.emod_eq_of_lt (by omega) (by omega)]; omega
          obtain ⟨j, hj⟩ : ∃ j, j = if k ≤ i then i - k else i + m - k := ⟨_, rfl⟩
          rw [← hj] at hmod
          have hjm : j < m := by rw [hj]; split <;> omega
          have hrot : rot m k j = i := by unfold rot; rw [hj]; split <;> split <;> omega
          have c1 := RS.out.1 i hlt
          have c2 := RT.out.1 j hjm
          have f1 := F1.out i hlt
          have f2 := F2.out j hjm
          have f3 := F3.out i j hrot
          have him : (i : Int) < (m : Int) := by omega
          have hjm2 : (j : Int) < (m : Int) := by omega
          generalize sh i = a at *
          generalize th j = b at *
          clear hj hrot
          have hw1 : IntKind.i64.wrap (b + 1) = b + 1 := IntWalk.i64_in _ (by omega)
          have hw2 : IntKind.i64.wrap (b - 1) = b - 1 := IntWalk.i64_in _ (by omega)
          rcases near a b f3 with ⟨t1, t2⟩ | ⟨t1, t2, t3, t4⟩ | ⟨t1, t2, t3, t4, t5, t6⟩
          all_goals
            clear f3
            go_wp2
            go_quiet (fail)
            go_wp2
            go_roundw
            case rel => exact ⟨i + 1, _, by go_num, by omega, rfl⟩
            case measure => simp [intOf]; omega
        · obtain rfl : i = m := by omega
          go_wp2_with fail
          refine (awake_any _).mono ?_; rintro e w' ⟨rfl, hg⟩
          have G := Lib.hid (grown_below (grown_trans (grown_trans G7.out (grown_drewN _ q none)) hg))
          clear hg
          go_wp2
          go_ret
          exact ⟨rfl, G.out⟩
end Go.Proofs.Ytkpmhgikcipedaa
