import Derived.Test.YticmoaebegahgaaGreatDoorKt
import Derived.Test.YticmoaebegahgaaGreatDoorLe
set_option linter.all false
namespace Go.Proofs.YticmoaebegahgaaGreatDoor.Iw
open Go.ChangeShapes Go.WideShapes Go.ChangeAt Go.RowKit
open Wr (IR RB iv ivs bv bvs grown_trans grown_refl grown_alloc ret_int ret_bool tv Ret ret_mk)
section
variable {P : Program} {ops : Array Oper} {Q : Exit → Act → World → Prop} {md : Region.Mode} {S : World → Prop} {z : Nat}
def wpAnyM (P : Program) (md : Region.Mode) (ops : Array Oper) (Q : Exit → Act → World → Prop) (S : World → Prop) (z : Nat) : Nat → Array Bool → Act → World → Prop
  | 0, listed, a, w => Region.ready md ops listed = [] ∧ Q .normal a w
  | fuel + 1, listed, a, w =>
    (Region.ready md ops listed = [] → Q .normal a w) ∧
    ∀ i ∈ Region.ready md ops listed, wpOp P ops Q i (fun a' w' => ((listed.setIfInBounds i true).getD z true = false → S w') ∧ wpAnyM P md ops Q S z fuel (listed.setIfInBounds i true) a' w') a w
theorem wpAny_of_M : ∀ (fuel : Nat) (listed : Array Bool) (a : Act) (w : World), wpAnyM P md ops Q S z fuel listed a w → wpAny P md ops Q fuel listed a w
  | 0, _, _, _, h => h
  | fuel + 1, _, _, _, h => ⟨h.1, fun i hi => wpOp_mono (fun a' w' h' => wpAny_of_M fuel _ a' w' h'.2) (h.2 i hi)⟩
theorem unl {listed : Array Bool} {i : Nat} (h : (listed.setIfInBounds i true).getD z true = false) : listed.getD z true = false := by
  by_cases e : i = z
  · subst e
    rcases Nat.lt_or_ge i listed.size with h' | h'
    · simp [h'] at h
    · simp [Array.getElem?_eq_none h'] at h
  · rwa [getD_set_ne true e] at h
theorem wpAnyM_first {S0 : World → Prop} {i : Nat} {oi : Oper} {v : Value} (hi : ops[i]? = some oi) (hiz : i ≠ z) (hsel : ∀ (j : Nat) (o : Oper) cs b, ops[j]? = some o → o.op ≠ .select cs b)
    (hQ : ∀ c a w, Q (.panic c) (a.put oi.dst v) w → Q (.panic c) a w) (hS0 : (∀ w, S w → S0 w) ∧ (waits md ops z i = true ∨ ∀ w, S0 w)) :
    ∀ (fuel : Nat) (listed : Array Bool) (a : Act) (w : World),
      (∀ j oj, ops[j]? = some oj → j ≠ i → listed.getD j true = false → (∀ e ∈ oj.after, Region.binds md e = true → e.on ≠ i) → oi.apart ops oj = true) →
      i ∈ Region.ready md ops listed → YieldsIf P ops S0 oi v a → S0 w → (listed.getD z true = false → S w) → ((∀ w, S0 w) ∨ listed.getD z true = false) →
      wpAnyM P md ops Q S z fuel (listed.setIfInBounds i true) (a.put oi.dst v) w → wpAnyM P md ops Q S z (fuel + 1) listed a w := by
  intro fuel
  induction fuel with
  | zero =>
    intro listed a w _ hr hy h0 hS hz0 H
    refine ⟨fun h => (by rw [h] at hr; cases hr), fun j hj => ?_⟩
    by_cases hji : j = i
    · subst hji; exact hy.wpOp hi h0 ⟨fun h => hS (unl h), H⟩
    · have := ready_mono hj hji
      rw [H.1] at this
      cases this
  | succ fuel ih =>
    intro listed a w hfree hr hy h0 hS hz0 H
    refine ⟨fun h => (by rw [h] at hr; cases hr), fun j hj => ?_⟩
    by_cases hji : j = i
    · subst hji; exact hy.wpOp hi h0 ⟨fun h => hS (unl h), H⟩
    · have h1 := H.2 j (ready_mono hj hji)
      have hzi : (∀ w, S0 w) ∨ (j ≠ z ∧ listed.getD z true = false) := by
        rcases hS0.2 with hw | hw
        · rcases hz0 with h | h
          · exact .inl h
          · exact .inr ⟨fun e => by subst e; exact waits_not hw hr hj, h⟩
        · exact .inl hw
      obtain ⟨hjun, oj, hoj, hall⟩ := mem_ready.1 hj
      have hnot : ∀ e ∈ oj.after, Region.binds md e = true → e.on ≠ i := fun e he hb heq => by
        have h1 := hall e he hb
        have h0 := (mem_ready.1 hr).1
        rw [heq] at h1
        rcases Nat.lt_or_ge i listed.size with h' | h'
        · simp [h'] at h0 h1; rw [h0] at h1; cases h1
        · simp [Array.getElem?_eq_none h'] at h1
      have h2 := wpOp_putIf hoj (hfree j oj hoj hji hjun hnot) (fun cs b => hsel i oi cs b hi) (fun cs b => hsel j oj cs b hoj) hQ hy h1
      have hfree' : ∀ k ok, ops[k]? = some ok → k ≠ i → (listed.setIfInBounds j true).getD k true = false →
          (∀ e ∈ ok.after, Region.binds md e = true → e.on ≠ i) → oi.apart ops ok = true := fun k ok hk hki hun hno => by
        refine hfree k ok hk hki ?_ hno
        by_cases hjk : j = k
        · subst hjk; exact hjun
        · rw [getD_set_ne true hjk] at hun; exact hun
      refine wpOp_mono (fun a' w' h3 => ?_) h2
      have hS' : (listed.setIfInBounds j true).getD z true = false → S w' := fun hz => h3.2.1 (by rw [Array.setIfInBounds_comm _ _ (Ne.symm hji), getD_set_ne true hiz]; exact hz)
      refine ⟨hS', ih (listed.setIfInBounds j true) a' w' hfree' (ready_mono hr (Ne.symm hji)) h3.1 ?_ hS' ?_ ?_⟩
      · rcases hzi with h | ⟨h, h'⟩
        · exact h w'
        · exact hS0.1 _ (hS' (by rw [getD_set_ne true h]; exact h'))
      · exact hzi.imp id (fun h => by rw [getD_set_ne true h.1]; exact h.2)
      · rw [Array.setIfInBounds_comm _ _ hji]
        exact h3.2.2
theorem wpAnyM_done {listed : Array Bool} {a : Act} {w : World} (hr : Region.ready md ops listed = []) (h : Q .normal a w) :
    ∀ fuel, wpAnyM P md ops Q S z fuel listed a w
  | 0 => ⟨hr, h⟩
  | _ + 1 => ⟨fun _ => h, by rw [hr]; simp⟩
theorem wpAnyM_one {i : Nat} {fuel : Nat} {listed : Array Bool} {a : Act} {w : World} (hr : Region.ready md ops listed = [i])
    (h : wpOp P ops Q i (fun a' w' => ((listed.setIfInBounds i true).getD z true = false → S w') ∧ wpAnyM P md ops Q S z fuel (listed.setIfInBounds i true) a' w') a w) : wpAnyM P md ops Q S z (fuel + 1) listed a w :=
  ⟨(fun h0 => by rw [hr] at h0; cases h0), (by rw [hr]; intro j hj; rw [List.mem_singleton] at hj; subst hj; exact h)⟩
theorem wp_region_M (z : Nat) (S : World → Prop) {id : Nat} {a : Act} {w : World} (hm : P.follows .mixedOrders = true) (hS : S w.drew)
    (h : S w.drew → wpAnyM P .any ops Q S z ops.size (Array.replicate ops.size false) a w.drew) : (Code.region id ops true).wp P Q a w :=
  wp_region_any hm (wpAny_of_M _ _ _ _ (h hS))
end
section
variable {P : Program} {md : Region.Mode} {l : List Oper} {Q : Exit → Act → World → Prop} {S : World → Prop} {z : Nat} {fuel : Nat} {listed : Array Bool} {a : Act} {w : World}
theorem takeM {i : Nat} {oi : Oper} {v : Value} (hi : l[i]? = some oi) (hz : (i != z) = true) (hwt : waits md l.toArray z i = true) (hun : listed.getD z true = false)
    (hs : Region.noSelect l.toArray = true) (hf : Region.free md l.toArray listed i = true) (hr : (Region.ready md l.toArray listed).contains i = true)
    (hQ : ∀ c a w, Q (.panic c) (a.put oi.dst v) w → Q (.panic c) a w) (hy : YieldsIf P l.toArray S oi v a) (hS : S w)
    (h : wpAnyM P md l.toArray Q S z fuel (listed.setIfInBounds i true) (a.put oi.dst v) w) : wpAnyM P md l.toArray Q S z (fuel + 1) listed a w :=
  wpAnyM_first (S0 := S) (by simpa using hi) (by simpa using hz) (Region.noSelect_spec hs) hQ ⟨fun _ h => h, .inl hwt⟩ fuel listed a w (Region.free_spec (by simpa using hi) hf) (by simpa using hr) hy hS (fun _ => hS) (.inr hun) h
theorem takeU {i : Nat} {oi : Oper} {v : Value} (hi : l[i]? = some oi) (hz : (i != z) = true)
    (hs : Region.noSelect l.toArray = true) (hf : Region.free md l.toArray listed i = true) (hr : (Region.ready md l.toArray listed).contains i = true)
    (hQ : ∀ c a w, Q (.panic c) (a.put oi.dst v) w → Q (.panic c) a w) (hy : YieldsIf P l.toArray (fun _ => True) oi v a) (hS : S w)
    (h : wpAnyM P md l.toArray Q S z fuel (listed.setIfInBounds i true) (a.put oi.dst v) w) : wpAnyM P md l.toArray Q S z (fuel + 1) listed a w :=
  wpAnyM_first (S0 := fun _ => True) (by simpa using hi) (by simpa using hz) (Region.noSelect_spec hs) hQ ⟨fun _ _ => trivial, .inr fun _ => trivial⟩ fuel listed a w (Region.free_spec (by simpa using hi) hf) (by simpa using hr) hy trivial (fun _ => hS) (.inl fun _ => trivial) h
theorem oneM {i : Nat} {o : Oper} (ho : l[i]? = some o) (hr : Region.ready md l.toArray listed = [i])
    (h : ∀ K' : Act → World → Prop, Shut (∀ a w, S w → (S w → wpAnyM P md l.toArray Q S z fuel (listed.setIfInBounds i true) a w) → K' a w) → if Region.wanted o (yielded l.toArray a.tmps) = true then Oper.wp P o a w K' Q else K' (a.put o.dst undef) w) :
    wpAnyM P md l.toArray Q S z (fuel + 1) listed a w :=
  wpAnyM_one hr (wpOp_step (by simpa using ho) (fun K' hK => h K' (fun a w hS hW => hK a w ⟨fun _ => hS, hW hS⟩)))
theorem lastM {o : Oper} (ho : l[z]? = some o) (hz : (listed.setIfInBounds z true).getD z true = true) (hr : Region.ready md l.toArray listed = [z])
    (h : ∀ K' : Act → World → Prop, Shut (∀ a w, wpAnyM P md l.toArray Q S z fuel (listed.setIfInBounds z true) a w → K' a w) → if Region.wanted o (yielded l.toArray a.tmps) = true then Oper.wp P o a w K' Q else K' (a.put o.dst undef) w) :
    wpAnyM P md l.toArray Q S z (fuel + 1) listed a w :=
  wpAnyM_one hr (wpOp_step (by simpa using ho) (fun K' hK => h K' (fun a w hW => hK a w ⟨(fun e => by rw [hz] at e; cases e), hW⟩)))
end
def StE2 (S : Nat) (w : World) (e : Ending) (w' : World) : Prop :=
  ∃ (T E : Sl) (k : Ik), e = .returned (iv3 k.win T E) ∧ KA w' [S] T E k ∧ k.ok = true ∧ k.es.length < 64 ∧ (∀ x ∈ k.es, x.ep < 200) ∧ w.grownBy w' (some S) ∧ Wr.SrcOK w' S
set_option maxRecDepth 100000 in
set_option maxHeartbeats 4000000 in
theorem state2_any (S : Nat) (w : World) (hs : Wr.SrcOK w S) : Calls Tryz.prog 13 #[.pointer (some ⟨S, 0, none⟩)] w (StE2 S w) := by
  have HS := Hi hs
  have hsl : S < w.heap.size := Wr.src_lt hs
  clear hs
  obtain ⟨X, hX⟩ : ∃ X, X = w.heap.size := ⟨_, rfl⟩
  obtain ⟨w1, hw1⟩ : ∃ w1, w1 = w.alloc (Obj.cells #[.int .i64 0, .slice none 0 0, .slice none 0 0] 25) := ⟨_, rfl⟩
  have g1 : w.grownBy w1 none := by subst hw1; exact grown_alloc _ _ _
  have BZ := Hi (show Tri w1 X (.int .i64 0) (.slice none 0 0) (.slice none 0 0) by subst hw1; subst hX; exact tri_made _ _ _ _ _)
  have C := Hi (show Chg [S] w w1 from Chg.of0 g1)
  have HS := Hi (HS.out.grown g1)
  have HX := Hi (show S < X by omega)
  have HXW := Hi (show X = w.heap.size from hX)
  go_enter Tryz.func13, Tryz.ntmps13
  go_upto_region 1 with fail
  rw [← hw1]
  try simp only [← hX]
  clear hw1 hX g1 hsl
  go_wp2_with fail
  refine (Wr.n_any S 4 w1 HS.out (by omega) (by omega)).mono ?_
  rintro e w2 ⟨nn, hnn, rfl, g2, s2⟩
  have C := Hi (C.out.trans (Chg.of g2 (fun b hb => by injection hb with hb; subst hb; exact List.mem_singleton_self _) : Chg [S] w1 w2))
  have BZ := Hi (BZ.out.step (Chg.of g2 (fun b hb => by injection hb with hb; subst hb; exact List.mem_singleton_self _) : Chg [S] w1 w2) (fun hm => by rw [List.mem_singleton] at hm; have := HX.out; omega))
  have HNN := Hi (show 0 ≤ nn ∧ nn ≤ 16 by omega)
  have RN := Hi (rnew_ok nn w2 HNN.out)
  dsimp only [iv3, nilS, Sl.v] at RN
  have HS := Hi s2
  clear g2 s2 hnn
  go_wp2_with fail
  refine RN.out.mono ?_
  rintro e w3 ⟨rfl, g3⟩
  obtain ⟨Y, hY⟩ : ∃ b, b = w3.heap.size := ⟨_, rfl⟩
  obtain ⟨w4, hw4⟩ : ∃ z, z = w3.alloc (Obj.cells #[.int .i64 nn, .slice none 0 0, .slice none 0 0] 25) := ⟨_, rfl⟩
  have g4 : w3.grownBy w4 none := by subst hw4; exact grown_alloc _ _ _
  have BY := Hi (show Tri w4 Y (.int .i64 nn) (.slice none 0 0) (.slice none 0 0) by subst hw4; subst hY; exact tri_made _ _ _ _ _)
  have HXY := Hi (show X < Y by have h1 := BZ.out.lt; have h2 := g3.size; omega)
  have g34 := grown_trans g3 g4
  have C := Hi (C.out.trans (Chg.of0 g34))
  have BZ := Hi (BZ.out.grown g34)
  have HS := Hi (HS.out.grown g34)
  clear g3 g4 g34 RN
  go_upto_region 2 with fail
  rw [← hw4]
  try simp only [← hY]
  clear hw4 hY
  have gd := Wr.grown_drew w4 none
  refine wp_region_M 8 (fun w' => w'.cell? ⟨Y, 0, none⟩ = some (.int .i64 nn) ∧ w'.cell? ⟨Y, 1, none⟩ = some (.slice none 0 0) ∧ w'.cell? ⟨Y, 2, none⟩ = some (.slice none 0 0)) (by kernel_rfl) ?_ (fun hHeld => ?_)
  · exact (BY.out.grown gd).1
  try simp only [Act.put, lsA, lsB, lsC]
  have C := Hi (C.out.trans (Chg.of0 gd))
  have BZ := Hi (BZ.out.grown gd)
  have BY := Hi (BY.out.grown gd)
  have HS := Hi (HS.out.grown gd)
  clear gd
  generalize w4.drew = wd at *
  refine takeM (i := 0) (v := ?_) rfl (by kernel_rfl) (by kernel_rfl) (by kernel_rfl) (by kernel_rfl) (by kernel_rfl) (by kernel_rfl) (fun _ _ _ h => h) (Or.inl ⟨by rfl, ?_⟩) (by assumption) ?_
  rotate_left 1
  · intro w hSw; obtain ⟨s0, s1, s2⟩ := hSw; first | (go_simp; done) | (go_simp; with_reducible rfl)
  try simp only [Act.put, lsA, lsB, lsC]
  refine takeM (i := 1) (v := ?_) rfl (by kernel_rfl) (by kernel_rfl) (by kernel_rfl) (by kernel_rfl) (by kernel_rfl) (by kernel_rfl) (fun _ _ _ h => h) (Or.inl ⟨by rfl, ?_⟩) (by assumption) ?_
  rotate_left 1
  · intro w hSw; obtain ⟨s0, s1, s2⟩ := hSw; first | (go_simp; done) | (go_simp; with_reducible rfl)
  try simp only [Act.put, lsA, lsB, lsC]
  refine oneM (i := 2) rfl (by kernel_rfl) (fun K hK => ?_)
  go_simp
  refine (stream_any S wd HS.out).mono ?_
  rintro e w5 ⟨⟨oa, on, oc⟩, o, kk, rfl, hkk, hst, hor, g5, s5⟩
  have c5 : Chg [S] wd w5 := Chg.of g5 (fun b hb => by injection hb with hb; subst hb; exact List.mem_singleton_self _)
  have BY := Hi (BY.out.step c5 (fun hm => by rw [List.mem_singleton] at hm; have h1 := HX.out; have h2 := HXY.out; omega))
  have BZ := Hi (BZ.out.step c5 (fun hm => by rw [List.mem_singleton] at hm; have := HX.out; omega))
  have C := Hi (C.out.trans c5)
  have HST := Hi (And.intro hkk hst)
  have S5 := Hi s5
  have HOR := Hi hor
  have hon : on ≤ 8000 := by have h1 := stream_len hst; have h2 := hor.len; rw [Wr.bvs_len] at h2; dsimp only at h2; omega
  have HFW := Hi (Im.stream_few hst)
  have HEP := Hi (Im.stream_epochs hst)
  have KOK0 : (⟨nn, [], []⟩ : Ik).ok = true := Ik.ok_iff.2 ⟨HNN.out, by simp, .inl rfl, Im.sok_nil nn⟩
  have hroom : (⟨nn, [], []⟩ : Ik).es.length + (Im.gets (Im.scan (Im.ofTail (⟨nn, [], []⟩ : Ik).tail) o).out).length < 64 := by
    have h1 := HFW.out
    have e : Im.ofTail ([] : List UInt8) = none := rfl
    dsimp only
    rw [e, List.length_nil]
    omega
  have FD := Hi (rfeed_ok [X, Y, S] nilS nilS ⟨nn, [], []⟩ oa on oc o w5 (fun b hb => by
    have h1 := BY.out.lt
    have h2 := BZ.out.lt
    rcases List.mem_cons.1 hb with e | hb
    · omega
    · rcases List.mem_cons.1 hb with e | hb
      · omega
      · rw [List.mem_singleton] at hb; have h3 := HX.out; omega) (ka_nil _ _ _) KOK0 (or_rb2 HOR.out) HOR.out.fit.1 HOR.out.fit.2 (by omega) hroom)
  have RR := Im.run_small (win := nn) (e := 200) (Im.gets (Im.scan none o).out) [] (fun x hx => by cases hx) HEP.out
  have HKE := Hi (show (rfeedF ⟨nn, [], []⟩ o).1.ok = true ∧ (rfeedF ⟨nn, [], []⟩ o).1.es.length < 64 ∧ (∀ x ∈ (rfeedF ⟨nn, [], []⟩ o).1.es, x.ep < 200) ∧ (rfeedF ⟨nn, [], []⟩ o).1.win = nn from by
    obtain ⟨q1, q2⟩ := Im.cut_tail (c := []) (.inl rfl) o
    refine ⟨Ik.ok_iff.2 ⟨HNN.out, q2, q1, Im.run_ok HNN.out.1 _ _ (Im.sok_nil nn) (Im.gets_ok _)⟩, ?_, RR.1, rfl⟩
    have h1 := RR.2
    have h2 := HFW.out
    show (Im.run nn [] (Im.gets (Im.scan none o).out)).1.length < 64
    rw [List.length_nil] at h1
    omega)
  unfold RFe at FD
  generalize rfeedF ⟨nn, [], []⟩ o = fr at *
  obtain ⟨⟨fw, ft, fe⟩, fo⟩ := fr
  obtain ⟨k1, k2, k3, k4⟩ := HKE.out
  dsimp only at k1 k2 k3 k4
  subst k4
  have HK1 := Hi k1
  have HK2 := Hi k2
  have HK3 := Hi k3
  dsimp only [iv3, nilS, Sl.v] at FD
  dsimp only [Sl.v]
  clear hkk hst hor g5 s5 c5 hon KOK0 hroom RR k1 k2 k3 HKE HFW HEP HST
  refine hK.out _ _ ?_ (fun hHeld => ?_)
  · exact BY.out.1
  clear hK K
  try simp only [Act.put, lsA, lsB, lsC]
  refine oneM (i := 3) rfl (by kernel_rfl) (fun K hK => ?_)
  go_simp
  refine FD.out.mono ?_
  rintro e w6 ⟨⟨Ta, Tn, Tc⟩, ⟨Ea, En, Ec⟩, ⟨Ga, Gn, Gc⟩, rfl, hka, -, g6⟩
  dsimp only [Sl.v]
  have BY := Hi (BY.out.grown g6)
  have BZ := Hi (BZ.out.grown g6)
  have C := Hi (C.out.trans (Chg.of0 g6))
  have HKA := Hi hka
  have S6 := Hi (S5.out.grown g6)
  clear hka g6 FD HOR S5
  refine hK.out _ _ ?_ (fun hHeld => ?_)
  · exact BY.out.1
  clear hK K
  try simp only [Act.put, lsA, lsB, lsC]
  refine takeM (i := 4) (v := ?_) rfl (by kernel_rfl) (by kernel_rfl) (by kernel_rfl) (by kernel_rfl) (by kernel_rfl) (by kernel_rfl) (fun _ _ _ h => h) (Or.inl ⟨by rfl, ?_⟩) (by assumption) ?_
  rotate_left 1
  · intro w hSw; obtain ⟨s0, s1, s2⟩ := hSw; first | (go_simp; done) | (go_simp; with_reducible rfl)
  try simp only [Act.put, lsA, lsB, lsC]
  refine takeM (i := 5) (v := ?_) rfl (by kernel_rfl) (by kernel_rfl) (by kernel_rfl) (by kernel_rfl) (by kernel_rfl) (by kernel_rfl) (fun _ _ _ h => h) (Or.inl ⟨by rfl, ?_⟩) (by assumption) ?_
  rotate_left 1
  · intro w hSw; obtain ⟨s0, s1, s2⟩ := hSw; first | (go_simp; done) | (go_simp; with_reducible rfl)
  try simp only [Act.put, lsA, lsB, lsC]
  refine takeU (i := 6) (v := ?_) rfl (by kernel_rfl) (by kernel_rfl) (by kernel_rfl) (by kernel_rfl) (fun _ _ _ h => h) (Or.inl ⟨by rfl, ?_⟩) (by assumption) ?_
  rotate_left 1
  · intro w hSw; clear hSw; first | (go_simp; done) | (go_simp; with_reducible rfl)
  try simp only [Act.put, lsA, lsB, lsC]
  refine takeU (i := 7) (v := ?_) rfl (by kernel_rfl) (by kernel_rfl) (by kernel_rfl) (by kernel_rfl) (fun _ _ _ h => h) (Or.inl ⟨by rfl, ?_⟩) (by assumption) ?_
  rotate_left 1
  · intro w hSw; clear hSw; first | (go_simp; done) | (go_simp; with_reducible rfl)
  try simp only [Act.put, lsA, lsB, lsC]
  obtain ⟨⟨m0, m1, m2⟩, mf⟩ := BY.out
  have f0 := mf 0
  have f1 := mf 1
  have f2 := mf 2
  clear mf
  refine lastM rfl (by kernel_rfl) (by kernel_rfl) (fun K hK => ?_)
  go_simp
  obtain ⟨w7, hw7⟩ : ∃ z, z = ((w6.setCell ⟨Y, 0, none⟩ (.int .i64 fw)).setCell ⟨Y, 1, none⟩ (.slice Ta Tn Tc)).setCell ⟨Y, 2, none⟩ (.slice Ea En Ec) := ⟨_, rfl⟩
  have gs : Chg [Y] w6 w7 := by subst hw7; exact (((Chg.refl [Y] w6).set ⟨Y, 0, none⟩ _ (by simp)).set ⟨Y, 1, none⟩ _ (by simp)).set ⟨Y, 2, none⟩ _ (by simp)
  have BY7 := Hi (show Tri w7 Y (.int .i64 fw) (.slice Ta Tn Tc) (.slice Ea En Ec) by subst hw7; exact ((BY.out.set0 _).set1 _).set2 _)
  have BZ7 := Hi (BZ.out.step gs (fun hm => by rw [List.mem_singleton] at hm; have := HXY.out; omega))
  have KA7 := Hi (HKA.out.step gs (fun b hb => .inl (by rw [List.mem_singleton] at hb; rw [hb]; exact List.mem_cons_of_mem _ List.mem_cons_self)) (fun b hb => .inl hb))
  have C7 := Hi (C.out.then gs (fun b hb => .inr (by rw [List.mem_singleton] at hb; have h1 := HXY.out; have h2 := HXW.out; omega)))
  have S7 := Hi (src_chg S6.out gs (by have h1 := HX.out; have h2 := HXY.out; omega))
  rw [← hw7]
  clear hw7 gs m0 m1 m2 f0 f1 f2 BY BZ HKA C
  refine hK.out _ _ ?_
  clear hK K
  try simp only [Act.put, lsA, lsB, lsC]
  refine wpAnyM_done (by kernel_rfl) ?_ _
  obtain ⟨⟨c0, c1, c2⟩, -⟩ := BY7.out
  obtain ⟨⟨z0, z1, z2⟩, zF⟩ := BZ7.out
  have y0 := zF 0
  have y1 := zF 1
  have y2 := zF 2
  clear zF
  have FIN := Hi (fun (wz : World) (gz : Chg [X] w7 wz) => show StE2 S w (.returned (iv3 fw ⟨Ta, Tn, Tc⟩ ⟨Ea, En, Ec⟩)) wz from
    ⟨⟨Ta, Tn, Tc⟩, ⟨Ea, En, Ec⟩, ⟨fw, ft, fe⟩, rfl, (KA7.out.step gz (fun b hb => .inl (by rw [List.mem_singleton] at hb; rw [hb]; exact List.mem_cons_self)) (fun b hb => .inl (List.mem_cons_of_mem _ (List.mem_cons_of_mem _ hb)))), HK1.out, HK2.out, HK3.out, by1 (C7.out.then gz (fun b hb => .inr (by rw [List.mem_singleton] at hb; have h2 := HXW.out; omega))), src_chg S7.out gz HX.out⟩)
  go_wp2_with fail
  try simp only [Exit.inBlock, Exit.then]
  refine bodyPost_ret (v := iv3 fw ⟨Ta, Tn, Tc⟩ ⟨Ea, En, Ec⟩) ?hr rfl ?hE
  case hr =>
    rw [results_cell rfl]
    go_simp
    first | rfl | exact ⟨rfl, rfl⟩
  case hE =>
    exact FIN.out _ ((((Chg.refl _ w7).set ⟨X, 0, none⟩ (.int .i64 fw) (by simp)).set ⟨X, 1, none⟩ (.slice Ta Tn Tc) (by simp)).set ⟨X, 2, none⟩ (.slice Ea En Ec) (by simp))
end Go.Proofs.YticmoaebegahgaaGreatDoor.Iw
