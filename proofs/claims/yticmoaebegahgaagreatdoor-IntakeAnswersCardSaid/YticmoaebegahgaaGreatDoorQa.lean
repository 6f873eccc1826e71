import Derived.Deep.RegionHeld
import Derived.ProofKit
set_option linter.all false
namespace Go.Proofs.YticmoaebegahgaaGreatDoor.Iw
section
variable {P : Program} {md : Region.Mode} {ops : Array Oper} {Q : Exit → Act → World → Prop}
theorem ready_un {listed : Array Bool} {i : Nat} (h : i ∈ Region.ready md ops listed) : listed.getD i true = false := by
  have := (List.mem_filter.1 h).2
  simp only [Bool.and_eq_true, Bool.not_eq_true'] at this
  exact this.1
theorem ready_lt {listed : Array Bool} {i : Nat} (h : i ∈ Region.ready md ops listed) : i < ops.size := List.mem_range.1 (List.mem_filter.1 h).1
theorem ready_dep {listed : Array Bool} {i : Nat} (h : i ∈ Region.ready md ops listed) {o : Oper} (ho : ops[i]? = some o) {e : Edge} (he : e ∈ o.after) (hb : Region.binds md e = true) : listed.getD e.on false = true := by
  have := (List.mem_filter.1 h).2
  simp only [Bool.and_eq_true, ho, Option.map_some, Option.getD_some] at this
  have h2 := this.2
  rw [Array.all_eq_true_iff_forall_mem] at h2
  have h3 := h2 e he
  rw [hb] at h3
  simpa using h3
theorem count_set {l : Array Bool} {i : Nat} (h : l.getD i true = false) : (l.setIfInBounds i true).toList.count false + 1 = l.toList.count false := by
  have hi : i < l.size := by
    rcases Nat.lt_or_ge i l.size with h' | h'
    · exact h'
    · rw [Array.getD_eq_getD_getElem?, Array.getElem?_eq_none h'] at h; cases h
  have hv : l.toList[i]'(by simpa using hi) = false := by
    rw [Array.getD_eq_getD_getElem?, Array.getElem?_eq_getElem hi] at h
    simpa using h
  rw [Array.toList_setIfInBounds, List.count_set (by simpa using hi), hv]
  have : 0 < l.toList.count false := List.count_pos_iff.2 (by rw [← hv]; exact List.getElem_mem _)
  have e1 : (false == false) = true := rfl
  have e2 : (true == false) = false := rfl
  rw [e1, e2, if_pos rfl, if_neg (by simp)]
  omega
theorem wpAny_inv {I : Array Bool → Act → World → Prop}
    (hstep : ∀ listed a w i, I listed a w → i ∈ Region.ready md ops listed → wpOp P ops Q i (fun a' w' => I (listed.setIfInBounds i true) a' w') a w)
    (hend : ∀ listed a w, I listed a w → Region.ready md ops listed = [] → Q .normal a w) :
    ∀ fuel listed a w, listed.toList.count false ≤ fuel → I listed a w → wpAny P md ops Q fuel listed a w := by
  intro fuel
  induction fuel with
  | zero =>
    intro listed a w hc hI
    have hr : Region.ready md ops listed = [] := by
      rcases hl : Region.ready md ops listed with _ | ⟨i, r⟩
      · rfl
      · exfalso
        have h1 := count_set (ready_un (i := i) (by rw [hl]; exact List.mem_cons_self : i ∈ Region.ready md ops listed))
        omega
    exact ⟨hr, hend _ _ _ hI hr⟩
  | succ fuel ih =>
    intro listed a w hc hI
    refine ⟨hend _ _ _ hI, fun i hi => wpOp_mono (fun a' w' h => ih _ _ _ ?_ h) (hstep _ _ _ i hI hi)⟩
    have h1 := count_set (ready_un hi)
    omega
theorem wp_region_inv {l : List Oper} {I : Array Bool → Act → World → Prop} {id : Nat} {a : Act} {w : World} (hm : P.follows .mixedOrders = true)
    (hstep : ∀ listed a w i, I listed a w → i ∈ Region.ready .any l.toArray listed → wpOp P l.toArray Q i (fun a' w' => I (listed.setIfInBounds i true) a' w') a w)
    (hend : ∀ listed a w, I listed a w → Region.ready .any l.toArray listed = [] → Q .normal a w)
    (h0 : I (Array.replicate l.toArray.size false) a w.drew) : (Code.region id l.toArray true).wp P Q a w :=
  wp_region_any hm (wpAny_inv hstep hend _ _ _ _ (by rw [Array.toList_replicate, List.count_replicate_self]; exact Nat.le_refl _) h0)
theorem wpAnyH_inv {S : World → Prop} {I : Array Bool → Act → World → Prop}
    (hstep : ∀ listed a w i, I listed a w → i ∈ Region.ready md ops listed → wpOp P ops Q i (fun a' w' => S w' ∧ I (listed.setIfInBounds i true) a' w') a w)
    (hend : ∀ listed a w, I listed a w → Region.ready md ops listed = [] → Q .normal a w) :
    ∀ fuel listed a w, listed.toList.count false ≤ fuel → I listed a w → wpAnyH P md ops Q S fuel listed a w := by
  intro fuel
  induction fuel with
  | zero =>
    intro listed a w hc hI
    have hr : Region.ready md ops listed = [] := by
      rcases hl : Region.ready md ops listed with _ | ⟨i, r⟩
      · rfl
      · exfalso
        have h1 := count_set (ready_un (i := i) (by rw [hl]; exact List.mem_cons_self : i ∈ Region.ready md ops listed))
        omega
    exact ⟨hr, hend _ _ _ hI hr⟩
  | succ fuel ih =>
    intro listed a w hc hI
    refine ⟨hend _ _ _ hI, fun i hi => wpOp_mono (fun a' w' h => ⟨h.1, ih _ _ _ ?_ h.2⟩) (hstep _ _ _ i hI hi)⟩
    have h1 := count_set (ready_un hi)
    omega
theorem op_at {l : List Oper} {i : Nat} {o : Oper} {K : Act → World → Prop} {a : Act} {w : World} (ho : l[i]? = some o)
    (h : ∀ K' : Act → World → Prop, Shut (∀ a w, K a w → K' a w) → if Region.wanted o (yielded l.toArray a.tmps) = true then Oper.wp P o a w K' Q else K' (a.put o.dst undef) w) : wpOp P l.toArray Q i K a w :=
  wpOp_step (by simpa using ho) (fun K' hK => h K' hK)
def acyc (md : Region.Mode) (ops : Array Oper) : Bool := (List.range ops.size).all fun i => match ops[i]? with
  | none => true
  | some o => o.after.toList.all fun e => !Region.binds md e || decide (e.on < i)
theorem all_listed (hac : acyc md ops = true) {listed : Array Bool} (hs : listed.size = ops.size) (hr : Region.ready md ops listed = []) : ∀ i, i < ops.size → listed.getD i true = true := by
  intro i
  induction i using Nat.strongRecOn with
  | _ i ih =>
    intro hi
    rcases hb : listed.getD i true with _ | _
    · exfalso
      have hm : i ∈ Region.ready md ops listed := by
        refine List.mem_filter.2 ⟨List.mem_range.2 hi, ?_⟩
        simp only [hb, Bool.not_false, Bool.true_and, Array.getElem?_eq_getElem hi, Option.map_some, Option.getD_some]
        rw [Array.all_eq_true_iff_forall_mem]
        intro e he
        have h1 := List.all_eq_true.1 hac i (List.mem_range.2 hi)
        simp only [Array.getElem?_eq_getElem hi] at h1
        have h2 := List.all_eq_true.1 h1 e (by simpa using he)
        rcases hbd : Region.binds md e with _ | _
        · rfl
        · rw [hbd] at h2
          have h3 : e.on < i := by simpa using h2
          have h4 := ih e.on h3 (by omega)
          have h5 : listed.getD e.on false = true := by
            rw [Array.getD_eq_getD_getElem?, Array.getElem?_eq_getElem (by omega)] at h4 ⊢
            simpa using h4
          simpa using h5
      rw [hr] at hm
      cases hm
    · rfl
def puts (a : Act) : List Tmp → List Value → Act
  | d :: ds, v :: vs => puts (a.put (some d) v) ds vs
  | _, _ => a
theorem wp_region_keeps {l : List Oper} (I : List Bool → List Value → World → Prop) (ds : List Tmp) (vs0 : List Value) {id : Nat} {a : Act} {w : World} (hm : P.follows .mixedOrders = true) (hac : acyc .any l.toArray = true)
    (hv0 : a = puts a ds vs0) (h0 : I (List.replicate l.length false) vs0 w.drew)
    (hstep : ∀ bs vs w i, I bs vs w → i < l.length → i ∈ Region.ready .any l.toArray bs.toArray → wpOp P l.toArray Q i (fun a' w' => ∃ bs' vs', bs'.toArray = bs.toArray.setIfInBounds i true ∧ a' = puts a ds vs' ∧ I bs' vs' w') (puts a ds vs) w)
    (hend : ∀ bs vs w, I bs vs w → (∀ i, i < l.length → bs.toArray.getD i true = true) → Q .normal (puts a ds vs) w) : (Code.region id l.toArray true).wp P Q a w := by
  refine wp_region_inv (I := fun listed a' w' => ∃ bs vs, bs.toArray = listed ∧ bs.length = l.length ∧ a' = puts a ds vs ∧ I bs vs w') hm ?_ ?_ ?_
  · rintro _ _ w i ⟨bs, vs, rfl, hl, rfl, hI⟩ hi
    refine wpOp_mono ?_ (hstep bs vs w i hI (by simpa using ready_lt hi) hi)
    rintro a' w' ⟨bs', vs', hb, hv, hI'⟩
    refine ⟨bs', vs', hb, ?_, hv, hI'⟩
    have := congrArg Array.size hb
    simpa [hl] using this
  · rintro _ _ w ⟨bs, vs, rfl, hl, rfl, hI⟩ hr
    exact hend bs vs w hI (fun i hi => all_listed hac (by simpa using hl) hr i (by simpa using hi))
  · exact ⟨_, vs0, by simp, by simp, hv0, h0⟩
theorem wpAnyH_keeps {l : List Oper} {S : World → Prop} (I : List Bool → List Value → World → Prop) (ds : List Tmp) (bs0 : List Bool) (vs0 : List Value) {fuel : Nat} {a : Act} {w : World} (hac : acyc .any l.toArray = true) (hf : bs0.count false ≤ fuel) (hl0 : bs0.length = l.length)
    (hv0 : a = puts a ds vs0) (h0 : I bs0 vs0 w) (hS : ∀ bs vs w, I bs vs w → S w)
    (hstep : ∀ bs vs w i, I bs vs w → i < l.length → i ∈ Region.ready .any l.toArray bs.toArray → wpOp P l.toArray Q i (fun a' w' => ∃ bs' vs', bs'.toArray = bs.toArray.setIfInBounds i true ∧ a' = puts a ds vs' ∧ I bs' vs' w') (puts a ds vs) w)
    (hend : ∀ bs vs w, I bs vs w → (∀ i, i < l.length → bs.toArray.getD i true = true) → Q .normal (puts a ds vs) w) : wpAnyH P .any l.toArray Q S fuel bs0.toArray a w := by
  refine wpAnyH_inv (I := fun listed a' w' => ∃ bs vs, bs.toArray = listed ∧ bs.length = l.length ∧ a' = puts a ds vs ∧ I bs vs w') ?_ ?_ _ _ _ _ (by simpa using hf) ⟨bs0, vs0, rfl, hl0, hv0, h0⟩
  · rintro _ _ w i ⟨bs, vs, rfl, hl, rfl, hI⟩ hi
    refine wpOp_mono ?_ (hstep bs vs w i hI (by simpa using ready_lt hi) hi)
    rintro a' w' ⟨bs', vs', hb, hv, hI'⟩
    refine ⟨hS _ _ _ hI', bs', vs', hb, ?_, hv, hI'⟩
    have := congrArg Array.size hb
    simpa [hl] using this
  · rintro _ _ w ⟨bs, vs, rfl, hl, rfl, hI⟩ hr
    exact hend bs vs w hI (fun i hi => all_listed hac (by simpa using hl) hr i (by simpa using hi))
def Shutd (md : Region.Mode) (ops : Array Oper) (listed : Array Bool) : Prop := ∀ (i : Nat) (o : Oper), ops[i]? = some o → listed.getD i false = true → ∀ e ∈ o.after, Region.binds md e = true → listed.getD e.on false = true
theorem getD_set {l : Array Bool} {i j : Nat} (h : (l.setIfInBounds i true).getD j false = true) : l.getD j false = true ∨ j = i := by
  by_cases e : i = j
  · exact .inr e.symm
  · left
    rw [Array.getD_eq_getD_getElem?, Array.getElem?_setIfInBounds_ne e] at h
    rw [Array.getD_eq_getD_getElem?]; exact h
theorem getD_set_of {l : Array Bool} {i j : Nat} (h : l.getD j false = true) : (l.setIfInBounds i true).getD j false = true := by
  rw [Array.getD_eq_getD_getElem?] at h ⊢
  by_cases e : i = j
  · subst e
    rcases Nat.lt_or_ge i l.size with h' | h'
    · rw [Array.getElem?_setIfInBounds_self_of_lt h']; rfl
    · rw [Array.getElem?_eq_none h'] at h; cases h
  · rw [Array.getElem?_setIfInBounds_ne e]; exact h
theorem Shutd.step {listed : Array Bool} (h : Shutd md ops listed) {i : Nat} (hr : i ∈ Region.ready md ops listed) : Shutd md ops (listed.setIfInBounds i true) := by
  intro j o ho hj e he hb
  rcases getD_set hj with h1 | rfl
  · exact getD_set_of (h j o ho h1 e he hb)
  · exact getD_set_of (ready_dep hr ho he hb)
theorem wp_region_keeps2 {l : List Oper} (I : List Bool → List Value → World → Prop) (ds : List Tmp) (vs0 : List Value) {id : Nat} {a : Act} {w : World} (hm : P.follows .mixedOrders = true) (hac : acyc .any l.toArray = true)
    (hv0 : a = puts a ds vs0) (h0 : I (List.replicate l.length false) vs0 w.drew)
    (hstep : ∀ bs vs w i, I bs vs w → i < l.length → i ∈ Region.ready .any l.toArray bs.toArray → Shutd .any l.toArray bs.toArray → wpOp P l.toArray Q i (fun a' w' => ∃ bs' vs', bs'.toArray = bs.toArray.setIfInBounds i true ∧ a' = puts a ds vs' ∧ I bs' vs' w') (puts a ds vs) w)
    (hend : ∀ bs vs w, I bs vs w → (∀ i, i < l.length → bs.toArray.getD i true = true) → Q .normal (puts a ds vs) w) : (Code.region id l.toArray true).wp P Q a w := by
  refine wp_region_keeps (fun bs vs w => I bs vs w ∧ Shutd .any l.toArray bs.toArray) ds vs0 hm hac hv0 ⟨h0, ?_⟩ ?_ (fun bs vs w h => hend bs vs w h.1)
  · intro i o ho hi e he hb
    exfalso
    rw [Array.getD_eq_getD_getElem?] at hi
    rcases Nat.lt_or_ge i l.length with h' | h'
    · simp [List.getElem?_replicate, h'] at hi
    · simp [List.getElem?_replicate, Nat.not_lt.2 h'] at hi
  · intro bs vs w i hI hi hr
    refine wpOp_mono ?_ (hstep bs vs w i hI.1 hi hr hI.2)
    rintro a' w' ⟨bs', vs', h1, h2, h3⟩
    exact ⟨bs', vs', h1, h2, h3, by rw [h1]; exact hI.2.step hr⟩
theorem shut_at {bs : List Bool} {l : List Oper} (h : Shutd .any l.toArray bs.toArray) {i : Nat} (hi : bs.toArray.getD i false = true) {o : Oper} (ho : l[i]? = some o) (e : Edge) (he : e ∈ o.after.toList) (hb : Region.binds .any e = true) : bs.toArray.getD e.on false = true :=
  h i o (by simpa using ho) hi e (by simpa using he) hb
theorem dep_at {bs : List Bool} {i : Nat} {l : List Oper} (h : i ∈ Region.ready .any l.toArray bs.toArray) {o : Oper} (ho : l[i]? = some o) (e : Edge) (he : e ∈ o.after.toList) (hb : Region.binds .any e = true) : bs.toArray.getD e.on false = true :=
  ready_dep h (by simpa using ho) (by simpa using he) hb
end
end Go.Proofs.YticmoaebegahgaaGreatDoor.Iw
