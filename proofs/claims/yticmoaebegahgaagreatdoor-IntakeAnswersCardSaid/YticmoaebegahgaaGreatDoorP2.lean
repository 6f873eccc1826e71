import Derived.Test.YticmoaebegahgaaGreatDoorP1
set_option linter.all false
namespace Go.Proofs.YticmoaebegahgaaGreatDoor.Im
open Tm
def picks : List Int := [0, -1, 62, 63, -63, -62, 9007199254740992, -9007199254740992, 126, 1000]
structure Small (t : Tg) : Prop where
  st : 0 ≤ t.st ∧ t.st ≤ 2
  ep : 0 ≤ t.ep ∧ t.ep ≤ 2
  sq : 0 ≤ t.sq ∧ t.sq ≤ 5
  tm : t.tm ∈ ([0, 125, 63, 62, 1099511627776] : List Int)
  kd : 0 ≤ t.kd ∧ t.kd ≤ 63
  len : t.vs.length ≤ 3
  vs : ∀ v ∈ t.vs, v ∈ picks
def no3 (n : Int) : Bool := (Wm.enc (Wm.fold n)).all fun x => x != 3
theorem no3_low : ∀ k : Fin 64, no3 ((k.val : Nat) : Int) = true := by decide +kernel
theorem no3_tm : ([0, 125, 63, 62, 1099511627776] : List Int).all no3 = true := by decide +kernel
theorem no3_picks : picks.all no3 = true := by decide +kernel
theorem no3_int {n : Int} (h : 0 ≤ n ∧ n ≤ 63) : no3 n = true := by
  obtain ⟨k, rfl⟩ := Int.eq_ofNat_of_zero_le h.1
  exact no3_low ⟨k, by omega⟩
theorem no3_mem {n : Int} (h : no3 n = true) : ∀ x ∈ Wm.enc (Wm.fold n), x ≠ 3 := by
  intro x hx
  have := List.all_eq_true.1 h x hx
  simpa using this
theorem body_no3 {ns : List Int} (h : ∀ n ∈ ns, no3 n = true) : ∀ x ∈ body ns, x ≠ 3 := by
  induction ns with
  | nil => intro x hx; cases hx
  | cons n t ih =>
    intro x hx
    rcases List.mem_append.1 hx with hx | hx
    · exact no3_mem (h n (by simp)) x hx
    · exact ih (fun m hm => h m (by simp [hm])) x hx
theorem small_no3 {t : Tg} (h : Small t) : ∀ x ∈ body t.nums, x ≠ 3 := by
  refine body_no3 fun n hn => ?_
  simp only [Tg.nums, List.mem_cons] at hn
  have h1 := h.st; have h2 := h.ep; have h3 := h.sq; have h4 := h.kd; have h5 := h.len
  rcases hn with rfl | rfl | rfl | rfl | rfl | rfl | hn
  · exact no3_int (by omega)
  · exact no3_int (by omega)
  · exact no3_int (by omega)
  · exact List.all_eq_true.1 no3_tm _ h.tm
  · exact no3_int h4
  · exact no3_int (by omega)
  · exact List.all_eq_true.1 no3_picks _ (h.vs n hn)
theorem esc_no3 {l : List UInt8} (h : ∀ x ∈ l, x ≠ 3) : ∀ x ∈ Wm.esc l, x ≠ 3 := by
  induction l with
  | nil => intro x hx; cases hx
  | cons y t ih =>
    intro x hx
    unfold Wm.esc at hx
    rcases List.mem_append.1 hx with hx | hx
    · split at hx
      · rename_i hm
        rcases Wm.mark_cases hm with rfl | rfl | rfl <;> (simp at hx; rcases hx with rfl | rfl <;> decide)
      · obtain rfl : x = y := by simpa using hx
        exact h x (by simp)
    · exact ih (fun z hz => h z (by simp [hz])) x hx
theorem body_least {ns : List Int} : ns.length ≤ (body ns).length := by
  induction ns with
  | nil => simp [body]
  | cons n t ih =>
    have := Wm.enc_pos (Wm.fold n)
    simp only [body, List.length_append, List.length_cons]; omega
def FP (f : List UInt8) : Prop := ∃ P R, f = 126 :: (P ++ R ++ [124]) ∧ 6 ≤ P.length ∧ R.length ≤ 8 ∧ (∀ x ∈ P, x ≠ 3) ∧ ∀ x ∈ P ++ R, x ≠ 126 ∧ x ≠ 124
theorem small_fp {t : Tg} (h : Small t) : FP t.bytes := by
  refine ⟨Wm.esc (body t.nums), Wm.esc (four (Wm.crc (body t.nums))), ?_, ?_, ?_, esc_no3 (small_no3 h), ?_⟩
  · unfold Tg.bytes Tg.inside shut Wm.frame
    rw [Wm.esc_append]
  · have h1 := (Wm.esc_len (body t.nums)).1
    have h2 := body_least (ns := t.nums)
    have h3 : t.nums.length = t.vs.length + 6 := by simp only [Tg.nums, List.length_cons]
    omega
  · have := (Wm.esc_len (four (Wm.crc (body t.nums)))).2
    rw [four_len] at this; omega
  · rw [← Wm.esc_append]
    exact Wm.esc_inner _
def Bad (F : List UInt8) : Prop := ∃ a b, F = a ++ 3 :: b ∧ a.length ≤ 4 ∧ 9 ≤ b.length
theorem enc_great {n : Int} (h : 200 ≤ n ∧ n ≤ 255) : ∃ z : UInt8, Wm.enc (Wm.fold n) = [z, 3] ∧ Wm.mark z = false := by
  have key : ∀ k : Fin 56, (match Wm.enc (Wm.fold (((k.val + 200 : Nat)) : Int)) with
    | [z, x] => x == 3 && !Wm.mark z
    | _ => false) = true := by decide +kernel
  obtain ⟨k, rfl⟩ : ∃ k : Nat, n = ((k + 200 : Nat) : Int) := ⟨(n - 200).toNat, by omega⟩
  have := key ⟨k, by omega⟩
  dsimp only at this
  split at this
  · rename_i z x e
    simp at this
    exact ⟨z, by rw [e, this.1], this.2⟩
  · cases this
theorem st_two {n : Int} (h : 0 ≤ n ∧ n ≤ 255) : (Wm.esc (Wm.enc (Wm.fold n))).length ≤ 2 := by
  have key : ∀ k : Fin 256, (Wm.esc (Wm.enc (Wm.fold ((k.val : Nat) : Int)))).length ≤ 2 := by decide +kernel
  obtain ⟨k, rfl⟩ := Int.eq_ofNat_of_zero_le h.1
  exact key ⟨k, by omega⟩
theorem great_bad {u : Tg} (h : u.ok = true) (he : 200 ≤ u.ep) : Bad u.bytes := by
  obtain ⟨h1, h2, _⟩ := (Tg.ok_iff u).1 h
  obtain ⟨z, hz, hm⟩ := enc_great (n := u.ep) ⟨he, h2.2⟩
  have hst : (Wm.esc (Wm.enc (Wm.fold u.st))).length ≤ 2 := st_two h1
  obtain ⟨rest, hr, hl⟩ : ∃ rest, u.nums = u.st :: u.ep :: rest ∧ 4 ≤ rest.length := ⟨_, rfl, by simp⟩
  have hb : body u.nums = Wm.enc (Wm.fold u.st) ++ ([z, 3] ++ body rest) := by rw [hr]; show _ ++ (_ ++ _) = _; rw [hz]
  have hesc : Wm.esc [z, 3] = [z, 3] := by
    unfold Wm.esc
    rw [hm]
    rfl
  have e1 : u.bytes = (126 :: Wm.esc (Wm.enc (Wm.fold u.st)) ++ [z]) ++ 3 :: (Wm.esc (body rest) ++ Wm.esc (four (Wm.crc (body u.nums))) ++ [124]) := by
    unfold Tg.bytes Tg.inside shut Wm.frame
    rw [Wm.esc_append]
    conv => lhs; rw [hb]
    rw [Wm.esc_append, Wm.esc_append, hesc]
    simp [hb]
  have l2 := (Wm.esc_len (body rest)).1
  have l3 := body_least (ns := rest)
  have l4 := (Wm.esc_len (four (Wm.crc (body u.nums)))).1
  rw [four_len] at l4
  exact ⟨_, _, e1, by simp; omega, by simp; omega⟩
def N5 (l : List UInt8) : Prop := ∀ x ∈ l.take 5, x ≠ 3
theorem n5_good {F : List UInt8} (h : N5 F) : ¬ Bad F := by
  rintro ⟨a, b, rfl, ha, _⟩
  refine h 3 ?_ rfl
  rw [List.take_append]
  refine List.mem_append_right _ ?_
  obtain ⟨k, hk⟩ : ∃ k, 5 - a.length = k + 1 := ⟨4 - a.length, by omega⟩
  rw [hk]; simp
theorem n5_start {Q : List UInt8} (h : ∀ x ∈ Q.take 4, x ≠ 3) : N5 (126 :: Q) := by
  intro x hx
  rcases List.mem_cons.1 hx with rfl | hx
  · decide
  · exact h x hx
theorem n5_append {a b : List UInt8} (ha : N5 a) (hb : ∀ x ∈ b.take 5, x ≠ 3) : N5 (a ++ b) := by
  intro x hx
  rw [List.take_append] at hx
  rcases List.mem_append.1 hx with hx | hx
  · exact ha x hx
  · exact hb x ((List.take_sublist_take_left (by omega)).mem hx)
def CI (c : Option (List UInt8)) : Prop := ∀ t, c = some t → N5 t
def FI (o : List (List UInt8)) : Prop := ∀ F ∈ o, ¬ Bad F
def Keeps (c : Option (List UInt8)) (g : List UInt8) : Prop := FI (scan c g).out ∧ CI (scan c g).cur
theorem keeps_append {c : Option (List UInt8)} {a b : List UInt8} (ha : Keeps c a) (hb : Keeps (scan c a).cur b) : Keeps c (a ++ b) := by
  unfold Keeps at *
  rw [scan_append]
  refine ⟨fun F hF => ?_, hb.2⟩
  rcases List.mem_append.1 hF with h | h
  · exact ha.1 F h
  · exact hb.1 F h
theorem keeps_nil {c : Option (List UInt8)} (h : CI c) : Keeps c [] := ⟨(fun F hF => by cases hF), h⟩
theorem scan_start (c : Option (List UInt8)) (r : List UInt8) : scan c (126 :: r) = scan (some [126]) r := by
  unfold scan
  rw [fscan_cons]
  rfl
theorem scan_end (c r : List UInt8) : scan (some c) (124 :: r) = ⟨(c ++ [124]) :: (scan none r).out, (scan none r).cur⟩ := by
  have e : fstep ⟨[], some c⟩ 124 = ⟨[c ++ [124]], none⟩ := by simp [fstep]
  show fscan (fstep ⟨[], some c⟩ 124) r = _
  rw [e, fscan_out]
  rfl
theorem keeps_noise {l : List UInt8} (h : ∀ x ∈ l, x ≠ 126) : Keeps none l := by
  unfold Keeps
  rw [scan_noise h]
  exact ⟨(fun F hF => by cases hF), fun t e => by cases e⟩
theorem keeps_whole {c Q r : List UInt8} (hQ : ∀ x ∈ Q, x ≠ 126 ∧ x ≠ 124) (hF : ¬ Bad (c ++ Q ++ [124])) (hr : ∀ x ∈ r, x ≠ 126) : Keeps (some c) (Q ++ 124 :: r) := by
  unfold Keeps
  rw [scan_append, scan_plain _ _ hQ]
  dsimp only
  rw [scan_end, scan_noise hr]
  refine ⟨fun F h => ?_, fun t e => by cases e⟩
  obtain rfl : F = c ++ Q ++ [124] := by simpa using h
  exact hF
theorem keeps_open {c Q : List UInt8} (hQ : ∀ x ∈ Q, x ≠ 126 ∧ x ≠ 124) (hc : N5 (c ++ Q)) : Keeps (some c) Q := by
  unfold Keeps
  rw [scan_plain _ _ hQ]
  exact ⟨(fun F hF => by cases hF), fun t e => by injection e with e; subst e; exact hc⟩
theorem keeps_start {c : Option (List UInt8)} {r : List UInt8} (h : Keeps (some [126]) r) : Keeps c (126 :: r) := by
  unfold Keeps at *
  rw [scan_start]; exact h
theorem fp_four {P R : List UInt8} (hP : 6 ≤ P.length) (h3 : ∀ x ∈ P, x ≠ 3) : ∀ x ∈ (P ++ R).take 4, x ≠ 3 := by
  intro x hx
  rw [List.take_append_of_le_length (by omega)] at hx
  exact h3 x (List.mem_of_mem_take hx)
theorem suffix_good {P R : List UInt8} (hR : R.length ≤ 8) (h3 : ∀ x ∈ P, x ≠ 3) (k : Nat) : ¬ Bad (126 :: (P ++ R).drop k ++ [124]) := by
  rintro ⟨a, b, e, ha, hb⟩
  obtain ⟨b', rfl⟩ : ∃ b', b = b' ++ [124] := by
    rcases List.eq_nil_or_concat b with rfl | ⟨L, y, rfl⟩
    · simp at hb
    · have e' : 126 :: (P ++ R).drop k ++ [124] = (a ++ 3 :: L) ++ [y] := by rw [e]; simp
      have := (List.append_inj' e' rfl).2
      injection this with this
      exact ⟨L, by rw [← this]; simp⟩
  cases a with
  | nil => simp at e
  | cons y a' =>
    have e2 : (P ++ R).drop k = a' ++ 3 :: b' := by
      have := e
      simp only [List.cons_append, List.cons.injEq] at this
      have h5 := this.2
      rw [← List.cons_append, ← List.append_assoc] at h5
      exact List.append_cancel_right h5
    have hb8 : 8 ≤ b'.length := by simpa using hb
    have hlen := congrArg List.length e2
    simp only [List.length_drop, List.length_append, List.length_cons] at hlen
    have hm : (3 : UInt8) ∈ P := by
      have h6 : (P ++ R)[k + a'.length]? = some 3 := by
        have := congrArg (fun l => l[a'.length]?) e2
        simp only [List.getElem?_drop] at this
        rw [this]; simp
      rw [List.getElem?_append_left (by omega)] at h6
      exact List.mem_of_getElem? h6
    exact h3 3 hm rfl
def hits : List UInt8 := [0, 124, 125, 126, 200]
theorem hits_ne {x : UInt8} (h : x ∈ hits) : x ≠ 3 := by simp [hits] at h; rcases h with rfl | rfl | rfl | rfl | rfl <;> decide
theorem piece_whole {f : List UInt8} (hf : FP f) (c : Option (List UInt8)) : Keeps c f := by
  obtain ⟨P, R, rfl, hP, hR, h3, hQ⟩ := hf
  refine keeps_start ?_
  have := keeps_whole (c := [126]) (r := []) hQ (n5_good (n5_append (n5_append (a := [126]) (n5_start (Q := []) (by simp)) (fun x hx => ?_)) (fun x hx => ?_))) (by simp)
  · simpa using this
  · rw [List.take_append_of_le_length (by omega)] at hx
    exact h3 x (List.mem_of_mem_take hx)
  · obtain rfl : x = 124 := by simpa using List.mem_of_mem_take hx
    decide
theorem piece_take {f : List UInt8} (hf : FP f) (k : Nat) (hk : k < f.length) {c : Option (List UInt8)} (hc : CI c) : Keeps c (f.take k) := by
  obtain ⟨P, R, rfl, hP, hR, h3, hQ⟩ := hf
  cases k with
  | zero => exact keeps_nil hc
  | succ k =>
    rw [List.take_succ_cons]
    have hk2 : k ≤ (P ++ R).length := by simp at hk ⊢; omega
    rw [List.take_append_of_le_length hk2]
    refine keeps_start (keeps_open (fun x hx => hQ x (List.mem_of_mem_take hx)) ?_)
    exact n5_start (Q := (P ++ R).take k) (fun x hx => fp_four (R := R) hP h3 x (by
      rw [List.take_take] at hx
      exact (List.take_sublist_take_left (by omega)).mem hx))
theorem piece_hit {x : UInt8} (hx : x ∈ hits) {c : Option (List UInt8)} (hc : CI c) : Keeps c [x] := by
  have h3 := hits_ne hx
  cases c with
  | none =>
    by_cases e : x = 126
    · subst e; exact keeps_start (keeps_nil (fun t e => by injection e with e; subst e; exact n5_start (Q := []) (by simp)))
    · exact keeps_noise (by simpa using e)
  | some c =>
    have hc := hc c rfl
    by_cases e : x = 126
    · subst e; exact keeps_start (keeps_nil (fun t e => by injection e with e; subst e; exact n5_start (Q := []) (by simp)))
    · by_cases e2 : x = 124
      · subst e2
        have := keeps_whole (c := c) (Q := []) (r := []) (by simp) (n5_good (by rw [List.append_nil]; exact n5_append hc (by simp))) (by simp)
        simpa using this
      · exact keeps_open (by simpa using ⟨e, e2⟩) (n5_append hc (by simpa using h3))
theorem piece_set {f : List UInt8} (hf : FP f) (k : Nat) (hk : k < f.length) {x : UInt8} (hx : x ∈ hits) {c : Option (List UInt8)} (hc : CI c) : Keeps c (f.set k x) := by
  obtain ⟨P, R, rfl, hP, hR, h3, hQ⟩ := hf
  have hx3 := hits_ne hx
  have h4 := fp_four (R := R) hP h3
  generalize hq : P ++ R = Q at *
  have hQn : ∀ y ∈ Q ++ [124], y ≠ 126 := by
    intro y hy
    rcases List.mem_append.1 hy with hy | hy
    · exact (hQ y hy).1
    · obtain rfl : y = 124 := by simpa using hy
      decide
  cases k with
  | zero =>
    show Keeps c (x :: (Q ++ [124]))
    refine keeps_append (a := [x]) (piece_hit hx hc) ?_
    have hk1 := (piece_hit hx hc).2
    cases e : (scan c [x]).cur with
    | none => exact keeps_noise hQn
    | some c' =>
      have hc' : N5 c' := hk1 c' e
      refine keeps_whole (c := c') (r := []) hQ (n5_good (n5_append (n5_append hc' ?_) (by simp))) (by simp)
      intro y hy
      rw [← hq, List.take_append_of_le_length (by omega)] at hy
      exact h3 y (List.mem_of_mem_take hy)
  | succ k =>
    rw [List.set_cons_succ]
    refine keeps_start ?_
    by_cases hl : k < Q.length
    · rw [List.set_append_left _ _ hl, List.set_eq_take_append_cons_drop, if_pos hl]
      have hA : Keeps (some [126]) (Q.take k) := keeps_open (fun y hy => hQ y (List.mem_of_mem_take hy)) (n5_start (Q := Q.take k) (fun y hy => h4 y (by
        rw [List.take_take] at hy
        exact (List.take_sublist_take_left (by omega)).mem hy)))
      have eA : (scan (some [126]) (Q.take k)).cur = some (126 :: Q.take k) := by rw [scan_plain _ _ (fun y hy => hQ y (List.mem_of_mem_take hy))]; rfl
      have nA : N5 (126 :: Q.take k) := hA.2 _ eA
      rw [List.append_assoc]
      refine keeps_append hA ?_
      rw [eA]
      have hD : ∀ y ∈ Q.drop (k + 1), y ≠ 126 ∧ y ≠ 124 := fun y hy => hQ y (List.mem_of_mem_drop hy)
      by_cases e1 : x = 126
      · subst e1
        refine keeps_start (keeps_whole (c := [126]) (r := []) hD ?_ (by simp))
        have := suffix_good (P := P) (R := R) hR h3 (k + 1)
        rw [hq] at this
        exact this
      · by_cases e2 : x = 124
        · subst e2
          refine keeps_whole (c := 126 :: Q.take k) (Q := []) (r := Q.drop (k + 1) ++ [124]) (by simp) (n5_good (by rw [List.append_nil]; exact n5_append nA (by simp))) ?_
          intro y hy
          rcases List.mem_append.1 hy with hy | hy
          · exact (hD y hy).1
          · obtain rfl : y = 124 := by simpa using hy
            decide
        · refine keeps_whole (c := 126 :: Q.take k) (Q := x :: Q.drop (k + 1)) (r := []) ?_ (n5_good (n5_append (n5_start (Q := Q.take k ++ x :: Q.drop (k + 1)) ?_) (by simp))) (by simp)
          · intro y hy
            rcases List.mem_cons.1 hy with rfl | hy
            · exact ⟨e1, e2⟩
            · exact hD y hy
          · intro y hy
            have e5 : Q.take k ++ x :: Q.drop (k + 1) = Q.set k x := by rw [List.set_eq_take_append_cons_drop, if_pos hl]
            rw [e5, List.take_set] at hy
            rcases List.mem_or_eq_of_mem_set hy with hy | rfl
            · exact h4 y hy
            · exact hx3
    · have hkl : k = Q.length := by simp at hk; omega
      subst hkl
      rw [List.set_append_right _ _ (Nat.le_refl _), Nat.sub_self]
      have nQ : N5 ([126] ++ Q) := n5_start (Q := Q) h4
      refine keeps_append (keeps_open hQ nQ) ?_
      exact piece_hit hx (keeps_open hQ nQ).2
end Go.Proofs.YticmoaebegahgaaGreatDoor.Im
namespace Go.Proofs.YticmoaebegahgaaGreatDoor.Im
open Tm
def Piece (f pre g : List UInt8) : Prop :=
  (pre = [] ∧ g = f) ∨ (∃ k x, k < f.length ∧ x ∈ hits ∧ pre = [] ∧ g = f.set k x) ∨ (∃ k, k < f.length ∧ pre = [] ∧ g = f.take k) ∨ (∃ x ∈ hits, pre = [x] ∧ g = f)
inductive Stream : Nat → List UInt8 → Prop
  | nil : Stream 0 []
  | step {n : Nat} {out pre g : List UInt8} {t : Tg} (b : Bool) : Stream n out → Small t → Piece t.bytes pre g → Stream (n + 1) (out ++ (pre ++ (g ++ if b = true then g else [])))
theorem piece_keeps {f pre g : List UInt8} (hf : FP f) (h : Piece f pre g) {c : Option (List UInt8)} (hc : CI c) : Keeps c pre ∧ ∀ c, CI c → Keeps c g := by
  rcases h with ⟨rfl, rfl⟩ | ⟨k, x, hk, hx, rfl, rfl⟩ | ⟨k, hk, rfl, rfl⟩ | ⟨x, hx, rfl, rfl⟩
  · exact ⟨keeps_nil hc, fun c _ => piece_whole hf c⟩
  · exact ⟨keeps_nil hc, fun c hc => piece_set hf k hk hx hc⟩
  · exact ⟨keeps_nil hc, fun c hc => piece_take hf k hk hc⟩
  · exact ⟨piece_hit hx hc, fun c _ => piece_whole hf c⟩
theorem stream_keeps {n : Nat} {out : List UInt8} (h : Stream n out) : Keeps none out := by
  induction h with
  | nil => exact keeps_nil (fun t e => by cases e)
  | step b _ hs hp ih =>
    refine keeps_append ih ?_
    obtain ⟨k1, k2⟩ := piece_keeps (small_fp hs) hp ih.2
    refine keeps_append k1 (keeps_append (k2 _ k1.2) ?_)
    cases b with
    | true => exact k2 _ (k2 _ k1.2).2
    | false => exact keeps_nil (k2 _ k1.2).2
theorem stream_epochs {n : Nat} {out : List UInt8} (h : Stream n out) : ∀ u ∈ gets (scan none out).out, u.ep < 200 := by
  intro u hu
  obtain ⟨F, hF, hd⟩ := List.mem_filterMap.1 hu
  obtain ⟨h1, h2⟩ := dec_some hd
  have := (stream_keeps h).1 F hF
  rw [← h2] at this
  by_cases hc : 200 ≤ u.ep
  · exact absurd (great_bad h1 hc) this
  · omega
def open1 (c : Option (List UInt8)) : Nat := if c.isSome then 1 else 0
theorem scan_count (l : List UInt8) : ∀ c, (scan c l).out.length + open1 (scan c l).cur ≤ l.count 126 + open1 c := by
  induction l with
  | nil => intro c; simp [scan, fscan]
  | cons x t ih =>
    intro c
    have key : scan c (x :: t) = ⟨(fstep ⟨[], c⟩ x).out ++ (scan (fstep ⟨[], c⟩ x).cur t).out, (scan (fstep ⟨[], c⟩ x).cur t).cur⟩ := by
      show fscan (fstep ⟨[], c⟩ x) t = _
      exact fscan_out _ _ _
    have h := ih (fstep ⟨[], c⟩ x).cur
    rw [key]
    simp only [List.length_append, List.count_cons]
    have hs : (fstep ⟨[], c⟩ x).out.length + open1 (fstep ⟨[], c⟩ x).cur ≤ (if x == 126 then 1 else 0) + open1 c := by
      unfold fstep
      by_cases e : x = 126
      · subst e; simp [open1]
      · rw [if_neg e]
        have e' : (x == 126) = false := by simpa using e
        rw [e']
        split <;> cases c <;> simp [open1]
    omega
theorem count_set_le (l : List UInt8) (x a : UInt8) : ∀ k, (l.set k x).count a ≤ l.count a + 1 := by
  induction l with
  | nil => intro k; simp
  | cons y t ih =>
    intro k
    cases k with
    | zero => simp only [List.set_cons_zero, List.count_cons]; split <;> split <;> omega
    | succ k => have := ih k; simp only [List.set_cons_succ, List.count_cons]; omega
theorem fp_count {f : List UInt8} (h : FP f) : f.count 126 = 1 := by
  obtain ⟨P, R, rfl, _, _, _, hQ⟩ := h
  have h0 : (P ++ R).count 126 = 0 := List.count_eq_zero.2 (fun hm => (hQ 126 hm).1 rfl)
  rw [List.count_cons, List.count_append, h0]
  simp
theorem piece_count {f pre g : List UInt8} (hf : FP f) (h : Piece f pre g) : pre.count 126 + (g.count 126 + g.count 126) ≤ 4 := by
  have h1 := fp_count hf
  rcases h with ⟨rfl, rfl⟩ | ⟨k, x, hk, hx, rfl, rfl⟩ | ⟨k, hk, rfl, rfl⟩ | ⟨x, hx, rfl, rfl⟩
  · simp; omega
  · have := count_set_le f x 126 k; simp; omega
  · have := (List.take_sublist k f).count_le 126; simp; omega
  · have : ([x] : List UInt8).count 126 ≤ 1 := List.count_le_length (a := 126) (l := [x])
    omega
theorem stream_count {n : Nat} {out : List UInt8} (h : Stream n out) : out.count 126 ≤ 4 * n := by
  induction h with
  | nil => simp
  | step b _ hs hp ih =>
    have h1 := piece_count (small_fp hs) hp
    simp only [List.count_append]
    cases b <;> simp <;> omega
theorem stream_few {n : Nat} {out : List UInt8} (h : Stream n out) : (gets (scan none out).out).length ≤ 4 * n := by
  have h1 := stream_count h
  have h2 := scan_count out none
  have h3 : (gets (scan none out).out).length ≤ (scan none out).out.length := List.length_filterMap_le _ _
  simp [open1] at h2
  omega
theorem take_ep (win : Int) (w : Wt) (t : Tg) : (take win w t).1.ep = w.ep ∨ (take win w t).1.ep = t.ep := by
  have hs : ∀ st ep nx held out, (settle win st ep nx held out).1.ep = ep := by
    intro st ep nx held out; unfold settle; split <;> rfl
  unfold take
  split
  · exact .inl rfl
  · split
    · exact .inr (hs _ _ _ _ _)
    · split
      · exact .inl rfl
      · exact .inl (hs _ _ _ _ _)
theorem put_len (win : Int) (full : Bool) (s : List Wt) (t : Tg) : (put win full s t).1.length ≤ s.length + 1 := by
  induction s with
  | nil => unfold put; split <;> simp
  | cons w r ih =>
    unfold put
    split
    · simp only [List.length_cons]; omega
    · split
      · simp
      · split <;> simp
theorem put_ep {win e : Int} {full : Bool} {s : List Wt} {t : Tg} (hs : ∀ w ∈ s, w.ep < e) (ht : t.ep < e) : ∀ w ∈ (put win full s t).1, w.ep < e := by
  have hn : (take win (new t) t).1.ep < e := by rcases take_ep win (new t) t with h | h <;> rw [h] <;> exact ht
  induction s with
  | nil =>
    intro w hw
    unfold put at hw
    split at hw
    · cases hw
    · obtain rfl : w = (take win (new t) t).1 := by simpa using hw
      exact hn
  | cons x r ih =>
    have hx := hs x (by simp)
    have hr := fun w hw => hs w (List.mem_cons_of_mem x hw)
    intro w hw
    unfold put at hw
    split at hw
    · rcases List.mem_cons.1 hw with rfl | hw
      · exact hx
      · exact ih hr w hw
    · split at hw
      · rcases List.mem_cons.1 hw with rfl | hw
        · rcases take_ep win x t with h | h <;> rw [h]
          · exact hx
          · exact ht
        · exact hr w hw
      · split at hw
        · exact hs w hw
        · rcases List.mem_cons.1 hw with rfl | hw
          · exact hn
          · exact hs w hw
theorem run_small {win e : Int} (l : List Tg) : ∀ s, (∀ w ∈ s, w.ep < e) → (∀ t ∈ l, t.ep < e) → (∀ w ∈ (run win s l).1, w.ep < e) ∧ (run win s l).1.length ≤ s.length + l.length := by
  induction l with
  | nil => intro s hs _; exact ⟨hs, Nat.le_refl _⟩
  | cons t r ih =>
    intro s hs ha
    have h1 : ∀ w ∈ (acc win s t).1, w.ep < e := put_ep hs (ha t (by simp))
    obtain ⟨k1, k2⟩ := ih _ h1 (fun x hx => ha x (by simp [hx]))
    refine ⟨k1, ?_⟩
    have h2 : (acc win s t).1.length ≤ s.length + 1 := put_len _ _ _ _
    show (run win (acc win s t).1 r).1.length ≤ _
    simp only [List.length_cons]; omega
def tg (ep sq : Int) : Tg := ⟨1, ep, sq, 0, 0, []⟩
end Go.Proofs.YticmoaebegahgaaGreatDoor.Im
