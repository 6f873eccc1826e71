import Derived.Test.YticmoaebegahgaaGreatDoorRw
import Derived.Test.YticmoaebegahgaaGreatDoorRu
set_option linter.all false
namespace Go.Proofs.YticmoaebegahgaaGreatDoor.Iw
open Go.ChangeShapes Go.WideShapes Go.ChangeAt Go.RowKit
open Wr (IR RB iv ivs bv bvs grown_trans grown_refl grown_alloc ret_int ret_bool tv Ret ret_mk)
def RdE (r : Ik × List Tm.Tg × Int) (w : World) (e : Ending) (w' : World) : Prop := ∃ T E G : Sl, e = .returned (.tuple #[iv3 r.1.win T E, G.v, .int .i64 r.2.2]) ∧ KR w' T E r.1 ∧ TR w' G r.2.1 ∧ w.grownBy w' none
theorem accept_rd (T E : Sl) (k : Ik) (t : Tm.Tg) (V : Sl) (w : World) (h : KR w T E k) (hV : VI w [] V t.vs) (hT : T.n ≤ 1000000) (hE : E.n ≤ 1000000) (hH : ∀ e ∈ k.es, e.held.length ≤ 1000000) :
    Calls Tryz.prog 17 #[iv3 k.win T E, tv t V.v] w (RdE (accF k t) w) := by
  refine (accept_pub T E k t V w h hV hT hE hH).mono ?_
  rintro e w' ⟨T', E', G, rfl, h1, -, h2, h3⟩
  exact ⟨T', E', G, rfl, h1.now, h2.now, h3⟩
theorem ka_of {w : World} {T E : Sl} {k : Ik} (h : KR w T E k) : KA w [] T E k := ⟨h.fit, ⟨h.tl, fun _ _ _ hm => by cases hm⟩, EL.of h.es⟩
theorem TR.nil (w : World) : TR w nilS [] := ⟨⟨by simp [nilS], by simp [nilS]⟩, rfl, fun i hi => by simp [nilS] at hi⟩
theorem raccept_rd (T E : Sl) (k : Ik) (t : Tm.Tg) (V : Sl) (w : World) (h : KR w T E k) (hV : VI w [] V t.vs) :
    Calls Tryz.prog 18 #[iv3 k.win T E, tv t V.v] w (RdE (accF k t) w) := by
  by_cases he : (accF k t).2.2 = 0
  · have hk : k.ok = true := by
      rcases hb : k.ok with _ | _
      · unfold accF at he; rw [if_neg (by rw [hb]; simp)] at he; cases he
      · rfl
    have ht : t.ok = true := by
      rcases hb : t.ok with _ | _
      · unfold accF at he; rw [if_pos hk, if_neg (by rw [hb]; simp)] at he; cases he
      · rfl
    have hr : k.es.length < 64 ∨ Im.ent k.es t.st ≠ none := by
      unfold accF at he
      rw [if_pos hk, if_pos ht] at he
      by_cases hr : k.es.length < 64 ∨ Im.ent k.es t.st ≠ none
      · exact hr
      · dsimp only at he; rw [if_neg hr] at he; cases he
    have hF : accF k t = (⟨k.win, k.tail, (Im.acc k.win k.es t).1⟩, (Im.acc k.win k.es t).2, 0) := by
      unfold accF; rw [if_pos hk, if_pos ht, if_pos hr]
    refine (raccept_room [] T E k t V w (fun _ hb => by cases hb) (ka_of h) hk hV ht hr).mono ?_
    rintro e w' ⟨T', E', G, rfl, h1, h2, h3⟩
    rw [hF]
    exact ⟨T', E', G, rfl, h1.kr, h2.tr, h3⟩
  · have hF : (accF k t).1 = k ∧ (accF k t).2.1 = [] := by
      unfold accF at he ⊢
      by_cases hk : k.ok = true
      · rw [if_pos hk] at he ⊢
        by_cases ht : t.ok = true
        · rw [if_pos ht] at he ⊢
          have hn : ¬ (k.es.length < 64 ∨ Im.ent k.es t.st ≠ none) := fun hr => he (by dsimp only; rw [if_pos hr])
          have hs := (Ik.ok_iff.1 hk).2.2.2
          have h1 : Im.acc k.win k.es t = (k.es, []) := by
            unfold Im.acc
            rw [decide_eq_true (show k.es.length = 64 by have := hs.len; have h2 : ¬ k.es.length < 64 := fun h => hn (.inl h); omega)]
            exact Im.put_full hs.asc (Classical.byContradiction (fun h => hn (.inr h)))
          rw [h1]
          exact ⟨rfl, rfl⟩
        · rw [if_neg ht]; exact ⟨rfl, rfl⟩
      · rw [if_neg hk]; exact ⟨rfl, rfl⟩
    refine (raccept_bad [] T E k t V w (fun _ hb => by cases hb) (ka_of h) hV _ rfl he).mono ?_
    rintro e w' ⟨rfl, g⟩
    refine ⟨T, E, nilS, by rw [hF.1], by rw [hF.1]; exact h.grown g, by rw [hF.2]; exact TR.nil _, g⟩
noncomputable def fdF (k : Ik) (b : List UInt8) : Ik × List Tm.Tg × Int := if k.ok = true then feedF k b else (k, [], 9)
theorem feed_rd (T E : Sl) (k : Ik) (A : Option Addr) (n c : Nat) (b : List UInt8) (w : World) (h : KR w T E k) (hb : RB w A n b) (hc : n ≤ c) (hc2 : c ≤ 9223372036854775807) (hn : n ≤ 300000) (ht : Wr.Tabled w) (hT : T.n ≤ 1000000) (hE : E.n ≤ 1000000) (hH : ∀ e ∈ k.es, e.held.length ≤ 1000000) :
    Calls Tryz.prog 20 #[iv3 k.win T E, .slice A n c] w (RdE (fdF k b) w) := by
  unfold fdF
  by_cases hk : k.ok = true
  · rw [if_pos hk]
    refine (feed_any T E k A n c b w h hk hb hc hc2 (by omega) ht).mono ?_
    rintro e w' ⟨T', E', G, rfl, h1, -, h2, h3⟩
    exact ⟨T', E', G, rfl, h1.now, h2.now, h3⟩
  · rw [if_neg hk]
    refine (feed_bad T E k _ A n c w rfl h (by simpa using hk) hT hE hH).mono ?_
    rintro e w' ⟨T', E', G, rfl, h1, -, h2, h3⟩
    exact ⟨T', E', G, rfl, h1.now, h2.now, h3⟩
theorem rfeed_rd (T E : Sl) (k : Ik) (A : Option Addr) (n c : Nat) (b : List UInt8) (w : World) (h : KR w T E k) (hb : RB w A n b) (hc : n ≤ c) (hc2 : c ≤ 9223372036854775807) (hn : n ≤ 300000) :
    Calls Tryz.prog 21 #[iv3 k.win T E, .slice A n c] w (RdE (fdF k b) w) := by
  unfold fdF
  by_cases hk : k.ok = true
  · rw [if_pos hk]
    refine (rfeed_room [] T E k A n c b w (fun _ hb => by cases hb) (ka_of h) hk hb hc hc2 hn).mono ?_
    rintro e w' ⟨T', E', G, rfl, h1, h2, h3⟩
    exact ⟨T', E', G, rfl, h1.kr, h2, h3⟩
  · rw [if_neg hk]
    refine (rfeed_bad T E k _ A n c w rfl h (by simpa using hk)).mono ?_
    rintro e w' ⟨rfl, g⟩
    exact ⟨T, E, nilS, rfl, h.grown g, TR.nil _, g⟩
end Go.Proofs.YticmoaebegahgaaGreatDoor.Iw
