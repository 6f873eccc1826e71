/- Contract of keep's Fill. -/
import Derived.Test.YtafkagaakjfkoaaFg
namespace Go.Proofs.Ytafkagaakjfkoaa
open Go.ChangeShapes Go.WideShapes Go.ChangeAt Go.RowKit

/-- A fill as far as it has been made; v litres are left. -/
structure Fl (f : List Fm.Pc) (v V C : Int) : Prop where
  mgd : Fm.Mgd f
  ok : ∀ p ∈ f, 0 ≤ p.1 ∧ p.1 < C
  sum : Fm.vol f + v = V
  pos : 0 ≤ v
  len : f.length ≤ 12
  full : f.length = 12 → v = 0
theorem Fl.next {f : List Fm.Pc} {v V C b q : Int} (h : Fl f v V C) (hl : f.length < 12) (q1 : 1 ≤ q) (q2 : q ≤ v) (q3 : f.length = 11 → q = v) (b1 : 0 ≤ b) (b2 : b < C) (hb : ∀ p, f.getLast? = some p → p.1 ≠ b) : Fl (f ++ [(b, q)]) (v - q) V C := by
  refine ⟨Fm.mgd_snoc h.mgd q1 hb, fun p hp => ?_, by rw [Fm.vol_app, Fm.vol_one]; have := h.sum; dsimp only; omega, by omega, by rw [List.length_append, List.length_singleton]; omega, fun e => ?_⟩
  · rcases List.mem_append.1 hp with e | e
    · exact h.ok p e
    · rw [List.mem_singleton] at e; subst e; exact ⟨b1, b2⟩
  · rw [List.length_append, List.length_singleton] at e
    have := q3 (by omega); omega
/-- What Fill makes. -/
structure Filled (f : List Fm.Pc) (V C : Int) : Prop where
  val : Fm.Val f
  len : f.length ≤ 12
  vol : Fm.vol f = V
  bat : ∀ p ∈ f, p.1 < C
theorem Fl.done {f : List Fm.Pc} {v V C : Int} (h : Fl f v V C) (hv : ¬ 0 < v ∨ ¬ f.length < 12) (hV : V ≤ 1000000) (hC : C ≤ 1000) : Filled f V C := by
  have e : v = 0 := by
    rcases hv with e | e
    · have := h.pos; omega
    · exact h.full (by have := h.len; omega)
  have hs := h.sum
  refine ⟨⟨by have := h.len; omega, fun p hp => ?_, h.mgd, by omega⟩, h.len, by omega, fun p hp => (h.ok p hp).2⟩
  have h1 := h.ok p hp
  have h2 := h.mgd.one p hp
  have h3 : p.2 ≤ Fm.vol f := by
    have hp' := h.mgd.pos
    obtain ⟨a, b, e⟩ := List.append_of_mem hp
    rw [e] at hp' ⊢
    rw [Fm.vol_app, Fm.vol]
    have h5 := Fm.vol_pos (f := a) (fun q hq => hp' q (List.mem_append_left _ hq))
    have h6 := Fm.vol_pos (f := b) (fun q hq => hp' q (List.mem_append_right _ (by simp [hq])))
    omega
  exact ⟨h1.1, by omega, h2, by omega⟩

/-- The row that is being made, the reader and the piece at hand. -/
structure Fw (w : World) (S : Nat) (o : Sl) (f : List Fm.Pc) (wc : World) : Prop where
  own : OP w.heap.size wc o f
  src : SrcOK wc S
  gr : w.grownBy wc (some S)
  lt : S < w.heap.size
structure Fi (w : World) (S : Nat) (o : Sl) (f : List Fm.Pc) (B : Nat) (b q : Int) (wc : World) : Prop where
  fw : Fw w S o f wc
  b1 : w.heap.size ≤ B
  b2 : B < wc.heap.size
  ne : o.blk ≠ some B
  c0 : wc.cell? ⟨B, 0, none⟩ = some (.int .i64 b)
  c1 : wc.cell? ⟨B, 1, none⟩ = some (.int .i64 q)
  fz : ∀ i, wc.frozen? ⟨B, i, none⟩ = false
theorem Fw.grown {w wc wd : World} {S : Nat} {o : Sl} {f : List Fm.Pc} (h : Fw w S o f wc) (g : wc.grownBy wd (some S)) (hs : SrcOK wd S) : Fw w S o f wd :=
  ⟨h.own.chg (L := [S]) (Chg.of g (fun b hb => by cases hb; simp)) (fun b hb hm => by rw [List.mem_singleton] at hm; subst hm; have := (h.own.blk _ hb).1; have := h.lt; omega), hs, grown_trans h.gr g, h.lt⟩
theorem Fw.grown0 {w wc wd : World} {S : Nat} {o : Sl} {f : List Fm.Pc} (h : Fw w S o f wc) (g : wc.grownBy wd none) : Fw w S o f wd := h.grown (grown_weak _ g) (h.src.grown g)
theorem Fi.drew {w wc : World} {S : Nat} {o : Sl} {f : List Fm.Pc} {B : Nat} {b q : Int} (h : Fi w S o f B b q wc) (k : Nat) : Fi w S o f B b q (wc.drewN k) :=
  ⟨h.fw.grown0 (grown_drewN _ _ _), h.b1, by simpa using h.b2, h.ne, (grown_drewN wc k none).cell h.c0 (by simp), (grown_drewN wc k none).cell h.c1 (by simp), fun i => by simpa using h.fz i⟩
theorem Fi.new {w wc : World} {S : Nat} {o : Sl} {f : List Fm.Pc} {b q : Int} (h : Fw w S o f wc) : Fi w S o f wc.heap.size b q (wc.alloc (.cells #[.int .i64 b, .int .i64 q] 38)) :=
  ⟨h.grown0 (World.grownBy_alloc _ _ _), by have := h.gr.size; exact this, by simp, fun e => by have := (h.own.blk _ e).2; omega, by simp, by simp, fun i => by simp⟩
theorem Fi.set {w wc : World} {S : Nat} {o : Sl} {f : List Fm.Pc} {B : Nat} {b q : Int} (h : Fi w S o f B b q wc) (i : Nat) (v : Value) : Fw w S o f (wc.setCell ⟨B, i, none⟩ v) := by
  have g := grown_set wc ⟨B, i, none⟩ v
  have hB := h.b1
  have hS := h.fw.lt
  exact ⟨h.fw.own.chg (L := [B]) (Chg.of g (fun b hb => by cases hb; simp)) (fun b hb hm => by rw [List.mem_singleton] at hm; subst hm; exact h.ne hb), h.fw.src.grownRow g (fun k hk => by injection hk with hk; have e : B = k := hk; omega), grown_skip h.fw.gr g hB, hS⟩
theorem Fi.set0 {w wc : World} {S : Nat} {o : Sl} {f : List Fm.Pc} {B : Nat} {b q : Int} (h : Fi w S o f B b q wc) (b' : Int) : Fi w S o f B b' q (wc.setCell ⟨B, 0, none⟩ (.int .i64 b')) :=
  ⟨h.set 0 _, h.b1, by simpa using h.b2, h.ne, World.cell?_setCell_same _ _ _ (u := .int .i64 b) h.c0, (World.cell?_setCell_other _ _ _ _ (by simp)).trans h.c1, fun i => by simpa using h.fz i⟩
theorem Fi.set1 {w wc : World} {S : Nat} {o : Sl} {f : List Fm.Pc} {B : Nat} {b q : Int} (h : Fi w S o f B b q wc) (q' : Int) : Fi w S o f B b q' (wc.setCell ⟨B, 1, none⟩ (.int .i64 q')) :=
  ⟨h.set 1 _, h.b1, by simpa using h.b2, h.ne, (World.cell?_setCell_other _ _ _ _ (by simp)).trans h.c0, World.cell?_setCell_same _ _ _ (u := .int .i64 q) h.c1, fun i => by simpa using h.fz i⟩
theorem Fi.put {w wc wd : World} {S : Nat} {o r : Sl} {f : List Fm.Pc} {B : Nat} {b q : Int} (h : Fi w S o f B b q wc) (hr : OP w.heap.size wd r (f ++ [(b, q)])) (g : wc.grownBy wd o.blk) : Fw w S r (f ++ [(b, q)]) wd := by
  have hlt := h.fw.lt
  have hb : ∀ k, o.blk = some k → S < k := fun k hk => by have := (h.fw.own.blk k hk).1; omega
  refine ⟨hr, h.fw.src.grownRow g hb, ?_, hlt⟩
  cases ho : o.blk with
  | none => rw [ho] at g; exact grown_trans h.fw.gr (grown_weak _ g)
  | some k => rw [ho] at g; exact grown_skip h.fw.gr g (h.fw.own.blk k ho).1

theorem last_get {f : List Fm.Pc} {n : Nat} (h : f.length = n) (h0 : 0 < n) : f.getLast? = some (f.getD (n - 1) Fm.zp) := by
  rw [List.getLast?_eq_getElem?, h]
  simp [List.getD_eq_getElem?_getD, List.getElem?_eq_getElem (show n - 1 < f.length by omega)]
theorem last_none {f : List Fm.Pc} {n : Nat} (h : f.length = n) (h0 : n = 0) : f.getLast? = none := by
  have : f = [] := List.eq_nil_of_length_eq_zero (by omega)
  rw [this]; rfl
/-- The last cell of a row. -/
theorem Fi.last {w wc : World} {S : Nat} {oa : Option Addr} {on oc : Nat} {f : List Fm.Pc} {B : Nat} {b q : Int} (h : Fi w S ⟨oa, on, oc⟩ f B b q wc) (h0 : 0 < on) :
    ∃ g j x y, oa = some ⟨g, 0, none⟩ ∧ j + 1 = on ∧ f.getLast? = some (x, y) ∧ wc.cell? ⟨g, j * 2, none⟩ = some (.int .i64 x) ∧ B ≠ g := by
  have hl := h.fw.own.fr.len
  rcases h.fw.own.form with ⟨_, e0, _⟩ | ⟨g, e0, _, _⟩
  · dsimp only at e0; omega
  · dsimp only at e0 hl
    subst e0
    obtain ⟨x, y, h1, h2, _⟩ := h.fw.own.fr.got (on - 1) (by omega)
    refine ⟨g, on - 1, x, y, rfl, by omega, by rw [last_get hl h0, h1], by rw [Nat.zero_add] at h2; exact h2, fun e => h.ne (by rw [e]; rfl)⟩
def FillEnd (S : Nat) (V C : Int) (w : World) (e : Ending) (w' : World) : Prop :=
  ∃ (r : Sl) (f : List Fm.Pc), e = .returned r.v ∧ OP w.heap.size w' r f ∧ Filled f V C ∧ w.grownBy w' (some S) ∧ SrcOK w' S
theorem next_mod {b C : Int} (h0 : 0 ≤ b) (h1 : b < C) (hC : 2 ≤ C) : 0 ≤ (b + 1) % C ∧ (b + 1) % C < C ∧ (b + 1) % C ≠ b := by
  refine ⟨Int.emod_nonneg _ (by omega), Int.emod_lt_of_pos _ (by omega), ?_⟩
  by_cases e : b + 1 = C
  · rw [e, Int.emod_self]; omega
  · rw [Int.emod_eq_of_lt (by omega) (by omega)]; omega

set_option maxRecDepth 100000 in
set_option maxHeartbeats 2000000 in
theorem fill_any (S : Nat) (V C : Int) (w : World) (hs : SrcOK w S) (hV0 : 0 ≤ V) (hV : V ≤ 1000000) (hC0 : 2 ≤ C) (hC : C ≤ 1000) :
    Calls Try.prog 17 #[.pointer (some ⟨S, 0, none⟩), .int .i64 V, .int .i64 C] w (FillEnd S V C w) := by
  obtain ⟨i0, hi, hz0, hz1, hz2⟩ := parts_p
  have W0 := Lib.hid (show Fw w S ⟨none, 0, 0⟩ [] w from ⟨or_nil _ _ _ _, hs, grown_refl _ _, src_lt hs⟩)
  have F0 := Lib.hid (show Fl [] V V C from ⟨trivial, fun p hp => (by cases hp), by simp [Fm.vol], hV0, by simp, by simp⟩)
  clear hs
  go_enter Try.func17, Try.ntmps17
  go_wp2
  go_loopw [1, 7] (fun s1 s7 wr => ∃ (v : Int) (o : Sl) (f : List Fm.Pc), s1 = .int .i64 v ∧ s7 = .slice o.a o.n o.c ∧ 0 ≤ v ∧ v ≤ 1000000 ∧ Hid (Fl f v V C) ∧ Hid (Fw w S o f wr)) (fun s1 _ _ => (intOf s1).toNat)
  case atStart => exact ⟨V, ⟨none, 0, 0⟩, [], rfl, rfl, hV0, hV, F0, W0⟩
  case round =>
    obtain ⟨v, ⟨oa, on, oc⟩, f, rfl, rfl, hv0, hv1, F, W⟩ := hrel
    dsimp only
    have hfl := W.out.own.fr.len
    have fit := W.out.own.fit
    have hl12 := F.out.len
    dsimp only [Sl.fit] at hfl fit
    have HFL := Lib.hid hfl
    have hon : on ≤ 12 := by omega
    clear hfl hl12
    by_cases hv : 0 < v
    · by_cases hn : on < 12
      · have hni : (on : Int) < 12 := by omega
        go_upto_region 3 with fail
        go_cut [8] (fun s8 wc => ∃ (B : Nat) (b q : Int), s8 = .pointer (some ⟨B, 0, none⟩) ∧ 0 ≤ b ∧ b < C ∧ 1 ≤ q ∧ q ≤ v ∧ Hid (Fi w S ⟨oa, on, oc⟩ f B b q wc))
        case first =>
          go_wp2_with fail
          refine (n_any S C wr W.out.src (by omega) (by omega)).mono ?_
          rintro e w1 ⟨b, ⟨hb0, hb1⟩, rfl, hg, hs⟩
          have W1 := Lib.hid (W.out.grown hg hs)
          clear hg hs
          have hw1 : IntKind.i64.wrap (v * 2) = v * 2 := IntWalk.i64_in _ (by omega)
          have hd : (v * 2).tdiv 3 = v * 2 / 3 := Rd.tdiv_same _ _ (by omega) (by rw [Int.tmod_eq_emod_of_nonneg (by omega)]; omega)
          have hq : 0 ≤ v * 2 / 3 ∧ v * 2 / 3 ≤ v := by omega
          by_cases hm : 1 < v * 2 / 3
          · go_wp2_with fail
            refine (range_any S 1 (v * 2 / 3) w1 W1.out.src (by omega) (by omega) (by omega)).mono ?_
            rintro e w2 ⟨q, ⟨hq0, hq1⟩, rfl, hg, hs⟩
            have W2 := Lib.hid (Fi.new (b := b) (q := q) (W1.out.grown hg hs))
            clear hg hs hm hw1 hd
            go_wp2
            go_meet
            case rel => exact ⟨_, b, q, rfl, hb0, hb1, hq0, by omega, W2⟩
          · have hm2 : decide (1 < v * 2 / 3) = false := decide_eq_false hm
            go_wp2_with fail
            refine (range_any S 1 1 w1 W1.out.src (by omega) (by omega) (by omega)).mono ?_
            rintro e w2 ⟨q, ⟨hq0, hq1⟩, rfl, hg, hs⟩
            have W2 := Lib.hid (Fi.new (b := b) (q := q) (W1.out.grown hg hs))
            clear hg hs hm hw1 hd hm2
            go_wp2
            go_meet
            case rel => exact ⟨_, b, q, rfl, hb0, hb1, hq0, by omega, W2⟩
        case rest =>
          obtain ⟨B, b, q, rfl, hb0, hb1, hq0, hq1, P⟩ := hcut
          have c0 := P.out.c0
          have c1 := P.out.c1
          have fz1 := P.out.fz 1
          go_upto_if 28 with fail
          go_cut [] (fun wd => ∃ r : Int, 1 ≤ r ∧ r ≤ v ∧ Hid (on = 11 → r = v) ∧ Hid (Fi w S ⟨oa, on, oc⟩ f B b r wd))
          case first =>
            by_cases h11 : on = 11
            · have h11i : (on : Int) = 11 := by omega
              have h11b : ((on : Int) == 11) = true := by rw [h11i]; rfl
              have PS := Lib.hid (P.out.set1 v)
              clear h11i
              go_wp2
              go_meet
              case rel => exact ⟨v, by omega, by omega, Lib.hid (fun _ => rfl), PS⟩
            · have h11b : ((on : Int) == 11) = false := by rw [beq_eq_false_iff_ne]; omega
              go_wp2
              go_meet
              case rel => exact ⟨q, hq0, hq1, Lib.hid (fun h => absurd h h11), P⟩
          case rest =>
            obtain ⟨r, hr0, hr1, R11, PR⟩ := hcut
            clear c0 c1 fz1 P hq0 hq1
            have c0 := PR.out.c0
            have c1 := PR.out.c1
            have fz1 := PR.out.fz 1
            have hmn : ¬ v < r := by omega
            go_upto_region 6 with fail
            go_cut [] (fun wd => Hid (Fi w S ⟨oa, on, oc⟩ f B b r wd))
            case first =>
              have PS := Lib.hid (PR.out.set1 r)
              go_wp2
              go_meet
              case rel => exact PS
            case rest =>
              have P2 := hcut
              clear c0 c1 fz1 PR
              have c0 := P2.out.c0
              go_upto_region 7 with fail
              go_cut [50] (fun s50 wd => ∃ e : Bool, s50 = .bool e ∧ Hid (e = true → 0 < on ∧ ∀ p, f.getLast? = some p → p.1 = b) ∧ Hid (e = false → ∀ p, f.getLast? = some p → p.1 ≠ b) ∧ Hid (Fi w S ⟨oa, on, oc⟩ f B b r wd))
              case first =>
                by_cases h0 : 0 < on
                · obtain ⟨g, j, x1, y1, rfl, hj, hlast, c2, hgn⟩ := P2.out.last h0
                  have HL := Lib.hid hlast
                  have hjn : (j : Int) < (on : Int) := by omega
                  have hw : IntKind.i64.wrap ((on : Int) - 1) = (j : Int) := by rw [IntWalk.i64_in _ (by omega)]; omega
                  have h0i : (0 : Int) < (on : Int) := by omega
                  clear hlast hj
                  by_cases hx : x1 = b
                  · subst hx
                    go_wp2
                    go_quiet (fail)
                    go_wp2
                    go_meet
                    case rel => exact ⟨true, rfl, Lib.hid (fun _ => ⟨h0, fun p hp => by rw [HL.out] at hp; cases hp; rfl⟩), Lib.hid (fun h => by cases h), Lib.hid (P2.out.drew _)⟩
                  · have hxb : (x1 == b) = false := by rw [beq_eq_false_iff_ne]; exact hx
                    go_wp2
                    go_quiet (fail)
                    go_wp2
                    go_meet
                    case rel => exact ⟨false, rfl, Lib.hid (fun h => by cases h), Lib.hid (fun _ p hp => by rw [HL.out] at hp; cases hp; exact hx), Lib.hid (P2.out.drew _)⟩
                · have h0i : decide ((0 : Int) < (on : Int)) = false := decide_eq_false (by omega)
                  have HL := Lib.hid (last_none HFL.out (by omega))
                  go_wp2
                  go_quiet (fail)
                  go_wp2
                  go_meet
                  case rel => exact ⟨false, rfl, Lib.hid (fun h => by cases h), Lib.hid (fun _ p hp => by rw [HL.out] at hp; cases hp), Lib.hid (P2.out.drew _)⟩
              case rest =>
                obtain ⟨e, rfl, ET, EF, P3⟩ := hcut
                clear c0 P2
                have c0 := P3.out.c0
                have fz0 := P3.out.fz 0
                go_upto_if 50 with fail
                go_cut [1] (fun s1 wd => ∃ d : Int, s1 = .int .i64 v ∧ 0 ≤ d ∧ d < C ∧ Hid (∀ p, f.getLast? = some p → p.1 ≠ d) ∧ Hid (Fi w S ⟨oa, on, oc⟩ f B d r wd))
                case first =>
                  cases e with
                  | true =>
                    obtain ⟨h0, hb⟩ := ET.out rfl
                    obtain ⟨g, j, x1, y1, rfl, hj, hlast, c2, hgn⟩ := P3.out.last h0
                    have hx := hb _ hlast
                    dsimp only at hx
                    obtain ⟨d0, d1, d2⟩ := next_mod hb0 hb1 hC0
                    have hw1 : IntKind.i64.wrap (b + 1) = b + 1 := IntWalk.i64_in _ (by omega)
                    have hw2 : (b + 1).tmod C = (b + 1) % C := Int.tmod_eq_emod_of_nonneg (by omega)
                    have hCn : ¬ C = 0 := by omega
                    have PS := Lib.hid (P3.out.set0 ((b + 1) % C))
                    have c3 := PS.out.c0
                    have c4 := (World.cell?_setCell_other wc ⟨B, 0, none⟩ ⟨g, j * 2, none⟩ (.int .i64 ((b + 1) % C)) (by intro e; injection e with e1; first | exact hgn e1 | exact hgn e1.symm)).trans c2
                    have HL := Lib.hid hlast
                    have hjn : (j : Int) < (on : Int) := by omega
                    have hw : IntKind.i64.wrap ((on : Int) - 1) = (j : Int) := by rw [IntWalk.i64_in _ (by omega)]; omega
                    have hxb : (x1 == (b + 1) % C) = false := by rw [beq_eq_false_iff_ne]; omega
                    have ND := Lib.hid (show ∀ p, f.getLast? = some p → p.1 ≠ (b + 1) % C from fun p hp => by rw [HL.out] at hp; cases hp; dsimp only; omega)
                    clear hlast hj hb hx c2
                    generalize (b + 1) % C = d at *
                    go_wp2
                    go_quiet (fail)
                    go_wp2
                    go_meet
                    case rel => exact ⟨d, rfl, d0, d1, ND, Lib.hid (PS.out.drew _)⟩
                  | false =>
                    have ND := Lib.hid (EF.out rfl)
                    go_wp2
                    go_meet
                    case rel => exact ⟨b, rfl, hb0, hb1, ND, P3⟩
                case rest =>
                  obtain ⟨d, rfl, hd0, hd1, ND, P4⟩ := hcut
                  clear c0 fz0 P3 ET EF
                  have c0 := P4.out.c0
                  have c1 := P4.out.c1
                  have FN := Lib.hid (F.out.next (b := d) (q := r) (by have := HFL.out; omega) hr0 hr1 (fun h => R11.out (by have := HFL.out; omega)) hd0 hd1 ND.out)
                  have O := Lib.hid (P4.out.fw.own.grown (World.grownBy_alloc wc (.cells #[.int .i64 d, .int .i64 r] 38) none))
                  have szw := P4.out.fw.gr.size
                  go_wp2_with (first
                    | (at_builtin
                       refine wpList_appV rfl _ _ 23 rfl (S := ⟨oa, on, oc⟩) (V := ⟨some ⟨wc.heap.size, 0, none⟩, 1, 1⟩) (vs := pcs (d, r)) Try.underlying23 hi hz0 hz1 hz2 (by rfl) (by omega) rfl rfl O.out ?a1 (by rfl) (cr_new _ _ _ rfl) (pcs_one _) ?a2 ?a3 ?_
                       case a1 => simp; omega
                       case a2 => dsimp only; omega
                       case a3 => dsimp only; omega
                       intro r5 w5 hrn hr hg5 hbl)
                    | fail)
                  obtain ⟨ra, rn, rc⟩ := r5
                  rw [f2_snoc2] at hr
                  have RR := Lib.hid (Fi.put (h := ⟨P4.out.fw.grown0 (World.grownBy_alloc _ _ _), P4.out.b1, by have := P4.out.b2; simp; omega, P4.out.ne, (World.grownBy_alloc _ _ none).cell P4.out.c0 (by simp), (World.grownBy_alloc _ _ none).cell P4.out.c1 (by simp), fun i => by rw [World.frozen?_of_block ((World.grownBy_alloc wc _ none).block _ P4.out.b2 (by simp))]; exact P4.out.fz i⟩) hr hg5)
                  clear hr hg5 hbl hrn
                  dsimp only [Sl.v]
                  go_wp2
                  go_roundw
                  case rel => exact ⟨v - r, ⟨ra, rn, rc⟩, _, rfl, rfl, by omega, by omega, FN, RR⟩
                  case measure => simp [intOf]; omega
      · have hni : decide ((on : Int) < 12) = false := decide_eq_false (by omega)
        have FD := Lib.hid (F.out.done (.inr (by have := HFL.out; omega)) hV hC)
        go_wp2
        go_ret
        exact ⟨⟨oa, on, oc⟩, f, rfl, W.out.own, FD.out, W.out.gr, W.out.src⟩
    · have hni : decide (0 < v) = false := decide_eq_false hv
      have FD := Lib.hid (F.out.done (.inl hv) hV hC)
      go_wp2
      go_ret
      exact ⟨⟨oa, on, oc⟩, f, rfl, W.out.own, FD.out, W.out.gr, W.out.src⟩
end Go.Proofs.Ytafkagaakjfkoaa
