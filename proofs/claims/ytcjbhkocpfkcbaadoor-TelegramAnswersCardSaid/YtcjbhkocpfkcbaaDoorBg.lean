/- The walk of TelegramAnswers, over what came in. -/
import Derived.Test.YtcjbhkocpfkcbaaDoorBd
import Derived.Test.YtcjbhkocpfkcbaaDoorWireLaid
import Derived.ChangeArms
import Derived.WideShapes
namespace Go.Proofs.YtcjbhkocpfkcbaaDoor.Wr
open Go.ChangeShapes Go.WideShapes Go.ChangeAt Go.RowKit

theorem ir_of {w : World} {a : Option Addr} {len cap : Nat} {zs : List Int} (h : InRow w a len cap zs) : IR w a len zs := by
  obtain ⟨b, off, _, h1, _, _, h4, h5, _⟩ := h
  exact ⟨h1, fun i hi => ⟨b, off, h4 (by omega), h5 i hi⟩⟩
theorem in_len {w : World} {a : Option Addr} {len cap : Nat} {zs : List Int} (h : InRow w a len cap zs) : len ≤ 9223372036854775807 := by
  obtain ⟨b, off, _, _, h2, h3, _⟩ := h
  omega
theorem answers_any (rw ot : Tm.Tg) (Ra Oa B A : Option Addr) (nr cr no co m d n c : Nat) (l : List Int) (lb : List UInt8) (w : World) (ht : Tabled w) (hr : InRow w Ra nr cr rw.vs) (ho : InRow w Oa no co ot.vs) (hb : InB w B m d lb) (hl : InRow w A n c l) :
    Calls Tryd.prog 3 #[tv rw (.slice Ra nr cr), tv ot (.slice Oa no co), .slice B m d, .slice A n c] w (TrueEnd w) := by
  by_cases h : 60 < nr ∨ 60 < no ∨ 500 < m
  · exact answers_short rw ot Ra Oa B A nr cr no co m d n c w ht (in_len hr) (in_len ho) (by have := hb.2; omega) h
  · exact answers_long rw ot Ra Oa B A nr cr no co m d n c l lb w ht (ir_of hr) (ir_of ho) hb hl (by omega) (by omega) (by omega)
theorem cells24 : Tryd.prog.cellsOf 24 = 6 := by kernel_rfl
theorem cells3 : Tryd.prog.cellsOf 3 = 1 := by kernel_rfl
theorem cells22 : Tryd.prog.cellsOf 22 = 1 := by kernel_rfl
/-- A telegram that came in by value. -/
theorem open_tg {H : Type} {enc : TypeId × Value → H} {W : World} {b0 : Nat} {r : Reach} {v : Value} {d : DataW H} {p : List MemPlace} (hv : Value.okWide Tryd.prog W r b0 24 v) (h : DataW.Trod enc Tryd.prog W 0 (fun _ => true) true 24 v d p) :
    ∃ (t : Tm.Tg) (A : Option Addr) (n c : Nat) (z : List Int), v = tv t (.slice A n c) ∧ IsRow .i64 W A n c z ∧ t.vs = z.take n := by
  obtain ⟨cs, rfl, hsz⟩ := okWide_struct Tryd.underlying24 hv
  obtain ⟨cl⟩ := cs
  match cl, hsz.trans cells24 with
  | [c0, c1, c2, c3, c4, c5], _ =>
    obtain ⟨fuel, hf⟩ := h
    obtain ⟨xs, n, _, _, _, hlen, hg⟩ := DataW.trod_struct Tryd.underlying24 hf
    match xs, hlen with
    | [y0, y1, y2, y3, y4, y5], _ =>
      have g0 := hg 0 _ rfl
      have g1 := hg 1 _ rfl
      have g2 := hg 2 _ rfl
      have g3 := hg 3 _ rfl
      have g4 := hg 4 _ rfl
      have g5 := hg 5 _ rfl
      simp [Value.cells, cells3, cells22] at g0 g1 g2 g3 g4 g5
      obtain ⟨x0, e0, rfl, u0⟩ := DataW.trod_int Tryd.underlying3 g0
      obtain ⟨x1, e1, rfl, u1⟩ := DataW.trod_int Tryd.underlying3 g1
      obtain ⟨x2, e2, rfl, u2⟩ := DataW.trod_int Tryd.underlying3 g2
      obtain ⟨x3, e3, rfl, u3⟩ := DataW.trod_int Tryd.underlying3 g3
      obtain ⟨x4, e4, rfl, u4⟩ := DataW.trod_int Tryd.underlying3 g4
      simp at e0 e1 e2 e3 e4
      subst e0 e1 e2 e3 e4
      rcases open_ints Tryd.underlying22 Tryd.underlying3 cells3 g5 with ⟨hcs, _⟩ | ⟨x, len, cap, zs, hcs, _, hl, hm, hz, _, hcell, hwz⟩
      · simp at hcs
        subst hcs
        exact ⟨⟨x0, x1, x2, x3, x4, []⟩, none, 0, 0, [], rfl, .inl ⟨rfl, rfl, rfl, rfl⟩, rfl⟩
      · simp at hcs
        subst hcs
        exact ⟨⟨x0, x1, x2, x3, x4, zs.take len⟩, some x, len, cap, zs, rfl, .inr ⟨_, rfl, hl, hm, by simpa using hz, hcell, hwz⟩, rfl⟩
end Go.Proofs.YtcjbhkocpfkcbaaDoor.Wr
