/- Telegrams that a statement makes out of what came in. -/
import Derived.Test.YtcjbhkocpfkcbaaDoorTt
import Derived.Test.YtcjbhkocpfkcbaaDoorTu
namespace Go.Proofs.YtcjbhkocpfkcbaaDoor.Wr
open Go.ChangeShapes Go.WideShapes Go.ChangeAt Go.RowKit

theorem InRow.grown {w w' : World} {a : Option Addr} {len cap : Nat} {zs : List Int} (h : InRow w a len cap zs) (hg : w.grownBy w' none) : InRow w' a len cap zs := by
  obtain ⟨b, off, hb, h1, h2, h3, h4, h5, h6⟩ := h
  exact ⟨b, off, fun h0 => Nat.lt_of_lt_of_le (hb h0) hg.size, h1, h2, h3, h4, fun i hi => hg.cell (h5 i hi) (by simp), h6⟩
/-- A call has made a telegram. -/
def TgN (P : Tm.Tg → Prop) (w : World) (e : Ending) (w' : World) : Prop :=
  ∃ t A n c, e = .returned (tv t (.slice A n c)) ∧ w.grownBy w' none ∧ OI w.heap.size w' A n c t.vs ∧ P t
theorem tg_end {w w1 : World} {S : Nat} {P : Tm.Tg → Prop} (g : w.grownBy w1 none) (hS : w.heap.size ≤ S) {e : Ending} {w' : World} (h : TgEnd S P w1 e w') : TgN P w e w' := by
  obtain ⟨t, A, n, c, rfl, hg, _, ho, hp⟩ := h
  exact ⟨t, A, n, c, rfl, grown_off g hg hS, World.ownsRow.mono ho (by have := g.size; omega), hp⟩
theorem tg_new {w w1 : World} {S : Nat} {st : Int} (g : w.grownBy w1 none) (hS : w.heap.size ≤ S) (hs : SrcOK w1 S) (h1 : 0 ≤ st) (h2 : st ≤ 255) :
    Calls Tryd.prog 17 #[.pointer (some ⟨S, 0, none⟩), .int .i64 st] w1 (TgN (TgOK st) w) :=
  (telegram_any S st w1 hs h1 h2).mono fun _ _ h => tg_end g hS h
end Go.Proofs.YtcjbhkocpfkcbaaDoor.Wr
