/- What the walks of stage 15 share. -/
import Derived.Test.YtagemdgbnajobaaHc
import Derived.Test.YtagemdgbnajobaaFh
namespace Go.Proofs.Ytagemdgbnajobaa
open Go.ChangeShapes Go.WideShapes Go.ChangeAt Go.RowKit

/-- A literal of pieces. -/
theorem fr_new (w : World) (f : List Fm.Pc) {A : Nat} {cs : Array Value} (hA : A = w.heap.size) (hc : (f2 f).toArray = cs) (hl : f.length ≤ 1000) : FR (w.alloc (.cells cs 49)) ⟨some ⟨A, 0, none⟩, f.length, f.length⟩ f := by
  subst hA; subst hc
  refine ⟨⟨Nat.le_refl _, by dsimp only; omega⟩, rfl, fun j u hu => ⟨w.heap.size, 0, rfl, ?_⟩⟩
  rw [Nat.zero_add]
  have h1 : (f2 f).toArray[j]? = some u := by simpa using hu
  simp [h1]
/-- What came before it lies below. -/
theorem _root_.Go.World.grownBy.under {w wr w' : World} {S : Nat} (h : w.grownBy wr none) (hS : S = w.heap.size) (k : wr.grownBy w' (some S)) : w.grownBy w' none :=
  grown_row0 h k (fun b hb => by cases hb; omega)
theorem off_of {w w' : World} {s : Sl} {f : List Fm.Pc} {S : Nat} (h : OP w.heap.size w' s f) (hs : SrcOK w S) : s.blk ≠ some S := fun e => by
  have h1 := (h.blk S e).1
  have h2 := src_lt hs
  omega
/-- The new fill and what leaves. -/
def nx (f g : List Fm.Pc) (back : Bool) : List Fm.Pc := Fm.mer (Fm.shift (Fm.lit f) (Fm.lit g) back).1
def ou (f g : List Fm.Pc) (back : Bool) : List Fm.Pc := Fm.mer (Fm.shift (Fm.lit f) (Fm.lit g) back).2
/-- Two lists of pieces that are fills of few pieces. -/
structure Few (f : List Fm.Pc) (n : Nat) : Prop where
  val : Fm.Val f
  len : f.length ≤ n
theorem Filled.few {f : List Fm.Pc} {V C : Int} (h : Filled f V C) : Few f 12 := ⟨h.val, h.len⟩
theorem Few.nx {f g : List Fm.Pc} {n m : Nat} (h : Few f n) (k : Few g m) (hb : n + m ≤ 200) (back : Bool) : Few (nx f g back) (n + m) ∧ Few (ou f g back) (n + m) := by
  obtain ⟨p1, p2⟩ := Fm.shift_pieces (Fm.lit f) (Fm.lit g) back
  rw [Fm.mer_lit h.val.mgd, Fm.mer_lit k.val.mgd] at p1 p2
  have h1 := h.len
  have k1 := k.len
  obtain ⟨l1, l2⟩ := Fm.shift_len (Fm.lit f) (Fm.lit g) back
  have hm : ∀ b, b ∈ (Fm.shift (Fm.lit f) (Fm.lit g) back).1 ∨ b ∈ (Fm.shift (Fm.lit f) (Fm.lit g) back).2 → 0 ≤ b ∧ b < 1000 := fun b hb => by
    rcases Fm.shift_mem hb with e | e
    · exact h.val.lits b e
    · exact k.val.lits b e
  exact ⟨⟨Fm.val_mer (by omega) (fun b hb => hm b (.inl hb)) (by rw [l1]; exact h.val.litlen), by unfold Go.Proofs.Ytagemdgbnajobaa.nx; omega⟩, ⟨Fm.val_mer (by omega) (fun b hb => hm b (.inr hb)) (by rw [l2]; exact k.val.litlen), by unfold Go.Proofs.Ytagemdgbnajobaa.ou; omega⟩⟩
theorem Few.pushed {f g : List Fm.Pc} {n m : Nat} (h : Few f n) (k : Few g m) (hb : n + m ≤ 200) (back : Bool) : Pushed f g back (Go.Proofs.Ytagemdgbnajobaa.nx f g back) (ou f g back) 0 := by
  obtain ⟨a, b⟩ := h.nx k hb back
  exact .ok h.val k.val a.val.len b.val.len
theorem volume_val {f : List Fm.Pc} (h : Fm.Val f) : volume f = ((Fm.lit f).length : Int) := by unfold volume; rw [if_pos (Fm.valid_yes h), Fm.lit_len h.pos]
theorem batch_val {f : List Fm.Pc} (h : Fm.Val f) (b : Int) : batchOf f b = ((Fm.lit f).count b : Int) := by unfold batchOf; rw [if_pos (Fm.valid_yes h), Fm.of_lit b h.pos]
theorem lit_nx (f g : List Fm.Pc) (back : Bool) : Fm.lit (nx f g back) = (Fm.shift (Fm.lit f) (Fm.lit g) back).1 := Fm.lit_mer _
theorem lit_ou (f g : List Fm.Pc) (back : Bool) : Fm.lit (ou f g back) = (Fm.shift (Fm.lit f) (Fm.lit g) back).2 := Fm.lit_mer _
/-- The fill keeps its volume; what leaves has that of what came in. -/
theorem Few.vols {f g : List Fm.Pc} {n m : Nat} (h : Few f n) (k : Few g m) (hb : n + m ≤ 200) (back : Bool) : volume (Go.Proofs.Ytagemdgbnajobaa.nx f g back) = volume f ∧ volume (ou f g back) = volume g := by
  obtain ⟨a, b⟩ := h.nx k hb back
  obtain ⟨l1, l2⟩ := Fm.shift_len (Fm.lit f) (Fm.lit g) back
  rw [volume_val a.val, volume_val b.val, volume_val h.val, volume_val k.val, lit_nx, lit_ou, l1, l2]
  exact ⟨rfl, rfl⟩
theorem Few.counts {f g : List Fm.Pc} {n m : Nat} (h : Few f n) (k : Few g m) (hb : n + m ≤ 200) (back : Bool) (c : Int) : batchOf f c + batchOf g c = batchOf (Go.Proofs.Ytagemdgbnajobaa.nx f g back) c + batchOf (ou f g back) c := by
  obtain ⟨a, b⟩ := h.nx k hb back
  have := Fm.shift_count (Fm.lit f) (Fm.lit g) back c
  rw [batch_val a.val, batch_val b.val, batch_val h.val, batch_val k.val, lit_nx, lit_ou]
  omega
theorem batch_range {f : List Fm.Pc} (h : Fm.Val f) (b : Int) : 0 ≤ batchOf f b ∧ batchOf f b ≤ 1000000 := by
  have h1 := batch_val h b
  have h2 := List.count_le_length (a := b) (l := Fm.lit f)
  have h3 := h.litlen
  omega
/-- What has left is pushed back. -/
theorem Few.undo {f g : List Fm.Pc} {n m : Nat} (h : Few f n) (k : Few g m) (back : Bool) : Go.Proofs.Ytagemdgbnajobaa.nx (Go.Proofs.Ytagemdgbnajobaa.nx f g back) (ou f g back) (!back) = f ∧ ou (Go.Proofs.Ytagemdgbnajobaa.nx f g back) (ou f g back) (!back) = g := by
  have e := Fm.shift_undo (Fm.lit f) (Fm.lit g) back
  unfold Go.Proofs.Ytagemdgbnajobaa.nx ou
  rw [Fm.lit_mer, Fm.lit_mer, e]
  exact ⟨Fm.mer_lit h.val.mgd, Fm.mer_lit k.val.mgd⟩
theorem nx_nil {f : List Fm.Pc} (h : Fm.Val f) (back : Bool) : nx f [] back = f ∧ ou f [] back = [] := by
  unfold nx ou
  rw [show Fm.lit [] = [] from rfl, Fm.shift_nil]
  exact ⟨Fm.mer_lit h.mgd, rfl⟩
theorem nx_all {f g : List Fm.Pc} (h : Fm.Val f) (k : Fm.Val g) (back : Bool) (e : volume f = volume g) : nx f g back = g ∧ ou f g back = f := by
  rw [volume_val h, volume_val k] at e
  unfold nx ou
  rw [Fm.shift_all _ _ _ (by omega)]
  exact ⟨Fm.mer_lit k.mgd, Fm.mer_lit h.mgd⟩
end Go.Proofs.Ytagemdgbnajobaa
