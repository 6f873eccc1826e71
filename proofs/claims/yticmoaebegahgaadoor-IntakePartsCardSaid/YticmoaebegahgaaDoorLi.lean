/- The walk of IntakeParts. -/
import Derived.Test.YticmoaebegahgaaDoorLh
namespace Go.Proofs.YticmoaebegahgaaDoor.Iw
open Go.ChangeShapes Go.WideShapes Go.ChangeAt Go.RowKit
open Wr (IR RB iv ivs bv bvs grown_trans grown_refl grown_alloc ret_int ret_bool tv Ret ret_mk Made OwnEnd)

/-- It holds whatever is done to the blocks L. -/
def CL (L : List Nat) (w : World) (P : World → Prop) : Prop := ∀ w', Chg L w w' → P w'
theorem CL.now {L : List Nat} {w : World} {P : World → Prop} (h : CL L w P) : P w := h w (Chg.refl _ _)
theorem CL.step {L L' M : List Nat} {w w' : World} {P : World → Prop} (h : CL L w P) (g : Chg M w w') (hM : ∀ b ∈ M, b ∈ L ∨ w.heap.size ≤ b) (hL : ∀ b ∈ L', b ∈ L ∨ w.heap.size ≤ b) : CL L' w' P :=
  fun w2 g2 => h w2 (((Chg.refl L w).then g hM).then g2 hL)
theorem CL.grown {L : List Nat} {w w' : World} {P : World → Prop} (h : CL L w P) (g : w.grownBy w' none) : CL L w' P := h.step (M := []) (Chg.of0 g) (fun _ h => by cases h) (fun _ hb => .inl hb)
theorem CL.and {L : List Nat} {w : World} {P Q : World → Prop} (h : CL L w P) (k : CL L w Q) : CL L w (fun W => P W ∧ Q W) := fun w' g => ⟨h w' g, k w' g⟩
theorem CL.imp {L : List Nat} {w : World} {P Q : World → Prop} (h : CL L w P) (k : ∀ W, P W → Q W) : CL L w Q := fun w' g => k _ (h w' g)
theorem KS.cl {lo : Nat} {L : List Nat} {w : World} {T E : Sl} {k : Ik} (h : KS lo w T E k) (hL : ∀ b ∈ L, b < lo) : CL L w (fun W => KR W T E k) := fun w' g => h w' (g.weak (fun b hb => List.mem_range.2 (hL b hb)))
theorem TRS.cl {lo : Nat} {L : List Nat} {w : World} {s : Sl} {ts : List Tm.Tg} (h : TRS lo w s ts) (hL : ∀ b ∈ L, b < lo) : CL L w (fun W => TR W s ts) := fun w' g =>
  TRS.now (TO.step h (g.weak (M := List.range lo) (fun b hb => List.mem_range.2 (hL b hb))) (fun b hb hm => by have h1 := (TO.blk h b hb).1; have h2 := List.mem_range.1 hm; omega) (fun b hb => .inl hb) (fun b hb => .inl hb))
theorem OR.cl {base : Nat} {L : List Nat} {w : World} {s : Sl} {l : List UInt8} (h : OR base w 5 1 s (bvs l)) (hL : ∀ b, s.blk = some b → b ∉ L) : CL L w (fun W => RB W s.a s.n l) := fun w' g => or_rb (h.chg g hL)

/-- What is fed next leads to the end of the whole. -/
structure Pl (win : Int) (kz : Ik) (all : List Tm.Tg) (k : Ik) (bs : List UInt8) (xs : List Tm.Tg) : Prop where
  ok : k.ok = true
  win_ : k.win = win
  eq : (Im.feed win k.tail k.es bs).1 = kz.tail ∧ (Im.feed win k.tail k.es bs).2.1 = kz.es ∧ xs ++ (Im.feed win k.tail k.es bs).2.2 = all
theorem feed_ok {k : Ik} (h : k.ok = true) (b : List UInt8) : (feedF k b).1.ok = true := by
  obtain ⟨h1, h2, h3, h4⟩ := Ik.ok_iff.1 h
  obtain ⟨e1, e2⟩ := Im.cut_tail h3 b
  exact Ik.ok_iff.2 ⟨h1, e2, e1, Im.run_ok h1.1 _ _ h4 (Im.gets_ok _)⟩
theorem Pl.next {win : Int} {kz k : Ik} {all xs : List Tm.Tg} {bs : List UInt8} (h : Pl win kz all k bs xs) (j : Nat) : Pl win kz all (feedF k (bs.take j)).1 (bs.drop j) (xs ++ (feedF k (bs.take j)).2.1) := by
  obtain ⟨e1, e2, e3⟩ := h.eq
  have hp := Im.feed_parts win k.tail (Ik.ok_iff.1 h.ok).2.2.1 k.es (bs.take j) (bs.drop j)
  rw [List.take_append_drop] at hp
  rw [hp] at e1 e2 e3
  have hw := h.win_
  refine ⟨feed_ok h.ok _, h.win_, ?_⟩
  unfold feedF
  dsimp only
  rw [hw]
  exact ⟨e1, e2, by rw [List.append_assoc]; exact e3⟩
/-- The loop over the cuts. -/
structure Pa (w0 : World) (lo sB aB : Nat) (win : Int) (k kz : Ik) (bs : List UInt8) (xs all : List Tm.Tg) (Ts Es Ta Ea B A Z : Sl) (w : World) : Prop where
  g : w0.grownBy w none
  bb : Tri w sB (.int .i64 win) Ts.v Es.v
  ba : Tri w aB (.int .i64 win) Ta.v Ea.v
  cl : CL (sB :: A.blk.toList) w (fun W => (KR W Ts Es k ∧ KR W Ta Ea kz) ∧ (RB W B.a B.n bs ∧ TR W Z all))
  a : TO lo w (sB :: A.blk.toList) A xs
  fit : B.n ≤ B.c ∧ B.c ≤ 9223372036854775807 ∧ B.n ≤ 15700
  ord : w0.heap.size ≤ sB ∧ sB < aB ∧ aB < lo ∧ lo ≤ w.heap.size
section
variable {w0 : World} {lo sB aB : Nat} {win : Int} {k kz : Ik} {bs : List UInt8} {xs all : List Tm.Tg} {Ts Es Ta Ea B A Z : Sl} {w w' : World}
theorem Pa.grown (h : Pa w0 lo sB aB win k kz bs xs all Ts Es Ta Ea B A Z w) (g : w.grownBy w' none) : Pa w0 lo sB aB win k kz bs xs all Ts Es Ta Ea B A Z w' :=
  ⟨grown_trans h.g g, h.bb.grown g, h.ba.grown g, h.cl.grown g, h.a.grown g, h.fit, ⟨h.ord.1, h.ord.2.1, h.ord.2.2.1, Nat.le_trans h.ord.2.2.2 g.size⟩⟩
/-- The next part has been fed: more is given, the intake is stored, what is left of the stream is at hand. -/
theorem Pa.next (h : Pa w0 lo sB aB win k kz bs xs all Ts Es Ta Ea B A Z w) {w1 w2 : World} {k' : Ik} {T' E' B' r G : Sl} {us gs : List TV} {bs' : List UInt8} {outs : List Tm.Tg} (hc : CL (sB :: A.blk.toList) w (fun W => KR W T' E' k' ∧ TR W G outs)) (hb : ∀ W, RB W B.a B.n bs → RB W B'.a B'.n bs') (hf : B'.n ≤ B'.c ∧ B'.c ≤ 9223372036854775807 ∧ B'.n ≤ 15700)
    (hu : us.map Prod.fst = xs) (huv : ∀ x ∈ us, VI w (sB :: A.blk.toList) x.2 x.1.vs) (hv : gs.map Prod.fst = outs) (hgv : ∀ x ∈ gs, VI w (sB :: A.blk.toList) x.2 x.1.vs)
    (hr : OR lo w1 42 6 r (f6 us ++ f6 gs)) (hg : w.grownBy w1 A.blk) (hrb : ∀ b, r.blk = some b → A.blk = some b ∨ b = w.heap.size) (g2 : Chg [sB] w1 w2) (ht : Tri w2 sB (.int .i64 win) T'.v E'.v) :
    Pa w0 lo sB aB win k' kz bs' (xs ++ outs) all T' E' Ta Ea B' r Z w2 := by
  obtain ⟨o1, o2, o3, o4⟩ := h.ord
  have c1 : Chg A.blk.toList w w1 := Chg.of hg (fun b hb => by simpa using hb)
  have hA : ∀ b ∈ A.blk.toList, lo ≤ b := fun b hb => (h.a.blk b (by simpa using hb)).1
  have hs1 := c1.size
  have hs2 := g2.size
  have c12 : Chg (sB :: A.blk.toList) w w2 := ((Chg.refl _ w).then c1 (fun b hb => .inl (List.mem_cons_of_mem _ hb))).then g2 (fun b hb => by rw [List.mem_singleton] at hb; subst hb; exact .inl List.mem_cons_self)
  have hL : ∀ b ∈ sB :: r.blk.toList, b ∈ sB :: A.blk.toList ∨ w.heap.size ≤ b := fun b hm => by
    rcases List.mem_cons.1 hm with rfl | hm
    · exact .inl List.mem_cons_self
    · rcases hrb b (by simpa using hm) with e | e
      · exact .inl (List.mem_cons_of_mem _ (by simpa using e))
      · exact .inr (by omega)
  have hrs : ∀ b, r.blk = some b → b ≠ sB := fun b hb e => by
    rcases hrb b hb with e2 | e2
    · have := hA b (by simpa using e2); omega
    · omega
  refine ⟨c12.grown h.g (fun b hb => ?_), ht, h.ba.step c12 (fun hm => ?_), ((hc.and h.cl).step c12 (fun b hb => .inl hb) hL).imp (fun W hW => ⟨⟨hW.1.1, hW.2.1.2⟩, hb W hW.2.2.1, hW.2.2.2⟩), ⟨us ++ gs, by rw [List.map_append, hu, hv], ?_, fun x hx => ?_⟩, hf, ⟨o1, o2, o3, by omega⟩⟩
  · rcases List.mem_cons.1 hb with rfl | hb
    · exact o1
    · have := hA b hb; omega
  · rcases List.mem_cons.1 hm with e | hm
    · omega
    · have := hA aB hm; omega
  · have e6 : f6 (us ++ gs) = f6 us ++ f6 gs := flat_app us gs
    rw [e6]
    exact hr.chg g2 (fun b hb hm => by rw [List.mem_singleton] at hm; exact hrs b hb hm)
  · rcases List.mem_append.1 hx with hx | hx
    · exact (huv x hx).step c12 hL
    · exact (hgv x hx).step c12 hL
end
theorem scan_out_len (l : List UInt8) : (Im.scan none l).out.length ≤ l.length := by
  have h := Im.scan_count l none
  have h2 : l.count 126 ≤ l.length := List.count_le_length
  have h3 : Im.open1 none = 0 := rfl
  omega
theorem low_cons {x lo : Nat} {L : List Nat} (h : x < lo) (k : ∀ b ∈ L, b < lo) : ∀ b ∈ x :: L, b < lo := fun b hb => by
  rcases List.mem_cons.1 hb with e | hb
  · omega
  · exact k b hb
theorem pa_low {w0 : World} {lo sB aB : Nat} {win : Int} {k kz : Ik} {bs : List UInt8} {xs all : List Tm.Tg} {Ts Es Ta Ea B A Z : Sl} {w : World} (h : Pa w0 lo sB aB win k kz bs xs all Ts Es Ta Ea B A Z w) : ∀ b ∈ sB :: A.blk.toList, b < w.heap.size := low_cons h.bb.lt (fun b hb => (h.a.blk b (by simpa using hb)).2)
/-- What a call of Feed has made. -/
def Nw (L2 : List Nat) (T' E' G : Sl) (k' : Ik) (outs : List Tm.Tg) (W : World) : Prop := (KR W T' E' k' ∧ TR W G outs) ∧ ∃ gs : List TV, gs.map Prod.fst = outs ∧ CR W G (f6 gs) ∧ gs.length = G.n ∧ ∀ x ∈ gs, VI W L2 x.2 x.1.vs
theorem nw_of {lo : Nat} {L L2 : List Nat} {w : World} {T' E' G : Sl} {k' : Ik} {outs : List Tm.Tg} (h : KS lo w T' E' k') (t : TRS lo w G outs) (hL : ∀ b ∈ L, b < lo) (h2 : ∀ b ∈ L2, b ∈ L) : CL L w (Nw L2 T' E' G k' outs) := fun w' g => by
  have t1 : TO lo w' (List.range lo) G outs := TO.step t (g.weak (M := List.range lo) (fun b hb => List.mem_range.2 (hL b hb))) (fun b hb hm => by have h1 := (TO.blk t b hb).1; have h2 := List.mem_range.1 hm; omega) (fun b hb => .inl hb) (fun b hb => .inl hb)
  obtain ⟨gs, e1, e2, e3, e4⟩ := t1.off
  exact ⟨⟨h.cl hL w' g, t1.tr⟩, gs, e1, e2.cr, e4, fun x hx => (e3 x hx).less (fun b hb => List.mem_range.2 (hL b (h2 b hb)))⟩
theorem rb_tail {W : World} {g off bn bc K : Nat} {bs : List UInt8} {ad : Option Addr} (h : RB W (some ⟨g, off, none⟩) bn bs) (hK : K ≤ bn) (hc : bn ≤ bc) (ha : (if bc = K then (some ⟨g, off, none⟩ : Option Addr) else some ⟨g, off + K, none⟩) = ad) : RB W ad (bn - K) (bs.drop K) := by
  by_cases e : bc = K
  · have h1 : bn - K = 0 := by omega
    have h2 : bs.drop K = [] := List.drop_eq_nil_of_le (by have := h.1; omega)
    rw [h1, h2]
    exact RB.nil _ _
  · rw [if_neg e] at ha
    subst ha
    exact h.drop K (bn - K) (by omega)
theorem ad_form {g off bc K : Nat} {ad : Option Addr} (ha : (if bc = K then (some ⟨g, off, none⟩ : Option Addr) else some ⟨g, off + K, none⟩) = ad) : ∃ o2, ad = some ⟨g, o2, none⟩ := by
  subst ha
  split
  · exact ⟨_, rfl⟩
  · exact ⟨_, rfl⟩
theorem wpList_appG {P : Program} {w : World} {ops : Array Oper} {rest : List Oper} {o : Oper} {a : Act} {Q : Exit → Act → World → Prop} (hw : Region.wanted o (yielded ops a.tmps) = true) (s x : Operand) (t : TypeId) (ho : o.op = .call { callee := .builtin .append, args := #[s, x], argTypes := #[t, t] })
    {base : Nat} {e : TypeId} {i : TypeInfo} {z : Value} {k bytes : Nat} {S V : Sl} {us vs : List Value}
    (ht : P.underlying t = some (.slice e)) (hi : P.info? e = some i) (hz : i.zero = some z) (hsz : i.size = k) (hby : i.bytes = bytes) (hzs : z.cells.size = k) (hk : 0 < k)
    (hs : a.eval s = S.v) (hx : a.eval x = V.v) (own : OR base w e k S us) (hb0 : base ≤ w.heap.size) (hl : vs.length = V.n * k) (hv : CR w V vs) (h1 : ∀ u ∈ vs, u.oneCell' = true) (hb : (S.n + V.n) * bytes ≤ 140737488355328) (h63 : S.n + V.n ≤ 1000000000)
    (hq : ∀ (r : Sl) (w' : World), r.n = S.n + V.n → OR base w' e k r (us ++ vs) → w.grownBy w' S.blk → (∀ b, r.blk = some b → S.blk = some b ∨ b = w.heap.size) → wpList P ops Q rest (a.put o.dst r.v) w') : wpList P ops Q (o :: rest) a w := by
  refine wpList_step fun K hK => ?_
  rw [if_pos hw]
  obtain ⟨r, w', hr, h2, h3, h4, h5⟩ := appV_run (P := P) t o.type ht hi hz hsz hby hzs hk own hb0 hl hv h1 hb h63
  unfold Oper.wp execOp
  simp only [ho, resolve, invoke, builtin, Sem.run_bind, Sem.run_pure, Result.andThen_ok, List.map_toArray, List.map_cons, List.map_nil, hs, hx, hr]
  exact hK _ _ (hq r w' h2 h3 h4 h5)
theorem pl_few {win : Int} {kz k : Ik} {all xs : List Tm.Tg} {bs : List UInt8} (h : Pl win kz all k bs xs) : xs.length ≤ all.length := by
  have := congrArg List.length h.eq.2.2
  rw [List.length_append] at this
  omega
theorem feed_few {win : Int} (hw : 0 ≤ win ∧ win ≤ 16) {k : Ik} (h : k.ok = true) (hk : k.win = win) (b : List UInt8) : (feedF k b).2.1.length ≤ 17 * (400 + b.length) := by
  obtain ⟨h1, h2, h3, h4⟩ := Ik.ok_iff.1 h
  unfold feedF Im.feed
  dsimp only
  have e1 := run_len h1 (Im.gets (Im.scan (Im.ofTail k.tail) b).out) k.es h4 (Im.gets_ok _)
  have e2 := gets_len (Im.scan (Im.ofTail k.tail) b).out
  have e3 : (Im.scan (Im.ofTail k.tail) b).out.length ≤ 400 + b.length := by
    rw [← Im.scan_of h3 b]
    have h5 := scan_out_len (k.tail ++ b)
    rw [List.length_append] at h5
    omega
  omega
set_option maxRecDepth 100000 in
set_option maxHeartbeats 16000000 in
theorem parts_any (A0 : Option Addr) (n c : Nat) (zs : List Int) (CA : Option Addr) (Cn Cc : Nat) (cuts : List Int) (wd : Int) (w : World) (hl : Wr.InRow w A0 n c zs) (hcu : Wr.InRow w CA Cn Cc cuts) (hw : 0 ≤ wd ∧ wd ≤ 255) (ht : Wr.Tabled w) :
    Calls Tryd.prog 3 #[.slice A0 n c, .slice CA Cn Cc, .int .u8 wd] w (Ret (.bool true) w) := by
  have HL := Lib.hid hl
  have HCU := Lib.hid hcu
  have HT := Lib.hid ht
  have ht0 : 0 ≤ wd % 17 ∧ wd % 17 ≤ 16 := by omega
  have hc1 : IntKind.i64.wrap wd = wd := IntWalk.i64_in _ (by omega)
  have hc2 : IntKind.i64.wrap (wd % 17) = wd % 17 := IntWalk.i64_in _ (by omega)
  obtain ⟨I, hI, hz, hsz, hby⟩ := parts_b
  obtain ⟨IT, hIT, hzT, hszT, hbyT⟩ := parts_t
  clear hl ht hcu
  go_enter Tryd.func3, Tryd.ntmps3
  go_wp2_with fail
  refine (Wr.new_any _ _ _ _ w HL.out).mono ?_
  rintro e w1 ⟨rfl, g1, s1, z1⟩
  obtain ⟨S, hS⟩ : ∃ S, S = w.heap.size := ⟨_, rfl⟩
  simp only [← hS] at s1 z1 ⊢
  obtain ⟨l1, hl1⟩ : ∃ l1, l1 = w1.heap.size := ⟨_, rfl⟩
  have HS0 := Lib.hid (show w.heap.size ≤ S ∧ S < l1 ∧ l1 = w1.heap.size by omega)
  have G1 := Lib.hid g1
  have S1 := Lib.hid s1
  clear HL g1 s1 z1 hS hl1
  go_wp2_with fail
  refine (stream_any S w1 S1.out).mono ?_
  rintro e w2 ⟨⟨O1a, O1n, O1c⟩, o1, k1, rfl, hk1, hs1, hr1, g2, ss2⟩
  have R1 := Lib.hid hr1
  have N1 := Lib.hid (show O1n ≤ 7850 by have h1 := hr1.len; rw [Wr.bvs_len] at h1; have h2 := stream_len hs1; dsimp only at h1; omega)
  have G2 := Lib.hid (Wr.grown_off G1.out g2 HS0.out.1)
  have LW2 := Lib.hid (show w1.heap.size ≤ w2.heap.size from g2.size)
  have S2 := Lib.hid ss2
  clear hk1 hs1 hr1 g2 ss2
  dsimp only [Sl.v]
  go_wp2_with fail
  refine (stream_any S w2 S2.out).mono ?_
  rintro e w3 ⟨⟨O2a, O2n, O2c⟩, o2, k2, rfl, hk2, hs2, hr2, g3, ss3⟩
  have R1 := Lib.hid (R1.out.chg (Chg.of (L := [S]) g3 (fun b hb => by injection hb with hb; simp [hb])) (fun b hb hm => by rw [List.mem_singleton] at hm; have h1 := (R1.out.blk b hb).1; have h2 := HS0.out; omega))
  have R2 := Lib.hid hr2
  have N2 := Lib.hid (show O2n ≤ 7850 by have h1 := hr2.len; rw [Wr.bvs_len] at h1; have h2 := stream_len hs2; dsimp only at h1; omega)
  have G3 := Lib.hid (Wr.grown_off G2.out g3 HS0.out.1)
  have LW3 := Lib.hid (show w1.heap.size ≤ w3.heap.size from Nat.le_trans LW2.out g3.size)
  have HB1 := Lib.hid (show (O1n + O2n) * 1 ≤ 140737488355328 by have := N1.out; have := N2.out; omega)
  have HB2 := Lib.hid (show O1n + O2n ≤ 1000000000 by have := N1.out; have := N2.out; omega)
  clear hk2 hs2 hr2 g3 ss3
  dsimp only [Sl.v]
  go_wp2_with (first
    | (at_builtin
       refine wpList_appV rfl (.tmp 26) (.tmp 28) 25 rfl (S := ⟨O1a, O1n, O1c⟩) (V := ⟨O2a, O2n, O2c⟩) Tryd.underlying25 hI hz hsz hby (by rfl) (by omega) rfl rfl R1.out LW3.out R2.out.len R2.out.cr (Wr.bvs_one _) HB1.out HB2.out ?_
       intro r w4 hrn hr g4 hrb
       have RX := Lib.hid (show OR w1.heap.size w4 5 1 r (bvs (o1 ++ o2)) by rw [Wr.bvs_append]; exact hr)
       have NX := Lib.hid (show r.n ≤ 15700 by have := N1.out; have := N2.out; dsimp only at hrn; omega)
       have G4 := Lib.hid (show w.grownBy w4 none from (Chg.of (L := (Sl.blk ⟨O1a, O1n, O1c⟩).toList) g4 (fun b hb => by simpa using hb)).grown G3.out (fun b hb => by have h1 := (R1.out.blk b (by simpa using hb)).1; have h2 := HS0.out; omega))
       clear hrn hr g4 hrb
       obtain ⟨RXa, RXn, RXc⟩ := r
       dsimp only [Sl.v] at NX ⊢)
    | fail)
  generalize o1 ++ o2 = bs at *
  try simp only [hc1, hc2]
  obtain ⟨win, hwin⟩ : ∃ x, x = wd % 17 := ⟨_, rfl⟩
  simp only [← hwin] at ht0 ⊢
  clear hwin
  have HW := Lib.hid (show 0 ≤ win ∧ win ≤ 16 by omega)
  clear R1 R2 N1 N2 G1 G2 G3 LW2 LW3 HB1 HB2 S1 S2 ht0
  refine (new_nil win w4).mono ?_
  rintro e w5 ⟨rfl, g5⟩
  rw [newF_yes HW.out]
  dsimp only [iv3, nilS, Sl.v]
  obtain ⟨sB, hsB⟩ : ∃ b, b = w5.heap.size := ⟨_, rfl⟩
  obtain ⟨w6, hw6⟩ : ∃ w6, w6 = w5.alloc (Obj.cells #[.int .i64 win, .slice none 0 0, .slice none 0 0] 29) := ⟨_, rfl⟩
  have g6 : w5.grownBy w6 none := by subst hw6; exact grown_alloc _ _ _
  have b6 : Tri w6 sB (.int .i64 win) (.slice none 0 0) (.slice none 0 0) := by subst hw6; subst hsB; exact tri_made _ _ _ _ _
  have z6 : w6.heap.size = sB + 1 := by subst hw6; subst hsB; simp
  have B6 := Lib.hid b6
  have G6 := Lib.hid (grown_trans G4.out (grown_trans g5 g6))
  have RX6 := Lib.hid (RX.out.grown (grown_trans g5 g6))
  have Z6 := Lib.hid (show w6.heap.size = sB + 1 ∧ w4.heap.size ≤ sB by have := g5.size; omega)
  have NB := Lib.hid (fun b (hb : Sl.blk ⟨RXa, RXn, RXc⟩ = some b) => show b < sB from by have h1 := (RX.out.blk b hb).2; have := Z6.out; omega)
  obtain ⟨FF, hFF⟩ : ∃ FF, FF = feedF ⟨win, [], []⟩ bs := ⟨_, rfl⟩
  have HFF := Lib.hid hFF
  have FD := Lib.hid (feed_any nilS nilS ⟨win, [], []⟩ RXa RXn RXc bs w6 (kr_nil w6 win) (ok_nil HW.out) (or_rb RX6.out) RX6.out.fit.1 RX6.out.fit.2 (by have := NX.out; omega) (HT.out.grown G6.out))
  rw [← hFF] at FD
  have F3 := Lib.hid (show FF.1.win = win ∧ FF.2.2 = 0 by rw [hFF]; exact ⟨rfl, rfl⟩)
  dsimp only [iv3, nilS, Sl.v] at FD
  clear b6 z6 g5 g6 hFF RX
  go_wp2_with fail
  rw [← hw6]
  try simp only [← hsB]
  clear hw6 hsB
  refine FD.out.mono ?_
  rintro e w7 ⟨⟨T1a, T1n, T1c⟩, ⟨E1a, E1n, E1c⟩, ⟨Za, Zn, Zc⟩, rfl, hk7, hn7, ht7, g7⟩
  rw [F3.out.1, F3.out.2]
  dsimp only [iv3, Sl.v]
  obtain ⟨aB, haB⟩ : ∃ b, b = w7.heap.size := ⟨_, rfl⟩
  obtain ⟨w8, hw8⟩ : ∃ w8, w8 = w7.alloc (Obj.cells #[.int .i64 win, .slice T1a T1n T1c, .slice E1a E1n E1c] 29) := ⟨_, rfl⟩
  have g8 : w7.grownBy w8 none := by subst hw8; exact grown_alloc _ _ _
  have b8 : Tri w8 aB (.int .i64 win) (.slice T1a T1n T1c) (.slice E1a E1n E1c) := by subst hw8; subst haB; exact tri_made _ _ _ _ _
  have z8 : w8.heap.size = aB + 1 := by subst hw8; subst haB; simp
  obtain ⟨kz, hkz⟩ : ∃ kz, kz = FF.1 := ⟨_, rfl⟩
  obtain ⟨all, hall⟩ : ∃ al, al = FF.2.1 := ⟨_, rfl⟩
  rw [← hkz] at hk7 hn7
  rw [← hall] at ht7
  have hs7 := g7.size
  have PL := Lib.hid (show Pl win kz all ⟨win, [], []⟩ bs [] from ⟨ok_nil HW.out, rfl, by rw [hkz, hall, HFF.out]; exact ⟨rfl, rfl, rfl⟩⟩)
  have KZW := Lib.hid (show kz.win = win by rw [hkz]; exact F3.out.1)
  have NAL := Lib.hid (show all.length ≤ 17 * (400 + 15700) by
    rw [hall, HFF.out]
    have h1 := feed_few HW.out (ok_nil HW.out) rfl bs
    have h2 := RX6.out.len
    rw [Wr.bvs_len] at h2
    have h3 := NX.out
    dsimp only at h2
    omega)
  have PA := Lib.hid (show Pa w (aB + 1) sB aB win ⟨win, [], []⟩ kz bs [] all nilS nilS ⟨T1a, T1n, T1c⟩ ⟨E1a, E1n, E1c⟩ ⟨RXa, RXn, RXc⟩ nilS ⟨Za, Zn, Zc⟩ w8 from
    ⟨grown_trans G6.out (grown_trans g7 g8), B6.out.grown (grown_trans g7 g8), b8,
      ((CL.and (fun W _ => kr_nil W win) (CL.grown (hk7.cl (L := [sB]) (fun b hb => by rw [List.mem_singleton] at hb; have := Z6.out; omega)) g8)).and (CL.and ((RX6.out.grown (grown_trans g7 g8)).cl (fun b hb hm => by rw [List.mem_singleton] at hm; have := NB.out b hb; omega)) (CL.grown (ht7.cl (L := [sB]) (fun b hb => by rw [List.mem_singleton] at hb; have := Z6.out; omega)) g8))),
      ⟨[], rfl, or_nil _ _ _ _, fun x hx => by cases hx⟩, ⟨RX6.out.fit.1, RX6.out.fit.2, NX.out⟩, ⟨by have h1 := Z6.out; have h2 := G4.out.size; omega, by have h1 := Z6.out; omega, by omega, by omega⟩⟩)
  have FM := Lib.hid (show (Sl.a ⟨RXa, RXn, RXc⟩ = none ∧ RXn = 0 ∧ RXc = 0) ∨ ∃ g off, Sl.a ⟨RXa, RXn, RXc⟩ = some ⟨g, off, none⟩ by
    rcases RX6.out.form with ⟨h1, h2, h3, _⟩ | ⟨g, h1, _⟩
    · exact .inl ⟨h1, h2, h3⟩
    · exact .inr ⟨g, 0, h1⟩)
  clear hk7 hn7 ht7 g7 g8 b8 z8 hkz hall hs7 FD RX6 NX G4 G6 B6 Z6 NB HFF F3
  go_upto_region 5 with fail
  rw [← hw8]
  try simp only [← haB]
  clear hw8 haB
  go_wp2_with fail
  go_loopw [8, 14, 15] (fun vb vg vi wr => ∃ (i : Nat) (k : Ik) (bs : List UInt8) (xs : List Tm.Tg) (Ts Es B A : Sl), vb = B.v ∧ vg = A.v ∧ vi = .int .i64 i ∧ i ≤ 20 ∧ Hid (Pl win kz all k bs xs) ∧ Hid (Pa w (aB + 1) sB aB win k kz bs xs all Ts Es ⟨T1a, T1n, T1c⟩ ⟨E1a, E1n, E1c⟩ B A ⟨Za, Zn, Zc⟩ wr) ∧ Hid ((B.a = none ∧ B.n = 0 ∧ B.c = 0) ∨ ∃ g off, B.a = some ⟨g, off, none⟩)) (fun _ _ vi _ => 20 - (intOf vi).toNat)
  case atStart => exact ⟨0, _, _, _, _, _, _, nilS, rfl, rfl, rfl, by omega, PL, PA, FM⟩
  case round =>
    clear PL PA FM
    obtain ⟨i, k, bs, xs, ⟨Tsa, Tsn, Tsc⟩, ⟨Esa, Esn, Esc⟩, ⟨Ba, Bn, Bc⟩, ⟨Aa, An, Ac⟩, rfl, rfl, rfl, hi, PL, PA, FM⟩ := hrel
    dsimp only [Sl.v] at FM ⊢
    obtain ⟨kwin, ktl, kes⟩ := k
    have hkw : win = kwin := PL.out.win_.symm
    subst hkw
    by_cases hic : i < Cn
    · have hic' : (i : Int) < (Cn : Int) := by omega
      by_cases hi20 : i < 20
      · have hi20' : (i : Int) < 20 := by omega
        obtain ⟨cb, coff, -, -, -, -, hCA, hcc, hcz⟩ := HCU.out
        have hCA2 := hCA (by omega)
        subst hCA2
        have hcu := PA.out.g.cell (hcc i hic) (by simp)
        have hz64 := hcz i
        clear hcc hcz hCA
        obtain ⟨cz, hcz⟩ : ∃ z, z = cuts.getD i 0 := ⟨_, rfl⟩
        rw [← hcz] at hcu hz64
        clear hcz
        have hbn : Bn ≤ 15700 := PA.out.fit.2.2
        have hz1 : -9223372036854775808 ≤ cz ∧ cz ≤ 9223372036854775807 := hz64
        go_wp2_with fail
        refine (Wr.mod_pos cz ((Bn : Int) + 1) wr (by omega) (by omega) hz1.1 hz1.2).mono ?_
        rintro e _ ⟨rfl, rfl⟩
        obtain ⟨KK, hKK, hKB⟩ : ∃ KK : Nat, cz % ((Bn : Int) + 1) = (KK : Int) ∧ KK ≤ Bn := by
          have h1 := Int.emod_nonneg cz (b := (Bn : Int) + 1) (by omega)
          have h2 := Int.emod_lt_of_pos cz (b := (Bn : Int) + 1) (by omega)
          exact ⟨(cz % ((Bn : Int) + 1)).toNat, by omega, by omega⟩
        rw [hKK]
        have HKB := Lib.hid hKB
        have HBC := Lib.hid (show Bn ≤ Bc from PA.out.fit.1)
        obtain ⟨FF, hFF⟩ : ∃ FF, FF = feedF ⟨win, ktl, kes⟩ (bs.take KK) := ⟨_, rfl⟩
        have HFF := Lib.hid hFF
        have F3 := Lib.hid (show FF.1.win = win ∧ FF.2.2 = 0 by rw [hFF]; exact ⟨rfl, rfl⟩)
        have PL2 := Lib.hid (show Pl win kz all FF.1 (bs.drop KK) (xs ++ FF.2.1) by rw [hFF]; exact PL.out.next KK)
        obtain ⟨ad, had1, had2⟩ : ∃ ad : Option Addr, (Ba = none → ad = none) ∧ ∀ g off, Ba = some ⟨g, off, none⟩ → (if Bc = KK then (some ⟨g, off, none⟩ : Option Addr) else some ⟨g, off + KK, none⟩) = ad := by
          rcases Ba with _ | q
          · exact ⟨none, fun _ => rfl, fun g off e => by cases e⟩
          · exact ⟨if Bc = KK then some q else some { q with off := q.off + KK }, (fun e => by cases e), fun g off e => by injection e with e; subst e; rfl⟩
        have HAN := Lib.hid had1
        have HAD := Lib.hid had2
        clear hFF hKK hKB had1 had2 hz1 hz64 hcu
        have HRB := Lib.hid (show ∀ W, RB W Ba Bn bs → RB W ad (Bn - KK) (bs.drop KK) by
          intro W h
          rcases FM.out with ⟨e1, e2, e3⟩ | ⟨g, off, e1⟩
          · have e4 := HAN.out e1
            have h1 : bs.drop KK = [] := List.drop_eq_nil_of_le (by have := h.1; omega)
            have h2 : Bn - KK = 0 := by omega
            rw [h1, h2]
            exact RB.nil _ _
          · have e4 := HAD.out g off e1
            subst e1
            exact rb_tail h HKB.out HBC.out e4)
        have FM2 := Lib.hid (show (Sl.a ⟨ad, Bn - KK, Bc - KK⟩ = none ∧ Sl.n ⟨ad, Bn - KK, Bc - KK⟩ = 0 ∧ Sl.c ⟨ad, Bn - KK, Bc - KK⟩ = 0) ∨ ∃ g off, Sl.a ⟨ad, Bn - KK, Bc - KK⟩ = some ⟨g, off, none⟩ by
          rcases FM.out with ⟨e1, e2, e3⟩ | ⟨g, off, e1⟩
          · exact .inl ⟨HAN.out e1, by dsimp only; omega, by dsimp only; omega⟩
          · obtain ⟨o2, h⟩ := ad_form (HAD.out g off e1)
            exact .inr ⟨g, o2, h⟩)
        go_upto_region 12 with fail
        go_cut [17, 18, 19] (fun v17 v18 v19 wx => ∃ (X8 : Nat) (T' E' G : Sl), v17 = .pointer (some ⟨X8, 0, none⟩) ∧ v18 = G.v ∧ v19 = .int .i64 0 ∧ Hid (wr.heap.size ≤ X8) ∧ Hid (Tri wx X8 (.int .i64 win) T'.v E'.v) ∧ Hid (CL (X8 :: sB :: (Sl.blk ⟨Aa, An, Ac⟩).toList) wx (Nw (sB :: (Sl.blk ⟨Aa, An, Ac⟩).toList) T' E' G FF.1 FF.2.1)) ∧ Hid (wr.grownBy wx none))
        case first =>
          refine wp_region_held_drew (S := fun w' => w'.cell? ⟨sB, 0, none⟩ = some (.int .i64 win) ∧ w'.cell? ⟨sB, 1, none⟩ = some (.slice Tsa Tsn Tsc) ∧ w'.cell? ⟨sB, 2, none⟩ = some (.slice Esa Esn Esc)) (by kernel_rfl) ?_ (fun hHeld => ?_)
          · exact (PA.out.grown (Wr.grown_drew wr none)).bb.1
          try simp only [Act.put, List.setIfInBounds_toArray, List.set_cons_zero, List.set_cons_succ]
          have GR := Lib.hid (Wr.grown_drew wr none)
          generalize wr.drew = wd0 at *
          have HG0 := Lib.hid (show wr.heap.size ≤ wd0.heap.size from GR.out.size)
          refine takeL (i := 0) (v := ?_) rfl (by kernel_rfl) (by kernel_rfl) (by kernel_rfl) (fun _ _ _ h => h) (Or.inl ⟨by rfl, ?_⟩) (by assumption) ?_
          rotate_left 1
          · intro w hSw; obtain ⟨s0, s1, s2⟩ := hSw; first | (go_simp; done) | (go_simp; with_reducible rfl)
          try simp only [Act.put, List.setIfInBounds_toArray, List.set_cons_zero, List.set_cons_succ]
          refine takeL (i := 1) (v := ?_) rfl (by kernel_rfl) (by kernel_rfl) (by kernel_rfl) (fun _ _ _ h => h) (Or.inl ⟨by rfl, ?_⟩) (by assumption) ?_
          rotate_left 1
          · intro w hSw; obtain ⟨s0, s1, s2⟩ := hSw; first | (go_simp; done) | (go_simp; with_reducible rfl)
          try simp only [Act.put, List.setIfInBounds_toArray, List.set_cons_zero, List.set_cons_succ]
          refine takeL (i := 2) (v := ?_) rfl (by kernel_rfl) (by kernel_rfl) (by kernel_rfl) (fun _ _ _ h => h) (Or.inl ⟨by rfl, ?_⟩) (by assumption) ?_
          rotate_left 1
          · intro w hSw; obtain ⟨s0, s1, s2⟩ := hSw; first | (go_simp; done) | (go_simp; with_reducible rfl)
          try simp only [Act.put, List.setIfInBounds_toArray, List.set_cons_zero, List.set_cons_succ]
          refine takeL (i := 3) (v := .slice Ba KK Bc) rfl (by kernel_rfl) (by kernel_rfl) (by kernel_rfl) (fun _ _ _ h => h) (Or.inl ⟨by rfl, ?_⟩) (by assumption) ?_
          · intro w hSw; obtain ⟨s0, s1, s2⟩ := hSw
            rcases FM.out with ⟨e1, e2, e3⟩ | ⟨g, off, e1⟩
            · subst e1 e2 e3; obtain rfl : KK = 0 := by have := HKB.out; omega
              first | (go_simp; done) | (go_simp; with_reducible rfl)
            · subst e1; have hkb := HKB.out; have hbc := HBC.out; have hkc : KK ≤ Bc := by omega
              first | (go_simp; done) | (go_simp; with_reducible rfl)
          try simp only [Act.put, List.setIfInBounds_toArray, List.set_cons_zero, List.set_cons_succ]
          refine wpAnyH_ready (rs := [4, 9]) (by kernel_rfl) (by simp) (consL rfl (fun K hK => ?_) (consL rfl (fun K hK => ?_) AllReadyH.nil))
          · have PAW := PA.out.grown GR.out
            have FD := Lib.hid (feed_any ⟨Tsa, Tsn, Tsc⟩ ⟨Esa, Esn, Esc⟩ ⟨win, ktl, kes⟩ Ba KK Bc (bs.take KK) wd0 PAW.cl.now.1.1 PL.out.ok (PAW.cl.now.2.1.take KK HKB.out) (by have h1 := PAW.fit.1; have h2 := HKB.out; dsimp only at h1; omega) PAW.fit.2.1 (by have h1 := PAW.fit.2.2; have h2 := HKB.out; dsimp only at h1; omega) (HT.out.grown PAW.g))
            rw [← HFF.out] at FD
            dsimp only [iv3, Sl.v] at FD
            clear PAW
            go_simp
            refine FD.out.mono ?_
            rintro e we ⟨⟨T2a, T2n, T2c⟩, ⟨E2a, E2n, E2c⟩, ⟨Ga, Gn, Gc⟩, rfl, hk1, hn1, ht1, ge⟩
            rw [F3.out.1, F3.out.2]
            dsimp only [iv3, Sl.v]
            have GR := Lib.hid (grown_trans GR.out ge)
            have NW := Lib.hid (nw_of (L := sB :: (Sl.blk ⟨Aa, An, Ac⟩).toList) (L2 := sB :: (Sl.blk ⟨Aa, An, Ac⟩).toList) hk1 ht1 (fun b hb => Nat.lt_of_lt_of_le (pa_low PA.out b hb) HG0.out) (fun b hb => hb))
            clear hk1 hn1 ht1 ge FD
            refine hK.out _ _ ?_ (fun hHeld => ?_)
            · exact (PA.out.grown GR.out).bb.1
            clear hK K
            try simp only [Act.put, List.setIfInBounds_toArray, List.set_cons_zero, List.set_cons_succ]
            refine takeL (i := 5) (v := ?_) rfl (by kernel_rfl) (by kernel_rfl) (by kernel_rfl) (fun _ _ _ h => h) (Or.inl ⟨by rfl, ?_⟩) (by assumption) ?_
            rotate_left 1
            · intro w hSw; obtain ⟨s0, s1, s2⟩ := hSw; first | (go_simp; done) | (go_simp; with_reducible rfl)
            try simp only [Act.put, List.setIfInBounds_toArray, List.set_cons_zero, List.set_cons_succ]
            refine takeL (i := 6) (v := ?_) rfl (by kernel_rfl) (by kernel_rfl) (by kernel_rfl) (fun _ _ _ h => h) (Or.inl ⟨by rfl, ?_⟩) (by assumption) ?_
            rotate_left 1
            · intro w hSw; obtain ⟨s0, s1, s2⟩ := hSw; first | (go_simp; done) | (go_simp; with_reducible rfl)
            try simp only [Act.put, List.setIfInBounds_toArray, List.set_cons_zero, List.set_cons_succ]
            refine takeL (i := 7) (v := ?_) rfl (by kernel_rfl) (by kernel_rfl) (by kernel_rfl) (fun _ _ _ h => h) (Or.inl ⟨by rfl, ?_⟩) (by assumption) ?_
            rotate_left 1
            · intro w hSw; obtain ⟨s0, s1, s2⟩ := hSw; first | (go_simp; done) | (go_simp; with_reducible rfl)
            try simp only [Act.put, List.setIfInBounds_toArray, List.set_cons_zero, List.set_cons_succ]
            refine takeL (i := 8) (v := ?_) rfl (by kernel_rfl) (by kernel_rfl) (by kernel_rfl) (fun _ _ _ h => h) (Or.inl ⟨by rfl, ?_⟩) (by assumption) ?_
            rotate_left 1
            · intro w hSw; obtain ⟨s0, s1, s2⟩ := hSw; first | (go_simp; done) | (go_simp; with_reducible rfl)
            try simp only [Act.put, List.setIfInBounds_toArray, List.set_cons_zero, List.set_cons_succ]
            refine wpAnyH_ready (rs := [9]) (by kernel_rfl) (by simp) (consL rfl (fun K hK => ?_) AllReadyH.nil)
            go_simp
            obtain ⟨X8, hX8⟩ : ∃ b, b = we.heap.size := ⟨_, rfl⟩
            obtain ⟨wz, hwz⟩ : ∃ z, z = we.alloc (Obj.cells #[.int .i64 0, .slice none 0 0, .slice none 0 0] 29) := ⟨_, rfl⟩
            rw [← hwz, ← hX8]
            have ga : we.grownBy wz none := by subst hwz; exact grown_alloc _ _ _
            have BX := Lib.hid (show Tri wz X8 (.int .i64 0) (.slice none 0 0) (.slice none 0 0) by subst hwz; subst hX8; exact tri_made _ _ _ _ _)
            have HW8 := Lib.hid (show wr.heap.size ≤ X8 by have := GR.out.size; omega)
            have NW := Lib.hid (NW.out.step (L' := X8 :: sB :: (Sl.blk ⟨Aa, An, Ac⟩).toList) (M := []) (Chg.of0 ga) (fun _ h => by cases h) (fun b hb => by rcases List.mem_cons.1 hb with e | hb; exact .inr (by omega); exact .inl hb))
            have GR := Lib.hid (grown_trans GR.out ga)
            have HG0 := Lib.hid (show wr.heap.size ≤ wz.heap.size from GR.out.size)
            clear ga hwz hX8
            refine hK.out _ _ ?_ (fun hHeld => ?_)
            · exact (PA.out.grown GR.out).bb.1
            clear hK K
            try simp only [Act.put, List.setIfInBounds_toArray, List.set_cons_zero, List.set_cons_succ]
            have B8H := Lib.hid BX.out
            obtain ⟨⟨m0, m1, m2⟩, mf⟩ := BX.out
            have f0 := mf 0
            have f1 := mf 1
            have f2 := mf 2
            clear mf
            refine wpAnyH_ready (rs := [10]) (by kernel_rfl) (by simp) (consL rfl (fun K hK => ?_) AllReadyH.nil)
            go_simp
            have gs : Chg [X8] wz (((wz.setCell ⟨X8, 0, none⟩ (.int .i64 win)).setCell ⟨X8, 1, none⟩ (.slice T2a T2n T2c)).setCell ⟨X8, 2, none⟩ (.slice E2a E2n E2c)) := (((Chg.refl [X8] wz).set ⟨X8, 0, none⟩ (.int .i64 win) (by simp)).set ⟨X8, 1, none⟩ (.slice T2a T2n T2c) (by simp)).set ⟨X8, 2, none⟩ (.slice E2a E2n E2c) (by simp)
            have GR := Lib.hid (gs.grown GR.out (fun b hb => by rw [List.mem_singleton] at hb; have h1 := HW8.out; omega))
            have NW := Lib.hid (NW.out.step (L' := X8 :: sB :: (Sl.blk ⟨Aa, An, Ac⟩).toList) gs (fun b hb => .inl (by rw [List.mem_singleton] at hb; rw [hb]; exact List.mem_cons_self)) (fun b hb => .inl hb))
            have BX := Lib.hid (((B8H.out.set0 (.int .i64 win)).set1 (.slice T2a T2n T2c)).set2 (.slice E2a E2n E2c))
            clear gs B8H m0 m1 m2 f0 f1 f2
            refine hK.out _ _ ?_ (fun hHeld => ?_)
            · exact (PA.out.grown GR.out).bb.1
            clear hK K
            try simp only [Act.put, List.setIfInBounds_toArray, List.set_cons_zero, List.set_cons_succ]
            refine takeL (i := 11) (v := ?_) rfl (by kernel_rfl) (by kernel_rfl) (by kernel_rfl) (fun _ _ _ h => h) (Or.inl ⟨by rfl, ?_⟩) (by assumption) ?_
            rotate_left 1
            · intro w hSw; obtain ⟨s0, s1, s2⟩ := hSw; first | (go_simp; done) | (go_simp; with_reducible rfl)
            try simp only [Act.put, List.setIfInBounds_toArray, List.set_cons_zero, List.set_cons_succ]
            refine takeL (i := 12) (v := ?_) rfl (by kernel_rfl) (by kernel_rfl) (by kernel_rfl) (fun _ _ _ h => h) (Or.inl ⟨by rfl, ?_⟩) (by assumption) ?_
            rotate_left 1
            · intro w hSw; obtain ⟨s0, s1, s2⟩ := hSw; first | (go_simp; done) | (go_simp; with_reducible rfl)
            try simp only [Act.put, List.setIfInBounds_toArray, List.set_cons_zero, List.set_cons_succ]
            refine wpAnyH_done (by kernel_rfl) ?_ _
            go_wp2_with fail
            go_meet
            case rel => exact ⟨X8, ⟨T2a, T2n, T2c⟩, ⟨E2a, E2n, E2c⟩, ⟨Ga, Gn, Gc⟩, rfl, rfl, rfl, HW8, BX, NW, GR⟩
          · go_simp
            obtain ⟨X8, hX8⟩ : ∃ b, b = wd0.heap.size := ⟨_, rfl⟩
            obtain ⟨wz, hwz⟩ : ∃ z, z = wd0.alloc (Obj.cells #[.int .i64 0, .slice none 0 0, .slice none 0 0] 29) := ⟨_, rfl⟩
            rw [← hwz, ← hX8]
            have ga : wd0.grownBy wz none := by subst hwz; exact grown_alloc _ _ _
            have BX := Lib.hid (show Tri wz X8 (.int .i64 0) (.slice none 0 0) (.slice none 0 0) by subst hwz; subst hX8; exact tri_made _ _ _ _ _)
            have HW8 := Lib.hid (show wr.heap.size ≤ X8 by have := GR.out.size; omega)
            have GR := Lib.hid (grown_trans GR.out ga)
            have HG0 := Lib.hid (show wr.heap.size ≤ wz.heap.size from GR.out.size)
            clear ga hwz hX8
            refine hK.out _ _ ?_ (fun hHeld => ?_)
            · exact (PA.out.grown GR.out).bb.1
            clear hK K
            try simp only [Act.put, List.setIfInBounds_toArray, List.set_cons_zero, List.set_cons_succ]
            refine wpAnyH_ready (rs := [4]) (by kernel_rfl) (by simp) (consL rfl (fun K hK => ?_) AllReadyH.nil)
            have PAW := PA.out.grown GR.out
            have FD := Lib.hid (feed_any ⟨Tsa, Tsn, Tsc⟩ ⟨Esa, Esn, Esc⟩ ⟨win, ktl, kes⟩ Ba KK Bc (bs.take KK) wz PAW.cl.now.1.1 PL.out.ok (PAW.cl.now.2.1.take KK HKB.out) (by have h1 := PAW.fit.1; have h2 := HKB.out; dsimp only at h1; omega) PAW.fit.2.1 (by have h1 := PAW.fit.2.2; have h2 := HKB.out; dsimp only at h1; omega) (HT.out.grown PAW.g))
            rw [← HFF.out] at FD
            dsimp only [iv3, Sl.v] at FD
            clear PAW
            go_simp
            refine FD.out.mono ?_
            rintro e we ⟨⟨T2a, T2n, T2c⟩, ⟨E2a, E2n, E2c⟩, ⟨Ga, Gn, Gc⟩, rfl, hk1, hn1, ht1, ge⟩
            rw [F3.out.1, F3.out.2]
            dsimp only [iv3, Sl.v]
            have GR := Lib.hid (grown_trans GR.out ge)
            have NW := Lib.hid (nw_of (L := X8 :: sB :: (Sl.blk ⟨Aa, An, Ac⟩).toList) (L2 := sB :: (Sl.blk ⟨Aa, An, Ac⟩).toList) hk1 ht1 (low_cons BX.out.lt (fun b hb => Nat.lt_of_lt_of_le (pa_low PA.out b hb) HG0.out)) (fun b hb => List.mem_cons_of_mem _ hb))
            have BX := Lib.hid (BX.out.grown ge)
            clear hk1 hn1 ht1 ge FD
            refine hK.out _ _ ?_ (fun hHeld => ?_)
            · exact (PA.out.grown GR.out).bb.1
            clear hK K
            try simp only [Act.put, List.setIfInBounds_toArray, List.set_cons_zero, List.set_cons_succ]
            refine takeL (i := 5) (v := ?_) rfl (by kernel_rfl) (by kernel_rfl) (by kernel_rfl) (fun _ _ _ h => h) (Or.inl ⟨by rfl, ?_⟩) (by assumption) ?_
            rotate_left 1
            · intro w hSw; obtain ⟨s0, s1, s2⟩ := hSw; first | (go_simp; done) | (go_simp; with_reducible rfl)
            try simp only [Act.put, List.setIfInBounds_toArray, List.set_cons_zero, List.set_cons_succ]
            refine takeL (i := 6) (v := ?_) rfl (by kernel_rfl) (by kernel_rfl) (by kernel_rfl) (fun _ _ _ h => h) (Or.inl ⟨by rfl, ?_⟩) (by assumption) ?_
            rotate_left 1
            · intro w hSw; obtain ⟨s0, s1, s2⟩ := hSw; first | (go_simp; done) | (go_simp; with_reducible rfl)
            try simp only [Act.put, List.setIfInBounds_toArray, List.set_cons_zero, List.set_cons_succ]
            refine takeL (i := 7) (v := ?_) rfl (by kernel_rfl) (by kernel_rfl) (by kernel_rfl) (fun _ _ _ h => h) (Or.inl ⟨by rfl, ?_⟩) (by assumption) ?_
            rotate_left 1
            · intro w hSw; obtain ⟨s0, s1, s2⟩ := hSw; first | (go_simp; done) | (go_simp; with_reducible rfl)
            try simp only [Act.put, List.setIfInBounds_toArray, List.set_cons_zero, List.set_cons_succ]
            refine takeL (i := 8) (v := ?_) rfl (by kernel_rfl) (by kernel_rfl) (by kernel_rfl) (fun _ _ _ h => h) (Or.inl ⟨by rfl, ?_⟩) (by assumption) ?_
            rotate_left 1
            · intro w hSw; obtain ⟨s0, s1, s2⟩ := hSw; first | (go_simp; done) | (go_simp; with_reducible rfl)
            try simp only [Act.put, List.setIfInBounds_toArray, List.set_cons_zero, List.set_cons_succ]
            have B8H := Lib.hid BX.out
            obtain ⟨⟨m0, m1, m2⟩, mf⟩ := BX.out
            have f0 := mf 0
            have f1 := mf 1
            have f2 := mf 2
            clear mf
            refine wpAnyH_ready (rs := [10]) (by kernel_rfl) (by simp) (consL rfl (fun K hK => ?_) AllReadyH.nil)
            go_simp
            have gs : Chg [X8] we (((we.setCell ⟨X8, 0, none⟩ (.int .i64 win)).setCell ⟨X8, 1, none⟩ (.slice T2a T2n T2c)).setCell ⟨X8, 2, none⟩ (.slice E2a E2n E2c)) := (((Chg.refl [X8] we).set ⟨X8, 0, none⟩ (.int .i64 win) (by simp)).set ⟨X8, 1, none⟩ (.slice T2a T2n T2c) (by simp)).set ⟨X8, 2, none⟩ (.slice E2a E2n E2c) (by simp)
            have GR := Lib.hid (gs.grown GR.out (fun b hb => by rw [List.mem_singleton] at hb; have h1 := HW8.out; omega))
            have NW := Lib.hid (NW.out.step (L' := X8 :: sB :: (Sl.blk ⟨Aa, An, Ac⟩).toList) gs (fun b hb => .inl (by rw [List.mem_singleton] at hb; rw [hb]; exact List.mem_cons_self)) (fun b hb => .inl hb))
            have BX := Lib.hid (((B8H.out.set0 (.int .i64 win)).set1 (.slice T2a T2n T2c)).set2 (.slice E2a E2n E2c))
            clear gs B8H m0 m1 m2 f0 f1 f2
            refine hK.out _ _ ?_ (fun hHeld => ?_)
            · exact (PA.out.grown GR.out).bb.1
            clear hK K
            try simp only [Act.put, List.setIfInBounds_toArray, List.set_cons_zero, List.set_cons_succ]
            refine takeL (i := 11) (v := ?_) rfl (by kernel_rfl) (by kernel_rfl) (by kernel_rfl) (fun _ _ _ h => h) (Or.inl ⟨by rfl, ?_⟩) (by assumption) ?_
            rotate_left 1
            · intro w hSw; obtain ⟨s0, s1, s2⟩ := hSw; first | (go_simp; done) | (go_simp; with_reducible rfl)
            try simp only [Act.put, List.setIfInBounds_toArray, List.set_cons_zero, List.set_cons_succ]
            refine takeL (i := 12) (v := ?_) rfl (by kernel_rfl) (by kernel_rfl) (by kernel_rfl) (fun _ _ _ h => h) (Or.inl ⟨by rfl, ?_⟩) (by assumption) ?_
            rotate_left 1
            · intro w hSw; obtain ⟨s0, s1, s2⟩ := hSw; first | (go_simp; done) | (go_simp; with_reducible rfl)
            try simp only [Act.put, List.setIfInBounds_toArray, List.set_cons_zero, List.set_cons_succ]
            refine wpAnyH_done (by kernel_rfl) ?_ _
            go_wp2_with fail
            go_meet
            case rel => exact ⟨X8, ⟨T2a, T2n, T2c⟩, ⟨E2a, E2n, E2c⟩, ⟨Ga, Gn, Gc⟩, rfl, rfl, rfl, HW8, BX, NW, GR⟩
        case rest =>
          obtain ⟨X8, ⟨T2a, T2n, T2c⟩, ⟨E2a, E2n, E2c⟩, ⟨Ga, Gn, Gc⟩, rfl, rfl, rfl, HW8, BX, NW, GR⟩ := hcut
          dsimp only [Sl.v] at BX ⊢
          have PA0 := PA
          go_upto_region 15 with fail
          have gd := Wr.grown_drew wc none
          refine wp_region_held_drew (S := fun w' => w'.cell? ⟨X8, 0, none⟩ = some (.int .i64 win) ∧ w'.cell? ⟨X8, 1, none⟩ = some (.slice T2a T2n T2c) ∧ w'.cell? ⟨X8, 2, none⟩ = some (.slice E2a E2n E2c)) (by kernel_rfl) ?_ (fun hHeld => ?_)
          · exact (BX.out.grown gd).1
          try simp only [Act.put, List.setIfInBounds_toArray, List.set_cons_zero, List.set_cons_succ]
          have PA := Lib.hid (PA.out.grown (grown_trans GR.out gd))
          have NW := Lib.hid ((NW.out.grown gd).step (L' := sB :: (Sl.blk ⟨Aa, An, Ac⟩).toList) (M := []) (Chg.refl _ _) (fun _ h => by cases h) (fun b hb => .inl (List.mem_cons_of_mem _ hb)))
          have BX := Lib.hid (BX.out.grown gd)
          clear gd GR
          generalize wc.drew = wd1 at *
          refine takeL (i := 0) (v := ?_) rfl (by kernel_rfl) (by kernel_rfl) (by kernel_rfl) (fun _ _ _ h => h) (Or.inl ⟨by rfl, ?_⟩) (by assumption) ?_
          rotate_left 1
          · intro w hSw; obtain ⟨s0, s1, s2⟩ := hSw; first | (go_simp; done) | (go_simp; with_reducible rfl)
          try simp only [Act.put, List.setIfInBounds_toArray, List.set_cons_zero, List.set_cons_succ]
          refine takeL (i := 1) (v := ?_) rfl (by kernel_rfl) (by kernel_rfl) (by kernel_rfl) (fun _ _ _ h => h) (Or.inl ⟨by rfl, ?_⟩) (by assumption) ?_
          rotate_left 1
          · intro w hSw; obtain ⟨s0, s1, s2⟩ := hSw; first | (go_simp; done) | (go_simp; with_reducible rfl)
          try simp only [Act.put, List.setIfInBounds_toArray, List.set_cons_zero, List.set_cons_succ]
          refine takeL (i := 2) (v := ?_) rfl (by kernel_rfl) (by kernel_rfl) (by kernel_rfl) (fun _ _ _ h => h) (Or.inl ⟨by rfl, ?_⟩) (by assumption) ?_
          rotate_left 1
          · intro w hSw; obtain ⟨s0, s1, s2⟩ := hSw; first | (go_simp; done) | (go_simp; with_reducible rfl)
          try simp only [Act.put, List.setIfInBounds_toArray, List.set_cons_zero, List.set_cons_succ]
          refine takeL (i := 3) (v := .slice ad (Bn - KK) (Bc - KK)) rfl (by kernel_rfl) (by kernel_rfl) (by kernel_rfl) (fun _ _ _ h => h) (Or.inl ⟨by rfl, ?_⟩) (by assumption) ?_
          · intro w hSw; obtain ⟨s0, s1, s2⟩ := hSw
            rcases FM.out with ⟨e1, e2, e3⟩ | ⟨g, off, e1⟩
            · have e4 := HAN.out e1; subst e1 e2 e3; obtain rfl : KK = 0 := by have := HKB.out; omega
              subst e4
              first | (go_simp; done) | (go_simp; with_reducible rfl)
            · have e4 := HAD.out g off e1; subst e1; have hkb := HKB.out; have hbc := HBC.out; have hkc : KK ≤ Bc := by omega
              rw [← e4]
              first | (go_simp; done) | (go_simp; with_reducible rfl)
          try simp only [Act.put, List.setIfInBounds_toArray, List.set_cons_zero, List.set_cons_succ]
          refine takeL (i := 4) (v := ?_) rfl (by kernel_rfl) (by kernel_rfl) (by kernel_rfl) (fun _ _ _ h => h) (Or.inl ⟨by rfl, ?_⟩) (by assumption) ?_
          rotate_left 1
          · intro w hSw; obtain ⟨s0, s1, s2⟩ := hSw; first | (go_simp; done) | (go_simp; with_reducible rfl)
          try simp only [Act.put, List.setIfInBounds_toArray, List.set_cons_zero, List.set_cons_succ]
          refine takeL (i := 5) (v := ?_) rfl (by kernel_rfl) (by kernel_rfl) (by kernel_rfl) (fun _ _ _ h => h) (Or.inl ⟨by rfl, ?_⟩) (by assumption) ?_
          rotate_left 1
          · intro w hSw; obtain ⟨s0, s1, s2⟩ := hSw; first | (go_simp; done) | (go_simp; with_reducible rfl)
          try simp only [Act.put, List.setIfInBounds_toArray, List.set_cons_zero, List.set_cons_succ]
          obtain ⟨us, hu1, hu2, hu3, hu4⟩ := PA.out.a.off
          obtain ⟨-, gs, hv1, hv2, hv3, hv4⟩ := NW.out.now
          have HUS := Lib.hid (show us.map Prod.fst = xs ∧ (∀ x ∈ us, VI wd1 (sB :: (Sl.blk ⟨Aa, An, Ac⟩).toList) x.2 x.1.vs) ∧ gs.map Prod.fst = FF.2.1 ∧ ∀ x ∈ gs, VI wd1 (sB :: (Sl.blk ⟨Aa, An, Ac⟩).toList) x.2 x.1.vs from ⟨hu1, hu3, hv1, hv4⟩)
          have HOU := Lib.hid hu2
          have HCV := Lib.hid hv2
          have hfu : An ≤ 17 * (400 + 15700) := by
            have h1 := pl_few PL.out
            have h2 := NAL.out
            have h3 := congrArg List.length hu1
            rw [List.length_map] at h3
            dsimp only at hu4
            omega
          have hfg : Gn ≤ 17 * (400 + 15700) := by
            have h1 := feed_few HW.out PL.out.ok rfl (bs.take KK)
            rw [← HFF.out] at h1
            have h3 := congrArg List.length hv1
            rw [List.length_map] at h3
            have h4 : (bs.take KK).length ≤ 15700 := by have h5 := PA.out.fit.2.2; have h6 := HKB.out; rw [List.length_take]; dsimp only at h5; omega
            dsimp only at hv3
            omega
          have HVL := Lib.hid (show (f6 gs).length = Gn * 6 by rw [f6_len]; dsimp only at hv3; omega)
          have HF1 := Lib.hid (show An + Gn ≤ 1000000000 by omega)
          have HF2 := Lib.hid (show (An + Gn) * 64 ≤ 140737488355328 by omega)
          clear hu1 hu2 hu3 hu4 hv1 hv2 hv3 hv4 hfu hfg
          refine wpAnyH_ready (rs := [6]) (by kernel_rfl) (by simp) (consL rfl (fun K hK => ?_) AllReadyH.nil)
          refine step_appV rfl (.tmp 83) (.tmp 84) 33 rfl (S := ⟨Aa, An, Ac⟩) (V := ⟨Ga, Gn, Gc⟩) Tryd.underlying33 hIT hzT hszT hbyT (by rfl) (by omega) rfl rfl HOU.out PA.out.ord.2.2.2 HVL.out HCV.out (f6_one gs) HF2.out HF1.out ?_
          intro r wk hrn hr gk hrb
          have c1 : Chg (Sl.blk ⟨Aa, An, Ac⟩).toList wd1 wk := Chg.of gk (fun b hb => by simpa using hb)
          have hxa : X8 ∉ (Sl.blk ⟨Aa, An, Ac⟩).toList := fun hm => by have h1 := pa_low PA0.out X8 (List.mem_cons_of_mem _ hm); have h2 := HW8.out; omega
          have hsa : sB ∉ (Sl.blk ⟨Aa, An, Ac⟩).toList := fun hm => by have h1 := (PA.out.a.blk sB (by simpa using hm)).1; have h2 := PA.out.ord; omega
          have BX := Lib.hid (BX.out.step c1 hxa)
          have SB := Lib.hid (PA.out.bb.step c1 hsa)
          have HR := Lib.hid (show wd1.grownBy wk (Sl.blk ⟨Aa, An, Ac⟩) ∧ OR (aB + 1) wk 42 6 r (f6 us ++ f6 gs) ∧ ∀ b, r.blk = some b → (Sl.blk ⟨Aa, An, Ac⟩) = some b ∨ b = wd1.heap.size from ⟨gk, hr, hrb⟩)
          clear hrn hr gk hrb c1 hxa hsa
          obtain ⟨Ra, Rn, Rc⟩ := r
          dsimp only [Sl.v]
          refine hK.out _ _ ?_ (fun hHeld => ?_)
          · exact BX.out.1
          clear hK K
          try simp only [Act.put, List.setIfInBounds_toArray, List.set_cons_zero, List.set_cons_succ]
          obtain ⟨⟨m0, m1, m2⟩, mf⟩ := SB.out
          have f0 := mf 0
          have f1 := mf 1
          have f2 := mf 2
          clear mf
          refine wpAnyH_ready (rs := [7]) (by kernel_rfl) (by simp) (consL rfl (fun K hK => ?_) AllReadyH.nil)
          go_simp
          have g2 : Chg [sB] wk (((wk.setCell ⟨sB, 0, none⟩ (.int .i64 win)).setCell ⟨sB, 1, none⟩ (.slice T2a T2n T2c)).setCell ⟨sB, 2, none⟩ (.slice E2a E2n E2c)) := (((Chg.refl [sB] wk).set ⟨sB, 0, none⟩ (.int .i64 win) (by simp)).set ⟨sB, 1, none⟩ (.slice T2a T2n T2c) (by simp)).set ⟨sB, 2, none⟩ (.slice E2a E2n E2c) (by simp)
          have SB2 := Lib.hid (((SB.out.set0 (.int .i64 win)).set1 (.slice T2a T2n T2c)).set2 (.slice E2a E2n E2c))
          have BX2 := BX.out.step g2 (by rw [List.mem_singleton]; have h1 := pa_low PA0.out sB List.mem_cons_self; have h2 := HW8.out; omega)
          have PA2 := Lib.hid (PA.out.next (k' := FF.1) (T' := ⟨T2a, T2n, T2c⟩) (E' := ⟨E2a, E2n, E2c⟩) (B' := ⟨ad, Bn - KK, Bc - KK⟩) (r := ⟨Ra, Rn, Rc⟩) (G := ⟨Ga, Gn, Gc⟩) (us := us) (gs := gs) (bs' := bs.drop KK) (outs := FF.2.1) (NW.out.imp (fun W h => h.1)) HRB.out ⟨by have h1 := HBC.out; dsimp only; omega, by have h1 := PA.out.fit.2.1; dsimp only at h1 ⊢; omega, by have h1 := PA.out.fit.2.2; dsimp only at h1 ⊢; omega⟩ HUS.out.1 HUS.out.2.1 HUS.out.2.2.1 HUS.out.2.2.2 HR.out.2.1 HR.out.1 HR.out.2.2 g2 SB2.out)
          refine hK.out _ _ ?_ (fun hHeld => ?_)
          · exact BX2.1
          clear hK K BX2 g2 m0 m1 m2 f0 f1 f2
          try simp only [Act.put, List.setIfInBounds_toArray, List.set_cons_zero, List.set_cons_succ]
          refine takeL (i := 8) (v := ?_) rfl (by kernel_rfl) (by kernel_rfl) (by kernel_rfl) (fun _ _ _ h => h) (Or.inl ⟨by rfl, ?_⟩) (by assumption) ?_
          rotate_left 1
          · intro w hSw; obtain ⟨s0, s1, s2⟩ := hSw; first | (go_simp; done) | (go_simp; with_reducible rfl)
          try simp only [Act.put, List.setIfInBounds_toArray, List.set_cons_zero, List.set_cons_succ]
          refine takeL (i := 9) (v := ?_) rfl (by kernel_rfl) (by kernel_rfl) (by kernel_rfl) (fun _ _ _ h => h) (Or.inl ⟨by rfl, ?_⟩) (by assumption) ?_
          rotate_left 1
          · intro w hSw; obtain ⟨s0, s1, s2⟩ := hSw; first | (go_simp; done) | (go_simp; with_reducible rfl)
          try simp only [Act.put, List.setIfInBounds_toArray, List.set_cons_zero, List.set_cons_succ]
          refine wpAnyH_done (by kernel_rfl) ?_ _
          go_wp2
          go_roundw
          case rel => exact ⟨i + 1, FF.1, bs.drop KK, xs ++ FF.2.1, ⟨T2a, T2n, T2c⟩, ⟨E2a, E2n, E2c⟩, ⟨ad, Bn - KK, Bc - KK⟩, ⟨Ra, Rn, Rc⟩, rfl, rfl, by go_num, by omega, PL2, PA2, FM2⟩
          case measure => simp [intOf]; omega
      · have hi20' : ¬ (i : Int) < 20 := by omega
        have FD := Lib.hid (feed_any ⟨Tsa, Tsn, Tsc⟩ ⟨Esa, Esn, Esc⟩ ⟨win, ktl, kes⟩ Ba Bn Bc bs wr PA.out.cl.now.1.1 PL.out.ok PA.out.cl.now.2.1 PA.out.fit.1 PA.out.fit.2.1 (by have h1 := PA.out.fit.2.2; dsimp only at h1; omega) (HT.out.grown PA.out.g))
        obtain ⟨FF, hFF⟩ : ∃ FF, FF = feedF ⟨win, ktl, kes⟩ bs := ⟨_, rfl⟩
        have HFF := Lib.hid hFF
        have F3 := Lib.hid (show FF.1 = kz ∧ xs ++ FF.2.1 = all ∧ FF.2.2 = 0 by
          obtain ⟨e1, e2, e3⟩ := PL.out.eq
          have e4 := KZW.out
          rw [hFF]
          unfold feedF
          dsimp only at e1 e2 e3 ⊢
          refine ⟨?_, e3, rfl⟩
          rw [e1, e2, ← e4])
        rw [← hFF] at FD
        dsimp only [iv3, Sl.v] at FD
        clear hFF
        obtain ⟨s0, s1, s2⟩ := PA.out.bb.1
        go_wp2_with fail
        refine FD.out.mono ?_
        rintro e we ⟨⟨T2a, T2n, T2c⟩, ⟨E2a, E2n, E2c⟩, ⟨Ga, Gn, Gc⟩, rfl, hk1, hn1, ht1, ge⟩
        rw [F3.out.1, F3.out.2.2, KZW.out]
        dsimp only [iv3, Sl.v]
        rw [F3.out.1] at hk1
        have NW := nw_of (L := sB :: (Sl.blk ⟨Aa, An, Ac⟩).toList) (L2 := sB :: (Sl.blk ⟨Aa, An, Ac⟩).toList) hk1 ht1 (pa_low PA.out) (fun b hb => hb)
        obtain ⟨bB, hbB⟩ : ∃ b, b = we.heap.size := ⟨_, rfl⟩
        obtain ⟨wf, hwf⟩ : ∃ z, z = we.alloc (Obj.cells #[.int .i64 win, .slice T2a T2n T2c, .slice E2a E2n E2c] 29) := ⟨_, rfl⟩
        have gf : we.grownBy wf none := by subst hwf; exact grown_alloc _ _ _
        have BF := Lib.hid (show Tri wf bB (.int .i64 win) (.slice T2a T2n T2c) (.slice E2a E2n E2c) by subst hwf; subst hbB; exact tri_made _ _ _ _ _)
        have HBB := Lib.hid (show wr.heap.size ≤ bB by have := ge.size; omega)
        have NW := Lib.hid (NW.grown gf)
        have PF := Lib.hid (PA.out.grown (grown_trans ge gf))
        obtain ⟨us, hu1, hu2, hu3, hu4⟩ := PF.out.a.off
        obtain ⟨-, gs, hv1, hv2, hv3, hv4⟩ := NW.out.now
        have HUS := Lib.hid (show us.map Prod.fst = xs ∧ (∀ x ∈ us, VI wf (sB :: (Sl.blk ⟨Aa, An, Ac⟩).toList) x.2 x.1.vs) ∧ gs.map Prod.fst = FF.2.1 ∧ ∀ x ∈ gs, VI wf (sB :: (Sl.blk ⟨Aa, An, Ac⟩).toList) x.2 x.1.vs from ⟨hu1, hu3, hv1, hv4⟩)
        have HOU := Lib.hid hu2
        have HCV := Lib.hid hv2
        have hfs : An + Gn ≤ 17 * (400 + 15700) := by
          have h2 := NAL.out
          have h1 := congrArg List.length F3.out.2.1
          have h3 := congrArg List.length hu1
          have h4 := congrArg List.length hv1
          rw [List.length_map] at h3 h4
          rw [List.length_append] at h1
          dsimp only at hu4 hv3
          omega
        have HVL := Lib.hid (show (f6 gs).length = Gn * 6 by rw [f6_len]; dsimp only at hv3; omega)
        have HF1 := Lib.hid (show An + Gn ≤ 1000000000 by omega)
        have HF2 := Lib.hid (show (An + Gn) * 64 ≤ 140737488355328 by omega)
        clear hk1 hn1 ht1 ge gf s0 s1 s2 FD hu1 hu2 hu3 hu4 hv1 hv2 hv3 hv4 hfs
        go_upto_region 17 with fail
        rw [← hwf]
        try simp only [← hbB]
        clear hwf hbB
        go_wp2_with (first
          | (at_builtin
             refine wpList_appG (by rfl) (.tmp 96) (.tmp 97) 33 rfl (S := ⟨Aa, An, Ac⟩) (V := ⟨Ga, Gn, Gc⟩) Tryd.underlying33 hIT hzT hszT hbyT (by rfl) (by omega) rfl rfl HOU.out PF.out.ord.2.2.2 HVL.out HCV.out (f6_one gs) HF2.out HF1.out ?_
             intro r wk hrn hr gk hrb
             have c1 : Chg (sB :: (Sl.blk ⟨Aa, An, Ac⟩).toList) wf wk := (Chg.of gk (fun b hb => List.mem_cons_of_mem _ (by simpa using hb)) : Chg (sB :: (Sl.blk ⟨Aa, An, Ac⟩).toList) wf wk)
             have c0 : Chg (Sl.blk ⟨Aa, An, Ac⟩).toList wf wk := Chg.of gk (fun b hb => by simpa using hb)
             have hA := fun b (hb : Sl.blk ⟨Aa, An, Ac⟩ = some b) => PF.out.a.blk b hb
             have hr2 : OR (aB + 1) wk 42 6 r (f6 (us ++ gs)) := by have e6 : f6 (us ++ gs) = f6 us ++ f6 gs := flat_app us gs; rw [e6]; exact hr
             have TK := (TO.grow (L' := sB :: (Sl.blk ⟨Aa, An, Ac⟩).toList) HUS.out.2.1 HUS.out.2.2.2 hr2 gk (fun b hb => List.mem_cons_of_mem _ (by simpa using hb)) (fun b hb => .inl hb)).tr
             rw [HUS.out.1, HUS.out.2.2.1, F3.out.2.1] at TK
             have TK := Lib.hid TK
             have CK := Lib.hid (PF.out.cl _ c1)
             have NK := Lib.hid (NW.out _ c1)
             have hord := PA.out.ord
             have BA := Lib.hid (PF.out.ba.step c0 (fun hm => by have h1 := (hA aB (by simpa using hm)).1; omega))
             have BF := Lib.hid (BF.out.step c0 (fun hm => by have h1 := pa_low PA.out bB (List.mem_cons_of_mem _ hm); have h2 := HBB.out; omega))
             have GK := Lib.hid (c0.grown PF.out.g (fun b hb => by have h1 := (hA b (by simpa using hb)).1; omega))
             clear hrn hr hr2 gk hrb c0 c1 hA hord
             obtain ⟨Ra, Rn, Rc⟩ := r
             dsimp only [Sl.v] at TK ⊢)
          | fail)
        have AL := Lib.hid (alike_any ⟨Ra, Rn, Rc⟩ ⟨Za, Zn, Zc⟩ all all wk TK.out CK.out.2.2)
        rw [alike_self] at AL
        dsimp only [Sl.v] at AL
        go_wp2_with fail
        refine AL.out.mono ?_
        rintro e w8 ⟨rfl, g8⟩
        have SQ := Lib.hid (same_eq ⟨T2a, T2n, T2c⟩ ⟨E2a, E2n, E2c⟩ ⟨T1a, T1n, T1c⟩ ⟨E1a, E1n, E1c⟩ kz w8 (NK.out.1.1.grown g8) (CK.out.1.2.grown g8))
        rw [KZW.out] at SQ
        dsimp only [iv3, Sl.v] at SQ
        have G8 := Lib.hid (grown_trans GK.out g8)
        have BA := Lib.hid (BA.out.grown g8)
        have BF := Lib.hid (BF.out.grown g8)
        obtain ⟨⟨p0, p1, p2⟩, -⟩ := BA.out
        obtain ⟨⟨q0, q1, q2⟩, -⟩ := BF.out
        clear g8 AL
        go_wp2_with fail
        refine SQ.out.mono ?_
        rintro e w9 ⟨rfl, g9⟩
        have G9 := Lib.hid (grown_trans G8.out g9)
        clear g9 SQ p0 p1 p2 q0 q1 q2
        go_wp2_with fail
        refine (awake_any w9).mono ?_
        rintro e w10 ⟨rfl, g10⟩
        have G10 := Lib.hid (grown_trans G9.out g10)
        clear g10
        go_wp2
        go_ret
        exact ret_mk rfl G10.out
    · have hic' : ¬ (i : Int) < (Cn : Int) := by omega
      have FD := Lib.hid (feed_any ⟨Tsa, Tsn, Tsc⟩ ⟨Esa, Esn, Esc⟩ ⟨win, ktl, kes⟩ Ba Bn Bc bs wr PA.out.cl.now.1.1 PL.out.ok PA.out.cl.now.2.1 PA.out.fit.1 PA.out.fit.2.1 (by have h1 := PA.out.fit.2.2; dsimp only at h1; omega) (HT.out.grown PA.out.g))
      obtain ⟨FF, hFF⟩ : ∃ FF, FF = feedF ⟨win, ktl, kes⟩ bs := ⟨_, rfl⟩
      have HFF := Lib.hid hFF
      have F3 := Lib.hid (show FF.1 = kz ∧ xs ++ FF.2.1 = all ∧ FF.2.2 = 0 by
        obtain ⟨e1, e2, e3⟩ := PL.out.eq
        have e4 := KZW.out
        rw [hFF]
        unfold feedF
        dsimp only at e1 e2 e3 ⊢
        refine ⟨?_, e3, rfl⟩
        rw [e1, e2, ← e4])
      rw [← hFF] at FD
      dsimp only [iv3, Sl.v] at FD
      clear hFF
      obtain ⟨s0, s1, s2⟩ := PA.out.bb.1
      go_wp2_with fail
      refine FD.out.mono ?_
      rintro e we ⟨⟨T2a, T2n, T2c⟩, ⟨E2a, E2n, E2c⟩, ⟨Ga, Gn, Gc⟩, rfl, hk1, hn1, ht1, ge⟩
      rw [F3.out.1, F3.out.2.2, KZW.out]
      dsimp only [iv3, Sl.v]
      rw [F3.out.1] at hk1
      have NW := nw_of (L := sB :: (Sl.blk ⟨Aa, An, Ac⟩).toList) (L2 := sB :: (Sl.blk ⟨Aa, An, Ac⟩).toList) hk1 ht1 (pa_low PA.out) (fun b hb => hb)
      obtain ⟨bB, hbB⟩ : ∃ b, b = we.heap.size := ⟨_, rfl⟩
      obtain ⟨wf, hwf⟩ : ∃ z, z = we.alloc (Obj.cells #[.int .i64 win, .slice T2a T2n T2c, .slice E2a E2n E2c] 29) := ⟨_, rfl⟩
      have gf : we.grownBy wf none := by subst hwf; exact grown_alloc _ _ _
      have BF := Lib.hid (show Tri wf bB (.int .i64 win) (.slice T2a T2n T2c) (.slice E2a E2n E2c) by subst hwf; subst hbB; exact tri_made _ _ _ _ _)
      have HBB := Lib.hid (show wr.heap.size ≤ bB by have := ge.size; omega)
      have NW := Lib.hid (NW.grown gf)
      have PF := Lib.hid (PA.out.grown (grown_trans ge gf))
      obtain ⟨us, hu1, hu2, hu3, hu4⟩ := PF.out.a.off
      obtain ⟨-, gs, hv1, hv2, hv3, hv4⟩ := NW.out.now
      have HUS := Lib.hid (show us.map Prod.fst = xs ∧ (∀ x ∈ us, VI wf (sB :: (Sl.blk ⟨Aa, An, Ac⟩).toList) x.2 x.1.vs) ∧ gs.map Prod.fst = FF.2.1 ∧ ∀ x ∈ gs, VI wf (sB :: (Sl.blk ⟨Aa, An, Ac⟩).toList) x.2 x.1.vs from ⟨hu1, hu3, hv1, hv4⟩)
      have HOU := Lib.hid hu2
      have HCV := Lib.hid hv2
      have hfs : An + Gn ≤ 17 * (400 + 15700) := by
        have h2 := NAL.out
        have h1 := congrArg List.length F3.out.2.1
        have h3 := congrArg List.length hu1
        have h4 := congrArg List.length hv1
        rw [List.length_map] at h3 h4
        rw [List.length_append] at h1
        dsimp only at hu4 hv3
        omega
      have HVL := Lib.hid (show (f6 gs).length = Gn * 6 by rw [f6_len]; dsimp only at hv3; omega)
      have HF1 := Lib.hid (show An + Gn ≤ 1000000000 by omega)
      have HF2 := Lib.hid (show (An + Gn) * 64 ≤ 140737488355328 by omega)
      clear hk1 hn1 ht1 ge gf s0 s1 s2 FD hu1 hu2 hu3 hu4 hv1 hv2 hv3 hv4 hfs
      go_upto_region 17 with fail
      rw [← hwf]
      try simp only [← hbB]
      clear hwf hbB
      go_wp2_with (first
        | (at_builtin
           refine wpList_appG (by rfl) (.tmp 96) (.tmp 97) 33 rfl (S := ⟨Aa, An, Ac⟩) (V := ⟨Ga, Gn, Gc⟩) Tryd.underlying33 hIT hzT hszT hbyT (by rfl) (by omega) rfl rfl HOU.out PF.out.ord.2.2.2 HVL.out HCV.out (f6_one gs) HF2.out HF1.out ?_
           intro r wk hrn hr gk hrb
           have c1 : Chg (sB :: (Sl.blk ⟨Aa, An, Ac⟩).toList) wf wk := (Chg.of gk (fun b hb => List.mem_cons_of_mem _ (by simpa using hb)) : Chg (sB :: (Sl.blk ⟨Aa, An, Ac⟩).toList) wf wk)
           have c0 : Chg (Sl.blk ⟨Aa, An, Ac⟩).toList wf wk := Chg.of gk (fun b hb => by simpa using hb)
           have hA := fun b (hb : Sl.blk ⟨Aa, An, Ac⟩ = some b) => PF.out.a.blk b hb
           have hr2 : OR (aB + 1) wk 42 6 r (f6 (us ++ gs)) := by have e6 : f6 (us ++ gs) = f6 us ++ f6 gs := flat_app us gs; rw [e6]; exact hr
           have TK := (TO.grow (L' := sB :: (Sl.blk ⟨Aa, An, Ac⟩).toList) HUS.out.2.1 HUS.out.2.2.2 hr2 gk (fun b hb => List.mem_cons_of_mem _ (by simpa using hb)) (fun b hb => .inl hb)).tr
           rw [HUS.out.1, HUS.out.2.2.1, F3.out.2.1] at TK
           have TK := Lib.hid TK
           have CK := Lib.hid (PF.out.cl _ c1)
           have NK := Lib.hid (NW.out _ c1)
           have hord := PA.out.ord
           have BA := Lib.hid (PF.out.ba.step c0 (fun hm => by have h1 := (hA aB (by simpa using hm)).1; omega))
           have BF := Lib.hid (BF.out.step c0 (fun hm => by have h1 := pa_low PA.out bB (List.mem_cons_of_mem _ hm); have h2 := HBB.out; omega))
           have GK := Lib.hid (c0.grown PF.out.g (fun b hb => by have h1 := (hA b (by simpa using hb)).1; omega))
           clear hrn hr hr2 gk hrb c0 c1 hA hord
           obtain ⟨Ra, Rn, Rc⟩ := r
           dsimp only [Sl.v] at TK ⊢)
        | fail)
      have AL := Lib.hid (alike_any ⟨Ra, Rn, Rc⟩ ⟨Za, Zn, Zc⟩ all all wk TK.out CK.out.2.2)
      rw [alike_self] at AL
      dsimp only [Sl.v] at AL
      go_wp2_with fail
      refine AL.out.mono ?_
      rintro e w8 ⟨rfl, g8⟩
      have SQ := Lib.hid (same_eq ⟨T2a, T2n, T2c⟩ ⟨E2a, E2n, E2c⟩ ⟨T1a, T1n, T1c⟩ ⟨E1a, E1n, E1c⟩ kz w8 (NK.out.1.1.grown g8) (CK.out.1.2.grown g8))
      rw [KZW.out] at SQ
      dsimp only [iv3, Sl.v] at SQ
      have G8 := Lib.hid (grown_trans GK.out g8)
      have BA := Lib.hid (BA.out.grown g8)
      have BF := Lib.hid (BF.out.grown g8)
      obtain ⟨⟨p0, p1, p2⟩, -⟩ := BA.out
      obtain ⟨⟨q0, q1, q2⟩, -⟩ := BF.out
      clear g8 AL
      go_wp2_with fail
      refine SQ.out.mono ?_
      rintro e w9 ⟨rfl, g9⟩
      have G9 := Lib.hid (grown_trans G8.out g9)
      clear g9 SQ p0 p1 p2 q0 q1 q2
      go_wp2_with fail
      refine (awake_any w9).mono ?_
      rintro e w10 ⟨rfl, g10⟩
      have G10 := Lib.hid (grown_trans G9.out g10)
      clear g10
      go_wp2
      go_ret
      exact ret_mk rfl G10.out
end Go.Proofs.YticmoaebegahgaaDoor.Iw
