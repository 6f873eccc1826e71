/- The walk of MeterOrder. -/
import Derived.Test.YtilchmlbihffdaaMw
namespace Go.Proofs.Ytilchmlbihffdaa
open Go.ChangeShapes Go.WideShapes Go.ChangeAt Go.RowKit

theorem read_to (p f l q n st : Int) (w : World) (h : Mt.valid p 16 f = true) (h1 : 0 ≤ l) (h2 : l < 65536) (h3 : 0 ≤ q) (h4 : 0 ≤ n) (h5 : n < 65536) (h6 : Mt.step 16 l n = st) (h7 : q + st ≤ 1099511627776) :
    Calls Try.prog 14 #[mv p 16 f, cv l q, .int .i64 n] w (Ret (.tuple #[cv n (q + st), .int .i64 0]) w) := by
  have hs : Mt.span 16 = 65536 := rfl
  have hst := step_range (b := 16) (Or.inl rfl) h1 (by omega) h4 (by omega)
  exact read_ok p 16 f l q n st w h (Mt.isC_mk h1 (by omega) h3 (by omega)) h4 (by omega) h6 h7

theorem step_mod {l s n : Int} (h1 : 0 ≤ l) (h2 : l < 65536) (h3 : 0 ≤ s) (h4 : s < 65536) (hn : n = (l + s) % 65536) : Mt.step 16 l n = s := by
  have hs : Mt.span 16 = 65536 := rfl
  unfold Mt.step
  rw [hs]
  split <;> omega

theorem valid16 {p b f : Int} (h : Mt.valid p b f = true) : Mt.valid p 16 f = true := by
  obtain ⟨h1, h2, _, h4, h5⟩ := Mt.valid_true h
  exact Mt.valid_mk h1 h2 (Or.inl rfl) h4 h5

set_option maxHeartbeats 1000000 in
theorem order_walk (a : Option Addr) (len cap : Nat) (zs : List Int) (l s r : Int) (w0 : (Lit.int .u16 l).wf = true) (w1 : (Lit.int .u16 s).wf = true) (w2 : (Lit.int .u16 r).wf = true) (w : World) (hi : InRow w a len cap zs) :
    Calls Try.prog 7 #[.slice a len cap, .int .u16 l, .int .u16 s, .int .u16 r] w fun e w' => e = .returned (.bool true) ∧ Below w.heap.size w w' := by
  have b0 := bounds_u16 w0
  have b1 := bounds_u16 w1
  have b2 := bounds_u16 w2
  clear w0 w1 w2
  have HI := Lib.hid hi
  have hr1 := Int.emod_nonneg r (b := s + 1) (by omega)
  have hr2 := Int.emod_lt_of_pos r (b := s + 1) (by omega)
  clear hi
  go_enter Try.func7, Try.ntmps7
  go_wp2_with fail
  refine (new_any a len cap zs w HI.out).mono ?_
  rintro e w1 ⟨rfl, hg, hs, hlt⟩
  have G := Lib.hid hg
  have HS := Lib.hid hs
  clear hg hs
  go_wp2_with fail
  refine (meter_any w.heap.size w1 HS.out).mono ?_
  rintro e w2 ⟨p, b, f, hv, rfl, hg, hs⟩
  have V := Lib.hid (valid16 hv)
  have G2 := Lib.hid (show w.grownBy w2 none from grown_off G.out hg (Nat.le_refl _))
  clear hg hs hv
  unfold mv
  go_wp2_with fail
  generalize r % (s + 1) = x at *
  have hn1 : 0 ≤ (l + s) % 65536 ∧ (l + s) % 65536 < 65536 := by omega
  have hm1 : 0 ≤ (l + x) % 65536 ∧ (l + x) % 65536 < 65536 := by omega
  have e1 : Mt.step 16 l ((l + s) % 65536) = s := step_mod b0.1 (by omega) b1.1 (by omega) rfl
  have e2 : Mt.step 16 l ((l + x) % 65536) = x := step_mod b0.1 (by omega) hr1 (by omega) rfl
  have e3 : Mt.step 16 ((l + x) % 65536) ((l + s) % 65536) = s - x := step_mod hm1.1 hm1.2 (by omega) (by omega) (by omega)
  generalize (l + s) % 65536 = N at *
  generalize (l + x) % 65536 = M at *
  have h1 := fun w => read_to p f l 0 N s w V.out b0.1 (by omega) (by omega) hn1.1 hn1.2 e1 (by omega)
  have h2 := fun w => read_to p f l 0 M x w V.out b0.1 (by omega) (by omega) hm1.1 hm1.2 e2 (by omega)
  have h3 := fun w => read_to p f M x N (s - x) w V.out hm1.1 hm1.2 hr1 hn1.1 hn1.2 e3 (by omega)
  rw [show x + (s - x) = s by omega] at h3
  rw [Int.zero_add] at h1 h2
  unfold mv cv at h1 h2 h3
  have H1 := Lib.hid h1
  have H2 := Lib.hid h2
  have H3 := Lib.hid h3
  clear h1 h2 h3 e1 e2 e3 hn1 hm1
  refine (H1.out _).mono ?_
  rintro e w3 ⟨rfl, hg⟩
  have k0 := hg.cell (a := ⟨w2.heap.size, 0, none⟩) (v := .int .i64 p) (by simp) (by simp)
  have k1 := hg.cell (a := ⟨w2.heap.size, 1, none⟩) (v := .int .i64 16) (by simp) (by simp)
  have k2 := hg.cell (a := ⟨w2.heap.size, 2, none⟩) (v := .int .i64 f) (by simp) (by simp)
  have c0 := hg.cell (a := ⟨w2.heap.size + 1, 0, none⟩) (v := .int .i64 l) (by simp) (by simp)
  have c1 := hg.cell (a := ⟨w2.heap.size + 1, 1, none⟩) (v := .int .i64 0) (by simp) (by simp)
  have s1 : w2.heap.size + 1 < w3.heap.size := World.block_lt_of_cell? w3 ⟨w2.heap.size + 1, 0, none⟩ c0
  have s0 : w2.heap.size < w3.heap.size := by omega
  have G := Lib.hid (grown_trans G2.out (grown_trans (grown_trans (World.grownBy_alloc _ _ _) (World.grownBy_alloc _ _ _)) hg))
  clear hg
  go_wp2_with fail
  refine (H2.out _).mono ?_
  rintro e w4 ⟨rfl, hg⟩
  have k0 := hg.cell (a := ⟨w2.heap.size, 0, none⟩) (v := .int .i64 p) (by go_simp) (by simp)
  have k1 := hg.cell (a := ⟨w2.heap.size, 1, none⟩) (v := .int .i64 16) (by go_simp) (by simp)
  have k2 := hg.cell (a := ⟨w2.heap.size, 2, none⟩) (v := .int .i64 f) (by go_simp) (by simp)
  have d0 := hg.cell (a := ⟨w3.heap.size, 0, none⟩) (v := .int .i64 N) (by simp) (by simp)
  have d1 := hg.cell (a := ⟨w3.heap.size, 1, none⟩) (v := .int .i64 s) (by simp) (by simp)
  have s2 : w3.heap.size < w4.heap.size := World.block_lt_of_cell? w4 ⟨w3.heap.size, 0, none⟩ d0
  have s3 : w2.heap.size < w4.heap.size := by omega
  have G := Lib.hid (grown_trans G.out (grown_trans (World.grownBy_alloc _ _ _) hg))
  clear hg c0 c1
  go_wp2_with fail
  refine (H3.out _).mono ?_
  rintro e w5 ⟨rfl, hg⟩
  have d0 := hg.cell (a := ⟨w3.heap.size, 0, none⟩) (v := .int .i64 N) (by go_simp) (by simp)
  have d1 := hg.cell (a := ⟨w3.heap.size, 1, none⟩) (v := .int .i64 s) (by go_simp) (by simp)
  have s4 : w3.heap.size < w5.heap.size := World.block_lt_of_cell? w5 ⟨w3.heap.size, 0, none⟩ d0
  have G := Lib.hid (grown_trans G.out (grown_trans (World.grownBy_alloc _ _ _) hg))
  clear hg
  go_wp2_with fail
  refine (awake_any _).mono ?_
  rintro e w6 ⟨rfl, hg⟩
  have G := Lib.hid (grown_trans G.out (grown_trans (World.grownBy_alloc _ _ _) hg))
  clear hg
  go_wp2
  go_ret
  exact ⟨rfl, grown_below G.out⟩
end Go.Proofs.Ytilchmlbihffdaa
