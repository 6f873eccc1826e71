/- Contracts of the reference's reading, count and Litres. -/
import Derived.Test.YtilchmlbihffdaaMl
namespace Go.Proofs.Ytilchmlbihffdaa
open Go.ChangeShapes Go.WideShapes Go.ChangeAt Go.RowKit

def isR (b n : Int) : Bool := decide (0 ≤ n) && decide (n < Mt.span b)
theorem isR_true {b n : Int} (h : isR b n = true) : 0 ≤ n ∧ n < Mt.span b := by
  unfold isR at h; simp only [Bool.and_eq_true, decide_eq_true_eq] at h; omega
theorem isR_mk {b n : Int} (h1 : 0 ≤ n) (h2 : n < Mt.span b) : isR b n = true := by
  unfold isR; simp only [Bool.and_eq_true, decide_eq_true_eq]; omega
theorem isR_false {b n : Int} (h : isR b n = false) : n < 0 ∨ Mt.span b ≤ n := by
  unfold isR at h
  simp only [Bool.and_eq_false_iff, decide_eq_false_iff_not] at h
  omega

theorem rreading_any (p b f n : Int) (w : World) (hb : b = 16 ∨ b = 32) :
    Calls Try.prog 27 #[mv p b f, .int .i64 n] w (Ret (.bool (isR b n)) w) := by
  unfold mv
  cases h : isR b n
  · have h := isR_false h
    rcases Mt.span_cases hb with ⟨rfl, e⟩ | ⟨rfl, e⟩
    · rw [e] at h
      clear e
      by_cases h0 : 0 ≤ n
      · have h1 : ¬ n < 65536 := by omega
        clear h
        go_enter Try.func27, Try.ntmps27
        go_wp2
        go_ret
        exact ⟨rfl, World.grownBy_alloc _ _ _⟩
      · clear h
        go_enter Try.func27, Try.ntmps27
        go_wp2
        go_ret
        exact ⟨rfl, World.grownBy_alloc _ _ _⟩
    · rw [e] at h
      clear e
      by_cases h0 : 0 ≤ n
      · have h1 : ¬ n < 4294967296 := by omega
        clear h
        go_enter Try.func27, Try.ntmps27
        go_wp2
        go_ret
        exact ⟨rfl, World.grownBy_alloc _ _ _⟩
      · clear h
        go_enter Try.func27, Try.ntmps27
        go_wp2
        go_ret
        exact ⟨rfl, World.grownBy_alloc _ _ _⟩
  · have h := isR_true h
    rcases Mt.span_cases hb with ⟨rfl, e⟩ | ⟨rfl, e⟩
    · rw [e] at h
      clear e
      obtain ⟨h0, h1⟩ := h
      go_enter Try.func27, Try.ntmps27
      go_wp2
      go_ret
      exact ⟨rfl, World.grownBy_alloc _ _ _⟩
    · rw [e] at h
      clear e
      obtain ⟨h0, h1⟩ := h
      go_enter Try.func27, Try.ntmps27
      go_wp2
      go_ret
      exact ⟨rfl, World.grownBy_alloc _ _ _⟩

theorem rcount_any (p b f l q : Int) (w : World) (hb : b = 16 ∨ b = 32) :
    Calls Try.prog 26 #[mv p b f, cv l q] w (Ret (.bool (Mt.isC b l q)) w) := by
  have HR := Lib.hid (fun w => rreading_any p b f l w hb)
  unfold mv cv
  cases h : isR b l
  · have e : Mt.isC b l q = false := by
      cases k : Mt.isC b l q
      · rfl
      · obtain ⟨a1, a2, _, _⟩ := Mt.isC_true k
        rw [isR_mk a1 a2] at h; cases h
    rw [h] at HR
    rw [e]
    clear h e hb
    go_enter Try.func26, Try.ntmps26
    go_wp2_with fail
    refine (HR.out _).mono ?_
    rintro e w' ⟨rfl, hg⟩
    have G := Lib.hid (grown_trans (grown_trans (World.grownBy_alloc _ _ _) (World.grownBy_alloc _ _ _)) hg)
    clear hg
    go_wp2
    go_ret
    exact ⟨rfl, G.out⟩
  · rw [h] at HR
    obtain ⟨a1, a2⟩ := isR_true h
    by_cases h0 : 0 ≤ q
    · by_cases h1 : q ≤ 1099511627776
      · rw [Mt.isC_mk a1 a2 h0 h1]
        clear h hb a1 a2
        go_enter Try.func26, Try.ntmps26
        go_wp2_with fail
        refine (HR.out _).mono ?_
        rintro e w' ⟨rfl, hg⟩
        have k0 := hg.cell (a := ⟨w.heap.size + 1, 1, none⟩) (v := .int .i64 q) (by simp) (by simp)
        have G := Lib.hid (grown_trans (grown_trans (World.grownBy_alloc _ _ _) (World.grownBy_alloc _ _ _)) hg)
        clear hg
        go_wp2
        go_ret
        exact ⟨rfl, G.out⟩
      · have e : Mt.isC b l q = false := by
          cases k : Mt.isC b l q
          · rfl
          · have := Mt.isC_true k; omega
        rw [e]
        clear h e hb a1 a2
        go_enter Try.func26, Try.ntmps26
        go_wp2_with fail
        refine (HR.out _).mono ?_
        rintro e w' ⟨rfl, hg⟩
        have k0 := hg.cell (a := ⟨w.heap.size + 1, 1, none⟩) (v := .int .i64 q) (by simp) (by simp)
        have G := Lib.hid (grown_trans (grown_trans (World.grownBy_alloc _ _ _) (World.grownBy_alloc _ _ _)) hg)
        clear hg
        go_wp2
        go_ret
        exact ⟨ret_bool (decide_eq_false (by omega)), G.out⟩
    · have e : Mt.isC b l q = false := by
        cases k : Mt.isC b l q
        · rfl
        · have := Mt.isC_true k; omega
      rw [e]
      clear h e hb a1 a2
      go_enter Try.func26, Try.ntmps26
      go_wp2_with fail
      refine (HR.out _).mono ?_
      rintro e w' ⟨rfl, hg⟩
      have k0 := hg.cell (a := ⟨w.heap.size + 1, 1, none⟩) (v := .int .i64 q) (by simp) (by simp)
      have G := Lib.hid (grown_trans (grown_trans (World.grownBy_alloc _ _ _) (World.grownBy_alloc _ _ _)) hg)
      clear hg
      go_wp2
      go_ret
      exact ⟨rfl, G.out⟩

set_option maxHeartbeats 400000 in
theorem rlitres_any (p b f n : Int) (w : World) :
    Calls Try.prog 19 #[mv p b f, .int .i64 n] w (Ret (.tuple #[.int .i64 (litV p b f n), .int .i64 (litE p b f n)]) w) := by
  cases h : Mt.valid p b f
  · have e1 : litV p b f n = 0 := by unfold litV; rw [h]; rfl
    have e2 : litE p b f n = 9 := by unfold litE; rw [h]; rfl
    have E := Lib.hid (ret_two e1.symm e2.symm)
    have HV := Lib.hid (fun w => refValid_no p b f w h)
    clear h e1 e2
    unfold mv
    go_enter Try.func19, Try.ntmps19
    go_wp2_with fail
    refine (HV.out _).mono ?_
    rintro e w' ⟨rfl, hg⟩
    have G := Lib.hid (grown_trans (World.grownBy_alloc _ _ _) hg)
    clear hg
    go_wp2
    go_ret2
    exact ⟨E.out, G.out⟩
  · have HV := Lib.hid (fun w => refValid_yes p b f w h)
    by_cases h0 : 0 ≤ n
    · by_cases h1 : n ≤ 1099511627776
      · have e1 : litV p b f n = Mt.vol p f n := by unfold litV; rw [h, if_pos rfl, if_pos ⟨h0, h1⟩]
        have e2 : litE p b f n = 0 := by unfold litE; rw [h, if_pos rfl, if_pos ⟨h0, h1⟩]
        have E := Lib.hid (ret_two e1.symm e2.symm)
        obtain ⟨v1, v2, v3, v4, v5⟩ := Mt.valid_true h
        have hm := Mt.mul_range h0 h1 (show 0 ≤ f by omega) v5
        have hv := Mt.vol_range (p := p) v1 h0 h1 (show 0 ≤ f by omega) v5
        have hw : IntKind.i64.wrap (n * f) = n * f := IntWalk.i64_in _ (by omega)
        have hw2 : IntKind.i64.wrap (100 * p) = 100 * p := IntWalk.i64_in _ (by omega)
        have hw3 : (n * f).tdiv (100 * p) = Mt.vol p f n := Mt.vol_tdiv h0 (by omega)
        have hw4 : ¬ 100 * p = 0 := by omega
        clear h e1 e2 v2 v3 v4 v5
        unfold mv
        go_enter Try.func19, Try.ntmps19
        go_wp2_with fail
        refine (HV.out _).mono ?_
        rintro e w1 ⟨rfl, hg⟩
        have k0 := hg.cell (a := ⟨w.heap.size, 0, none⟩) (v := .int .i64 p) (by simp) (by simp)
        have k1 := hg.cell (a := ⟨w.heap.size, 1, none⟩) (v := .int .i64 b) (by simp) (by simp)
        have k2 := hg.cell (a := ⟨w.heap.size, 2, none⟩) (v := .int .i64 f) (by simp) (by simp)
        have G := Lib.hid (grown_trans (World.grownBy_alloc _ _ _) hg)
        clear hg
        go_wp2
        go_ret2
        exact ⟨E.out, G.out⟩
      · have e1 : litV p b f n = 0 := by unfold litV; rw [h, if_pos rfl, if_neg (by omega)]
        have e2 : litE p b f n = 1 := by unfold litE; rw [h, if_pos rfl, if_neg (by omega)]
        have E := Lib.hid (ret_two e1.symm e2.symm)
        clear h e1 e2
        unfold mv
        go_enter Try.func19, Try.ntmps19
        go_wp2_with fail
        refine (HV.out _).mono ?_
        rintro e w1 ⟨rfl, hg⟩
        have G := Lib.hid (grown_trans (World.grownBy_alloc _ _ _) hg)
        clear hg
        go_wp2
        go_ret2
        exact ⟨E.out, G.out⟩
    · have e1 : litV p b f n = 0 := by unfold litV; rw [h, if_pos rfl, if_neg (by omega)]
      have e2 : litE p b f n = 1 := by unfold litE; rw [h, if_pos rfl, if_neg (by omega)]
      have E := Lib.hid (ret_two e1.symm e2.symm)
      clear h e1 e2
      unfold mv
      go_enter Try.func19, Try.ntmps19
      go_wp2_with fail
      refine (HV.out _).mono ?_
      rintro e w1 ⟨rfl, hg⟩
      have G := Lib.hid (grown_trans (World.grownBy_alloc _ _ _) hg)
      clear hg
      go_wp2
      go_ret2
      exact ⟨E.out, G.out⟩
end Go.Proofs.Ytilchmlbihffdaa
