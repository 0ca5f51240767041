/-
  Contract of the reference's Right; the law DrawPlans' walk; a plan that came in.
-/
import Derived.Test.YtbdpinfiicpmhaaP7
namespace Go.Proofs.Ytbdpinfiicpmhaa
open Go.ChangeShapes Go.WideShapes Go.ChangeAt Go.RowKit RefMath
set_option linter.unusedVariables false

open Classical in
noncomputable def rt (p : Pl) : Bool := if p.right then true else false
theorem rt_yes {p : Pl} (h : p.right) : rt p = true := by unfold rt; rw [if_pos h]
theorem rt_no {p : Pl} (h : ¬ p.right) : rt p = false := by unfold rt; rw [if_neg h]
set_option maxHeartbeats 2000000 in
theorem right_any (p : Pl) (w : World) : Calls Try.prog 9 #[plV p] w (fun e w' => e = .returned (.bool (rt p)) ∧ Below w.heap.size w w') := by
  have HB0 : Hid (Below w.heap.size w ((w.alloc (.cells #[.int .i64 p.keys, .int .i64 p.most, .int .i64 p.r, .int .i64 p.w, .int .i64 p.b, .int .i64 p.s] 27)).alloc (.cells #[.int .i64 p.r, .int .i64 p.w, .int .i64 p.b, .int .i64 p.s] 3))) := Lib.hid (((Below.refl _ _).alloc (Nat.le_refl _) _).alloc (by simp) _)
  have HC0 : Hid (∀ j, j < 4 → ((w.alloc (.cells #[.int .i64 p.keys, .int .i64 p.most, .int .i64 p.r, .int .i64 p.w, .int .i64 p.b, .int .i64 p.s] 27)).alloc (.cells #[.int .i64 p.r, .int .i64 p.w, .int .i64 p.b, .int .i64 p.s] 3)).cell? ⟨w.heap.size + 1, j, none⟩ = some (.int .i64 (wts p j))) := Lib.hid fun j hj => by
    rcases lt4 j hj with rfl | rfl | rfl | rfl <;> (go_simp; rfl)
  have HL0 : Hid (((w.alloc (.cells #[.int .i64 p.keys, .int .i64 p.most, .int .i64 p.r, .int .i64 p.w, .int .i64 p.b, .int .i64 p.s] 27)).alloc (.cells #[.int .i64 p.r, .int .i64 p.w, .int .i64 p.b, .int .i64 p.s] 3)).heap[w.heap.size]? = some (.cells #[.int .i64 p.keys, .int .i64 p.most, .int .i64 p.r, .int .i64 p.w, .int .i64 p.b, .int .i64 p.s] 27 (0, 0))) := Lib.hid ((Below.heap_alloc _ _ _ (by simp)).trans (heap_alloc_new w _))
  have HY : Hid (1 ≤ p.keys → p.keys ≤ 16 → 1 ≤ p.most → p.most ≤ 12 → (∀ i, i < 4 → wOk (wts p i)) → ¬ psum p 4 = 0 → p.right) := Lib.hid right_of
  have HNk : Hid (p.right → 1 ≤ p.keys ∧ p.keys ≤ 16 ∧ 1 ≤ p.most ∧ p.most ≤ 12 ∧ 0 < psum p 4) := Lib.hid fun h => ⟨h.k1, h.k2, h.m1, h.m2, by rw [psum4]; exact h.pos⟩
  show Calls Try.prog 9 #[.agg #[.int .i64 p.keys, .int .i64 p.most, .int .i64 p.r, .int .i64 p.w, .int .i64 p.b, .int .i64 p.s]] w _
  generalize p.keys = x0 at *
  generalize p.most = x1 at *
  generalize p.r = x2 at *
  generalize p.w = x3 at *
  generalize p.b = x4 at *
  generalize p.s = x5 at *
  go_enter Try.func9, Try.ntmps9
  go_wp2
  generalize ((w.alloc (.cells #[.int .i64 x0, .int .i64 x1, .int .i64 x2, .int .i64 x3, .int .i64 x4, .int .i64 x5] 27)).alloc (.cells #[.int .i64 x2, .int .i64 x3, .int .i64 x4, .int .i64 x5] 3)) = w1 at *
  go_loopw [3, 5, 16] (fun su _ i wr => ∃ k : Nat, k ≤ 4 ∧ i = .int .i64 (k : Int) ∧ su = .int .i64 (psum p k) ∧ wr = w1 ∧ Hid (∀ i, i < k → wOk (wts p i))) (fun _ _ i _ => 4 - (intOf i).toNat)
  case atStart => exact ⟨0, Nat.zero_le _, rfl, rfl, rfl, Lib.hid fun i hi => absurd hi (Nat.not_lt_zero _)⟩
  case round =>
    obtain ⟨k, hk, rfl, rfl, rfl, HK⟩ := hrel
    have hps := psum_in p k HK.out
    by_cases hlt : k < 4
    · have c1 := HC0.out k hlt
      have HW : Hid (psum p (k + 1) = psum p k + wts p k) := Lib.hid rfl
      have HOK : Hid (wOk (wts p k) → ∀ i, i < k + 1 → wOk (wts p i)) := Lib.hid fun h i hi => by
        by_cases e : i < k
        · exact HK.out i e
        · obtain rfl : i = k := by omega
          exact h
      have HNO : Hid (¬ wOk (wts p k) → rt p = false) := Lib.hid fun h => rt_no fun hr => h (wts_right hr k hlt)
      generalize wts p k = z at *
      by_cases hz : z < 0
      · have hcn := HNO.out (by unfold wOk; omega)
        go_wp2
        go_ret
        exact ⟨by first | (rw [hcn]; rfl) | rfl, HB0.out⟩
      · by_cases hz' : 1000 < z
        · have hcn := HNO.out (by unfold wOk; omega)
          go_wp2
          go_ret
          exact ⟨by first | (rw [hcn]; rfl) | rfl, HB0.out⟩
        · have HOK' := Lib.hid (HOK.out (by unfold wOk; omega))
          generalize psum p k = su at *
          go_wp2
          go_roundw
          case rel => exact ⟨k + 1, by omega, by go_num, val_int HW.out.symm, trivial, HOK'⟩
          case measure => simp [intOf]; omega
    · obtain rfl : k = 4 := by omega
      obtain ⟨d0, d1, d2, d3, d4, d5⟩ := cells6 HL0.out
      have HRT : Hid ((decide (0 < psum p 4) && decide (1 ≤ x0) && decide (x0 ≤ 16) && decide (1 ≤ x1) && decide (x1 ≤ 12)) = rt p) := Lib.hid (by
        by_cases hr : p.right
        · obtain ⟨q0, q1, q2, q3, q4⟩ := HNk.out hr
          rw [rt_yes hr, decide_eq_true q0, decide_eq_true q1, decide_eq_true q2, decide_eq_true q3, decide_eq_true q4]; rfl
        · rw [rt_no hr]
          rw [Bool.eq_false_iff]
          intro h
          simp only [Bool.and_eq_true, decide_eq_true_eq] at h
          obtain ⟨⟨⟨⟨q0, q1⟩, q2⟩, q3⟩, q4⟩ := h
          exact hr (HY.out q1 q2 q3 q4 HK.out (by omega)))
      generalize psum p 4 = su at *
      go_wp2
      all_goals
        go_ret
        refine ⟨?_, HB0.out⟩
        rw [← HRT.out]
        first | (simp_all; done) | (simp_all; intros; omega)
end Go.Proofs.Ytbdpinfiicpmhaa
