/-
  Contracts of weights and Check.
-/
import Derived.Test.YtbdpinfiicpmhaaM
import Derived.Test.YtbdpinfiicpmhaaP1
namespace Go.Proofs.Ytbdpinfiicpmhaa
open Go.ChangeShapes Go.WideShapes Go.ChangeAt Go.RowKit RefMath

abbrev plV (p : Pl) : Value := .agg #[.int .i64 p.keys, .int .i64 p.most, .int .i64 p.r, .int .i64 p.w, .int .i64 p.b, .int .i64 p.s]
/-- the weights, by their places -/
def wts (p : Pl) (i : Nat) : Int := if i = 0 then p.r else if i = 1 then p.w else if i = 2 then p.b else p.s
/-- who answers the weights in memory of its own -/
def WtP (p : Pl) (w : World) (e : Ending) (w' : World) : Prop :=
  ∃ q, e = .returned (.slice (some ⟨q, 0, none⟩) 4 4) ∧ w.heap.size ≤ q ∧ q < w'.heap.size ∧ (∀ j, j < 4 → w'.cell? ⟨q, 0 + j, none⟩ = some (.int .i64 (wts p j))) ∧ Below w.heap.size w w'

set_option maxHeartbeats 1000000 in
theorem weights_any (p : Pl) (w : World) : Calls Try.prog 19 #[plV p] w (WtP p w) := by
  go_enter Try.func19, Try.ntmps19
  go_wp2
  go_ret
  refine ⟨w.heap.size + 1, rfl, by omega, by simp, ?_, ?_⟩
  · intro j hj
    rcases lt4 j hj with rfl | rfl | rfl | rfl <;> (go_simp; rfl)
  · exact ((Below.refl _ _).alloc (Nat.le_refl _) _).alloc (by simp) _

/-- the sum of the first weights -/
def psum (p : Pl) : Nat → Int
  | 0 => 0
  | k + 1 => psum p k + wts p k
theorem psum_in (p : Pl) (k : Nat) (h : ∀ i, i < k → wOk (wts p i)) : 0 ≤ psum p k ∧ psum p k ≤ 1000 * (k : Int) := by
  induction k with
  | zero => exact ⟨Int.le_refl _, Int.le_refl _⟩
  | succ k ih =>
    have h1 := ih fun i hi => h i (by omega)
    have h2 := h k (by omega)
    unfold wOk at h2
    show 0 ≤ psum p k + wts p k ∧ psum p k + wts p k ≤ _
    omega
theorem psum4 (p : Pl) : psum p 4 = p.sum := by
  show 0 + wts p 0 + wts p 1 + wts p 2 + wts p 3 = _
  simp [wts, Pl.sum]
theorem wts_right {p : Pl} (h : p.right) : ∀ i, i < 4 → wOk (wts p i) := by
  intro i hi
  rcases lt4 i hi with rfl | rfl | rfl | rfl
  · exact h.r
  · exact h.w
  · exact h.b
  · exact h.s
theorem right_of {p : Pl} (h1 : 1 ≤ p.keys) (h2 : p.keys ≤ 16) (h3 : 1 ≤ p.most) (h4 : p.most ≤ 12) (h5 : ∀ i, i < 4 → wOk (wts p i)) (h6 : ¬ psum p 4 = 0) : p.right := by
  have h7 := psum_in p 4 h5
  rw [psum4] at h6 h7
  exact ⟨h1, h2, h3, h4, h5 0 (by omega), h5 1 (by omega), h5 2 (by omega), h5 3 (by omega), by omega⟩
open Classical in
noncomputable def ck (p : Pl) : Int := if p.right then 0 else 1
theorem ck_yes {p : Pl} (h : p.right) : ck p = 0 := by unfold ck; rw [if_pos h]
theorem ck_no {p : Pl} (h : ¬ p.right) : ck p = 1 := by unfold ck; rw [if_neg h]

set_option maxHeartbeats 1000000 in
theorem check_any (p : Pl) (w : World) : Calls Try.prog 11 #[plV p] w (fun e w' => e = .returned (.int .i64 (ck p)) ∧ Below w.heap.size w w') := by
  have HB0 : Hid (Below w.heap.size w (w.alloc (.cells #[.int .i64 p.keys, .int .i64 p.most, .int .i64 p.r, .int .i64 p.w, .int .i64 p.b, .int .i64 p.s] 23))) := Lib.hid ((Below.refl _ _).alloc (Nat.le_refl _) _)
  by_cases hg : p.keys < 1 ∨ 16 < p.keys ∨ p.most < 1 ∨ 12 < p.most
  · have HN : Hid (ck p = 1) := Lib.hid (ck_no fun h => by have := h.k1; have := h.k2; have := h.m1; have := h.m2; omega)
    by_cases h1 : p.keys < 1
    · clear hg
      show Calls Try.prog 11 #[.agg #[.int .i64 p.keys, .int .i64 p.most, .int .i64 p.r, .int .i64 p.w, .int .i64 p.b, .int .i64 p.s]] w _
      generalize p.keys = x0 at *
      generalize p.most = x1 at *
      go_enter Try.func11, Try.ntmps11
      go_wp2
      go_ret
      exact ⟨by rw [HN.out]; rfl, HB0.out⟩
    · by_cases h2 : 16 < p.keys
      · clear hg
        show Calls Try.prog 11 #[.agg #[.int .i64 p.keys, .int .i64 p.most, .int .i64 p.r, .int .i64 p.w, .int .i64 p.b, .int .i64 p.s]] w _
        generalize p.keys = x0 at *
        generalize p.most = x1 at *
        go_enter Try.func11, Try.ntmps11
        go_wp2
        go_ret
        exact ⟨by rw [HN.out]; rfl, HB0.out⟩
      · by_cases h3 : p.most < 1
        · clear hg
          show Calls Try.prog 11 #[.agg #[.int .i64 p.keys, .int .i64 p.most, .int .i64 p.r, .int .i64 p.w, .int .i64 p.b, .int .i64 p.s]] w _
          generalize p.keys = x0 at *
          generalize p.most = x1 at *
          go_enter Try.func11, Try.ntmps11
          go_wp2
          go_ret
          exact ⟨by rw [HN.out]; rfl, HB0.out⟩
        · have h4 : 12 < p.most := by omega
          clear hg
          show Calls Try.prog 11 #[.agg #[.int .i64 p.keys, .int .i64 p.most, .int .i64 p.r, .int .i64 p.w, .int .i64 p.b, .int .i64 p.s]] w _
          generalize p.keys = x0 at *
          generalize p.most = x1 at *
          go_enter Try.func11, Try.ntmps11
          go_wp2
          go_ret
          exact ⟨by rw [HN.out]; rfl, HB0.out⟩
  · have h1 : ¬ p.keys < 1 := by omega
    have h2 : ¬ 16 < p.keys := by omega
    have h3 : ¬ p.most < 1 := by omega
    have h4 : ¬ 12 < p.most := by omega
    have HG : Hid ((∀ i, i < 4 → wOk (wts p i)) → ¬ psum p 4 = 0 → p.right) := Lib.hid (right_of (by omega) (by omega) (by omega) (by omega))
    clear hg
    have HWt : Hid (∀ w, Calls Try.prog 19 #[.agg #[.int .i64 p.keys, .int .i64 p.most, .int .i64 p.r, .int .i64 p.w, .int .i64 p.b, .int .i64 p.s]] w (WtP p w)) := Lib.hid (weights_any p)
    show Calls Try.prog 11 #[.agg #[.int .i64 p.keys, .int .i64 p.most, .int .i64 p.r, .int .i64 p.w, .int .i64 p.b, .int .i64 p.s]] w _
    generalize p.keys = x0 at *
    generalize p.most = x1 at *
    generalize p.r = x2 at *
    generalize p.w = x3 at *
    generalize p.b = x4 at *
    generalize p.s = x5 at *
    go_enter Try.func11, Try.ntmps11
    go_wp2_with fail
    refine (HWt.out _).mono ?_
    rintro e w1 ⟨q, rfl, hq, hql, hc, hb⟩
    have HC := Lib.hid hc
    have HB := Lib.hid (HB0.out.trans (hb.mono (by simp)))
    clear hc hb
    go_wp2
    go_loopw [3, 5, 27] (fun su _ i wr => ∃ k : Nat, k ≤ 4 ∧ i = .int .i64 (k : Int) ∧ su = .int .i64 (psum p k) ∧ wr = w1 ∧ Hid (∀ i, i < k → wOk (wts p i))) (fun _ _ i _ => 4 - (intOf i).toNat)
    case atStart => exact ⟨0, Nat.zero_le _, rfl, rfl, rfl, Lib.hid fun i hi => absurd hi (Nat.not_lt_zero _)⟩
    case round =>
      obtain ⟨k, hk, rfl, rfl, rfl, HK⟩ := hrel
      have hps := psum_in p k HK.out
      by_cases hlt : k < 4
      · have c1 := HC.out k hlt
        rw [Nat.zero_add] at c1
        have HW : Hid (psum p (k + 1) = psum p k + wts p k) := Lib.hid rfl
        have HOK : Hid (wOk (wts p k) → ∀ i, i < k + 1 → wOk (wts p i)) := Lib.hid fun h i hi => by
          by_cases e : i < k
          · exact HK.out i e
          · obtain rfl : i = k := by omega
            exact h
        have HNO : Hid (¬ wOk (wts p k) → ck p = 1) := Lib.hid fun h => ck_no fun hr => h (wts_right hr k hlt)
        generalize wts p k = z at *
        by_cases hz : z < 0
        · have hcn := HNO.out (by unfold wOk; omega)
          go_wp2
          go_ret
          exact ⟨by first | (rw [hcn]; rfl) | rfl, HB.out⟩
        · by_cases hz' : 1000 < z
          · have hcn := HNO.out (by unfold wOk; omega)
            go_wp2
            go_ret
            exact ⟨by first | (rw [hcn]; rfl) | rfl, HB.out⟩
          · have HOK' := Lib.hid (HOK.out (by unfold wOk; omega))
            generalize psum p k = su at *
            go_wp2
            go_roundw
            case rel => exact ⟨k + 1, by omega, by go_num, val_int HW.out.symm, trivial, HOK'⟩
            case measure => simp [intOf]; omega
      · obtain rfl : k = 4 := by omega
        by_cases h0 : psum p 4 = 0
        · have hcn : ck p = 1 := ck_no fun hr => by have := hr.pos; rw [← psum4] at this; omega
          rw [h0]
          go_wp2
          go_ret
          exact ⟨by first | (rw [hcn]; rfl) | rfl, HB.out⟩
        · have hcn : ck p = 0 := ck_yes (HG.out HK.out h0)
          have h0' : (psum p 4 == 0) = false := by rw [beq_eq_false_iff_ne]; exact h0
          go_wp2
          go_ret
          exact ⟨by first | (rw [hcn]; rfl) | rfl, HB.out⟩
end Go.Proofs.Ytbdpinfiicpmhaa
