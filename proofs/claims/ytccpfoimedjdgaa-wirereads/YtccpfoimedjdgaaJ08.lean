/-
  What is read is what stands there; what stands there is read (mathematics).
-/
import Derived.Test.YtccpfoimedjdgaaJ06
import Derived.Test.YtccpfoimedjdgaaJ05
import Derived.Test.YtccpfoimedjdgaaJ02

namespace Go.Proofs.Ytccpfoimedjdgaa
open Go.ChangeShapes Go.WideShapes Go.ChangeAt Go.RowKit

/-! what is read -/
theorem nS_ok {f : Nat → Nat} {n : Nat} {s : PS} (h : (nS f n s).e = 0) : s.e = 0 ∧ AtN f n s.a (nV f n s) ∧ nS f n s = ⟨0, s.a + (numL (nV f n s)).length⟩ := by
  by_cases h0 : s.e = 0
  · by_cases hx : ∃ x, AtN f n s.a x
    · obtain ⟨x, hx⟩ := hx
      obtain ⟨e1, e2⟩ := nV_at h0 hx
      rw [e1, e2]
      exact ⟨h0, hx, rfl⟩
    · exfalso
      unfold nS at h
      rw [if_pos h0, if_neg hx] at h
      split at h
      · exact absurd (show (11 : Int) = 0 from h) (by decide)
      · exact absurd (show (10 : Int) = 0 from h) (by decide)
  · rw [(nV_stop h0).2] at h
    exact absurd h h0
theorem fS_ok {er : Int} {s : PS} (her : ¬ er = 0) : ¬ (fS er s).e = 0 := by
  unfold fS
  split
  · exact her
  · assumption
theorem uS_ok {f : Nat → Nat} {n most : Nat} {er : Int} {s : PS} (her : ¬ er = 0) (h : (uS f n most er s).e = 0) : s.e = 0 ∧ AtN f n s.a (uV f n most s) ∧ uS f n most er s = ⟨0, s.a + (numL (uV f n most s)).length⟩ := by
  unfold uS at h
  by_cases hm : most < nV f n s
  · rw [if_pos hm] at h
    exact absurd h (fS_ok her)
  · rw [if_neg hm] at h
    have e1 : uV f n most s = nV f n s := by unfold uV; rw [if_neg hm]
    have e2 : uS f n most er s = nS f n s := by unfold uS; rw [if_neg hm]
    rw [e1, e2]
    exact nS_ok h
theorem gS_ok {n m : Nat} {s : PS} (h : (gS n m s).e = 0) : s.e = 0 ∧ s.a + m ≤ 8 * n ∧ gS n m s = ⟨0, s.a + m⟩ := by
  by_cases h0 : s.e = 0
  · by_cases hm : s.a + m ≤ 8 * n
    · exact ⟨h0, hm, by unfold gS; rw [if_pos h0, if_pos hm]⟩
    · exfalso
      unfold gS at h
      rw [if_pos h0, if_neg hm] at h
      exact absurd (show (10 : Int) = 0 from h) (by decide)
  · exfalso
    unfold gS at h
    rw [if_neg h0] at h
    exact h0 h
theorem gsS_ok {f : Nat → Nat} {n : Nat} {s : PS} : ∀ j, (gsS n s j).e = 0 → s.e = 0 ∧ gsS n s j = ⟨0, s.a + 8 * j⟩ ∧ (s.a ≤ 8 * n → s.a + 8 * j ≤ 8 * n) ∧ Sp f s.a (bytL (fun i => gV f n 8 (gsS n s i)) j) := by
  intro j
  induction j with
  | zero => intro h; exact ⟨h, by show s = _; obtain ⟨e, a⟩ := s; have h : e = 0 := h; rw [h]; rfl, fun h => h, fun i hi => absurd hi (Nat.not_lt_zero _)⟩
  | succ j ih =>
    intro h
    obtain ⟨h1, h2, h3⟩ := gS_ok (show (gS n 8 (gsS n s j)).e = 0 from h)
    obtain ⟨g1, g2, g3, g4⟩ := ih h1
    rw [g2] at h2
    refine ⟨g1, ?_, fun _ => by dsimp only at h2; omega, ?_⟩
    · show gS n 8 (gsS n s j) = _
      rw [h3, g2]
      show (⟨0, s.a + 8 * j + 8⟩ : PS) = _
      congr 1
    · refine Sp.app.2 ⟨g4, ?_⟩
      rw [bytL_length]
      have e : gV f n 8 (gsS n s j) = gv f (s.a + 8 * j) 8 := by
        unfold gV
        rw [g2, if_pos ⟨rfl, h2⟩]
      show Sp f (s.a + 8 * j) (bitsL (gV f n 8 (gsS n s j)) 8)
      rw [e]
      exact gv_sp f _ 8
theorem tS_ok {f : Nat → Nat} {n : Nat} {s : PS} (h : (tS f n s).e = 0) : s.e = 0 ∧ tS f n s = ⟨0, s.a + (bsL (tB f n s)).length⟩ ∧ s.a + (bsL (tB f n s)).length ≤ 8 * n ∧ Sp f s.a (bsL (tB f n s)) := by
  obtain ⟨h1, h2, h3, h4⟩ := gsS_ok (f := f) _ h
  obtain ⟨g1, ⟨g2, g3, g4⟩, g5⟩ := uS_ok (by decide) h1
  have e1 : (tB f n s).n = uV f n 4000 s := rfl
  rw [bsL_length, e1]
  rw [g5] at h2 h3 h4
  dsimp only at h2 h3 h4
  have h3 := h3 g4
  refine ⟨g1, ?_, by omega, ?_⟩
  · show gsS n (uS f n 4000 3 s) (uV f n 4000 s) = _
    rw [g5, h2, Nat.add_assoc]
  · refine Sp.app.2 ⟨g3, ?_⟩
    show Sp f _ (bytL (fun j => gV f n 8 (gsS n (uS f n 4000 3 s) j)) (uV f n 4000 s))
    rw [g5]
    exact h4
theorem NOk_uV (f : Nat → Nat) (n : Nat) (s : PS) : NOk ((uV f n 1099511627776 s : Nat) : Int) := by
  have := uV_le f n 1099511627776 s
  unfold NOk
  omega
theorem nmS_ok {f : Nat → Nat} {n : Nat} {s : PS} (ha : s.a ≤ 8 * n) : ∀ t, (nmS f n s t).e = 0 → s.e = 0 ∧ nmS f n s t = ⟨0, s.a + (numsL (tN f n s) t).length⟩ ∧ s.a + (numsL (tN f n s) t).length ≤ 8 * n ∧ Sp f s.a (numsL (tN f n s) t) := by
  intro t
  induction t with
  | zero => intro h; exact ⟨h, by show s = _; obtain ⟨e, a⟩ := s; have h : e = 0 := h; rw [h]; rfl, by show s.a + 0 ≤ _; omega, fun i hi => absurd hi (Nat.not_lt_zero _)⟩
  | succ t ih =>
    intro h
    obtain ⟨h1, ⟨h2, h3, h4⟩, h5⟩ := uS_ok (by decide) (show (uS f n 1099511627776 1 (nmS f n s t)).e = 0 from h)
    obtain ⟨g1, g2, g3, g4⟩ := ih h1
    have eT : (tN f n s t).toNat = uV f n 1099511627776 (nmS f n s t) := rfl
    have eL : numsL (tN f n s) (t + 1) = numsL (tN f n s) t ++ numL (uV f n 1099511627776 (nmS f n s t)) := rfl
    rw [eL, List.length_append]
    have e2 : (nmS f n s t).a = s.a + (numsL (tN f n s) t).length := by rw [g2]
    rw [e2] at h3 h4 h5
    refine ⟨g1, ?_, by omega, ?_⟩
    · show uS f n 1099511627776 1 (nmS f n s t) = _
      rw [h5, Nat.add_assoc]
    · exact Sp.app.2 ⟨g4, h3⟩
theorem itS_ok {f : Nat → Nat} {n : Nat} {s : PS} (ha : s.a ≤ 8 * n) : ∀ t, (itS f n s t).e = 0 → s.e = 0 ∧ itS f n s t = ⟨0, s.a + (prtL (fun j => tB f n (itS f n s j)) t).length⟩ ∧ s.a + (prtL (fun j => tB f n (itS f n s j)) t).length ≤ 8 * n ∧ Sp f s.a (prtL (fun j => tB f n (itS f n s j)) t) := by
  intro t
  induction t with
  | zero => intro h; exact ⟨h, by show s = _; obtain ⟨e, a⟩ := s; have h : e = 0 := h; rw [h]; rfl, by show s.a + 0 ≤ _; omega, fun i hi => absurd hi (Nat.not_lt_zero _)⟩
  | succ t ih =>
    intro h
    obtain ⟨h1, h2, h3, h4⟩ := tS_ok (show (tS f n (itS f n s t)).e = 0 from h)
    obtain ⟨g1, g2, g3, g4⟩ := ih h1
    have eL : prtL (fun j => tB f n (itS f n s j)) (t + 1) = prtL (fun j => tB f n (itS f n s j)) t ++ bsL (tB f n (itS f n s t)) := rfl
    rw [eL, List.length_append]
    have e2 : (itS f n s t).a = s.a + (prtL (fun j => tB f n (itS f n s j)) t).length := by rw [g2]
    rw [e2] at h2 h3 h4
    refine ⟨g1, ?_, by omega, ?_⟩
    · show tS f n (itS f n s t) = _
      rw [h2, Nat.add_assoc]
    · exact Sp.app.2 ⟨g4, h4⟩
theorem bytL_congr (f g : Nat → Nat) : ∀ n, (∀ j, j < n → f j = g j) → bytL f n = bytL g n := by
  intro n
  induction n with
  | zero => intro _; rfl
  | succ n ih => intro h; show bytL f n ++ bitsL (f n) 8 = bytL g n ++ bitsL (g n) 8; rw [ih fun j hj => h j (by omega), h n (by omega)]
/-- the same bytes -/
def SameB (a b : Bs) : Prop := a.n = b.n ∧ ∀ j, j < a.n → a.f j = b.f j
theorem bsL_congr {a b : Bs} (h : SameB a b) : bsL a = bsL b := by
  unfold bsL
  rw [← h.1, bytL_congr _ _ _ h.2]
theorem prtL_congr (P Q : Nat → Bs) : ∀ n, (∀ i, i < n → SameB (P i) (Q i)) → prtL P n = prtL Q n := by
  intro n
  induction n with
  | zero => intro _; rfl
  | succ n ih => intro h; show prtL P n ++ bsL (P n) = prtL Q n ++ bsL (Q n); rw [ih fun j hj => h j (by omega), bsL_congr (h n (by omega))]
theorem SameB.refl (a : Bs) : SameB a a := ⟨rfl, fun _ _ => rfl⟩
/-- what take has read, if it did not stop -/
theorem tF_ok {f : Nat → Nat} {n : Nat} {s : PS} (ha : s.a ≤ 8 * n) (h : (tF f n s).e = 0) :
    s.e = 0 ∧ tF f n s = ⟨0, s.a + (msgL (tN f n s) (tM f n s) (tP f n s) (tD f n s)).length⟩ ∧ s.a + (msgL (tN f n s) (tM f n s) (tP f n s) (tD f n s)).length ≤ 8 * n ∧ Sp f s.a (msgL (tN f n s) (tM f n s) (tP f n s) (tD f n s)) := by
  obtain ⟨a1, a2, a3, a4⟩ := tS_ok h
  have b0 : (tI f n s).e = 0 ∧ (nmS f n s 9).e = 0 := by
    have h1 : (tI f n s).e = 0 := by
      rcases Classical.em ((tI f n s).a ≤ 8 * n) with hh | hh
      · exact (itS_ok hh _ a1).1
      · have : ∀ t, (itS f n (tI f n s) t).e = 0 → (tI f n s).e = 0 := by
          intro t
          induction t with
          | zero => exact fun h => h
          | succ t ih => exact fun h => ih (tS_ok (show (tS f n (itS f n (tI f n s) t)).e = 0 from h)).1
        exact this _ a1
    exact ⟨h1, (uS_ok (by decide) h1).1⟩
  obtain ⟨c1, ⟨c2, c3, c4⟩, c5⟩ := uS_ok (by decide) b0.1
  obtain ⟨d1, d2, d3, d4⟩ := nmS_ok ha 9 c1
  have e2 : (nmS f n s 9).a = s.a + (numsL (tN f n s) 9).length := by rw [d2]
  rw [e2] at c3 c4 c5
  have eI : tI f n s = ⟨0, s.a + (numsL (tN f n s) 9).length + (numL (tM f n s)).length⟩ := c5
  have hIa : (tI f n s).a ≤ 8 * n := by rw [eI]; exact c4
  obtain ⟨g1, g2, g3, g4⟩ := itS_ok hIa _ a1
  have e3 : (itS f n (tI f n s) (tM f n s)).a = (tI f n s).a + (prtL (fun j => tB f n (itS f n (tI f n s) j)) (tM f n s)).length := by rw [g2]
  have e4 : (tI f n s).a = s.a + (numsL (tN f n s) 9).length + (numL (tM f n s)).length := by rw [eI]
  rw [e3, e4] at a2 a3 a4
  rw [e4] at g3 g4
  have eP : prtL (prt (tM f n s) (tP f n s) (tD f n s)) (tM f n s + 1) = prtL (fun j => tB f n (itS f n (tI f n s) j)) (tM f n s) ++ bsL (tD f n s) := by
    show prtL (prt (tM f n s) (tP f n s) (tD f n s)) (tM f n s) ++ bsL (prt (tM f n s) (tP f n s) (tD f n s) (tM f n s)) = _
    rw [prtL_congr (prt (tM f n s) (tP f n s) (tD f n s)) (fun j => tB f n (itS f n (tI f n s) j)) _ fun i hi => by unfold prt; rw [if_pos hi]; exact SameB.refl _]
    unfold prt
    rw [if_neg (Nat.lt_irrefl _)]
  have eD : tD f n s = tB f n (itS f n (tI f n s) (tM f n s)) := rfl
  have eM : msgL (tN f n s) (tM f n s) (tP f n s) (tD f n s) = numsL (tN f n s) 9 ++ (numL (tM f n s) ++ (prtL (fun j => tB f n (itS f n (tI f n s) j)) (tM f n s) ++ bsL (tD f n s))) := by
    unfold msgL; rw [eP]
  have eL : (msgL (tN f n s) (tM f n s) (tP f n s) (tD f n s)).length = (numsL (tN f n s) 9).length + ((numL (tM f n s)).length + ((prtL (fun j => tB f n (itS f n (tI f n s) j)) (tM f n s)).length + (bsL (tD f n s)).length)) := by
    rw [eM, List.length_append, List.length_append, List.length_append]
  rw [← eD] at a3 a4
  rw [← eD] at a2
  have eF : tF f n s = tS f n (itS f n (tI f n s) (tM f n s)) := rfl
  rw [eL]
  refine ⟨d1, ?_, by omega, ?_⟩
  · rw [eF, a2, PS.mk.injEq]
    exact ⟨rfl, by omega⟩
  · rw [eM]
    refine Sp.app.2 ⟨d4, Sp.app.2 ⟨c3, Sp.app.2 ⟨g4, ?_⟩⟩⟩
    exact a4
end Go.Proofs.Ytccpfoimedjdgaa

