/-
  Frames one behind the other are read as they were.
-/
import Derived.Test.YtgplannipnceeaaQ
namespace Go.Proofs.Ytgplannipnceeaa

theorem allF_part (k z : Nat → Nat) (d : Nat → Nat → Nat) (i : Nat) : ∀ c, i < c → ∀ j, j < 12 + z i → allF k z d c (tot z i + j) = frm (k i) (z i) (d i) j := by
  intro c
  induction c with
  | zero => intro h; omega
  | succ c ih =>
    intro hic j hj
    show cat (allF k z d c) (frm (k c) (z c) (d c)) (tot z c) (tot z i + j) = _
    by_cases h : i < c
    · have h1 : tot z (i + 1) ≤ tot z c := tot_mono z (i + 1) c h
      have h2 : tot z (i + 1) = tot z i + (12 + z i) := rfl
      rw [cat_lo (by omega)]
      exact ih h j hj
    · obtain rfl : i = c := by omega
      exact cat_hi _ j

/-- whatever stands behind them -/
theorem scan_all (F : Nat → Nat) (n c : Nat) (k z : Nat → Nat) (d : Nat → Nat → Nat) (hk : ∀ i, i < c → k i < 256) (hz : ∀ i, i < c → z i ≤ 65536) (hn : tot z c ≤ n) (hF : ∀ j, j < tot z c → F j = allF k z d c j) :
    (∀ i, i ≤ c → scanP F i = tot z i) ∧ Wholes F n c ∧ ∀ i, i < c → kindOf (sh F (scanP F i)) = k i ∧ sizeOf' (sh F (scanP F i)) = z i ∧ ∀ j, j < z i → sh F (scanP F i) (12 + j) = d i j := by
  have one : ∀ i, i < c → ∀ m, 12 + z i ≤ m → derr (sh F (tot z i)) m = 0 ∧ kindOf (sh F (tot z i)) = k i ∧ sizeOf' (sh F (tot z i)) = z i ∧ ∀ j, j < z i → sh F (tot z i) (12 + j) = d i j := by
    intro i hi m hm
    refine frm_read (k i) (z i) (d i) _ m (hk i hi) (hz i hi) hm (fun j hj => ?_)
    have h1 : tot z (i + 1) ≤ tot z c := tot_mono z (i + 1) c hi
    have h2 : tot z (i + 1) = tot z i + (12 + z i) := rfl
    show F (tot z i + j) = _
    rw [hF _ (by omega)]
    exact allF_part k z d i c hi j hj
  have hp : ∀ i, i ≤ c → scanP F i = tot z i := by
    intro i
    induction i with
    | zero => intro _; rfl
    | succ i ih =>
      intro hi
      show scanP F i + (12 + sizeOf' (sh F (scanP F i))) = tot z i + (12 + z i)
      rw [ih (by omega), (one i (by omega) (12 + z i) (Nat.le_refl _)).2.2.1]
  refine ⟨hp, fun i hi => ?_, fun i hi => ?_⟩
  · have h1 : tot z (i + 1) ≤ tot z c := tot_mono z (i + 1) c hi
    have h2 : tot z (i + 1) = tot z i + (12 + z i) := rfl
    rw [hp i (by omega)]
    exact ⟨by omega, (one i hi (n - tot z i) (by omega)).1⟩
  · rw [hp i (by omega)]
    exact (one i hi (12 + z i) (Nat.le_refl _)).2

/-- fewer than eight bytes behind the last one are none -/
theorem ends_short (F : Nat → Nat) (n c : Nat) (h : scanP F c ≤ n) (hs : n < scanP F c + 8) : Ends F n c (if scanP F c = n then 0 else 10) := by
  by_cases he : scanP F c = n
  · rw [if_pos he]; exact .inl ⟨he, rfl⟩
  · rw [if_neg he]
    refine .inr ⟨by omega, ?_, by decide⟩
    unfold derr
    rw [if_pos (by omega)]
end Go.Proofs.Ytgplannipnceeaa
