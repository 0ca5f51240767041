/-
  A line of nodes, and a ring: mathematics.
-/
import Derived.Test.YtcolcgkfppjflaaCj
namespace Go.Proofs.Ytcolcgkfppjflaa
open Go.ChangeShapes Go.WideShapes Go.ChangeAt Go.RowKit
set_option linter.unusedVariables false

/-- a line's pairs -/
def pL (i : Nat) : Int × Int := ((i : Int), ((i + 1 : Nat) : Int))
/-- a ring's -/
def pR (N : Nat) (i : Nat) : Int × Int := if i + 1 < N then pL i else (((N - 1 : Nat) : Int), 0)
theorem adj_pL (m i j : Nat) : adj pL m i j ↔ i < m ∧ j = i + 1 := by
  constructor
  · rintro ⟨k, hk, e⟩
    unfold pL at e
    injection e with e1 e2
    have : k = i := by exact_mod_cast e1
    subst this
    exact ⟨hk, by exact_mod_cast e2.symm⟩
  · rintro ⟨h, rfl⟩
    exact ⟨i, h, rfl⟩
theorem adj_pR (N i j : Nat) (hN : 0 < N) : adj (pR N) N i j ↔ i < N ∧ j = (i + 1) % N := by
  constructor
  · rintro ⟨k, hk, e⟩
    unfold pR at e
    by_cases h : k + 1 < N
    · rw [if_pos h] at e
      unfold pL at e
      injection e with e1 e2
      have : k = i := by exact_mod_cast e1
      subst this
      refine ⟨hk, ?_⟩
      rw [Nat.mod_eq_of_lt h]
      exact_mod_cast e2.symm
    · rw [if_neg h] at e
      injection e with e1 e2
      have h1 : N - 1 = i := by exact_mod_cast e1
      have h2 : j = 0 := by omega
      subst h2
      refine ⟨by omega, ?_⟩
      rw [show i + 1 = N by omega, Nat.mod_self]
  · rintro ⟨h, rfl⟩
    refine ⟨i, h, ?_⟩
    unfold pR
    by_cases h' : i + 1 < N
    · rw [if_pos h', Nat.mod_eq_of_lt h']
      rfl
    · rw [if_neg h', show i + 1 = N by omega, Nat.mod_self, show N - 1 = i by omega]
      rfl
theorem line_bld (N : Nat) : ∀ k, k ≤ N → Bld (adj pL (N - 1)) N (List.range k) := by
  intro k
  induction k with
  | zero => intro _; exact .nil
  | succ k ih =>
    intro hk
    rw [List.range_succ]
    refine .snoc (ih (by omega)) ⟨⟨by omega, by simp, fun u hu h => ?_⟩, fun u hu h => h.2.1 (by simpa using hu)⟩
    rw [adj_pL] at h
    simp
    omega
theorem line_ord (N : Nat) : OrdR (adj pL (N - 1)) N (List.range N) true := .inl ⟨rfl, line_bld N N (Nat.le_refl _), by simp⟩
theorem line_way {N i j : Nat} (hi : i < N) (hj : j < N) : Way (adj pL (N - 1)) N i j ↔ i < j := by
  constructor
  · intro h
    have h' : ∀ {i j}, Way (adj pL (N - 1)) N i j → i < j := by
      intro i j h
      induction h with
      | one _ _ h3 => rw [adj_pL] at h3; omega
      | more _ _ h3 ih => rw [adj_pL] at h3; omega
    exact h' h
  · intro h
    obtain ⟨d, rfl⟩ : ∃ d, j = i + 1 + d := ⟨j - (i + 1), by omega⟩
    clear h
    induction d with
    | zero => exact .one hi (by omega) ((adj_pL _ _ _).2 ⟨by omega, rfl⟩)
    | succ d ih => exact .more (ih (by omega)) hj ((adj_pL _ _ _).2 ⟨by omega, by omega⟩)
theorem line_cyc {N : Nat} {C : List Nat} (h : CyR (adj pL (N - 1)) N C) : C = [] := by
  have := either (line_ord N) h
  simp at this
  exact this
theorem ring_bk {N st x d : Nat} (hN : 0 < N) (hx : x < N) (hst : st < N) : Bk (adj (pR N) N) N st x d ↔ (x + d) % N = st := by
  constructor
  · intro h
    have h' : ∀ {x d}, Bk (adj (pR N) N) N st x d → (x + d) % N = st := by
      intro x d h
      induction h with
      | zero => rw [Nat.add_zero, Nat.mod_eq_of_lt hst]
      | @step x y d _ _ h3 _ ih =>
        rw [adj_pR N _ _ hN] at h3
        rw [← ih, h3.2, Nat.mod_add_mod]
        congr 1
        omega
    exact h' h
  · intro h
    induction d generalizing x with
    | zero =>
      rw [Nat.add_zero, Nat.mod_eq_of_lt hx] at h
      subst h
      exact .zero
    | succ d ih =>
      refine .step hx (Nat.mod_lt (x + 1) hN) ((adj_pR N _ _ hN).2 ⟨hx, rfl⟩) (ih (Nat.mod_lt (x + 1) hN) ?_)
      rw [Nat.mod_add_mod, ← h]
      congr 1
      omega
theorem round_mod {N s k : Nat} (hs : s < N) (hk : 0 < k) (hkN : k < N) : (s + k) % N ≠ s := by
  rcases Nat.lt_or_ge (s + k) N with h | h
  · rw [Nat.mod_eq_of_lt h]; omega
  · rw [Nat.mod_eq_sub_mod h, Nat.mod_eq_of_lt (by omega)]; omega
theorem ring_cl {N s k : Nat} (hN : 0 < N) (hs : s < N) (hk : 0 < k) : Cl (adj (pR N) N) N s k ↔ (s + k) % N = s := by
  constructor
  · rintro ⟨y, d, rfl, hy, ha, hb⟩
    rw [ring_bk hN hy hs] at hb
    rw [adj_pR N _ _ hN] at ha
    rw [ha.2, Nat.mod_add_mod] at hb
    rw [show s + (d + 1) = s + 1 + d by omega]
    exact hb
  · intro h
    refine ⟨(s + 1) % N, k - 1, by omega, Nat.mod_lt _ hN, (adj_pR N _ _ hN).2 ⟨hs, rfl⟩, ?_⟩
    rw [ring_bk hN (Nat.mod_lt _ hN) hs, Nat.mod_add_mod, show s + 1 + (k - 1) = s + k by omega]
    exact h
theorem range_getD (N i : Nat) (h : i < N) : (List.range N).getD i 0 = i := by
  rw [List.getD_eq_getElem?_getD, List.getElem?_range h]; rfl
theorem ring_cyc {N : Nat} (hN : 0 < N) : CyR (adj (pR N) N) N (List.range N) := by
  refine .inr ⟨0, hN, by simpa using hN, ?_, fun s k hs hk => ?_, fun s hs => absurd hs (Nat.not_lt_zero _), ?_⟩
  · rw [List.length_range, ring_cl hN hN hN, Nat.zero_add, Nat.mod_self]
  · rw [List.length_range] at hk
    rcases Nat.eq_zero_or_pos k with rfl | h0
    · rintro ⟨y, d, e, _⟩; omega
    · rw [ring_cl hN hs h0]
      exact round_mod hs h0 hk
  · rw [List.length_range]
    refine ⟨by simpa using hN, by simp, range_getD N 0 hN, fun i hi => ?_⟩
    rw [List.length_range] at hi
    rw [range_getD N i (by omega), range_getD N (i + 1) hi]
    refine ⟨(adj_pR N _ _ hN).2 ⟨by omega, (Nat.mod_eq_of_lt hi).symm⟩, hi, ⟨?_, fun d hd => ?_⟩, fun x hx hax _ => ?_⟩
    · rw [ring_bk hN hi hN, show i + 1 + (N - (i + 1)) = N by omega, Nat.mod_self]
    · rw [ring_bk hN hi hN, Nat.mod_eq_of_lt (by omega)]; omega
    · rw [adj_pR N _ _ hN] at hax
      rw [hax.2, Nat.mod_eq_of_lt hi]
      exact Nat.le_refl _
theorem rowA_ring (N : Nat) : rowA pL (N - 1) = rowA (pR N) (N - 1) := rowA_congr _ _ _ fun i hi => by unfold pR; rw [if_pos (by omega)]
theorem rowA_pR (N : Nat) (hN : 0 < N) : rowA pL (N - 1) ++ [.int .i64 ((N - 1 : Nat) : Int), .int .i64 0] = rowA (pR N) N := by
  obtain ⟨m, rfl⟩ : ∃ m, N = m + 1 := ⟨N - 1, by omega⟩
  rw [Nat.add_sub_cancel]
  show _ = rowA (pR (m + 1)) m ++ [.int .i64 (pR (m + 1) m).1, .int .i64 (pR (m + 1) m).2]
  have e : pR (m + 1) m = (((m : Nat) : Int), 0) := by unfold pR; rw [if_neg (by omega), Nat.add_sub_cancel]
  have := rowA_ring (m + 1)
  rw [Nat.add_sub_cancel] at this
  rw [e, this]
end Go.Proofs.Ytcolcgkfppjflaa
