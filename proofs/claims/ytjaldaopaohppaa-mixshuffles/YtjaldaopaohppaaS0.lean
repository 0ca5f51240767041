/-
  Plain facts on the shuffled list: which numbers it holds behind k steps, that each stands in it once. No condition but those that stand in each line.
-/
import Derived.Test.YtjaldaopaohppaaH
namespace Go.Proofs.Ytjaldaopaohppaa

/-- the state behind k draws -/
def nk (x : Nat) : Nat → Nat
  | 0 => x
  | k + 1 => MixMath.nxt (nk x k)

/-- the place that the k-th number is exchanged with -/
def dr (x k : Nat) : Nat := (drawn (nk x k) ((k : Int) + 1)).toNat

theorem dr_eq (x k : Nat) : drawn (nk x k) ((k : Int) + 1) = ((dr x k : Nat) : Int) := by
  have := drawn_nonneg (nk x k) ((k : Int) + 1); unfold dr; omega
theorem dr_le (x k : Nat) : dr x k ≤ k := by
  have := drawn_lt (nk x k) ((k : Int) + 1) (by omega); unfold dr; omega

/-- the list behind k steps -/
def sl (x : Nat) : Nat → Nat → Nat
  | 0 => fun _ => 0
  | k + 1 => upd (upd (sl x k) k (sl x k (dr x k))) (dr x k) k

theorem sl_succ (x k : Nat) : sl x (k + 1) = upd (upd (sl x k) k (sl x k (dr x k))) (dr x k) k := rfl

theorem sl_spec (x k : Nat) : (∀ j, j < k → sl x k j < k) ∧ (∀ i j, i < k → j < k → sl x k i = sl x k j → i = j) := by
  induction k with
  | zero => exact ⟨fun j h => by omega, fun i j h => by omega⟩
  | succ k ih =>
    obtain ⟨h1, h2⟩ := ih
    have hd := dr_le x k
    rw [sl_succ]
    generalize dr x k = d at hd
    generalize sl x k = f at h1 h2
    have key : ∀ j, j < k + 1 → upd (upd f k (f d)) d k j = if j = d then k else if j = k then f d else f j := by
      intro j _; unfold upd; rfl
    constructor
    · intro j hj
      rw [key j hj]
      by_cases e1 : j = d
      · rw [if_pos e1]; omega
      · rw [if_neg e1]
        by_cases e2 : j = k
        · rw [if_pos e2]; have := h1 d (by omega); omega
        · rw [if_neg e2]; have := h1 j (by omega); omega
    · intro i j hi hj e
      rw [key i hi, key j hj] at e
      by_cases a1 : i = d <;> by_cases b1 : j = d
      · omega
      · rw [if_pos a1, if_neg b1] at e
        by_cases b2 : j = k
        · rw [if_pos b2] at e; have := h1 d (by omega); omega
        · rw [if_neg b2] at e; have := h1 j (by omega); omega
      · rw [if_neg a1, if_pos b1] at e
        by_cases a2 : i = k
        · rw [if_pos a2] at e; have := h1 d (by omega); omega
        · rw [if_neg a2] at e; have := h1 i (by omega); omega
      · rw [if_neg a1, if_neg b1] at e
        by_cases a2 : i = k <;> by_cases b2 : j = k
        · omega
        · rw [if_pos a2, if_neg b2] at e
          have := h2 d j (by omega) (by omega) e; omega
        · rw [if_neg a2, if_pos b2] at e
          have := h2 i d (by omega) (by omega) e; omega
        · rw [if_neg a2, if_neg b2] at e
          exact h2 i j (by omega) (by omega) e

/-- which numbers were seen among the first k of f -/
def seenB (f : Nat → Nat) : Nat → Nat → Bool
  | 0 => fun _ => false
  | k + 1 => fun v => if v = f k then true else seenB f k v

theorem seenB_false (f : Nat → Nat) (k v : Nat) (h : ∀ j, j < k → ¬ f j = v) : seenB f k v = false := by
  induction k with
  | zero => rfl
  | succ k ih =>
    have e : seenB f (k + 1) v = if v = f k then true else seenB f k v := rfl
    rw [e, if_neg (fun e => h k (by omega) e.symm)]
    exact ih (fun j hj => h j (by omega))
end Go.Proofs.Ytjaldaopaohppaa
