/-
  Plain facts on weights: their sums, and the first place whose sum is above a number. No condition but those that stand in each line.
-/
namespace Go.Proofs.Ytbdpinfiicpmhaa

/-- a weight, as it counts -/
def wt (z : Int) : Nat := if z < 0 then 0 else if 1048576 < z then 1048576 else z.toNat

theorem wt_le (z : Int) : wt z ≤ 1048576 := by unfold wt; split <;> (try split) <;> omega
theorem wt_neg (z : Int) (h : z < 0) : wt z = 0 := by unfold wt; rw [if_pos h]
theorem wt_mid (z : Int) (h : 0 ≤ z) (h' : z ≤ 1048576) : ((wt z : Nat) : Int) = z := by
  unfold wt; rw [if_neg (by omega), if_neg (by omega)]; omega
theorem wt_top (z : Int) (h : 1048576 < z) : wt z = 1048576 := by unfold wt; rw [if_neg (by omega), if_pos h]
theorem wt_pos (z : Int) (h : 0 < wt z) : 0 < z := by
  unfold wt at h; split at h
  · omega
  · split at h <;> omega

/-- the sum of the first k weights -/
def cum (g : Nat → Int) : Nat → Nat
  | 0 => 0
  | k + 1 => cum g k + wt (g k)

theorem cum_le (g : Nat → Int) (k : Nat) : cum g k ≤ 1048576 * k := by
  induction k with
  | zero => exact Nat.le_refl _
  | succ k ih => have := wt_le (g k); unfold cum; omega
theorem cum_mono (g : Nat → Int) (k d : Nat) : cum g k ≤ cum g (k + d) := by
  induction d with
  | zero => exact Nat.le_refl _
  | succ d ih => show cum g k ≤ cum g (k + d) + wt (g (k + d)); omega
theorem cum_mono' (g : Nat → Int) {k m : Nat} (h : k ≤ m) : cum g k ≤ cum g m := by
  obtain ⟨d, rfl⟩ := Nat.le.dest h; exact cum_mono g k d

/-- the first place among k whose sum is above x -/
def fnd (g : Nat → Int) (x : Nat) : Nat → Option Nat
  | 0 => none
  | k + 1 => match fnd g x k with
    | some i => some i
    | none => if x < cum g (k + 1) then some k else none

def place (g : Nat → Int) (x k : Nat) : Nat := (fnd g x k).getD 0
def found (g : Nat → Int) (x k : Nat) : Bool := (fnd g x k).isSome

theorem fnd_none (g : Nat → Int) (x k : Nat) (h : cum g k ≤ x) : fnd g x k = none := by
  induction k with
  | zero => rfl
  | succ k ih =>
    have h1 := cum_mono g k 1
    unfold fnd; rw [ih (by omega)]; simp; omega
theorem fnd_here (g : Nat → Int) (x k : Nat) (h : cum g k ≤ x) (h' : x < cum g (k + 1)) : fnd g x (k + 1) = some k := by
  unfold fnd; rw [fnd_none g x k h]; simp [h']
theorem fnd_stays (g : Nat → Int) (x k i d : Nat) (h : fnd g x k = some i) : fnd g x (k + d) = some i := by
  induction d with
  | zero => exact h
  | succ d ih => show fnd g x ((k + d) + 1) = some i; unfold fnd; rw [ih]
theorem fnd_iff (g : Nat → Int) (x k : Nat) : (fnd g x k).isSome = decide (x < cum g k) := by
  induction k with
  | zero => simp [fnd, cum]
  | succ k ih =>
    by_cases h : x < cum g k
    · have h1 := cum_mono g k 1
      rw [decide_eq_true h] at ih
      obtain ⟨i, hi⟩ := Option.isSome_iff_exists.mp ih
      rw [show fnd g x (k + 1) = some i from fnd_stays g x k i 1 hi, decide_eq_true (by omega)]; rfl
    · by_cases h' : x < cum g (k + 1)
      · rw [fnd_here g x k (by omega) h', decide_eq_true h']; rfl
      · rw [fnd_none g x (k + 1) (by omega), decide_eq_false h']; rfl

theorem place_here (g : Nat → Int) (x k m : Nat) (h : cum g k ≤ x) (h' : x < cum g (k + 1)) (hm : k < m) : place g x m = k := by
  obtain ⟨d, rfl⟩ := Nat.le.dest (show k + 1 ≤ m from hm)
  unfold place; rw [fnd_stays g x (k + 1) k d (fnd_here g x k h h')]; rfl
theorem place_none (g : Nat → Int) (x k : Nat) (h : cum g k ≤ x) : place g x k = 0 := by
  unfold place; rw [fnd_none g x k h]; rfl
theorem found_false (g : Nat → Int) (x k : Nat) (h : cum g k ≤ x) : found g x k = false := by
  unfold found; rw [fnd_none g x k h]; rfl
theorem found_true (g : Nat → Int) (x k : Nat) (h : x < cum g k) : found g x k = true := by
  unfold found; rw [fnd_iff, decide_eq_true h]
theorem place_stays (g : Nat → Int) (x k : Nat) (h : x < cum g k) : place g x (k + 1) = place g x k := by
  have e := fnd_iff g x k
  rw [decide_eq_true h] at e
  obtain ⟨i, hi⟩ := Option.isSome_iff_exists.mp e
  unfold place; rw [show fnd g x (k + 1) = some i from fnd_stays g x k i 1 hi, hi]
/-- the place that was found has weight -/
theorem place_spec (g : Nat → Int) (x k : Nat) (h : x < cum g k) : place g x k < k ∧ cum g (place g x k) ≤ x ∧ x < cum g (place g x k + 1) := by
  induction k with
  | zero => simp [cum] at h
  | succ k ih =>
    by_cases hk : x < cum g k
    · rw [place_stays g x k hk]; have := ih hk; exact ⟨by omega, this.2⟩
    · have e := place_here g x k (k + 1) (by omega) h (by omega)
      rw [e]; exact ⟨by omega, by omega, h⟩
theorem place_weight (g : Nat → Int) (x k : Nat) (h : x < cum g k) : 0 < g (place g x k) := by
  have ⟨_, h1, h2⟩ := place_spec g x k h
  have : cum g (place g x k + 1) = cum g (place g x k) + wt (g (place g x k)) := rfl
  exact wt_pos _ (by omega)
end Go.Proofs.Ytbdpinfiicpmhaa
