/-
  A change of up to four bytes side by side changes the sum.
-/
import Derived.Test.YtgplannipnceeaaR
namespace Go.Proofs.CrcMath

theorem num_shift (D : Nat → Nat) (a m : Nat) (h : ∀ j, j < a → D j = 0) : num D (a + m) = num (fun j => D (a + j)) m * 2 ^ (8 * a) := by
  have h0 : ∀ b, b ≤ a → num D b = 0 := by
    intro b
    induction b with
    | zero => intro _; rfl
    | succ b ih => intro hb; show num D b ^^^ D b * 2 ^ (8 * b) = 0; rw [ih (by omega), h b (by omega)]; simp
  induction m with
  | zero => show num D a = 0 * 2 ^ (8 * a); rw [h0 a (Nat.le_refl _), Nat.zero_mul]
  | succ m ih =>
    show num D (a + m) ^^^ D (a + m) * 2 ^ (8 * (a + m)) = (num (fun j => D (a + j)) m ^^^ D (a + m) * 2 ^ (8 * m)) * 2 ^ (8 * a)
    have e : (num (fun j => D (a + j)) m ^^^ D (a + m) * 2 ^ (8 * m)) * 2 ^ (8 * a) = num (fun j => D (a + j)) m * 2 ^ (8 * a) ^^^ D (a + m) * 2 ^ (8 * m) * 2 ^ (8 * a) := by
      rw [← Nat.shiftLeft_eq, ← Nat.shiftLeft_eq, ← Nat.shiftLeft_eq, ← Nat.shiftLeft_eq, Nat.shiftLeft_xor_distrib]
    rw [ih, e, Nat.mul_assoc, ← Nat.pow_add, show 8 * m + 8 * a = 8 * (a + m) by omega]
theorem num_few (D : Nat → Nat) (m : Nat) (hD : ∀ j, D j < 256) (h : ∀ j, 4 ≤ j → j < m → D j = 0) : num D m < 4294967296 := by
  rcases Nat.lt_or_ge 4 m with hm | hm
  · have e : ∀ b, 4 ≤ b → b ≤ m → num D b = num D 4 := by
      intro b
      induction b with
      | zero => intro h1; omega
      | succ b ih =>
        intro h1 h2
        by_cases h3 : b = 3
        · rw [h3]
        · show num D b ^^^ D b * 2 ^ (8 * b) = num D 4
          rw [ih (by omega) (by omega), h b (by omega) (by omega)]; simp
    rw [e m (by omega) (Nat.le_refl _)]
    exact num_lt D 4 fun j _ => hD j
  · exact Nat.lt_of_lt_of_le (num_lt D m fun j _ => hD j) (Nat.pow_le_pow_right (n := 2) (by decide) (by omega : 8 * m ≤ 32))

/-- bytes that differ within four bytes side by side have unlike sums -/
theorem more_window (s : Nat) (F G : Nat → Nat) (n a : Nat) (ha : a ≤ n) (hF : ∀ j, F j < 256) (hG : ∀ j, G j < 256) (hout : ∀ j, j < n → j < a ∨ a + 4 ≤ j → F j = G j) (h : more s F n = more s G n) : ∀ j, j < n → F j = G j := by
  have hr := no_inj h
  obtain ⟨m, rfl⟩ : ∃ m, n = a + m := ⟨n - a, by omega⟩
  have hx : num (fun j => F j ^^^ G j) (a + m) = num (fun j => F (a + j) ^^^ G (a + j)) m * 2 ^ (8 * a) :=
    num_shift (fun j => F j ^^^ G j) a m fun j hj => by show F j ^^^ G j = 0; rw [hout j (by omega) (.inl hj), Nat.xor_self]
  have hW : num (fun j => F (a + j) ^^^ G (a + j)) m < 4294967296 :=
    num_few _ m (fun j => Nat.xor_lt_two_pow (n := 8) (hF _) (hG _)) fun j h4 hj => by show F (a + j) ^^^ G (a + j) = 0; rw [hout (a + j) (by omega) (.inr (by omega)), Nat.xor_self]
  have hnum : num G (a + m) = num F (a + m) ^^^ num (fun j => F (a + j) ^^^ G (a + j)) m * 2 ^ (8 * a) := by
    rw [← hx, num_xor, ← Nat.xor_assoc, Nat.xor_self, Nat.zero_xor]
  have h0 := burst _ F G (a + m) (8 * a) _ (by omega) hW hnum hr
  rw [h0, Nat.zero_mul, Nat.xor_zero] at hnum
  exact num_inj F G (a + m) (fun j _ => hF j) (fun j _ => hG j) hnum.symm
end Go.Proofs.CrcMath
