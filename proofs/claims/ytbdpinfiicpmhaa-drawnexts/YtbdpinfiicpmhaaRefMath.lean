/-
  Plain facts on numbers for the reference's functions: halves, bits laid over one another, numbers as parts of 16 bits. No condition but those that stand in each line.
-/
import Derived.Test.YtbdpinfiicpmhaaMath
namespace Go.Proofs.Ytbdpinfiicpmhaa.RefMath

def hf (x k : Nat) : Nat := x / 2 ^ k
def bt (k : Nat) : Nat := 2 ^ k % 18446744073709551616
def ox (x y k : Nat) : Nat := (x ^^^ y) % 2 ^ k

theorem hf_zero (x : Nat) : hf x 0 = x := by simp [hf]
theorem bt_zero : bt 0 = 1 := by decide
theorem ox_zero (x y : Nat) : ox x y 0 = 0 := by simp [ox, Nat.mod_one]
theorem hf_succ (x k : Nat) : hf x (k + 1) = hf x k / 2 := by
  unfold hf; rw [Nat.pow_succ, Nat.div_div_eq_div_mul]
theorem hf_hf (x n k : Nat) : hf (hf x n) k = hf x (n + k) := by
  unfold hf; rw [Nat.div_div_eq_div_mul, Nat.pow_add]
theorem hf_le (x k : Nat) : hf x k ≤ x := Nat.div_le_self _ _
theorem bt_succ (k : Nat) : bt (k + 1) = bt k * 2 % 18446744073709551616 := by
  unfold bt; rw [Nat.pow_succ, Nat.mod_mul_mod]
theorem bt_lt (k : Nat) : bt k < 18446744073709551616 := Nat.mod_lt _ (by decide)
theorem bt_eq (k : Nat) (h : k < 64) : bt k = 2 ^ k := by
  unfold bt; exact Nat.mod_eq_of_lt (Nat.lt_of_lt_of_le (Nat.pow_lt_pow_right (by decide) h) (by decide))
theorem ox_lt (x y k : Nat) (h : k ≤ 64) : ox x y k < 18446744073709551616 :=
  Nat.lt_of_lt_of_le (Nat.mod_lt _ (Nat.two_pow_pos k)) (by show 2 ^ k ≤ 2 ^ 64; exact Nat.pow_le_pow_right (by decide) h)
theorem xor_bit (x y k : Nat) : (x ^^^ y) / 2 ^ k % 2 = (x / 2 ^ k % 2 + y / 2 ^ k % 2) % 2 := by
  have e1 : (x ^^^ y) / 2 ^ k = (x / 2 ^ k) ^^^ (y / 2 ^ k) := Nat.xor_div_two_pow
  rw [e1]
  generalize x / 2 ^ k = a
  generalize y / 2 ^ k = b
  have := @Nat.xor_mod_two_pow a b 1
  simp only [Nat.pow_one] at this
  rw [this]
  rcases Nat.mod_two_eq_zero_or_one a with h | h <;> rcases Nat.mod_two_eq_zero_or_one b with g | g <;> rw [h, g] <;> rfl
theorem ox_succ (x y k : Nat) : ox x y (k + 1) = ox x y k + 2 ^ k * ((x / 2 ^ k % 2 + y / 2 ^ k % 2) % 2) := by
  unfold ox; rw [Nat.mod_pow_succ, xor_bit]
theorem ox_same (x y k : Nat) (h : hf x k % 2 = hf y k % 2) : ox x y (k + 1) = ox x y k := by
  rw [ox_succ]; unfold hf at h; rw [h]
  rcases Nat.mod_two_eq_zero_or_one (y / 2 ^ k) with g | g <;> rw [g] <;> simp
theorem ox_diff (x y k : Nat) (hk : k < 64) (h : ¬ hf x k % 2 = hf y k % 2) : ox x y (k + 1) = ox x y k + bt k := by
  rw [ox_succ, bt_eq k hk]; unfold hf at h
  rcases Nat.mod_two_eq_zero_or_one (x / 2 ^ k) with f | f <;> rcases Nat.mod_two_eq_zero_or_one (y / 2 ^ k) with g | g <;> rw [f, g] at h ⊢ <;> simp at h ⊢
theorem ox_end (x y : Nat) (hx : x < 18446744073709551616) (hy : y < 18446744073709551616) : ox x y 64 = x ^^^ y := by
  unfold ox; exact Nat.mod_eq_of_lt (Nat.xor_lt_two_pow hx hy)
theorem over_eq (x n : Nat) (hx : x < 18446744073709551616) : ox x (hf x n) 64 = MixMath.over x n :=
  ox_end x _ hx (Nat.lt_of_le_of_lt (hf_le x n) hx)
end Go.Proofs.Ytbdpinfiicpmhaa.RefMath
