/-
  Plain facts on numbers: the mixing of 64 bits, that it is one to one, and how a draw is a share. No condition but those that stand in each line.
-/
namespace Go.Proofs.Ytbdpinfiicpmhaa.MixMath

/-- x laid over x / 2^k -/
def over (x k : Nat) : Nat := x ^^^ (x / 2 ^ k)

theorem over_lt (x k : Nat) (h : x < 2 ^ 64) : over x k < 2 ^ 64 :=
  Nat.xor_lt_two_pow h (Nat.lt_of_le_of_lt (Nat.div_le_self _ _) h)

theorem over_inj_aux (k : Nat) (hk : 0 < k) (x y : Nat) (hx : x < 2 ^ 64) (hy : y < 2 ^ 64) (h : over x k = over y k) :
    ∀ d i, 64 ≤ i + d → x.testBit i = y.testBit i := by
  intro d
  induction d using Nat.strongRecOn with
  | _ d ih =>
    intro i hi
    by_cases h64 : 64 ≤ i
    · rw [Nat.testBit_lt_two_pow (Nat.lt_of_lt_of_le hx (Nat.pow_le_pow_right (by decide) h64)),
        Nat.testBit_lt_two_pow (Nat.lt_of_lt_of_le hy (Nat.pow_le_pow_right (by decide) h64))]
    · have e : (over x k).testBit i = (over y k).testBit i := by rw [h]
      have f : x.testBit (i + k) = y.testBit (i + k) := ih (d - 1) (by omega) (i + k) (by omega)
      simp only [over, Nat.testBit_xor, Nat.testBit_div_two_pow] at e
      rw [f] at e
      revert e; cases x.testBit i <;> cases y.testBit i <;> cases y.testBit (i + k) <;> simp

theorem over_inj (k : Nat) (hk : 0 < k) (x y : Nat) (hx : x < 2 ^ 64) (hy : y < 2 ^ 64) (h : over x k = over y k) : x = y := by
  apply Nat.eq_of_testBit_eq
  intro i
  exact over_inj_aux k hk x y hx hy h 64 i (by omega)

theorem mul_inj (c d : Nat) (hcd : c * d % 2 ^ 64 = 1) (x y : Nat) (hx : x < 2 ^ 64) (hy : y < 2 ^ 64) (h : x * c % 2 ^ 64 = y * c % 2 ^ 64) : x = y := by
  have key : ∀ z, z < 2 ^ 64 → z * c % 2 ^ 64 * d % 2 ^ 64 = z := by
    intro z hz
    rw [Nat.mod_mul_mod, Nat.mul_assoc, Nat.mul_mod, hcd, Nat.mul_one, Nat.mod_mod, Nat.mod_eq_of_lt hz]
  rw [← key x hx, h, key y hy]

def stir (x : Nat) : Nat :=
  over (over (over x 30 * 0xbf58476d1ce4e5b9 % 2 ^ 64) 27 * 0x94d049bb133111eb % 2 ^ 64) 31

theorem stir_lt (x : Nat) : stir x < 2 ^ 64 := over_lt _ _ (Nat.mod_lt _ (by decide))

theorem stir_inj (x y : Nat) (hx : x < 2 ^ 64) (hy : y < 2 ^ 64) (h : stir x = stir y) : x = y := by
  unfold stir at h
  have h1 := over_inj 31 (by decide) _ _ (Nat.mod_lt _ (by decide)) (Nat.mod_lt _ (by decide)) h
  have h2 := mul_inj 0x94d049bb133111eb 0x319642b2d24d8ec3 (by decide) _ _ (over_lt _ _ (Nat.mod_lt _ (by decide))) (over_lt _ _ (Nat.mod_lt _ (by decide))) h1
  have h3 := over_inj 27 (by decide) _ _ (Nat.mod_lt _ (by decide)) (Nat.mod_lt _ (by decide)) h2
  have h4 := mul_inj 0xbf58476d1ce4e5b9 0x96de1b173f119089 (by decide) _ _ (over_lt _ _ hx) (over_lt _ _ hy) h3
  exact over_inj 30 (by decide) _ _ hx hy h4

theorem stir_one : stir 1 = 6238072747940578789 := by decide
theorem stir_step : stir 0x9e3779b97f4a7c15 = 16294208416658607535 := by decide
end Go.Proofs.Ytbdpinfiicpmhaa.MixMath
namespace Go.Proofs.Ytbdpinfiicpmhaa.MixMath
/-- the state behind a draw -/
def nxt (x : Nat) : Nat := (x + 0x9e3779b97f4a7c15) % 2 ^ 64
theorem nxt_lt (x : Nat) : nxt x < 2 ^ 64 := Nat.mod_lt _ (by decide)
theorem nxt_lt' (x : Nat) : nxt x < 18446744073709551616 := Nat.mod_lt _ (by decide)
theorem stir_lt' (x : Nat) : stir x < 18446744073709551616 := stir_lt x
theorem stir_zero : stir 0 = 0 := by decide
theorem head_draw : stir (nxt 0) = 16294208416658607535 := by decide
end Go.Proofs.Ytbdpinfiicpmhaa.MixMath
