/-
  Contracts of math/bits.Mul64 and of package mix's method Below: the higher half of a product; a draw from 0 to n - 1.
-/
import Derived.Test.YtbdpinfiicpmhaaA
import Derived.Lib.Mul64
import Derived.Laws.Bits64b
namespace Go.Proofs.Ytbdpinfiicpmhaa
open Go.ChangeShapes Go.WideShapes Go.ChangeAt Go.RowKit

theorem maskN (a : Nat) (ha : a < 18446744073709551616) : bits .and .u64 (a : Int) 4294967295 = ((a % 4294967296 : Nat) : Int) := by
  have h := bits_and_u64_nat a 4294967295 ha (by omega)
  have e : a &&& 4294967295 = a % 4294967296 := Nat.and_two_pow_sub_one_eq_mod a 32
  rw [e] at h
  exact h
theorem divN (a : Nat) : (a : Int) / 4294967296 = ((a / 4294967296 : Nat) : Int) := by omega
theorem mulN (a b : Nat) : (a : Int) * (b : Int) = ((a * b : Nat) : Int) := (Int.natCast_mul a b).symm
theorem addN (a b : Nat) : (a : Int) + (b : Int) = ((a + b : Nat) : Int) := (Int.natCast_add a b).symm
theorem wrapN (a : Nat) (ha : a < 18446744073709551616) : IntKind.u64.wrap (a : Int) = (a : Int) := by rw [IntKind.wrap_u64]; omega
theorem wrapM (a : Nat) : IntKind.u64.wrap (a : Int) = ((a % 18446744073709551616 : Nat) : Int) := by rw [IntKind.wrap_u64]; omega

def lowp (x y : Nat) : Nat := x * y % 18446744073709551616

/-- the share of m that a draw d stands for -/
def share (d m : Nat) : Nat := d * m / 18446744073709551616

theorem share_lt (d m : Nat) (hd : d < 18446744073709551616) (hm : 0 < m) : share d m < m := by
  unfold share
  rw [Nat.div_lt_iff_lt_mul (by decide), Nat.mul_comm m]
  exact Nat.mul_lt_mul_of_pos_right hd hm

theorem share_le (d m : Nat) (hd : d < 18446744073709551616) : share d m ≤ m := by
  unfold share
  refine Nat.div_le_of_le_mul ?_
  exact Nat.mul_le_mul_right m (Nat.le_of_lt hd)

set_option maxHeartbeats 1000000 in
theorem mul64_any (x y : Nat) (hx : x < 18446744073709551616) (hy : y < 18446744073709551616) (w : World) :
    Calls Try.prog 26 #[.int .u64 (x : Int), .int .u64 (y : Int)] w fun e w' => e = .returned (.tuple #[.int .u64 ((share x y : Nat) : Int), .int .u64 ((lowp x y : Nat) : Int)]) ∧ w = w' := by
  obtain ⟨bd, bt, bw, hhi⟩ := Lib.mul64_hi x y hx hy
  have ba := Lib.half_mul_le (a := x / 4294967296) (b := y / 4294967296) (by omega) (by omega)
  have bb := Lib.half_mul_le (a := x / 4294967296) (b := y % 4294967296) (by omega) (by omega)
  have bc := Lib.half_mul_le (a := x % 4294967296) (b := y / 4294967296) (by omega) (by omega)
  have ba' : x / 4294967296 * (y / 4294967296) < 18446744073709551616 := by omega
  have bb' : x / 4294967296 * (y % 4294967296) < 18446744073709551616 := by omega
  have bc' : x % 4294967296 * (y / 4294967296) < 18446744073709551616 := by omega
  have bh1 : x / 4294967296 * (y / 4294967296) + (x / 4294967296 * (y % 4294967296) + x % 4294967296 * (y % 4294967296) / 4294967296) / 4294967296 < 18446744073709551616 := by omega
  have bh : x / 4294967296 * (y / 4294967296) + (x / 4294967296 * (y % 4294967296) + x % 4294967296 * (y % 4294967296) / 4294967296) / 4294967296 + ((x / 4294967296 * (y % 4294967296) + x % 4294967296 * (y % 4294967296) / 4294967296) % 4294967296 + x % 4294967296 * (y / 4294967296)) / 4294967296 < 18446744073709551616 := by omega
  go_enter Try.func26, Try.ntmps26
  go_wp2
  simp only [maskN x hx, maskN y hy, divN, mulN, addN, wrapN _ bd, wrapN _ bb', wrapN _ bt, maskN _ bt, wrapN _ bc', wrapN _ bw, wrapN _ ba', wrapN _ bh1, wrapN _ bh, wrapM (x * y)]
  rw [hhi]
  go_ret2
  exact ⟨rfl, rfl⟩

set_option maxHeartbeats 1000000 in
theorem below_pos (b o : Nat) (n m : Nat) (hm : m ≤ 9223372036854775807) (w : World) (hc : w.cell? ⟨b, o, none⟩ = some (.int .u64 (n : Int))) (hf : w.frozen? ⟨b, o, none⟩ = false) :
    Calls Try.prog 20 #[.pointer (some ⟨b, o, none⟩), .int .i64 (m : Int)] w fun e w' => e = .returned (.int .i64 ((share (MixMath.stir (MixMath.nxt n)) m : Nat) : Int)) ∧ w.setCell ⟨b, o, none⟩ (.int .u64 ((MixMath.nxt n : Nat) : Int)) = w' := by
  go_enter Try.func20, Try.ntmps20
  go_wp2_with fail
  refine (next_any _ _ n _ hc hf).mono ?_
  rintro e w' ⟨rfl, rfl⟩
  go_wp2_with fail
  refine (mul64_any _ m (MixMath.stir_lt' _) (by omega) _).mono ?_
  rintro e w' ⟨rfl, rfl⟩
  have hs := share_le (MixMath.stir (MixMath.nxt n)) m (MixMath.stir_lt' _)
  have hs' : share (MixMath.stir (MixMath.nxt n)) m ≤ 9223372036854775807 := by omega
  clear hs
  go_wp2
  go_ret
  exact ⟨rfl, rfl⟩

theorem mul64_by0 (x : Nat) (hx : x < 18446744073709551616) (w : World) :
    Calls Try.prog 26 #[.int .u64 (x : Int), .int .u64 0] w fun e w' => e = .returned (.tuple #[.int .u64 0, .int .u64 0]) ∧ w = w' := by
  have h := mul64_any x 0 hx (by decide) w
  have e0 : share x 0 = 0 := by unfold share; rw [Nat.mul_zero, Nat.zero_div]
  have e1 : lowp x 0 = 0 := by unfold lowp; rw [Nat.mul_zero, Nat.zero_mod]
  have e2 : ((0 : Nat) : Int) = 0 := rfl
  simp only [e0, e1, e2] at h
  exact h

set_option maxHeartbeats 1000000 in
theorem below_neg (b o : Nat) (n : Nat) (m : Int) (hm : m < 0) (w : World) (hc : w.cell? ⟨b, o, none⟩ = some (.int .u64 (n : Int))) (hf : w.frozen? ⟨b, o, none⟩ = false) :
    Calls Try.prog 20 #[.pointer (some ⟨b, o, none⟩), .int .i64 m] w fun e w' => e = .returned (.int .i64 0) ∧ w.setCell ⟨b, o, none⟩ (.int .u64 ((MixMath.nxt n : Nat) : Int)) = w' := by
  go_enter Try.func20, Try.ntmps20
  go_wp2_with fail
  refine (next_any _ _ n _ hc hf).mono ?_
  rintro e w' ⟨rfl, rfl⟩
  go_wp2_with fail
  refine (mul64_by0 _ (MixMath.stir_lt' _) _).mono ?_
  rintro e w' ⟨rfl, rfl⟩
  go_wp2
  go_ret
  exact ⟨rfl, rfl⟩
end Go.Proofs.Ytbdpinfiicpmhaa
