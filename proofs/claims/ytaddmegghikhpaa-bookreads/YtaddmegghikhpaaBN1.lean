/-
  Contracts of package bits' function noughts and of the Writer's method Num.
-/
import Derived.Test.YtaddmegghikhpaaBN0
import Derived.Test.YtaddmegghikhpaaBF
namespace Go.Proofs.Ytaddmegghikhpaa
open Go.ChangeShapes Go.WideShapes Go.ChangeAt Go.RowKit

/-- how many noughts stand ahead of a number -/
def nz (x : Nat) : Nat := Nat.log2 (x + 1)
theorem nz_spec (x : Nat) : 2 ^ nz x ≤ x + 1 ∧ x + 1 < 2 ^ (nz x + 1) := ⟨Nat.log2_self_le (by omega), Nat.lt_log2_self⟩
theorem nz_le (x : Nat) (h : x < 18446744073709551616) : nz x ≤ 64 := by
  have h1 := (nz_spec x).1
  rcases Nat.lt_or_ge 64 (nz x) with h2 | h2
  · have : 2 ^ 65 ≤ 2 ^ nz x := Nat.pow_le_pow_right (by decide) h2
    omega
  · exact h2
theorem nz_mono {x y : Nat} (h : x ≤ y) : nz x ≤ nz y := by
  have h1 := (nz_spec x).1
  have h2 := (nz_spec y).2
  rcases Nat.lt_or_ge (nz y) (nz x) with h3 | h3
  · have : 2 ^ (nz y + 1) ≤ 2 ^ nz x := Nat.pow_le_pow_right (by decide) h3
    omega
  · exact h3

theorem bitLen_nz (x : Nat) (h : x + 1 < 18446744073709551616) : Lib.bitLen (x + 1) = nz x + 1 := by
  obtain ⟨h1, h2⟩ := nz_spec x
  rw [Lib.bitLen_shift (nz x) (x + 1) h1 h]
  have e : (x + 1) / 2 ^ nz x = 1 := by
    rw [Nat.pow_succ] at h2
    have hp := Nat.two_pow_pos (nz x)
    exact (Nat.div_eq_iff hp).2 ⟨by omega, by omega⟩
  rw [e]; rfl

theorem inc_wrap (x : Nat) : IntKind.u64.wrap ((x : Int) + 1) = (((x + 1) % 18446744073709551616 : Nat) : Int) := by rw [IntKind.wrap_u64]; omega

theorem noughts_any (x : Nat) (w : World) (hx : x < 18446744073709551616) :
    Calls Try.prog 33 #[.int .u64 (x : Int)] w fun e w' => e = .returned (.int .i64 ((nz x : Nat) : Int)) ∧ w = w' := by
  by_cases h : x = 18446744073709551615
  · have e : IntKind.u64.wrap ((x : Int) + 1) = 0 := by rw [inc_wrap, h]; rfl
    have ez : nz x = 64 := by
      have h1 := nz_spec x
      have h2 := nz_le x hx
      rcases Nat.lt_or_ge (nz x) 64 with h3 | h3
      · have : 2 ^ (nz x + 1) ≤ 2 ^ 64 := Nat.pow_le_pow_right (by decide) h3
        omega
      · omega
    rw [ez]
    have E := Lib.hid e
    clear e ez h hx
    generalize hX : (x : Int) = X at E
    clear hX
    have e := E.out
    go_enter Try.func33, Try.ntmps33
    go_wp2
    go_ret
    exact ⟨rfl, rfl⟩
  · have hle : x + 1 < 18446744073709551616 := by omega
    have e : IntKind.u64.wrap ((x : Int) + 1) = ((x + 1 : Nat) : Int) := by rw [inc_wrap, Nat.mod_eq_of_lt hle]
    have b1 : (((x + 1 : Nat) : Int) == 0) = false := by rw [beq_eq_false_iff_ne]; omega
    have hl := len64_int ((x + 1 : Nat) : Int) w (by omega) (by omega)
    rw [Int.toNat_natCast, bitLen_nz x hle] at hl
    have HL := Lib.hid hl
    have hz := nz_le x hx
    generalize hX : ((x + 1 : Nat) : Int) = X at e b1 HL
    generalize hY : (x : Int) = Y at e
    clear hX hY hl h hle hx
    go_enter Try.func33, Try.ntmps33
    go_wp2_with fail
    refine HL.out.mono ?_
    rintro r w' ⟨rfl, rfl⟩
    go_wp2
    go_ret
    exact ⟨ret_int (by omega), rfl⟩
end Go.Proofs.Ytaddmegghikhpaa
