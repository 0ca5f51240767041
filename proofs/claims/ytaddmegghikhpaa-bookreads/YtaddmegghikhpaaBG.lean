/-
  What was written is read as it was: contracts of Num and Int, of a writer and of a reader that meets its bits; and of End at the end.
-/
import Derived.Test.YtaddmegghikhpaaBN2
import Derived.Laws.DeepNot64
namespace Go.Proofs.Ytaddmegghikhpaa
open Go.ChangeShapes Go.WideShapes Go.ChangeAt Go.RowKit

theorem gv_of (f : Nat → Nat) (b y k m : Nat) (hm : m ≤ k) (h : ∀ t, t < m → bitAt f (b + t) = y / 2 ^ (k - 1 - t) % 2) : gv f b m = y / 2 ^ (k - m) % 2 ^ m := by
  induction m with
  | zero => rw [Nat.pow_zero, Nat.mod_one]; rfl
  | succ m ih =>
    show 2 * gv f b m + bitAt f (b + m) = _
    rw [ih (by omega) (fun t ht => h t (by omega)), h m (by omega)]
    have e1 : y / 2 ^ (k - m) = y / 2 ^ (k - (m + 1)) / 2 := by
      rw [Nat.div_div_eq_div_mul, ← Nat.pow_succ]; congr 2; omega
    rw [e1, show k - 1 - m = k - (m + 1) from by omega]
    generalize y / 2 ^ (k - (m + 1)) = u
    rw [Nat.pow_succ', Nat.mod_mul]; omega

/-- a reader before which a number's bits stand -/
theorem num_back (w : World) (g rb n a x : Nat) (f : Nat → Nat) (h : RD w g rb n f a) (hx : x < 18446744073709551616) (hb : ∀ i, i < 2 * nz x + 1 → bitAt f (a + i) = numBits x i) (hl : a + (2 * nz x + 1) ≤ 8 * n) :
    Calls Try.prog 25 #[.pointer (some ⟨rb, 0, none⟩)] w fun e w' => e = .returned (.int .u64 (x : Int)) ∧ RD w' g rb n f (a + (2 * nz x + 1)) ∧ w.grownBy w' (some rb) := by
  have hz := nz_le x hx
  have hb' : ∀ i, a + i < 8 * n → i ≤ nz x → bitAt f (a + i) = numBits x i := fun i _ h2 => hb i (by omega)
  refine (num_any w g rb n a f h).mono ?_
  rintro e w' ⟨hgr, hcase⟩
  rcases hcase with ⟨z, ⟨hl1, h2, _⟩, rfl, hrd⟩ | ⟨hs, _⟩ | ⟨hf, _⟩
  · obtain rfl : z = nz x := lead_nz hl1 hb'
    refine ⟨ret_int ?_, hrd, hgr⟩
    have e1 : gv f (a + nz x + 1) (nz x) = (x + 1) / 2 ^ (nz x - nz x) % 2 ^ nz x := gv_of f (a + nz x + 1) (x + 1) (nz x) (nz x) (Nat.le_refl _) (fun t ht => by
      have := hb (nz x + 1 + t) (by omega)
      rw [show a + (nz x + 1 + t) = a + nz x + 1 + t from by omega] at this
      rw [this]; unfold numBits; rw [if_neg (by omega)]; congr 3; omega)
    rw [e1, Nat.sub_self, Nat.pow_zero, Nat.div_one]
    obtain ⟨h1, h2⟩ := nz_spec x
    rw [Nat.pow_succ] at h2
    have e2 : (x + 1) % 2 ^ nz x = x + 1 - 2 ^ nz x := by
      rw [Nat.mod_eq_sub_mod h1, Nat.mod_eq_of_lt (by omega)]
    rw [e2]; omega
  · exfalso
    rcases hs with ⟨h1, h2⟩ | ⟨z, hl1, h2⟩
    · have := h2 (nz x) (by omega); rw [hb' _ (by omega) (Nat.le_refl _), numBits_lead] at this; omega
    · have := lead_nz hl1 hb'; omega
  · exfalso
    rcases hf with ⟨h1, h2⟩ | ⟨hl1, h2, h3⟩
    · have := h2 (nz x) (by omega); rw [hb' _ (by omega) (Nat.le_refl _), numBits_lead] at this; omega
    · have e64 := lead_nz hl1 hb'
      apply h3
      have e1 : gv f (a + 65) 64 = (x + 1) / 2 ^ (64 - 64) % 2 ^ 64 := gv_of f (a + 65) (x + 1) 64 64 (Nat.le_refl _) (fun t ht => by
        have := hb (65 + t) (by omega)
        rw [show a + (65 + t) = a + 65 + t from by omega] at this
        rw [this]; unfold numBits; rw [if_neg (by omega), ← e64]; congr 3; omega)
      have h4 := (nz_spec x).1
      rw [← e64] at h4
      rw [e1, show x + 1 = 2 ^ 64 from by omega]

/-- a number that may be below nought, as one that may not -/
def zig (x : Int) : Nat := if x < 0 then (-2 * x - 1).toNat else (2 * x).toNat

theorem zig_lt (x : Int) (h1 : -9223372036854775808 ≤ x) (h2 : x ≤ 9223372036854775807) : zig x < 18446744073709551616 := by
  unfold zig; split <;> omega

theorem not_u64 (x : Int) (h1 : -9223372036854775808 ≤ x) (h2 : x < 0) :
    bits BinOp.xor IntKind.u64 IntKind.u64.max (IntKind.u64.wrap (IntKind.u64.wrap x * 2)) = ((zig x : Nat) : Int) := by
  have e1 : IntKind.u64.wrap (IntKind.u64.wrap x * 2) = (((2 * x + 18446744073709551616).toNat : Nat) : Int) := by simp only [IntKind.wrap_u64]; omega
  have e2 : IntKind.u64.max = ((18446744073709551615 : Nat) : Int) := by decide
  rw [e1, e2, bits_xor_u64_nat _ _ (by decide) (by omega)]
  have e3 : ∀ m, m < 2 ^ 64 → 18446744073709551615 ^^^ m = 2 ^ 64 - (m + 1) := fun m hm => by
    rw [Nat.xor_comm]
    apply Nat.eq_of_testBit_eq
    intro i
    rw [Nat.testBit_xor, show (18446744073709551615 : Nat) = 2 ^ 64 - 1 from by decide, Nat.testBit_two_pow_sub_one, Nat.testBit_two_pow_sub_succ hm]
    by_cases hi : i < 64
    · simp [hi]
    · simp [hi, Nat.testBit_lt_two_pow (Nat.lt_of_lt_of_le hm (Nat.pow_le_pow_right (by decide) (by omega : 64 ≤ i)))]
  rw [e3 _ (by omega)]
  unfold zig; rw [if_pos h2]; omega

theorem filled_no (w : World) (g rb n a : Nat) (f : Nat → Nat) (h : RD w g rb n f a) (hl : 8 * n < a + 8) (he : ¬ a % 8 = 0 → f (a / 8) % 2 ^ (8 - a % 8) = 0) :
    Calls Try.prog 44 #[.pointer (some ⟨rb, 0, none⟩)] w fun e w' => e = .returned (.bool false) ∧ ∃ q, w' = w.drewN q := by
  have c0 := h.c0
  have c1 := h.c1
  have hat := h.hat
  have hn := h.hn
  by_cases hr : a % 8 = 0
  · have b1 : ((a : Int) % 8 != 0) = false := by simp; omega
    clear h
    go_enter Try.func44, Try.ntmps44
    go_wp2
    go_quiet (fail)
    go_wp2
    go_ret
    exact ⟨rfl, _, rfl⟩
  · have b1 : ((a : Int) % 8 != 0) = true := by simp; omega
    have hi : a / 8 < n := by omega
    have cb := h.cb (a / 8) hi
    have hb := h.hf (a / 8)
    have hz := he hr
    have ez : ((f (a / 8) : Nat) : Int) * 2 ^ (a % 8) % 256 = 0 := by
      obtain ⟨t, ht⟩ := Nat.dvd_of_mod_eq_zero hz
      have e2 : f (a / 8) * 2 ^ (a % 8) = 256 * t := by
        rw [ht, Nat.mul_assoc, Nat.mul_comm t, ← Nat.mul_assoc, ← Nat.pow_add, show 8 - a % 8 + a % 8 = 8 from by omega]
      have e3 : (((f (a / 8) : Nat) : Int) * 2 ^ (a % 8)) = ((f (a / 8) * 2 ^ (a % 8) : Nat) : Int) := by rw [Int.natCast_mul, Int.natCast_pow]; rfl
      rw [e3, e2]; omega
    generalize f (a / 8) = y at cb hb ez
    clear h hz he
    go_enter Try.func44, Try.ntmps44
    go_wp2
    go_quiet (fail)
    go_wp2
    go_ret
    exact ⟨rfl, _, rfl⟩

/-- End at the end: only noughts are left, fewer than 8 -/
theorem end_ok (w : World) (g rb n a : Nat) (f : Nat → Nat) (h : RD w g rb n f a) (hl : 8 * n < a + 8) (he : ¬ a % 8 = 0 → f (a / 8) % 2 ^ (8 - a % 8) = 0) :
    Calls Try.prog 29 #[.pointer (some ⟨rb, 0, none⟩)] w fun e w' => e = .returned (.int .i64 0) ∧ ∃ q, w.drewN q = w' := by
  have HD := Lib.hid h
  have HE := Lib.hid he
  have c3 := h.c3
  have hat := h.hat
  have hn := h.hn
  clear h he
  go_enter Try.func29, Try.ntmps29
  go_wp2_with fail
  refine (left_any w g rb n a f HD.out).mono ?_
  rintro e w1 ⟨rfl, q, rfl⟩
  have b1 : ¬ (8 : Int) ≤ ((8 * n - a : Nat) : Int) := by omega
  have b2 : ¬ 8 ≤ 8 * n - a := by omega
  go_wp2_with fail
  refine (filled_no _ g rb n a f (HD.out.drewN q) hl HE.out).mono ?_
  rintro e w2 ⟨rfl, q2, rfl⟩
  go_wp2
  go_ret
  exact ⟨rfl, _, rfl⟩
end Go.Proofs.Ytaddmegghikhpaa
