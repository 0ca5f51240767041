/-
  Contracts of the Reader's methods behind and Num: a number, or why there is none.
-/
import Derived.Test.YtaddmegghikhpaaBD
namespace Go.Proofs.Ytaddmegghikhpaa
open Go.ChangeShapes Go.WideShapes Go.ChangeAt Go.RowKit

theorem pow_wrap (z r : Nat) (hz : z ≤ 64) (hr : r < 2 ^ z) (h64 : z = 64 → r = 0) :
    IntKind.u64.wrap (IntKind.u64.wrap (IntKind.u64.wrap (2 ^ z) + (r : Int)) - 1) = ((2 ^ z + r - 1 : Nat) : Int) := by
  have e : ((2 : Int) ^ z) = ((2 ^ z : Nat) : Int) := by rw [Int.natCast_pow]; rfl
  rw [e]
  have hp := Nat.two_pow_pos z
  simp only [IntKind.wrap_u64]
  by_cases h : z = 64
  · have := h64 h; subst this; subst h; decide
  · have : 2 ^ z ≤ 2 ^ 63 := Nat.pow_le_pow_right (by decide) (by omega)
    generalize 2 ^ z = p at *
    omega

theorem wn_nat' (m : Nat) (h : m ≤ 64) : wn (m : Int) = m := by have := wn_mid (m : Int) (by omega) (by omega); omega

set_option maxHeartbeats 1000000 in
theorem behind_ok (w : World) (g rb n b z : Nat) (f : Nat → Nat) (h : RD w g rb n f b) (hz : z ≤ 64) (hl : b + z ≤ 8 * n) (h64 : z = 64 → gv f b z = 0) :
    Calls Try.prog 41 #[.pointer (some ⟨rb, 0, none⟩), .int .i64 (z : Int)] w fun e w' => e = .returned (.int .u64 ((2 ^ z + gv f b z - 1 : Nat) : Int)) ∧ RD w' g rb n f (b + z) ∧ w.grownBy w' (some rb) := by
  have HD := Lib.hid h
  have H64 := Lib.hid h64
  have HW := Lib.hid (pow_wrap z (gv f b z) hz (gv_lt f b z) h64)
  clear h h64
  go_enter Try.func41, Try.ntmps41
  go_wp2_with fail
  refine (get_ok w g rb n b f _ z (wn_nat' z hz) HD.out hl).mono ?_
  rintro e w1 ⟨rfl, hrd, hgr⟩
  have H1 := Lib.hid (⟨hrd, hgr⟩ : _ ∧ _)
  have c3 := hrd.c3
  clear hrd hgr
  by_cases hz64 : z = 64
  · have e0 := H64.out hz64
    have b1 : ((z : Int) == 64) = true := by rw [hz64]; rfl
    have b2 : (((gv f b z : Nat) : Int) != 0) = false := by rw [e0]; rfl
    have HZ := Lib.hid hz64
    clear hz64 e0
    go_wp2
    go_ret
    exact ⟨ret_int HW.out, H1.out.1, H1.out.2⟩
  · have b1 : ((z : Int) == 64) = false := by rw [beq_eq_false_iff_ne]; omega
    go_wp2
    go_ret
    exact ⟨ret_int HW.out, H1.out.1, H1.out.2⟩

set_option maxHeartbeats 1000000 in
theorem behind_short (w : World) (g rb n b z : Nat) (f : Nat → Nat) (h : RD w g rb n f b) (hz : z ≤ 64) (hl : 8 * n < b + z) :
    Calls Try.prog 41 #[.pointer (some ⟨rb, 0, none⟩), .int .i64 (z : Int)] w fun e w' => e = .returned (.int .u64 0) ∧ RS w' rb 10 ∧ w.grownBy w' (some rb) := by
  have HD := Lib.hid h
  clear h
  go_enter Try.func41, Try.ntmps41
  go_wp2_with fail
  refine (get_short w g rb n b f _ z (wn_nat' z hz) HD.out hl).mono ?_
  rintro e w1 ⟨rfl, hrs, hgr⟩
  have H1 := Lib.hid (⟨hrs, hgr⟩ : _ ∧ _)
  have c3 := hrs.c3
  clear hrs hgr
  go_wp2
  go_ret
  exact ⟨rfl, H1.out.1, H1.out.2⟩

set_option maxHeartbeats 1000000 in
theorem behind_form (w : World) (g rb n b : Nat) (f : Nat → Nat) (h : RD w g rb n f b) (hl : b + 64 ≤ 8 * n) (hr : ¬ gv f b 64 = 0) :
    Calls Try.prog 41 #[.pointer (some ⟨rb, 0, none⟩), .int .i64 64] w fun e w' => e = .returned (.int .u64 0) ∧ RS w' rb 11 ∧ w.grownBy w' (some rb) := by
  have HD := Lib.hid h
  have b2 : (((gv f b 64 : Nat) : Int) != 0) = true := by simp; omega
  clear h
  go_enter Try.func41, Try.ntmps41
  go_wp2_with fail
  refine (get_ok w g rb n b f 64 64 (by decide) HD.out hl).mono ?_
  rintro e w1 ⟨rfl, hrd, hgr⟩
  have H1 := Lib.hid (⟨hrd, hgr⟩ : _ ∧ _)
  have c3 := hrd.c3
  clear hrd hgr
  go_wp2_with fail
  refine (fail_any w1 g rb n (b + 64) f 11 H1.out.1).mono ?_
  rintro e w2 ⟨rfl, hrs, hgr⟩
  have H2 := Lib.hid (⟨hrs, grown_trans H1.out.2 hgr⟩ : _ ∧ _)
  clear hrs hgr
  go_wp2
  go_ret
  exact ⟨rfl, H2.out.1, H2.out.2⟩
end Go.Proofs.Ytaddmegghikhpaa
