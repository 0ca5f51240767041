/-
  Contracts of package bits' function within and of the Reader's method Get.
-/
import Derived.Test.YtaddmegghikhpaaBB
namespace Go.Proofs.Ytaddmegghikhpaa
open Go.ChangeShapes Go.WideShapes Go.ChangeAt Go.RowKit

/-- how many bits at once -/
def wn (z : Int) : Nat := if z < 0 then 0 else if 64 < z then 64 else z.toNat
theorem wn_le (z : Int) : wn z ≤ 64 := by unfold wn; split <;> (try split) <;> omega
theorem wn_neg (z : Int) (h : z < 0) : wn z = 0 := by unfold wn; rw [if_pos h]
theorem wn_mid (z : Int) (h : 0 ≤ z) (h' : z ≤ 64) : ((wn z : Nat) : Int) = z := by unfold wn; rw [if_neg (by omega), if_neg (by omega)]; omega
theorem wn_top (z : Int) (h : 64 < z) : wn z = 64 := by unfold wn; rw [if_neg (by omega), if_pos h]

theorem within_any (z : Int) (w : World) :
    Calls Try.prog 47 #[.int .i64 z] w fun e w' => e = .returned (.int .i64 ((wn z : Nat) : Int)) ∧ w = w' := by
  by_cases h1 : z < 0
  · rw [wn_neg z h1]
    go_enter Try.func47, Try.ntmps47
    go_wp2
    go_ret
    exact ⟨rfl, rfl⟩
  · by_cases h2 : 64 < z
    · rw [wn_top z h2]
      go_enter Try.func47, Try.ntmps47
      go_wp2
      go_ret
      exact ⟨rfl, rfl⟩
    · rw [wn_mid z (by omega) (by omega)]
      go_enter Try.func47, Try.ntmps47
      go_wp2
      go_ret
      exact ⟨rfl, rfl⟩

/-- the number of the k bits from place a on -/
def gv (f : Nat → Nat) (a : Nat) : Nat → Nat
  | 0 => 0
  | k + 1 => 2 * gv f a k + bitAt f (a + k)
theorem bitAt_lt (f : Nat → Nat) (i : Nat) : bitAt f i < 2 := Nat.mod_lt _ (by decide)
theorem gv_lt (f : Nat → Nat) (a k : Nat) : gv f a k < 2 ^ k := by
  induction k with
  | zero => exact Nat.zero_lt_one
  | succ k ih => have := bitAt_lt f (a + k); unfold gv; rw [Nat.pow_succ]; omega

theorem gv_step (f : Nat → Nat) (a k b : Nat) (hk : k < 64) (hb : b = bitAt f (a + k)) :
    bits .or .u64 (IntKind.u64.wrap (((gv f a k : Nat) : Int) * 2)) (b : Int) = ((gv f a (k + 1) : Nat) : Int) := by
  have h1 := gv_lt f a k
  have h2 := bitAt_lt f (a + k)
  have h3 : 2 ^ k ≤ 2 ^ 63 := Nat.pow_le_pow_right (by decide) (by omega)
  have e1 : IntKind.u64.wrap (((gv f a k : Nat) : Int) * 2) = ((2 * gv f a k : Nat) : Int) := by rw [IntKind.wrap_u64]; omega
  rw [e1, u64_or_nat _ _ (by omega) (by omega), nat_join 1 _ _ (by omega) (by omega), hb]; rfl

set_option maxHeartbeats 1000000 in
theorem get_ok (w : World) (g rb n a : Nat) (f : Nat → Nat) (z : Int) (m : Nat) (hm : wn z = m) (h : RD w g rb n f a) (hz : a + m ≤ 8 * n) :
    Calls Try.prog 42 #[.pointer (some ⟨rb, 0, none⟩), .int .i64 z] w fun e w' => e = .returned (.int .u64 ((gv f a m : Nat) : Int)) ∧ RD w' g rb n f (a + m) ∧ w.grownBy w' (some rb) := by
  have HD := Lib.hid h
  have hat := h.hat
  have hn := h.hn
  have hw := wn_le z
  rw [hm] at hw
  have HM := Lib.hid hm
  clear hm
  clear h
  go_enter Try.func42, Try.ntmps42
  go_wp2_with fail
  refine (within_any z _).mono ?_
  rw [HM.out]
  rintro e w' ⟨rfl, rfl⟩
  go_wp2_with fail
  refine (left_any w g rb n a f HD.out).mono ?_
  rintro e w1 ⟨rfl, q, rfl⟩
  have ht : ¬ 8 * n - a < m := by omega
  have ht' : ¬ ((8 * n - a : Nat) : Int) < (m : Int) := by omega
  go_wp2
  go_loopw [5, 15] (fun x i wr => ∃ k : Nat, k ≤ m ∧ i = .int .i64 (k : Int) ∧ x = .int .u64 ((gv f a k : Nat) : Int) ∧ Hid (RD wr g rb n f (a + k) ∧ w.grownBy wr (some rb))) (fun _ i _ => m - (intOf i).toNat)
  case atStart => exact ⟨0, Nat.zero_le _, rfl, rfl, Lib.hid ⟨HD.out.drewN q, grown_drewN (grown_refl _ _) q⟩⟩
  case round =>
    obtain ⟨k, hk, rfl, rfl, HA⟩ := hrel
    by_cases hlt : k < m
    · go_wp2_with fail
      refine (bit_any wr g rb n (a + k) f HA.out.1 (by omega)).mono ?_
      rintro e w2 ⟨rfl, hrd, hgr⟩
      have HA2 : Hid (RD w2 g rb n f (a + (k + 1)) ∧ w.grownBy w2 (some rb)) := Lib.hid ⟨hrd, grown_trans HA.out.2 hgr⟩
      clear hrd hgr
      obtain ⟨b, hb⟩ : ∃ b, b = bitAt f (a + k) := ⟨_, rfl⟩
      have hb2 : b < 2 := by rw [hb]; exact bitAt_lt _ _
      rw [← hb]
      have HBB := Lib.hid hb
      clear hb
      go_wp2
      go_roundw
      case rel => exact ⟨k + 1, by omega, by go_num, val_int (gv_step f a k b (by omega) HBB.out), HA2⟩
      case measure => simp [intOf]; omega
    · obtain rfl : k = m := by omega
      go_wp2
      go_ret
      exact ⟨rfl, HA.out.1, HA.out.2⟩

set_option maxHeartbeats 1000000 in
theorem get_short (w : World) (g rb n a : Nat) (f : Nat → Nat) (z : Int) (m : Nat) (hm : wn z = m) (h : RD w g rb n f a) (hz : 8 * n < a + m) :
    Calls Try.prog 42 #[.pointer (some ⟨rb, 0, none⟩), .int .i64 z] w fun e w' => e = .returned (.int .u64 0) ∧ RS w' rb 10 ∧ w.grownBy w' (some rb) := by
  have HD := Lib.hid h
  have hat := h.hat
  have hn := h.hn
  have hw := wn_le z
  rw [hm] at hw
  have HM := Lib.hid hm
  clear hm
  clear h
  go_enter Try.func42, Try.ntmps42
  go_wp2_with fail
  refine (within_any z _).mono ?_
  rw [HM.out]
  rintro e w' ⟨rfl, rfl⟩
  go_wp2_with fail
  refine (left_any w g rb n a f HD.out).mono ?_
  rintro e w1 ⟨rfl, q, rfl⟩
  have ht : 8 * n - a < m := by omega
  have ht' : ((8 * n - a : Nat) : Int) < (m : Int) := by omega
  go_wp2_with fail
  refine (fail_any _ g rb n a f 10 (HD.out.drewN q)).mono ?_
  rintro e w2 ⟨rfl, hrs, hgr⟩
  have HA2 : Hid (RS w2 rb 10 ∧ w.grownBy w2 (some rb)) := Lib.hid ⟨hrs, grown_trans (grown_drewN (grown_refl _ _) q) hgr⟩
  clear hrs hgr
  go_wp2
  go_ret
  exact ⟨rfl, HA2.out.1, HA2.out.2⟩

set_option maxHeartbeats 1000000 in
theorem get_stop (w : World) (rb : Nat) (e z : Int) (h : RS w rb e) :
    Calls Try.prog 42 #[.pointer (some ⟨rb, 0, none⟩), .int .i64 z] w fun r w' => r = .returned (.int .u64 0) ∧ RS w' rb e ∧ w.grownBy w' (some rb) := by
  have HD := Lib.hid h
  have hw := wn_le z
  clear h
  go_enter Try.func42, Try.ntmps42
  go_wp2_with fail
  refine (within_any z _).mono ?_
  rintro r w' ⟨rfl, rfl⟩
  generalize wn z = m at *
  go_wp2_with fail
  refine (left_stop w rb e HD.out).mono ?_
  rintro r w1 ⟨rfl, q, rfl⟩
  by_cases hm : 0 < m
  · have ht : (0 : Int) < (m : Int) := by omega
    go_wp2_with fail
    refine (fail_stop _ rb e 10 (HD.out.drewN q)).mono ?_
    rintro r w2 ⟨rfl, rfl⟩
    go_wp2
    go_ret
    exact ⟨rfl, HD.out.drewN q, grown_drewN (grown_refl _ _) q⟩
  · obtain rfl : m = 0 := by omega
    go_wp2
    refine wp_loop_rounds 1 ?_
    rw [rounds_succ]
    go_wp2
    go_ret
    exact ⟨rfl, HD.out.drewN q, grown_drewN (grown_refl _ _) q⟩
end Go.Proofs.Ytaddmegghikhpaa
