/-
  Contracts of the reference's functions ReadNum and ReadInt: a number at the front, or why there is none.
-/
import Derived.Test.YtaddmegghikhpaaBR1
namespace Go.Proofs.Ytaddmegghikhpaa
open Go.ChangeShapes Go.WideShapes Go.ChangeAt Go.RowKit

/-- what the reference's ReadNum answers -/
def RNumPost (w : World) (n : Nat) (f : Nat → Nat) (a : Nat) (e : Ending) (w' : World) : Prop :=
  w = w' ∧
  ((∃ z, IsNum f n a z ∧ e = .returned (.tuple #[.int .u64 ((2 ^ z + gv f (a + z + 1) z - 1 : Nat) : Int), .int .i64 ((2 * z + 1 : Nat) : Int), .int .i64 0])) ∨
   (IsShort f n a ∧ e = .returned (.tuple #[.int .u64 0, .int .i64 0, .int .i64 10])) ∨ (IsForm f n a ∧ e = .returned (.tuple #[.int .u64 0, .int .i64 0, .int .i64 11])))

set_option maxHeartbeats 2000000 in
theorem rnum_any (q o L cp n a : Nat) (f : Nat → Nat) (w : World) (h : BS w q o L a f) (hc : L ≤ cp) (hL : a + L = 8 * n) :
    Calls Try.prog 31 #[.slice (some ⟨q, o, none⟩) L cp] w (RNumPost w n f a) := by
  have HB := Lib.hid h
  clear h
  go_enter Try.func31, Try.ntmps31
  go_wp2
  go_loopw [5] (fun i wr => ∃ k : Nat, k ≤ 64 ∧ k ≤ L ∧ i = .int .i64 (k : Int) ∧ w = wr ∧ Hid (∀ i, i < k → bitAt f (a + i) = 0)) (fun i _ => 65 - (intOf i).toNat)
  case atStart => exact ⟨0, by omega, by omega, rfl, rfl, Lib.hid (fun i hi => by omega)⟩
  case round =>
    obtain ⟨k, hk, hkL, rfl, rfl, HZ⟩ := hrel
    by_cases hlt : k < L
    · have c1 := HB.out.cb k hlt
      have hb := bitAt_lt f (a + k)
      obtain ⟨b, eb⟩ : ∃ b, b = bitAt f (a + k) := ⟨_, rfl⟩
      rw [← eb] at hb c1
      have HE := Lib.hid eb
      clear eb
      by_cases hb0 : b = 0
      · have b1 : ((b : Int) == 0) = true := by rw [hb0]; rfl
        have HZ2 : Hid (∀ i, i < k + 1 → bitAt f (a + i) = 0) := Lib.hid (fun i hi => by
          by_cases e : i = k
          · subst e; rw [← HE.out]; exact hb0
          · exact HZ.out i (by omega))
        clear hb0
        by_cases h64 : k = 64
        · subst h64
          have HF : Hid (IsForm f n a) := Lib.hid (.inl ⟨by omega, HZ2.out⟩)
          go_wp2
          go_ret3
          exact ⟨rfl, .inr (.inr ⟨HF.out, rfl⟩)⟩
        · have t1 : ¬ 64 < k + 1 := by omega
          have t2 : ¬ (64 : Int) < (k : Int) + 1 := by omega
          go_wp2
          go_roundw
          case rel => exact ⟨k + 1, by omega, by omega, by go_num, by first | rfl | trivial, HZ2⟩
          case measure => simp [intOf]; omega
      · have b1 : ((b : Int) == 0) = false := by rw [beq_eq_false_iff_ne]; omega
        have HL : Hid (Lead f n a k) := Lib.hid ⟨hk, HZ.out, by omega, by rw [← HE.out]; omega⟩
        clear hb0
        by_cases hs : L < 2 * k + 1
        · have HS : Hid (IsShort f n a) := Lib.hid (.inr ⟨k, HL.out, by omega⟩)
          go_wp2
          go_ret3
          exact ⟨rfl, .inr (.inl ⟨HS.out, rfl⟩)⟩
        · have HP := Lib.hid (HB.out.part (k + 1) k (by omega))
          rw [show a + (k + 1) = a + k + 1 from by omega] at HP
          by_cases h64 : k = 64
          · have b3 : ((k : Int) == 64) = true := by rw [h64]; rfl
            have t7 : ¬ cp = k + 1 := by omega
            have H64 := Lib.hid h64
            clear h64
            go_wp2_with fail
            rw [show 2 * k - k = k from by omega]
            refine (value_any q (o + (k + 1)) k _ (a + k + 1) f w hk HP.out).mono ?_
            rintro e w' ⟨rfl, rfl⟩
            by_cases hv : gv f (a + k + 1) k = 0
            · have HN : Hid (IsNum f n a k) := Lib.hid ⟨HL.out, by omega, fun _ => hv⟩
              have HV := Lib.hid hv
              have b2 : (((gv f (a + k + 1) k : Nat) : Int) != 0) = false := by rw [hv]; rfl
              clear hv
              obtain ⟨x, ex⟩ : ∃ x, x = gv f (a + k + 1) k := ⟨_, rfl⟩
              rw [← ex] at b2 ⊢
              have EX := Lib.hid ex
              clear ex
              go_wp2
              go_ret3
              exact ⟨rfl, .inl ⟨k, HN.out, by rw [HV.out, H64.out]; rfl⟩⟩
            · have HF : Hid (IsForm f n a) := Lib.hid (.inr (by have := H64.out; subst this; exact ⟨HL.out, by omega, hv⟩))
              have b2 : (((gv f (a + k + 1) k : Nat) : Int) != 0) = true := by simp; omega
              clear hv
              obtain ⟨x, ex⟩ : ∃ x, x = gv f (a + k + 1) k := ⟨_, rfl⟩
              rw [← ex] at b2 ⊢
              clear ex
              go_wp2
              go_ret3
              exact ⟨rfl, .inr (.inr ⟨HF.out, rfl⟩)⟩
          · have b3 : ((k : Int) == 64) = false := by rw [beq_eq_false_iff_ne]; omega
            have HN : Hid (IsNum f n a k) := Lib.hid ⟨HL.out, by omega, fun h => absurd h h64⟩
            by_cases hcp : cp = k + 1
            · obtain rfl : k = 0 := by omega
              obtain rfl : L = 1 := by omega
              subst hcp
              clear HP
              rw [Nat.add_zero] at c1
              rw [show ((0 : Nat) : Int) = 0 from rfl]
              go_wp2
              refine wp_loop_rounds 1 ?_
              rw [rounds_succ]
              go_wp2
              go_ret3
              exact ⟨rfl, .inl ⟨0, HN.out, rfl⟩⟩
            go_wp2
            rw [show 2 * k - k = k from by omega]
            go_loopw [7, 9, 45] (fun x _ i wr => ∃ t : Nat, t ≤ k ∧ i = .int .i64 (t : Int) ∧ x = .int .u64 ((2 ^ t + gv f (a + k + 1) t : Nat) : Int) ∧ w = wr) (fun _ _ i _ => k - (intOf i).toNat)
            case atStart => exact ⟨0, Nat.zero_le _, rfl, rfl, rfl⟩
            case round =>
              obtain ⟨t, ht, rfl, rfl, rfl⟩ := hrel
              by_cases hlt2 : t < k
              · have c2 := HP.out.cb t hlt2
                have hx : 2 ^ t + gv f (a + k + 1) t < 9223372036854775808 := by
                  have h1 := gv_lt f (a + k + 1) t
                  have h2 : 2 ^ t ≤ 2 ^ 62 := Nat.pow_le_pow_right (by decide) (by omega : t ≤ 62)
                  omega
                have hb2 := bitAt_lt f (a + k + 1 + t)
                have HE2 : Hid (2 ^ (t + 1) + gv f (a + k + 1) (t + 1) = 2 * (2 ^ t + gv f (a + k + 1) t) + bitAt f (a + k + 1 + t)) := Lib.hid (by
                  show 2 ^ (t + 1) + (2 * gv f (a + k + 1) t + bitAt f (a + k + 1 + t)) = _
                  rw [Nat.pow_succ]; omega)
                generalize 2 ^ t + gv f (a + k + 1) t = x at *
                generalize bitAt f (a + k + 1 + t) = b2 at *
                go_wp2
                go_roundw
                case rel => exact ⟨t + 1, by omega, by go_num, val_int (by rw [HE2.out]; omega), by first | rfl | trivial⟩
                case measure => simp [intOf]; omega
              · obtain rfl : t = k := by omega
                have hx : 0 < 2 ^ t + gv f (a + t + 1) t := by have := Nat.two_pow_pos t; omega
                have HX : Hid (((2 ^ t + gv f (a + t + 1) t - 1 : Nat) : Int) = ((2 ^ t + gv f (a + t + 1) t : Nat) : Int) - 1) := Lib.hid (by omega)
                have hx2 : 2 ^ t + gv f (a + t + 1) t < 18446744073709551616 := by
                  have h1 := gv_lt f (a + t + 1) t
                  have h2 : 2 ^ t ≤ 2 ^ 63 := Nat.pow_le_pow_right (by decide) (by omega : t ≤ 63)
                  omega
                obtain ⟨x, ex⟩ : ∃ x, x = 2 ^ t + gv f (a + t + 1) t := ⟨_, rfl⟩
                rw [← ex] at hx hx2 HX ⊢
                have EX := Lib.hid ex
                clear ex
                go_wp2
                go_ret3
                refine ⟨rfl, .inl ⟨t, HN.out, ?_⟩⟩
                rw [← EX.out, HX.out]
                rfl
    · obtain rfl : k = L := by omega
      have HS : Hid (IsShort f n a) := Lib.hid (.inl ⟨by omega, fun i hi => HZ.out i (by omega)⟩)
      have t3 : k < 2 * k + 1 := by omega
      go_wp2
      go_ret3
      exact ⟨rfl, .inr (.inl ⟨HS.out, rfl⟩)⟩
end Go.Proofs.Ytaddmegghikhpaa
