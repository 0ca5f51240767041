/-
  Contract of the Reader's methods Num and Int: every way in which a number is there or isn't.
-/
import Derived.Test.YtaddmegghikhpaaBE
namespace Go.Proofs.Ytaddmegghikhpaa
open Go.ChangeShapes Go.WideShapes Go.ChangeAt Go.RowKit

/-- z noughts and a 1 stand from place a on -/
def Lead (f : Nat → Nat) (n a z : Nat) : Prop := z ≤ 64 ∧ (∀ i, i < z → bitAt f (a + i) = 0) ∧ a + z < 8 * n ∧ bitAt f (a + z) = 1
def IsNum (f : Nat → Nat) (n a z : Nat) : Prop := Lead f n a z ∧ a + (2 * z + 1) ≤ 8 * n ∧ (z = 64 → gv f (a + z + 1) z = 0)
def IsShort (f : Nat → Nat) (n a : Nat) : Prop := (8 * n ≤ a + 64 ∧ ∀ i, a + i < 8 * n → bitAt f (a + i) = 0) ∨ ∃ z, Lead f n a z ∧ 8 * n < a + (2 * z + 1)
def IsForm (f : Nat → Nat) (n a : Nat) : Prop := (a + 65 ≤ 8 * n ∧ ∀ i, i < 65 → bitAt f (a + i) = 0) ∨ (Lead f n a 64 ∧ a + 129 ≤ 8 * n ∧ ¬ gv f (a + 65) 64 = 0)

/-- what a reader's Num answers -/
def NumPost (w : World) (g rb n : Nat) (f : Nat → Nat) (a : Nat) (e : Ending) (w' : World) : Prop :=
  w.grownBy w' (some rb) ∧
  ((∃ z, IsNum f n a z ∧ e = .returned (.int .u64 ((2 ^ z + gv f (a + z + 1) z - 1 : Nat) : Int)) ∧ RD w' g rb n f (a + (2 * z + 1))) ∨
   (IsShort f n a ∧ e = .returned (.int .u64 0) ∧ RS w' rb 10) ∨ (IsForm f n a ∧ e = .returned (.int .u64 0) ∧ RS w' rb 11))

set_option maxHeartbeats 2000000 in
theorem num_any (w : World) (g rb n a : Nat) (f : Nat → Nat) (h : RD w g rb n f a) :
    Calls Try.prog 25 #[.pointer (some ⟨rb, 0, none⟩)] w (NumPost w g rb n f a) := by
  have HD := Lib.hid h
  have hat := h.hat
  have hn := h.hn
  clear h
  go_enter Try.func25, Try.ntmps25
  go_wp2
  go_loopw [3, 4] (fun _ i wr => ∃ k : Nat, k ≤ 65 ∧ i = .int .i64 (k : Int) ∧ a + k ≤ 8 * n ∧ Hid (RD wr g rb n f (a + k) ∧ w.grownBy wr (some rb) ∧ ∀ i, i < k → bitAt f (a + i) = 0)) (fun _ i _ => 65 - (intOf i).toNat)
  case atStart => exact ⟨0, by omega, rfl, by omega, Lib.hid ⟨HD.out, grown_refl _ _, fun i hi => by omega⟩⟩
  case round =>
    obtain ⟨k, hk, rfl, hak, HA⟩ := hrel
    by_cases hlt : k < 65
    · go_wp2_with fail
      refine (left_any wr g rb n (a + k) f HA.out.1).mono ?_
      rintro e w1 ⟨rfl, q, rfl⟩
      by_cases hend : a + k = 8 * n
      · have b1 : (((8 * n - (a + k) : Nat) : Int) == 0) = true := by rw [beq_iff_eq]; omega
        have HEnd := Lib.hid hend
        clear hend
        go_wp2_with fail
        refine (fail_any _ g rb n (a + k) f 10 (HA.out.1.drewN q)).mono ?_
        rintro e w2 ⟨rfl, hrs, hgr⟩
        have H2 : Hid (NumPost w g rb n f a (.returned (.int .u64 0)) w2) := Lib.hid ⟨grown_trans (grown_drewN HA.out.2.1 q) hgr, .inr (.inl ⟨.inl ⟨by have := HEnd.out; omega, fun i hi => HA.out.2.2 i (by have := HEnd.out; omega)⟩, rfl, hrs⟩)⟩
        clear hrs hgr
        go_wp2
        go_ret
        exact H2.out
      · have b1 : (((8 * n - (a + k) : Nat) : Int) == 0) = false := by rw [beq_eq_false_iff_ne]; omega
        go_wp2_with fail
        refine (bit_any _ g rb n (a + k) f (HA.out.1.drewN q) (by omega)).mono ?_
        rintro e w2 ⟨rfl, hrd, hgr⟩
        have H2 := Lib.hid (⟨hrd, grown_trans (grown_drewN HA.out.2.1 q) hgr⟩ : _ ∧ _)
        clear hrd hgr
        have hb := bitAt_lt f (a + k)
        obtain ⟨b, eb⟩ : ∃ b, b = bitAt f (a + k) := ⟨_, rfl⟩
        rw [← eb] at hb ⊢
        have HE := Lib.hid eb
        clear eb
        by_cases hb1 : b = 1
        · have b2 : ((b : Int) == 1) = true := by rw [hb1]; rfl
          have HL : Hid (k ≤ 64 → Lead f n a k) := Lib.hid (fun hk4 => ⟨hk4, HA.out.2.2, by omega, by rw [← HE.out]; exact hb1⟩)
          clear hb1
          by_cases h1 : a + k + 1 + k ≤ 8 * n
          · by_cases hf : k = 64 ∧ ¬ gv f (a + k + 1) k = 0
            · obtain ⟨rfl, hf⟩ := hf
              have HF := Lib.hid hf
              clear hf
              go_wp2_with fail
              refine (behind_form w2 g rb n (a + 64 + 1) f H2.out.1 (by omega) HF.out).mono ?_
              rintro e w3 ⟨rfl, hrs, hgr⟩
              have H3 : Hid (NumPost w g rb n f a (.returned (.int .u64 0)) w3) := Lib.hid ⟨grown_trans H2.out.2 hgr, .inr (.inr ⟨.inr ⟨HL.out (by omega), by omega, HF.out⟩, rfl, hrs⟩)⟩
              clear hrs hgr
              go_wp2
              go_ret
              exact H3.out
            · have HF : Hid (k = 64 → gv f (a + k + 1) k = 0) := Lib.hid (fun e => Classical.byContradiction fun c => hf ⟨e, c⟩)
              clear hf
              go_wp2_with fail
              refine (behind_ok w2 g rb n (a + k + 1) k f H2.out.1 (by omega) h1 HF.out).mono ?_
              rintro e w3 ⟨rfl, hrd, hgr⟩
              have H3 : Hid (NumPost w g rb n f a (.returned (.int .u64 ((2 ^ k + gv f (a + k + 1) k - 1 : Nat) : Int))) w3) := by
                rw [show a + k + 1 + k = a + (2 * k + 1) from by omega] at hrd
                exact Lib.hid ⟨grown_trans H2.out.2 hgr, .inl ⟨k, ⟨HL.out (by omega), by omega, HF.out⟩, rfl, hrd⟩⟩
              clear hrd hgr
              go_wp2
              go_ret
              exact H3.out
          · go_wp2_with fail
            refine (behind_short w2 g rb n (a + k + 1) k f H2.out.1 (by omega) (by omega)).mono ?_
            rintro e w3 ⟨rfl, hrs, hgr⟩
            have H3 : Hid (NumPost w g rb n f a (.returned (.int .u64 0)) w3) := Lib.hid ⟨grown_trans H2.out.2 hgr, .inr (.inl ⟨.inr ⟨k, HL.out (by omega), by omega⟩, rfl, hrs⟩)⟩
            clear hrs hgr
            go_wp2
            go_ret
            exact H3.out
        · have b2 : ((b : Int) == 1) = false := by rw [beq_eq_false_iff_ne]; omega
          have H3 : Hid (RD w2 g rb n f (a + (k + 1)) ∧ w.grownBy w2 (some rb) ∧ ∀ i, i < k + 1 → bitAt f (a + i) = 0) := Lib.hid ⟨H2.out.1, H2.out.2, fun i hi => by
            by_cases e : i = k
            · subst e; rw [← HE.out]; omega
            · exact HA.out.2.2 i (by omega)⟩
          clear hb1
          go_wp2
          go_roundw
          case rel => exact ⟨k + 1, by omega, by go_num, by omega, H3⟩
          case measure => simp [intOf]; omega
    · obtain rfl : k = 65 := by omega
      go_wp2_with fail
      refine (fail_any _ g rb n (a + 65) f 11 HA.out.1).mono ?_
      rintro e w2 ⟨rfl, hrs, hgr⟩
      have H2 : Hid (NumPost w g rb n f a (.returned (.int .u64 0)) w2) := Lib.hid ⟨grown_trans HA.out.2.1 hgr, .inr (.inr ⟨.inl ⟨by omega, HA.out.2.2⟩, rfl, hrs⟩)⟩
      clear hrs hgr
      go_wp2
      go_ret
      exact H2.out
end Go.Proofs.Ytaddmegghikhpaa
