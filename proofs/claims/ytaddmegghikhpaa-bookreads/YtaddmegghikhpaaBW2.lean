/-
  Contract of the Writer's method Put: the lowest bits of a number, the highest of them first.
-/
import Derived.Test.YtaddmegghikhpaaBW1
namespace Go.Proofs.Ytaddmegghikhpaa
open Go.ChangeShapes Go.WideShapes Go.ChangeAt Go.RowKit

/-- what a writer has behind m bits more: those before, then those of B -/
def Wrote (w : World) (base wb : Nat) (v : Value) (F : Nat → Nat) (c m : Nat) (B : Nat → Nat) (w' : World) : Prop :=
  ∃ v' F', WR w' base wb v' F' (c + m) ∧ (∀ i, i < c → bitAt F' i = bitAt F i) ∧ (∀ i, i < m → bitAt F' (c + i) = B i) ∧ WStep wb w v.ownBlock w' v'.ownBlock

theorem shift_bit (x k : Nat) : bits .and .u8 ((x : Int) / 2 ^ k % 256) 1 = ((x / 2 ^ k % 2 : Nat) : Int) := by
  have e : ((x : Int) / 2 ^ k % 256) = ((x / 2 ^ k % 256 : Nat) : Int) := by rw [Int.natCast_emod, Int.natCast_ediv, Int.natCast_pow]; rfl
  rw [e]
  have h := u8_and_nat (x / 2 ^ k % 256) 1 (Nat.mod_lt _ (by decide)) (by decide)
  rw [nat_mask1] at h
  rw [show (x / 2 ^ k % 2) = x / 2 ^ k % 256 % 2 from by omega]
  exact h

theorem Wrote.bit {w w1 w2 : World} {base wb c k b : Nat} {v v1 v2 : Value} {F F1 : Nat → Nat} {B : Nat → Nat} (h1 : WR w1 base wb v1 F1 (c + k)) (a1 : ∀ i, i < c → bitAt F1 i = bitAt F i) (a2 : ∀ i, i < k → bitAt F1 (c + i) = B i)
    (s1 : WStep wb w v.ownBlock w1 v1.ownBlock) (hb : b < 2) (eb : b = B k) (h2 : WR w2 base wb v2 (putB F1 (c + k) b) (c + k + 1)) (s2 : WStep wb w1 v1.ownBlock w2 v2.ownBlock) : Wrote w base wb v F c (k + 1) B w2 := by
  obtain ⟨_, p2, p3⟩ := putB_spec F1 (c + k) b h1.ends hb
  refine ⟨v2, _, h2, fun i hi => by rw [p2 i (by omega), a1 i hi], fun i hi => ?_, s1.trans s2⟩
  by_cases e : i = k
  · subst e; rw [p3, eb]
  · rw [p2 _ (by omega), a2 i (by omega)]

set_option maxHeartbeats 1000000 in
theorem put_any (w : World) (base wb : Nat) (v : Value) (F : Nat → Nat) (c x : Nat) (z : Int) (m : Nat) (hm : wn z = m) (h : WR w base wb v F c) (hx : x < 18446744073709551616) (hc : c ≤ 900000) :
    Calls Try.prog 34 #[.pointer (some ⟨wb, 0, none⟩), .int .u64 (x : Int), .int .i64 z] w fun e w' => e = .returned (.tuple #[]) ∧ Wrote w base wb v F c m (fun i => x / 2 ^ (m - 1 - i) % 2) w' := by
  have HD := Lib.hid h
  have HM := Lib.hid hm
  have HX := Lib.hid hx
  have hw := wn_le z
  rw [hm] at hw
  clear h hm hx
  go_enter Try.func34, Try.ntmps34
  go_wp2_with fail
  refine (within_any z _).mono ?_
  rw [HM.out]
  rintro e w' ⟨rfl, rfl⟩
  go_wp2
  go_loopw [12] (fun i wr => ∃ k : Nat, k ≤ m ∧ i = .int .i64 (k : Int) ∧ Hid (Wrote w base wb v F c k (fun i => x / 2 ^ (m - 1 - i) % 2) wr)) (fun i _ => m - (intOf i).toNat)
  case atStart => exact ⟨0, Nat.zero_le _, rfl, Lib.hid ⟨v, F, HD.out, fun _ _ => rfl, fun i hi => by omega, WStep.refl _ _ _⟩⟩
  case round =>
    obtain ⟨k, hk, rfl, HA⟩ := hrel
    by_cases hlt : k < m
    · obtain ⟨v1, F1, h1, a1, a2, s1⟩ := HA.out
      have H1 := Lib.hid h1
      have H2 := Lib.hid (⟨a1, a2, s1⟩ : _ ∧ _ ∧ _)
      clear h1 a1 a2 s1
      obtain ⟨b, eb⟩ : ∃ b, b = x / 2 ^ (m - 1 - k) % 2 := ⟨_, rfl⟩
      have hb2 : b < 2 := by omega
      have HE := Lib.hid eb
      clear eb
      go_wp2_with fail
      rw [shift_bit x (m - 1 - k), ← HE.out]
      refine (wbit_any wr base wb v1 F1 (c + k) b H1.out hb2 (by omega)).mono ?_
      rintro e w2 ⟨rfl, v2, hw2, st2⟩
      have HW2 : Hid (Wrote w base wb v F c (k + 1) (fun i => x / 2 ^ (m - 1 - i) % 2) w2) := Lib.hid (Wrote.bit H1.out H2.out.1 H2.out.2.1 H2.out.2.2 hb2 HE.out hw2 st2)
      clear hw2 st2
      go_wp2
      go_roundw
      case rel => exact ⟨k + 1, by omega, by go_num, HW2⟩
      case measure => simp [intOf]; omega
    · obtain rfl : k = m := by omega
      go_wp2
      go_end0
      exact ⟨rfl, HA.out⟩
end Go.Proofs.Ytaddmegghikhpaa
