/-
  Contract of Patch.
-/
import Derived.Test.YtaefmncngcogkaaC
import Derived.Deep.RegionHeld3
import Derived.Laws.IdiomArrays
namespace Go.Proofs.Ytaefmncngcogkaa
open Go.ChangeShapes Go.WideShapes Go.ChangeAt Go.RowKit

theorem less_times (k want : Nat) : CrcMath.less (CrcMath.no (CrcMath.ib (8 * k) (CrcMath.no want))) 0 = CrcMath.no (CrcMath.ib (8 * (k + 1)) (CrcMath.no want)) := by
  unfold CrcMath.less
  rw [CrcMath.no_no, Nat.xor_zero, Nat.mul_add, CrcMath.ib_add]

def fourA (x : Nat) : Value := .agg #[.int .u8 ((CrcMath.four x 0 : Nat) : Int), .int .u8 ((CrcMath.four x 1 : Nat) : Int), .int .u8 ((CrcMath.four x 2 : Nat) : Int), .int .u8 ((CrcMath.four x 3 : Nat) : Int)]

theorem fourA_eq (p : Nat) : fourA p = .agg #[.int .u8 ((p : Int) % 256), .int .u8 ((p : Int) / 256 % 256), .int .u8 ((p : Int) / 65536 % 256), .int .u8 ((p : Int) / 16777216 % 256)] := by
  have e0 : ((CrcMath.four p 0 : Nat) : Int) = (p : Int) % 256 := by unfold CrcMath.four; simp
  have e1 : ((CrcMath.four p 1 : Nat) : Int) = (p : Int) / 256 % 256 := by unfold CrcMath.four; simp
  have e2 : ((CrcMath.four p 2 : Nat) : Int) = (p : Int) / 65536 % 256 := by unfold CrcMath.four; simp
  have e3 : ((CrcMath.four p 3 : Nat) : Int) = (p : Int) / 16777216 % 256 := by unfold CrcMath.four; simp
  unfold fourA
  rw [e0, e1, e2, e3]

set_option maxHeartbeats 1000000 in
theorem patch_any (s want : Nat) (w : World) (hs : s < 4294967296) (hw : want < 4294967296) :
    Calls Try.prog 17 #[.int .u32 (s : Int), .int .u32 (want : Int)] w fun e w' => e = .returned (fourA (CrcMath.patch s want)) ∧ Below w.heap.size w w' := by
  have HL := Lib.hid (CrcMath.no_lt hw)
  have HS := Lib.hid hs
  have HW := Lib.hid hw
  clear hs hw
  go_enter Try.func17, Try.ntmps17
  go_wp2
  go_loopw [5, 8] (fun x i wr => ∃ k : Nat, k ≤ 4 ∧ i = .int .i64 (k : Int) ∧ x = .int .u32 ((CrcMath.no (CrcMath.ib (8 * k) (CrcMath.no want)) : Nat) : Int) ∧ wr = w.alloc (.cells #[.int .u8 0, .int .u8 0, .int .u8 0, .int .u8 0] 32)) (fun _ i _ => 4 - (intOf i).toNat)
  case atStart => exact ⟨0, Nat.zero_le _, rfl, val_int (by rw [show CrcMath.ib (8 * 0) (CrcMath.no want) = CrcMath.no want from rfl, CrcMath.no_no]), rfl⟩
  case round =>
    obtain ⟨k, hk, rfl, rfl, rfl⟩ := hrel
    by_cases hlt : k < 4
    · have HK := Lib.hid (CrcMath.no_lt (CrcMath.ib_lt (8 * k) HL.out))
      have HE := Lib.hid (less_times k want)
      generalize CrcMath.no (CrcMath.ib (8 * k) (CrcMath.no want)) = x at *
      go_wp2_with fail
      refine (less_any x 0 _ HK.out (by decide)).mono ?_
      rintro e w' ⟨rfl, rfl⟩
      go_wp2
      go_roundw
      case rel => exact ⟨k + 1, by omega, by go_num, val_int (by rw [HE.out]), by first | rfl | trivial⟩
      case measure => simp [intOf]; omega
    · obtain rfl : k = 4 := by omega
      have HK := Lib.hid (CrcMath.no_lt (CrcMath.ib_lt (8 * 4) HL.out))
      have HE : Hid (s ^^^ CrcMath.no (CrcMath.ib (8 * 4) (CrcMath.no want)) = CrcMath.patch s want) := Lib.hid rfl
      have HPL := Lib.hid (CrcMath.patch_lt s want HS.out HW.out)
      generalize CrcMath.no (CrcMath.ib (8 * 4) (CrcMath.no want)) = x at *
      have hx := nx s x HS.out HK.out
      rw [HE.out] at hx
      obtain ⟨p, hp⟩ : ∃ p, p = CrcMath.patch s want := ⟨_, rfl⟩
      rw [← hp] at hx
      have HP := Lib.hid hp
      clear hp
      go_wp2
      refine bodyPost_ret (v := .agg #[.int .u8 ((p : Int) % 256), .int .u8 ((p : Int) / 256 % 256), .int .u8 ((p : Int) / 65536 % 256), .int .u8 ((p : Int) / 16777216 % 256)]) (by simp [results, Try.results17, go_sem]) rfl ⟨?_, (Below.refl _ _).alloc (Nat.le_refl _) _⟩
      rw [← HP.out, fourA_eq]
end Go.Proofs.Ytaefmncngcogkaa
