/-
  Contracts of package mix's functions Stir, New, Next: what each answers, and what becomes of memory.
-/
import Derived.Test.YtbdpinfiicpmhaaRows
import Derived.Test.YtbdpinfiicpmhaaMath
import Derived.WalkKit
import Derived.ProofKit
import Derived.OpenShut
import Derived.Laws.Bits64
import Derived.Lib.Hide
namespace Go.Proofs.Ytbdpinfiicpmhaa
open Go.ChangeShapes Go.WideShapes Go.ChangeAt Go.RowKit

theorem ret_int {k : IntKind} {a b : Int} (h : a = b) : Ending.returned (.int k a) = .returned (.int k b) := by rw [h]

theorem ret_bool {b : Bool} (h : b = true) : Ending.returned (.bool b) = .returned (.bool true) := by rw [h]

theorem beq_cast_false {a b : Nat} (h : ¬ a = b) : ((a : Int) == (b : Int)) = false := by
  rw [beq_eq_false_iff_ne]; exact fun e => h (Int.ofNat_inj.mp e)

theorem over_step (X : Nat) (k : Nat) (s : Nat) (hs : 2 ^ k = s) (hX : X < 18446744073709551616) :
    bits .xor .u64 (X : Int) ((X : Int) / (s : Int)) = ((MixMath.over X k : Nat) : Int) := by
  subst hs; exact xorShift_u64 X _ hX

theorem mul_step (X C : Nat) : IntKind.u64.wrap ((X : Int) * (C : Int)) = ((X * C % 2 ^ 64 : Nat) : Int) := by
  rw [IntKind.wrap_u64, Int.natCast_emod, Int.natCast_mul]; rfl

theorem add_step (X C : Nat) : IntKind.u64.wrap ((X : Int) + (C : Int)) = (((X + C) % 2 ^ 64 : Nat) : Int) := by
  rw [IntKind.wrap_u64, Int.natCast_emod, Int.natCast_add]; rfl

theorem nxt_step (n : Nat) : IntKind.u64.wrap ((n : Int) + 11400714819323198485) = ((MixMath.nxt n : Nat) : Int) := add_step n _

theorem stir_eq (n : Nat) (hn : n < 18446744073709551616) :
    bits .xor .u64 (IntKind.u64.wrap (bits .xor .u64 (IntKind.u64.wrap (bits .xor .u64 (n : Int) ((n : Int) / 1073741824) * 13787848793156543929)) (IntKind.u64.wrap (bits .xor .u64 (n : Int) ((n : Int) / 1073741824) * 13787848793156543929) / 134217728) * 10723151780598845931))
      (IntKind.u64.wrap (bits .xor .u64 (IntKind.u64.wrap (bits .xor .u64 (n : Int) ((n : Int) / 1073741824) * 13787848793156543929)) (IntKind.u64.wrap (bits .xor .u64 (n : Int) ((n : Int) / 1073741824) * 13787848793156543929) / 134217728) * 10723151780598845931) / 2147483648)
      = ((MixMath.stir n : Nat) : Int) := by
  have a1 : bits .xor .u64 (n : Int) ((n : Int) / 1073741824) = ((MixMath.over n 30 : Nat) : Int) := over_step n 30 1073741824 (by decide) hn
  rw [a1]
  have a2 : IntKind.u64.wrap (((MixMath.over n 30 : Nat) : Int) * 13787848793156543929) = ((MixMath.over n 30 * 0xbf58476d1ce4e5b9 % 2 ^ 64 : Nat) : Int) := mul_step _ _
  rw [a2]
  generalize hm : MixMath.over n 30 * 0xbf58476d1ce4e5b9 % 2 ^ 64 = m
  have hm' : m < 18446744073709551616 := by rw [← hm]; exact Nat.mod_lt _ (by decide)
  have a3 : bits .xor .u64 (m : Int) ((m : Int) / 134217728) = ((MixMath.over m 27 : Nat) : Int) := over_step m 27 134217728 (by decide) hm'
  rw [a3]
  have a4 : IntKind.u64.wrap (((MixMath.over m 27 : Nat) : Int) * 10723151780598845931) = ((MixMath.over m 27 * 0x94d049bb133111eb % 2 ^ 64 : Nat) : Int) := mul_step _ _
  rw [a4]
  generalize hk : MixMath.over m 27 * 0x94d049bb133111eb % 2 ^ 64 = k
  have hk' : k < 18446744073709551616 := by rw [← hk]; exact Nat.mod_lt _ (by decide)
  have a5 : bits .xor .u64 (k : Int) ((k : Int) / 2147483648) = ((MixMath.over k 31 : Nat) : Int) := over_step k 31 2147483648 (by decide) hk'
  rw [a5, ← hk, ← hm]; rfl

set_option maxHeartbeats 400000 in
theorem stir_any (n : Nat) (w : World) (hn : n < 18446744073709551616) :
    Calls Try.prog 24 #[.int .u64 (n : Int)] w fun e w' => e = .returned (.int .u64 ((MixMath.stir n : Nat) : Int)) ∧ w = w' := by
  have H := Lib.hid hn
  clear hn
  go_enter Try.func24, Try.ntmps24
  go_wp2
  go_ret
  exact ⟨ret_int (stir_eq n H.out), rfl⟩

theorem new_any (n : Nat) (w : World) :
    Calls Try.prog 17 #[.int .u64 (n : Int)] w fun e w' => e = .returned (.pointer (some ⟨w.heap.size, 0, none⟩)) ∧ w.alloc (.cells #[.int .u64 (n : Int)] 51) = w' := by
  go_enter Try.func17, Try.ntmps17
  go_wp2
  go_ret
  exact ⟨rfl, rfl⟩

set_option maxHeartbeats 400000 in
theorem next_any (b o : Nat) (n : Nat) (w : World) (hc : w.cell? ⟨b, o, none⟩ = some (.int .u64 (n : Int))) (hf : w.frozen? ⟨b, o, none⟩ = false) :
    Calls Try.prog 25 #[.pointer (some ⟨b, o, none⟩)] w fun e w' => e = .returned (.int .u64 ((MixMath.stir (MixMath.nxt n) : Nat) : Int)) ∧ w.setCell ⟨b, o, none⟩ (.int .u64 ((MixMath.nxt n : Nat) : Int)) = w' := by
  go_enter Try.func25, Try.ntmps25
  go_wp2_with fail
  rw [nxt_step]
  refine (stir_any _ _ (MixMath.nxt_lt' n)).mono ?_
  rintro e w' ⟨rfl, rfl⟩
  go_wp2
  go_ret
  exact ⟨rfl, rfl⟩

theorem stir_at1 (w : World) : Calls Try.prog 24 #[.int .u64 1] w fun e w' => e = .returned (.int .u64 6238072747940578789) ∧ w = w' := by
  have h := stir_any 1 w (by decide)
  rw [MixMath.stir_one] at h
  exact h

theorem stir_at0 (w : World) : Calls Try.prog 24 #[.int .u64 0] w fun e w' => e = .returned (.int .u64 0) ∧ w = w' := by
  have h := stir_any 0 w (by decide)
  rw [MixMath.stir_zero] at h
  exact h

end Go.Proofs.Ytbdpinfiicpmhaa
