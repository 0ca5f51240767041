/-
  Contract of math/bits.Len64: how many bits a number has.
-/
import Derived.Test.YtaddmegghikhpaaBW4
import Derived.Lib.BitFns
import Derived.WalkLawsBesides
namespace Go.Proofs.Ytaddmegghikhpaa
open Go.ChangeShapes Go.WideShapes Go.ChangeAt Go.RowKit

theorem tab_size : Lib.len8tab.size = 256 := by decide +kernel
theorem tab_get (i : Nat) (h : i < Lib.len8tab.size) : (Lib.len8tab[i]'h).toNat = Lib.bitLen i := by
  have all : ∀ j : Fin 256, (Lib.len8tab[j.val]'(by rw [tab_size]; exact j.isLt)).toNat = Lib.bitLen j.val := by decide +kernel
  exact all ⟨i, by rw [← tab_size]; exact h⟩

/-- one way through Len64: k bits were cut off -/
theorem len_way (n m k v : Nat) (hv : v = Lib.bitLen m) (hn : n < 2 ^ 64) (e : m = n / 2 ^ k) (h2 : 2 ^ k ≤ n) (hk : k ≤ 56) (hm : m < 256) (K : Int) (hK : K = (k : Int)) :
    wrap64 (K + wrap64 (v : Int)) = ((Lib.bitLen n : Nat) : Int) := by
  have l : Lib.bitLen m ≤ 8 := Lib.bitLen_le m 8 (by decide) hm
  have s : Lib.bitLen n = k + Lib.bitLen m := by rw [e]; exact Lib.bitLen_shift k n h2 hn
  rw [s, ← hv]
  rw [← hv] at l
  unfold wrap64; omega

theorem len_way0 (m v : Nat) (hv : v = Lib.bitLen m) (hm : m < 256) : wrap64 (wrap64 (v : Int)) = ((Lib.bitLen m : Nat) : Int) := by
  have l : Lib.bitLen m ≤ 8 := Lib.bitLen_le m 8 (by decide) hm
  rw [← hv] at l ⊢
  unfold wrap64; omega

set_option maxRecDepth 1000000 in
set_option maxHeartbeats 1000000 in
theorem len64_int (x : Int) (w : World) (h0 : 0 ≤ x) (h1 : x ≤ 18446744073709551615) :
    Calls Try.prog 46 #[.int .u64 x] w fun e w' => e = .returned (.int .i64 ((Lib.bitLen x.toNat : Nat) : Int)) ∧ w = w' := by
  have hs := tab_size
  go_enter Try.func46, Try.ntmps46
  go_wp2
  all_goals go_ret
  all_goals refine ⟨ret_int ?_, rfl⟩
  · exact len_way x.toNat _ 56 _ (tab_get _ _) (by omega) (by omega) (by omega) (by omega) (by omega) _ rfl
  · exact len_way x.toNat _ 48 _ (tab_get _ _) (by omega) (by omega) (by omega) (by omega) (by omega) _ rfl
  · exact len_way x.toNat _ 40 _ (tab_get _ _) (by omega) (by omega) (by omega) (by omega) (by omega) _ rfl
  · exact len_way x.toNat _ 32 _ (tab_get _ _) (by omega) (by omega) (by omega) (by omega) (by omega) _ rfl
  · exact len_way x.toNat _ 24 _ (tab_get _ _) (by omega) (by omega) (by omega) (by omega) (by omega) _ rfl
  · exact len_way x.toNat _ 16 _ (tab_get _ _) (by omega) (by omega) (by omega) (by omega) (by omega) _ rfl
  · exact len_way x.toNat _ 8 _ (tab_get _ _) (by omega) (by omega) (by omega) (by omega) (by omega) _ rfl
  · exact len_way0 x.toNat _ (tab_get _ _) (by omega)
end Go.Proofs.Ytaddmegghikhpaa
