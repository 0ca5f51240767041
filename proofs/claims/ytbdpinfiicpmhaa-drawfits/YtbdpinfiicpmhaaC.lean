/-
  Contract of the reference's function over.
-/
import Derived.Test.YtbdpinfiicpmhaaA
import Derived.Test.YtbdpinfiicpmhaaRefMath
import Derived.LoopTactic
namespace Go.Proofs.Ytbdpinfiicpmhaa
open Go.ChangeShapes Go.WideShapes Go.ChangeAt Go.RowKit RefMath

theorem val_int {k : IntKind} {a b : Int} (h : a = b) : Value.int k a = .int k b := by rw [h]

theorem half_step (x k : Nat) (hx : x < 18446744073709551616) : IntKind.u64.wrap (((hf x k : Nat) : Int) / 2) = ((hf x (k + 1) : Nat) : Int) := by
  have := hf_le x k
  rw [hf_succ, IntKind.wrap_u64]; omega

theorem bt_step (k : Nat) : IntKind.u64.wrap (((bt k : Nat) : Int) * 2) = ((bt (k + 1) : Nat) : Int) := by
  rw [bt_succ, IntKind.wrap_u64]; omega

theorem ox_step (x y k : Nat) (hk : k < 64) (h : (((hf x k : Nat) : Int) % 2 != ((hf y k : Nat) : Int) % 2) = true) :
    IntKind.u64.wrap (((ox x y k : Nat) : Int) + ((bt k : Nat) : Int)) = ((ox x y (k + 1) : Nat) : Int) := by
  have h1 := ox_lt x y (k + 1) (by omega)
  have h2 := ox_diff x y k hk (by simp at h; omega)
  rw [h2] at h1 ⊢
  rw [IntKind.wrap_u64]; omega

theorem ox_stay (x y k : Nat) (h : (((hf x k : Nat) : Int) % 2 != ((hf y k : Nat) : Int) % 2) = false) :
    ((ox x y k : Nat) : Int) = ((ox x y (k + 1) : Nat) : Int) := by
  rw [ox_same x y k (by simp at h; omega)]

set_option maxHeartbeats 1000000 in
theorem over_any (x n : Nat) (w : World) (hx : x < 18446744073709551616) (hn : n ≤ 100) :
    Calls Try.prog 34 #[.int .u64 (x : Int), .int .i64 (n : Int)] w fun e w' => e = .returned (.int .u64 ((MixMath.over x n : Nat) : Int)) ∧ w = w' := by
  have HX := Lib.hid hx
  clear hx
  go_enter Try.func34, Try.ntmps34
  go_wp2
  go_loop [5, 6] (fun y i => ∃ k : Nat, k ≤ n ∧ i = .int .i64 (k : Int) ∧ y = .int .u64 ((hf x k : Nat) : Int)) (fun _ i => n - (intOf i).toNat)
  case atStart => exact ⟨0, Nat.zero_le _, rfl, by rw [hf_zero]⟩
  case round =>
    obtain ⟨k, hk, rfl, rfl⟩ := hrel
    by_cases hlt : k < n
    · go_wp2
      go_round
      case rel => exact ⟨k + 1, by omega, by go_num, val_int (half_step x k HX.out)⟩
      case measure => simp [intOf]; omega
    · obtain rfl : k = n := by omega
      go_wp2
      go_loop [0, 5, 7, 8, 9] (fun a y o b i => ∃ j : Nat, j ≤ 64 ∧ a = .int .u64 ((hf x j : Nat) : Int) ∧ y = .int .u64 ((hf (hf x k) j : Nat) : Int) ∧ o = .int .u64 ((ox x (hf x k) j : Nat) : Int) ∧ b = .int .u64 ((bt j : Nat) : Int) ∧ i = .int .i64 (j : Int)) (fun _ _ _ _ i => 64 - (intOf i).toNat)
      case atStart => exact ⟨0, by omega, by rw [hf_zero], by rw [hf_zero], by rw [ox_zero]; rfl, by rw [bt_zero]; rfl, rfl⟩
      case round =>
        obtain ⟨j, hj, rfl, rfl, rfl, rfl, rfl⟩ := hrel
        by_cases hlt : j < 64
        · go_wp2
          · have ht : (((hf x j : Nat) : Int) % 2 != ((hf (hf x k) j : Nat) : Int) % 2) = true := by assumption
            go_round
            case rel => exact ⟨j + 1, by omega, val_int (half_step x j HX.out), val_int (half_step (hf x k) j (Nat.lt_of_le_of_lt (hf_le x k) HX.out)), val_int (ox_step x _ j hlt ht), val_int (bt_step j), by go_num⟩
            case measure => simp [intOf]; omega
          · have ht : (((hf x j : Nat) : Int) % 2 != ((hf (hf x k) j : Nat) : Int) % 2) = false := by assumption
            go_round
            case rel => exact ⟨j + 1, by omega, val_int (half_step x j HX.out), val_int (half_step (hf x k) j (Nat.lt_of_le_of_lt (hf_le x k) HX.out)), val_int (ox_stay x _ j ht), val_int (bt_step j), by go_num⟩
            case measure => simp [intOf]; omega
        · obtain rfl : j = 64 := by omega
          go_wp2
          go_ret
          exact ⟨ret_int (by rw [over_eq x k HX.out]), rfl⟩
end Go.Proofs.Ytbdpinfiicpmhaa
