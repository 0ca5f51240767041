/-
  Contracts of the reference's functions value and Get: bits at the front.
-/
import Derived.Test.YtaddmegghikhpaaBR0
namespace Go.Proofs.Ytaddmegghikhpaa
open Go.ChangeShapes Go.WideShapes Go.ChangeAt Go.RowKit

/-- bits in a slice, from place a of the bytes on -/
structure BS (w : World) (q o L a : Nat) (f : Nat → Nat) : Prop where
  lt : q < w.heap.size
  cb : ∀ j, j < L → w.cell? ⟨q, o + j, none⟩ = some (.int .u8 ((bitAt f (a + j) : Nat) : Int))

theorem BS.part {w : World} {q o L a : Nat} {f : Nat → Nat} (h : BS w q o L a f) (m k : Nat) (hk : m + k ≤ L) : BS w q (o + m) k (a + m) f :=
  ⟨h.lt, fun j hj => by rw [show o + m + j = o + (m + j) from by omega, show a + m + j = a + (m + j) from by omega]; exact h.cb (m + j) (by omega)⟩
theorem BS.front {w : World} {q o L a : Nat} {f : Nat → Nat} (h : BS w q o L a f) (k : Nat) (hk : k ≤ L) : BS w q o k a f := ⟨h.lt, fun j hj => h.cb j (by omega)⟩

theorem value_any (q o k cp a : Nat) (f : Nat → Nat) (w : World) (hk : k ≤ 64) (h : BS w q o k a f) :
    Calls Try.prog 45 #[.slice (some ⟨q, o, none⟩) k cp] w fun e w' => e = .returned (.int .u64 ((gv f a k : Nat) : Int)) ∧ w = w' := by
  have HB := Lib.hid h
  clear h
  go_enter Try.func45, Try.ntmps45
  go_wp2
  go_loopw [3, 5, 8] (fun x _ i wr => ∃ t : Nat, t ≤ k ∧ i = .int .i64 (t : Int) ∧ x = .int .u64 ((gv f a t : Nat) : Int) ∧ w = wr) (fun _ _ i _ => k - (intOf i).toNat)
  case atStart => exact ⟨0, Nat.zero_le _, rfl, rfl, rfl⟩
  case round =>
    obtain ⟨t, ht, rfl, rfl, rfl⟩ := hrel
    by_cases hlt : t < k
    · have c1 := HB.out.cb t hlt
      have hx : gv f a t < 9223372036854775808 := Nat.lt_of_lt_of_le (gv_lt f a t) (Nat.pow_le_pow_right (by decide) (by omega : t ≤ 63))
      have hb := bitAt_lt f (a + t)
      have HE : Hid (gv f a (t + 1) = 2 * gv f a t + bitAt f (a + t)) := Lib.hid rfl
      generalize gv f a t = x at *
      generalize bitAt f (a + t) = b at *
      go_wp2
      go_roundw
      case rel => exact ⟨t + 1, by omega, by go_num, val_int (by rw [HE.out]; omega), by first | rfl | trivial⟩
      case measure => simp [intOf]; omega
    · obtain rfl : t = k := by omega
      go_wp2
      go_ret
      exact ⟨rfl, rfl⟩

theorem rget_ok (q o L cp a : Nat) (f : Nat → Nat) (z : Int) (m : Nat) (w : World) (hm : wn z = m) (h : BS w q o L a f) (hl : m ≤ L) (hc : L ≤ cp) (hL : L ≤ 100000) :
    Calls Try.prog 32 #[.slice (some ⟨q, o, none⟩) L cp, .int .i64 z] w fun e w' => e = .returned (.tuple #[.int .u64 ((gv f a m : Nat) : Int), .int .i64 (m : Int), .int .i64 0]) ∧ w = w' := by
  have HB := Lib.hid h
  have hw := wn_le z
  rw [hm] at hw
  clear h
  by_cases h1 : z < 0
  · obtain rfl : m = 0 := by rw [← hm]; exact wn_neg z h1
    clear hm
    go_enter Try.func32, Try.ntmps32
    go_wp2_with fail
    refine (value_any q o 0 _ a f w (by omega) (HB.out.front 0 (by omega))).mono ?_
    rintro e w' ⟨rfl, rfl⟩
    go_wp2
    go_ret3
    exact ⟨rfl, rfl⟩
  · by_cases h2 : 64 < z
    · obtain rfl : m = 64 := by rw [← hm]; exact wn_top z h2
      clear hm
      go_enter Try.func32, Try.ntmps32
      go_wp2_with fail
      refine (value_any q o 64 _ a f w (by omega) (HB.out.front 64 (by omega))).mono ?_
      rintro e w' ⟨rfl, rfl⟩
      go_wp2
      go_ret3
      exact ⟨rfl, rfl⟩
    · obtain rfl : z = (m : Int) := by rw [← hm]; exact (wn_mid z (by omega) (by omega)).symm
      clear hm
      go_enter Try.func32, Try.ntmps32
      go_wp2_with fail
      refine (value_any q o m _ a f w (by omega) (HB.out.front m (by omega))).mono ?_
      rintro e w' ⟨rfl, rfl⟩
      go_wp2
      go_ret3
      exact ⟨rfl, rfl⟩

theorem rget_short (sp : Option Addr) (L cp : Nat) (z : Int) (m : Nat) (w : World) (hm : wn z = m) (hl : L < m) :
    Calls Try.prog 32 #[.slice sp L cp, .int .i64 z] w fun e w' => e = .returned (.tuple #[.int .u64 0, .int .i64 0, .int .i64 10]) ∧ w = w' := by
  have hw := wn_le z
  rw [hm] at hw
  by_cases h1 : z < 0
  · obtain rfl : m = 0 := by rw [← hm]; exact wn_neg z h1
    omega
  · by_cases h2 : 64 < z
    · obtain rfl : m = 64 := by rw [← hm]; exact wn_top z h2
      clear hm
      go_enter Try.func32, Try.ntmps32
      go_wp2
      go_ret3
      exact ⟨rfl, rfl⟩
    · obtain rfl : z = (m : Int) := by rw [← hm]; exact (wn_mid z (by omega) (by omega)).symm
      clear hm
      go_enter Try.func32, Try.ntmps32
      go_wp2
      go_ret3
      exact ⟨rfl, rfl⟩
end Go.Proofs.Ytaddmegghikhpaa
