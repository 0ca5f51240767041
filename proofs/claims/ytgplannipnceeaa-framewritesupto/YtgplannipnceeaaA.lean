/-
  Contracts of package crc's functions forth, More, Sum: what each answers; memory stays as it is.
-/
import Derived.Test.YtgplannipnceeaaRows
import Derived.Test.YtgplannipnceeaaMath
import Derived.WalkKit
import Derived.ProofKit
import Derived.OpenShut
import Derived.Laws.BitsAllLaws
import Derived.Laws.CopyOwn
import Derived.Laws.OwnMore
import Derived.Deep.OwnRows
import Derived.Deep.AppendLies
import Derived.Deep.QuietTactic
import Derived.BigQuiet
import Derived.OwnWalk
import Derived.Lib.Hide
import Derived.LoopTactic
import Derived.Handy
namespace Go.Proofs.Ytgplannipnceeaa
open Go.ChangeShapes Go.WideShapes Go.ChangeAt Go.RowKit

theorem ret_int {k : IntKind} {a b : Int} (h : a = b) : Ending.returned (.int k a) = .returned (.int k b) := by rw [h]
theorem val_int {k : IntKind} {a b : Int} (h : a = b) : Value.int k a = .int k b := by rw [h]
theorem ret_bool {b : Bool} (h : b = true) : Ending.returned (.bool b) = .returned (.bool true) := by rw [h]

theorem nx (a b : Nat) (ha : a < 4294967296) (hb : b < 4294967296) : bits .xor .u32 (a : Int) (b : Int) = ((a ^^^ b : Nat) : Int) := u32_xor_nat a b ha hb

theorem forth_eq (n : Nat) (hn : n < 4294967296) :
    bits BinOp.xor IntKind.u32 (↑n / 2) (bits BinOp.and IntKind.u32 2197175160 (-bits BinOp.and IntKind.u32 (↑n) 1 % 4294967296)) = ((CrcMath.fwd n : Nat) : Int) := by
  have h1 : bits BinOp.and IntKind.u32 (n : Int) 1 = ((n % 2 : Nat) : Int) := (u32_and_nat n 1 hn (by decide)).trans (by rw [Nat.and_one_is_mod])
  have h2 : (n : Int) / 2 = ((n / 2 : Nat) : Int) := by omega
  rw [h1, h2]
  unfold CrcMath.fwd
  rcases Nat.mod_two_eq_zero_or_one n with h | h
  · rw [h]
    have e : bits BinOp.and IntKind.u32 2197175160 (-((0 : Nat) : Int) % 4294967296) = ((0 : Nat) : Int) := by decide
    rw [e, nx _ _ (by omega) (by decide)]; rfl
  · rw [h]
    have e : bits BinOp.and IntKind.u32 2197175160 (-((1 : Nat) : Int) % 4294967296) = ((CrcMath.P : Nat) : Int) := by decide
    rw [e, nx _ _ (by omega) (by decide)]; rfl

theorem forth_any (n : Nat) (w : World) (hn : n < 4294967296) :
    Calls Try.prog 29 #[.int .u32 (n : Int)] w fun e w' => e = .returned (.int .u32 ((CrcMath.fwd n : Nat) : Int)) ∧ w = w' := by
  have H := Lib.hid hn
  clear hn
  go_enter Try.func29, Try.ntmps29
  go_wp2
  go_ret
  exact ⟨ret_int (forth_eq n H.out), rfl⟩

/-- where a slice of bytes lies: nothing is said of an empty one -/
def Src (w : World) (sp : Option Addr) (n : Nat) (f : Nat → Nat) : Prop :=
  0 < n → ∃ ad, sp = some ad ∧ ad.block < w.heap.size ∧ ∀ j, j < n → w.cell? (ad.add j) = some (.int .u8 ((f j : Nat) : Int))

theorem block_add (a : Addr) (n : Nat) : (a.add n).block = a.block := by unfold Addr.add; split <;> rfl

theorem Src.below {w w' : World} {sp : Option Addr} {n : Nat} {f : Nat → Nat} (h : Src w sp n f) (hb : Below w.heap.size w w') : Src w' sp n f := by
  intro hn
  obtain ⟨ad, e, hlt, hc⟩ := h hn
  exact ⟨ad, e, Nat.lt_of_lt_of_le hlt hb.size, fun j hj => (hb.cell (by rw [block_add]; exact hlt)).trans (hc j hj)⟩

theorem no_eq (n : Nat) (hn : n < 4294967296) : bits .xor .u32 4294967295 (n : Int) = ((CrcMath.no n : Nat) : Int) := (nx 4294967295 n (by decide) hn).trans (by rw [Nat.xor_comm]; rfl)

set_option maxHeartbeats 1000000 in
theorem more_any (s : Nat) (sp : Option Addr) (n cap : Nat) (f : Nat → Nat) (w : World) (hs : s < 4294967296) (hn : n ≤ 1000000) (hf : ∀ j, j < n → f j < 256) (hsr : Src w sp n f) :
    Calls Try.prog 27 #[.int .u32 (s : Int), .slice sp n cap] w fun e w' => e = .returned (.int .u32 ((CrcMath.more s f n : Nat) : Int)) ∧ w = w' := by
  have HS := Lib.hid hsr
  have HF := Lib.hid hf
  have HN := Lib.hid (no_eq s hs)
  have HL := Lib.hid (CrcMath.no_lt hs)
  have HM : Hid (CrcMath.more s f n = CrcMath.no (CrcMath.reg (CrcMath.no s) f n)) := Lib.hid rfl
  generalize CrcMath.no s = r at *
  clear hsr hf hs
  go_enter Try.func27, Try.ntmps27
  go_wp2
  go_loopw [5, 7, 12, 20] (fun x _ i _ wr => ∃ t : Nat, t ≤ n ∧ i = .int .i64 (t : Int) ∧ x = .int .u32 ((CrcMath.reg r f t : Nat) : Int) ∧ w = wr) (fun _ _ i _ _ => n - (intOf i).toNat)
  case atStart => exact ⟨0, Nat.zero_le _, rfl, val_int HN.out, rfl⟩
  case round =>
    obtain ⟨t, ht, rfl, rfl, rfl⟩ := hrel
    have HT := Lib.hid (CrcMath.reg_lt r f t HL.out fun j hj => HF.out j (by omega))
    by_cases hlt : t < n
    · obtain ⟨ad, rfl, hadlt, hadc⟩ := HS.out (by omega)
      obtain ⟨b, off, spot⟩ := ad
      have h0 := hadc 0 (by omega)
      have hspot : spot = none := by simpa [Addr.add] using World.cell?_spot h0
      subst hspot
      have c1 := hadc t hlt
      rw [Go.WideShapes.add_plain] at c1
      have hy := HF.out t hlt
      have HE : Hid (CrcMath.reg r f (t + 1) = CrcMath.it 8 (CrcMath.reg r f t ^^^ f t)) := Lib.hid rfl
      generalize CrcMath.reg r f t = x at *
      generalize f t = c at *
      have HX := Lib.hid (nx x c HT.out (by omega))
      have HXL := Lib.hid (CrcMath.xor_lt32 HT.out (by omega : c < 4294967296))
      generalize x ^^^ c = y at *
      clear h0 hadc
      go_wp2
      go_loopw [5, 20] (fun x i wr => ∃ k : Nat, k ≤ 8 ∧ i = .int .i64 (k : Int) ∧ x = .int .u32 ((CrcMath.it k y : Nat) : Int) ∧ w = wr) (fun _ i _ => 8 - (intOf i).toNat)
      case atStart => exact ⟨0, Nat.zero_le _, rfl, val_int HX.out, rfl⟩
      case round =>
        obtain ⟨k, hk, rfl, rfl, rfl⟩ := hrel
        have HK := Lib.hid (CrcMath.it_lt k HXL.out)
        have HKE := Lib.hid (CrcMath.it_succ' k y)
        by_cases hlt8 : k < 8
        · generalize CrcMath.it k y = z at *
          go_wp2_with fail
          refine (forth_any z _ HK.out).mono ?_
          rintro e w' ⟨rfl, rfl⟩
          go_wp2
          go_roundw
          case rel => exact ⟨k + 1, by omega, by go_num, val_int (by rw [HKE.out]), by first | rfl | trivial⟩
          case measure => simp [intOf]; omega
        · obtain rfl : k = 8 := by omega
          generalize CrcMath.it 8 y = z at *
          go_wp2
          go_roundw
          case rel => exact ⟨t + 1, by omega, by go_num, val_int (by rw [HE.out]), by first | rfl | trivial⟩
          case measure => simp [intOf]; omega
    · obtain rfl : t = n := by omega
      have HNO := Lib.hid (no_eq _ HT.out)
      generalize CrcMath.reg r f t = x at *
      go_wp2
      go_ret
      exact ⟨ret_int (by rw [HM.out]; exact HNO.out), rfl⟩

theorem sum_any (sp : Option Addr) (n cap : Nat) (f : Nat → Nat) (w : World) (hn : n ≤ 1000000) (hf : ∀ j, j < n → f j < 256) (hsr : Src w sp n f) :
    Calls Try.prog 22 #[.slice sp n cap] w fun e w' => e = .returned (.int .u32 ((CrcMath.more 0 f n : Nat) : Int)) ∧ w = w' := by
  have HS := Lib.hid hsr
  have HF := Lib.hid hf
  clear hsr hf
  go_enter Try.func22, Try.ntmps22
  go_wp2_with fail
  refine (more_any 0 sp n cap f w (by decide) hn HF.out HS.out).mono ?_
  rintro e w' ⟨rfl, rfl⟩
  go_wp2
  go_ret
  exact ⟨rfl, rfl⟩

end Go.Proofs.Ytgplannipnceeaa
