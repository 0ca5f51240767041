/-
  Contracts of the reference's functions Of and To: a number as four parts of 16 bits, and back.
-/
import Derived.Test.YtbdpinfiicpmhaaC
import Derived.Handy
namespace Go.Proofs.Ytbdpinfiicpmhaa
open Go.ChangeShapes Go.WideShapes Go.ChangeAt Go.RowKit RefMath

/-- the k-th part of 16 bits -/
def dg (x k : Nat) : Nat := x / 65536 ^ k % 65536

/-- the number of four parts -/
def val4 (a b c d : Nat) : Nat := a + 65536 * (b + 65536 * (c + 65536 * d))

theorem val4_dg (x : Nat) (hx : x < 18446744073709551616) : val4 (dg x 0) (dg x 1) (dg x 2) (dg x 3) = x := by
  unfold val4 dg; simp only [Nat.pow_zero, Nat.div_one, Nat.pow_one, show 65536 ^ 2 = 4294967296 from rfl, show 65536 ^ 3 = 281474976710656 from rfl]; omega
theorem dg_lt (x k : Nat) : dg x k < 65536 := Nat.mod_lt _ (by decide)

theorem tdivN (a : Nat) (ha : a < 18446744073709551616) : IntKind.u64.wrap ((a : Int).tdiv 65536) = ((a / 65536 : Nat) : Int) := by
  rw [Int.tdiv_eq_ediv_of_nonneg (by omega), IntKind.wrap_u64]; omega
theorem edivN (a : Nat) (ha : a < 18446744073709551616) : IntKind.u64.wrap ((a : Int) / 65536) = ((a / 65536 : Nat) : Int) := by
  rw [IntKind.wrap_u64]; omega
theorem tmodN (a : Nat) : ((a : Int).tmod 65536) = ((a % 65536 : Nat) : Int) := by
  rw [Int.tmod_eq_emod_of_nonneg (by omega)]; omega
theorem emodN (a : Nat) : ((a : Int) % 65536) = ((a % 65536 : Nat) : Int) := by omega

theorem dgs (x : Nat) (hx : x < 18446744073709551616) :
    (x : Int) % 65536 = ((dg x 0 : Nat) : Int) ∧ (IntKind.u64.wrap ((x : Int) / 65536)).tmod 65536 = ((dg x 1 : Nat) : Int) ∧
    (IntKind.u64.wrap ((IntKind.u64.wrap ((x : Int) / 65536)).tdiv 65536)).tmod 65536 = ((dg x 2 : Nat) : Int) ∧
    (IntKind.u64.wrap ((IntKind.u64.wrap ((IntKind.u64.wrap ((x : Int) / 65536)).tdiv 65536)).tdiv 65536)).tmod 65536 = ((dg x 3 : Nat) : Int) := by
  rw [edivN x hx, tdivN _ (by omega), tdivN _ (by omega), tmodN, tmodN, tmodN, emodN]
  unfold dg
  simp [Nat.div_div_eq_div_mul]

set_option maxHeartbeats 1000000 in
theorem of_any (x : Nat) (w : World) (hx : x < 18446744073709551616) :
    Calls Try.prog 37 #[.int .u64 (x : Int)] w fun e w' => e = .returned (.agg #[.int .u64 ((dg x 0 : Nat) : Int), .int .u64 ((dg x 1 : Nat) : Int), .int .u64 ((dg x 2 : Nat) : Int), .int .u64 ((dg x 3 : Nat) : Int)]) ∧ Below w.heap.size w w' := by
  have HX := Lib.hid (dgs x hx)
  clear hx
  go_enter Try.func37, Try.ntmps37
  go_wp2
  go_rounds 5
  obtain ⟨e0, e1, e2, e3⟩ := HX.out
  rw [e0, e1, e2, e3]
  refine bodyPost_ret (v := .agg #[.int .u64 ((dg x 0 : Nat) : Int), .int .u64 ((dg x 1 : Nat) : Int), .int .u64 ((dg x 2 : Nat) : Int), .int .u64 ((dg x 3 : Nat) : Int)]) (by simp [results, Try.results37, go_sem]) rfl ⟨rfl, ?_⟩
  exact ((Below.refl _ _).alloc (Nat.le_refl _) _).alloc (by simp) _

theorem to_eq (a b c d : Nat) (h : a < 65536 ∧ b < 65536 ∧ c < 65536 ∧ d < 65536) :
    IntKind.u64.wrap (IntKind.u64.wrap (IntKind.u64.wrap (IntKind.u64.wrap (IntKind.u64.wrap (IntKind.u64.wrap (IntKind.u64.wrap (d : Int) * 65536) + (c : Int)) * 65536) + (b : Int)) * 65536) + (a : Int)) = ((val4 a b c d : Nat) : Int) := by
  unfold val4; simp only [IntKind.wrap_u64]; omega

set_option maxHeartbeats 1000000 in
theorem to_any (a b c d : Nat) (w : World) (ha : a < 65536) (hb : b < 65536) (hc : c < 65536) (hd : d < 65536) :
    Calls Try.prog 35 #[.agg #[.int .u64 (a : Int), .int .u64 (b : Int), .int .u64 (c : Int), .int .u64 (d : Int)]] w fun e w' => e = .returned (.int .u64 ((val4 a b c d : Nat) : Int)) ∧ Below w.heap.size w w' := by
  have HX := Lib.hid (⟨ha, hb, hc, hd⟩ : a < 65536 ∧ b < 65536 ∧ c < 65536 ∧ d < 65536)
  clear ha hb hc hd
  go_enter Try.func35, Try.ntmps35
  go_wp2
  go_rounds 5
  go_ret
  exact ⟨ret_int (to_eq a b c d HX.out), (Below.refl _ _).alloc (Nat.le_refl _) _⟩
end Go.Proofs.Ytbdpinfiicpmhaa
