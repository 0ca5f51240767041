/-
  The contracts of both functions Below, the program's and the reference's, for every number n.
-/
import Derived.Test.YtbdpinfiicpmhaaG
namespace Go.Proofs.Ytbdpinfiicpmhaa
open Go.ChangeShapes Go.WideShapes Go.ChangeAt Go.RowKit RefMath

theorem share_one (d m : Nat) (hd : d < 18446744073709551616) (hm : m ≤ 1) : share d m = 0 := by
  unfold share
  rcases Nat.le_one_iff_eq_zero_or_eq_one.mp hm with rfl | rfl <;> simp <;> omega

/-- the draw below n behind the state x -/
def drawn (x : Nat) (n : Int) : Int := ((share (MixMath.stir (MixMath.nxt x)) n.toNat : Nat) : Int)

theorem drawn_nonneg (x : Nat) (n : Int) : 0 ≤ drawn x n := by unfold drawn; omega
theorem drawn_lt (x : Nat) (n : Int) (h : 0 < n) : drawn x n < n := by
  unfold drawn
  have := share_lt (MixMath.stir (MixMath.nxt x)) n.toNat (MixMath.stir_lt' _) (by omega)
  omega
theorem drawn_one (x : Nat) (n : Int) (h : n ≤ 1) : drawn x n = 0 := by
  unfold drawn
  rw [share_one _ _ (MixMath.stir_lt' _) (by omega)]; rfl
theorem drawn_nat (x m : Nat) : drawn x (m : Int) = ((share (MixMath.stir (MixMath.nxt x)) m : Nat) : Int) := by unfold drawn; rw [Int.toNat_natCast]

theorem below_all (b o x : Nat) (n : Int) (hn : n ≤ 9223372036854775807) (w : World) (hc : w.cell? ⟨b, o, none⟩ = some (.int .u64 (x : Int))) (hf : w.frozen? ⟨b, o, none⟩ = false) :
    Calls Try.prog 20 #[.pointer (some ⟨b, o, none⟩), .int .i64 n] w fun e w' => e = .returned (.int .i64 (drawn x n)) ∧ w.setCell ⟨b, o, none⟩ (.int .u64 ((MixMath.nxt x : Nat) : Int)) = w' := by
  by_cases h : n < 0
  · rw [drawn_one x n (by omega)]; exact below_neg b o x n h w hc hf
  · obtain ⟨m, rfl⟩ : ∃ m : Nat, n = (m : Int) := ⟨n.toNat, by omega⟩
    rw [drawn_nat]; exact below_pos b o x m (by omega) w hc hf

theorem rbelow_all (x : Nat) (n : Int) (hn : n ≤ 9223372036854775807) (w : World) (hx : x < 18446744073709551616) :
    Calls Try.prog 32 #[.int .u64 (x : Int), .int .i64 n] w fun e w' => e = .returned (.tuple #[U (MixMath.nxt x), .int .i64 (drawn x n)]) ∧ Below w.heap.size w w' := by
  by_cases h : n ≤ 1
  · rw [drawn_one x n h]; exact rbelow_one x n w hx h
  · obtain ⟨m, rfl⟩ : ∃ m : Nat, n = (m : Int) := ⟨n.toNat, by omega⟩
    rw [drawn_nat]; exact rbelow_more x m w hx (by omega) (by omega)

theorem cell_lt {w : World} {a : Addr} {v : Value} (h : w.cell? a = some v) : a.block < w.heap.size := by
  rcases Nat.lt_or_ge a.block w.heap.size with h' | h'
  · exact h'
  · simp [World.cell?, Array.getElem?_eq_none h'] at h

theorem u64_nat {a0 : Int} (w0 : (Lit.int .u64 a0).wf = true) : ∃ x : Nat, a0 = (x : Int) ∧ x < 18446744073709551616 := by
  have hx : 0 ≤ a0 ∧ a0 ≤ 18446744073709551615 := by simpa [Lit.wf, IntKind.min, IntKind.max, IntKind.signed, IntKind.bits] using w0
  exact ⟨a0.toNat, by omega, by omega⟩

theorem i64_bounds {a0 : Int} (w0 : (Lit.int .i64 a0).wf = true) : -9223372036854775808 ≤ a0 ∧ a0 ≤ 9223372036854775807 := by
  simpa [Lit.wf, IntKind.min, IntKind.max, IntKind.signed, IntKind.bits] using w0
end Go.Proofs.Ytbdpinfiicpmhaa
