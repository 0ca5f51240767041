/-
  Contracts of Fork, weights and New: a generator's memory.
-/
import Derived.Test.YtbdpinfiicpmhaaW
import Derived.Test.YtbdpinfiicpmhaaO
import Derived.Deep.RegionWith
import Derived.Deep.RegionHeld3
namespace Go.Proofs.Ytbdpinfiicpmhaa
open Go.ChangeShapes Go.WideShapes Go.ChangeAt Go.RowKit RefMath

/-- the seed of a source that is forked off -/
def forkN (n x : Nat) : Nat := MixMath.stir (n ^^^ MixMath.stir ((x + 1) % 18446744073709551616))
theorem forkN_lt (n x : Nat) : forkN n x < 18446744073709551616 := MixMath.stir_lt' _
/-- who answers a source of its own -/
def SrcP (v : Nat) (w : World) (e : Ending) (w' : World) : Prop :=
  ∃ q, e = .returned (.pointer (some ⟨q, 0, none⟩)) ∧ w.heap.size ≤ q ∧ w'.heap[q]? = some (.cells #[.int .u64 (v : Int)] 51 (0, 0)) ∧ Below w.heap.size w w'

theorem xor_lt {a b : Nat} (ha : a < 18446744073709551616) (hb : b < 18446744073709551616) : a ^^^ b < 18446744073709551616 := Nat.xor_lt_two_pow (n := 64) ha hb
set_option maxHeartbeats 1000000 in
theorem fork_any (b n x : Nat) (w : World) (hn : n < 18446744073709551616) (hc : w.cell? ⟨b, 0, none⟩ = some (.int .u64 (n : Int))) :
    Calls Try.prog 18 #[.pointer (some ⟨b, 0, none⟩), .int .u64 (x : Int)] w (SrcP (forkN n x) w) := by
  have HN := Lib.hid hn
  clear hn
  go_enter Try.func18, Try.ntmps18
  go_wp2
  go_region_with (first
    | (go_at_call 24; rw [show IntKind.u64.wrap ((x : Int) + 1) = (((x + 1) % 2 ^ 64 : Nat) : Int) from add_step x 1]; refine (stir_any _ _ (Nat.mod_lt _ (by decide))).mono ?_; rintro e w' ⟨rfl, rfl⟩)
    | (go_at_call 24; rw [bits_xor_u64_nat n _ HN.out (MixMath.stir_lt' _)]; refine (stir_any _ _ (xor_lt HN.out (MixMath.stir_lt' _))).mono ?_; rintro e w' ⟨rfl, rfl⟩)
    | (go_at_call 17; refine (new_any _ _).mono ?_; rintro e w' ⟨rfl, rfl⟩))
  all_goals
    go_wp2
    go_ret
    refine ⟨w.heap.size, rfl, Nat.le_refl _, heap_alloc_new _ _, ?_⟩
    exact ((Below.refl _ _).drew).alloc (Nat.le_refl _) _
end Go.Proofs.Ytbdpinfiicpmhaa
