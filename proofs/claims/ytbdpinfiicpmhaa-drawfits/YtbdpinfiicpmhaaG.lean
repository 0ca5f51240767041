/-
  Contracts of the reference's functions Add, Next and Below.
-/
import Derived.Test.YtbdpinfiicpmhaaF
import Derived.Test.YtbdpinfiicpmhaaB
import Derived.Deep.QuietTactic
import Derived.BigQuiet
namespace Go.Proofs.Ytbdpinfiicpmhaa
open Go.ChangeShapes Go.WideShapes Go.ChangeAt Go.RowKit RefMath

theorem bdrewN {B : Nat} {w w' : World} (h : Below B w w') (n : Nat) : Below B w (w'.drewN n) := ⟨h.os, h.tape, h.output, h.size, h.block⟩

/-- the sums of the parts, with what was carried -/
def sm (a b : Nat → Nat) : Nat → Nat
  | 0 => a 0 + b 0
  | k + 1 => sm a b k / 65536 + (a (k + 1) + b (k + 1))

theorem sm_le (a b : Nat → Nat) (ha : ∀ j, a j < 65536) (hb : ∀ j, b j < 65536) (k : Nat) : sm a b k ≤ 131071 := by
  induction k with
  | zero => have := ha 0; have := hb 0; unfold sm; omega
  | succ k ih => have := ha (k + 1); have := hb (k + 1); unfold sm; omega

theorem sm_zero (a b : Nat → Nat) (ha : ∀ j, a j < 65536) (hb : ∀ j, b j < 65536) :
    IntKind.u64.wrap (IntKind.u64.wrap ((a 0 : Int) + (b 0 : Int))) = ((sm a b 0 : Nat) : Int) := by
  have := ha 0; have := hb 0
  unfold sm; simp only [IntKind.wrap_u64]; omega

theorem sm_succ (a b : Nat → Nat) (ha : ∀ j, a j < 65536) (hb : ∀ j, b j < 65536) (k : Nat) :
    IntKind.u64.wrap (IntKind.u64.wrap (((sm a b k : Nat) : Int).tdiv 65536) + IntKind.u64.wrap ((a (k + 1) : Int) + (b (k + 1) : Int))) = ((sm a b (k + 1) : Nat) : Int) := by
  have h1 := ha (k + 1); have h2 := hb (k + 1); have h3 := sm_le a b ha hb k
  rw [tdivN _ (by omega)]
  show _ = ((sm a b k / 65536 + (a (k + 1) + b (k + 1)) : Nat) : Int)
  simp only [IntKind.wrap_u64]; omega

theorem sm_val (a b : Nat → Nat) (ha : ∀ j, a j < 65536) (hb : ∀ j, b j < 65536) :
    val4 (sm a b 0 % 65536) (sm a b 1 % 65536) (sm a b 2 % 65536) (sm a b 3 % 65536) = (val4 (a 0) (a 1) (a 2) (a 3) + val4 (b 0) (b 1) (b 2) (b 3)) % 18446744073709551616 := by
  have e0 : sm a b 0 = a 0 + b 0 := rfl
  have e1 : sm a b 1 = sm a b 0 / 65536 + (a 1 + b 1) := rfl
  have e2 : sm a b 2 = sm a b 1 / 65536 + (a 2 + b 2) := rfl
  have e3 : sm a b 3 = sm a b 2 / 65536 + (a 3 + b 3) := rfl
  have := ha 0; have := ha 1; have := ha 2; have := ha 3
  have := hb 0; have := hb 1; have := hb 2; have := hb 3
  unfold val4; omega

set_option maxHeartbeats 1000000 in
theorem add_any (a b : Nat → Nat) (w : World) (ha : ∀ j, a j < 65536) (hb : ∀ j, b j < 65536) :
    Calls Try.prog 40 #[.agg #[U (a 0), U (a 1), U (a 2), U (a 3)], .agg #[U (b 0), U (b 1), U (b 2), U (b 3)]] w (Parts4 ((val4 (a 0) (a 1) (a 2) (a 3) + val4 (b 0) (b 1) (b 2) (b 3)) % 18446744073709551616) w) := by
  have HX := Lib.hid (⟨ha, hb⟩ : (∀ j, a j < 65536) ∧ (∀ j, b j < 65536))
  clear ha hb
  go_enter Try.func40, Try.ntmps40
  go_wp2
  refine wp_loop_rounds 5 ?_
  rw [rounds_succ]
  go_wp2
  go_quiet (fail)
  go_wp2
  rw [rounds_succ]
  go_wp2
  go_quiet (fail)
  go_wp2
  rw [rounds_succ]
  go_wp2
  go_quiet (fail)
  go_wp2
  rw [rounds_succ]
  go_wp2
  go_quiet (fail)
  go_wp2
  rw [rounds_succ]
  go_wp2
  have e0 := sm_zero a b HX.out.1 HX.out.2
  have e1 : IntKind.u64.wrap (IntKind.u64.wrap (((sm a b 0 : Nat) : Int).tdiv 65536) + IntKind.u64.wrap ((a 1 : Int) + (b 1 : Int))) = ((sm a b 1 : Nat) : Int) := sm_succ a b HX.out.1 HX.out.2 0
  have e2 : IntKind.u64.wrap (IntKind.u64.wrap (((sm a b 1 : Nat) : Int).tdiv 65536) + IntKind.u64.wrap ((a 2 : Int) + (b 2 : Int))) = ((sm a b 2 : Nat) : Int) := sm_succ a b HX.out.1 HX.out.2 1
  have e3 : IntKind.u64.wrap (IntKind.u64.wrap (((sm a b 2 : Nat) : Int).tdiv 65536) + IntKind.u64.wrap ((a 3 : Int) + (b 3 : Int))) = ((sm a b 3 : Nat) : Int) := sm_succ a b HX.out.1 HX.out.2 2
  rw [e0, e1, e2, e3, tmodN, tmodN, tmodN, tmodN]
  refine bodyPost_ret (v := .agg #[U (sm a b 0 % 65536), U (sm a b 1 % 65536), U (sm a b 2 % 65536), U (sm a b 3 % 65536)]) (by simp [results, Try.results40, go_sem]) rfl ⟨fun j => sm a b j % 65536, rfl, fun j _ => Nat.mod_lt _ (by decide), sm_val a b HX.out.1 HX.out.2, ?_⟩
  repeat' (with_reducible first | refine bdrewN ?_ _ | refine Below.setCell ?_ ?_ _ | refine Below.alloc ?_ ?_ _ | exact Below.refl _ _)
  all_goals (first | (simp; done) | (simp; omega))

set_option maxHeartbeats 1000000 in
theorem rnext_any (x : Nat) (w : World) (hx : x < 18446744073709551616) :
    Calls Try.prog 38 #[.int .u64 (x : Int)] w fun e w' => e = .returned (.tuple #[U (MixMath.nxt x), U (MixMath.stir (MixMath.nxt x))]) ∧ Below w.heap.size w w' := by
  have HX := Lib.hid hx
  clear hx
  go_enter Try.func38, Try.ntmps38
  go_wp2_with fail
  refine (of_any _ _ HX.out).mono ?_
  rintro e w1 ⟨rfl, hb1⟩
  have HB1 := Lib.hid hb1; clear hb1
  go_wp2_with fail
  refine (of_lit 11400714819323198485 _ rfl _ (by decide)).mono ?_
  rintro e w2 ⟨rfl, hb2⟩
  have HB2 := Lib.hid hb2; clear hb2
  go_wp2_with fail
  refine (add_any (dg x) (dg 11400714819323198485) _ (fun j => dg_lt _ j) (fun j => dg_lt _ j)).mono ?_
  rintro e w3 ⟨p, rfl, hp, hv, hb3⟩
  rw [val4_dg x HX.out, val4_dg _ (by decide)] at hv
  have HB3 := Lib.hid hb3; clear hb3
  have HP := Lib.hid (⟨hp, hv⟩ : _ ∧ _); clear hp hv
  go_wp2_with fail
  refine (to_any _ _ _ _ _ (HP.out.1 0 (by omega)) (HP.out.1 1 (by omega)) (HP.out.1 2 (by omega)) (HP.out.1 3 (by omega))).mono ?_
  rw [HP.out.2, show (x + 11400714819323198485) % 18446744073709551616 = MixMath.nxt x from rfl]
  rintro e w4 ⟨rfl, hb4⟩
  have HB4 := Lib.hid hb4; clear hb4 HP
  go_wp2_with fail
  refine (rstir_any _ _ (MixMath.nxt_lt' x)).mono ?_
  rintro e w5 ⟨rfl, hb5⟩
  have HB5 := Lib.hid hb5; clear hb5
  go_wp2
  go_ret2
  refine ⟨rfl, ?_⟩
  have h2 := HB1.out.trans (HB2.out.mono HB1.out.size)
  have h3 := h2.trans (HB3.out.mono h2.size)
  have h4 := h3.trans (HB4.out.mono h3.size)
  exact h4.trans (HB5.out.mono h4.size)

set_option maxHeartbeats 1000000 in
theorem rbelow_one (x : Nat) (n : Int) (w : World) (hx : x < 18446744073709551616) (hn : n ≤ 1) :
    Calls Try.prog 32 #[.int .u64 (x : Int), .int .i64 n] w fun e w' => e = .returned (.tuple #[U (MixMath.nxt x), .int .i64 0]) ∧ Below w.heap.size w w' := by
  have HX := Lib.hid hx
  clear hx
  go_enter Try.func32, Try.ntmps32
  go_wp2_with fail
  refine (rnext_any _ _ HX.out).mono ?_
  rintro e w1 ⟨rfl, hb1⟩
  have HB1 := Lib.hid hb1; clear hb1
  go_wp2
  go_ret2
  exact ⟨rfl, HB1.out⟩

set_option maxHeartbeats 1000000 in
theorem rbelow_more (x m : Nat) (w : World) (hx : x < 18446744073709551616) (hm : 1 < m) (hm' : m ≤ 9223372036854775807) :
    Calls Try.prog 32 #[.int .u64 (x : Int), .int .i64 (m : Int)] w fun e w' => e = .returned (.tuple #[U (MixMath.nxt x), .int .i64 ((share (MixMath.stir (MixMath.nxt x)) m : Nat) : Int)]) ∧ Below w.heap.size w w' := by
  have HX := Lib.hid hx
  clear hx
  have HM : Hid (m < 18446744073709551616) := Lib.hid (by omega)
  go_enter Try.func32, Try.ntmps32
  go_wp2_with fail
  refine (rnext_any _ _ HX.out).mono ?_
  rintro e w1 ⟨rfl, hb1⟩
  have HB1 := Lib.hid hb1; clear hb1
  go_wp2_with fail
  refine (of_any _ _ (MixMath.stir_lt' _)).mono ?_
  rintro e w2 ⟨rfl, hb2⟩
  have HB2 := Lib.hid hb2; clear hb2
  go_wp2_with fail
  refine (of_any m _ HM.out).mono ?_
  rintro e w3 ⟨rfl, hb3⟩
  have HB3 := Lib.hid hb3; clear hb3
  go_wp2_with fail
  refine (all_any (dg (MixMath.stir (MixMath.nxt x))) (dg m) _ (fun j => dg_lt _ j) (fun j => dg_lt _ j)).mono ?_
  rintro e w4 ⟨f, rfl, hf, hv, hb4⟩
  rw [val4_dg _ (MixMath.stir_lt' _), val4_dg m HM.out] at hv
  have HB4 := Lib.hid hb4; clear hb4
  have HP := Lib.hid (⟨hf, high_half f _ hf hv⟩ : _ ∧ _); clear hf hv
  go_wp2_with fail
  refine (to_any _ _ _ _ _ (HP.out.1 4 (by omega)) (HP.out.1 5 (by omega)) (HP.out.1 6 (by omega)) (HP.out.1 7 (by omega))).mono ?_
  rw [HP.out.2, show MixMath.stir (MixMath.nxt x) * m / 18446744073709551616 = share (MixMath.stir (MixMath.nxt x)) m from rfl]
  rintro e w5 ⟨rfl, hb5⟩
  have HB5 := Lib.hid hb5; clear hb5
  have hs := share_le (MixMath.stir (MixMath.nxt x)) m (MixMath.stir_lt' _)
  have hs' : share (MixMath.stir (MixMath.nxt x)) m ≤ 9223372036854775807 := by omega
  clear hs
  go_wp2
  go_ret2
  refine ⟨rfl, ?_⟩
  have h2 := HB1.out.trans (HB2.out.mono HB1.out.size)
  have h3 := h2.trans (HB3.out.mono h2.size)
  have h4 := h3.trans (HB4.out.mono h3.size)
  have h5 := h4.alloc (o := .cells #[U (f 0), U (f 1), U (f 2), U (f 3), U (f 4), U (f 5), U (f 6), U (f 7)] 78) h4.size
  exact h5.trans (HB5.out.mono h5.size)
end Go.Proofs.Ytbdpinfiicpmhaa
