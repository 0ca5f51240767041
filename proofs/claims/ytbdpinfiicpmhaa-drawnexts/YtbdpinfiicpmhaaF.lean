/-
  Contracts of the reference's functions Mul, Add, Stir, Next and Below.
-/
import Derived.Test.YtbdpinfiicpmhaaE
namespace Go.Proofs.Ytbdpinfiicpmhaa
open Go.ChangeShapes Go.WideShapes Go.ChangeAt Go.RowKit RefMath

theorem bcell {W w1 : World} (hb : Below W.heap.size W w1) : (∀ b o, b < W.heap.size → w1.cell? ⟨b, o, none⟩ = W.cell? ⟨b, o, none⟩) ∧ (∀ b o, b < W.heap.size → w1.frozen? ⟨b, o, none⟩ = W.frozen? ⟨b, o, none⟩) :=
  ⟨fun b o h => hb.cell (p := ⟨b, o, none⟩) h, fun b o h => hb.frozen (p := ⟨b, o, none⟩) h⟩

/-- what Mul and Add answer: four parts of 16 bits, of the number r -/
def Parts4 (r : Nat) (w : World) (e : Ending) (w' : World) : Prop :=
  ∃ p : Nat → Nat, e = .returned (.agg #[U (p 0), U (p 1), U (p 2), U (p 3)]) ∧ (∀ j, j < 4 → p j < 65536) ∧ val4 (p 0) (p 1) (p 2) (p 3) = r ∧ Below w.heap.size w w'

theorem low_half (f : Nat → Nat) (r : Nat) (hf : ∀ j, j < 8 → f j < 65536) (hv : val8 f = r) : val4 (f 0) (f 1) (f 2) (f 3) = r % 18446744073709551616 := by
  have h0 := hf 0 (by omega); have h1 := hf 1 (by omega); have h2 := hf 2 (by omega); have h3 := hf 3 (by omega)
  subst hv; unfold val4 val8; omega

theorem high_half (f : Nat → Nat) (r : Nat) (hf : ∀ j, j < 8 → f j < 65536) (hv : val8 f = r) : val4 (f 4) (f 5) (f 6) (f 7) = r / 18446744073709551616 := by
  have h0 := hf 0 (by omega); have h1 := hf 1 (by omega); have h2 := hf 2 (by omega); have h3 := hf 3 (by omega)
  subst hv; unfold val4 val8; omega

set_option maxHeartbeats 1000000 in
theorem mul_any (a b : Nat → Nat) (w : World) (ha : ∀ j, a j < 65536) (hb : ∀ j, b j < 65536) :
    Calls Try.prog 36 #[.agg #[U (a 0), U (a 1), U (a 2), U (a 3)], .agg #[U (b 0), U (b 1), U (b 2), U (b 3)]] w (Parts4 (val4 (a 0) (a 1) (a 2) (a 3) * val4 (b 0) (b 1) (b 2) (b 3) % 18446744073709551616) w) := by
  have HX := Lib.hid (⟨ha, hb⟩ : (∀ j, a j < 65536) ∧ (∀ j, b j < 65536))
  clear ha hb
  go_enter Try.func36, Try.ntmps36
  go_wp2_with fail
  refine (all_any a b _ HX.out.1 HX.out.2).mono ?_
  rintro e w1 ⟨f, rfl, hf, hv, hbel⟩
  have HF := Lib.hid (⟨hf, hv⟩ : _ ∧ _)
  have HBel := Lib.hid hbel
  obtain ⟨hc, hz⟩ := bcell hbel
  have hsz : w.heap.size + 1 + 1 < w1.heap.size := by have := hbel.size; simp at this; omega
  clear hf hv hbel
  go_wp2
  refine bodyPost_ret (v := .agg #[U (f 0), U (f 1), U (f 2), U (f 3)]) (by simp [results, Try.results36, go_sem, hc, hsz]) rfl ⟨f, rfl, fun j hj => HF.out.1 j (by omega), low_half f _ HF.out.1 HF.out.2, ?_⟩
  have hb1 := HBel.out
  have hb2 : Below w.heap.size w w1 := (((((Below.refl _ _).alloc (Nat.le_refl _) _).alloc (by simp) _).alloc (by simp; omega) _).trans (hb1.mono (by simp; omega)))
  refine (((((hb2.setCell ?_ _).setCell ?_ _).setCell ?_ _).setCell ?_ _).alloc ?_ _) <;> (simp; omega)

theorem over_lit (x n : Nat) (z : Int) (hz : z = (n : Int)) (w : World) (hx : x < 18446744073709551616) (hn : n ≤ 100) :
    Calls Try.prog 34 #[.int .u64 (x : Int), .int .i64 z] w fun e w' => e = .returned (U (MixMath.over x n)) ∧ w = w' := by
  subst hz; exact over_any x n w hx hn

theorem of_lit (x : Nat) (z : Int) (hz : z = (x : Int)) (w : World) (hx : x < 18446744073709551616) :
    Calls Try.prog 37 #[.int .u64 z] w fun e w' => e = .returned (.agg #[U (dg x 0), U (dg x 1), U (dg x 2), U (dg x 3)]) ∧ Below w.heap.size w w' := by
  subst hz; exact of_any x w hx

theorem mul_eq (x c : Nat) (hx : x < 18446744073709551616) (hc : c < 18446744073709551616) :
    val4 (dg x 0) (dg x 1) (dg x 2) (dg x 3) * val4 (dg c 0) (dg c 1) (dg c 2) (dg c 3) % 18446744073709551616 = x * c % 18446744073709551616 := by
  rw [val4_dg x hx, val4_dg c hc]

set_option maxHeartbeats 1000000 in
theorem rstir_any (x : Nat) (w : World) (hx : x < 18446744073709551616) :
    Calls Try.prog 31 #[.int .u64 (x : Int)] w fun e w' => e = .returned (U (MixMath.stir x)) ∧ Below w.heap.size w w' := by
  have HX := Lib.hid hx
  have HX1 := Lib.hid (MixMath.over_lt x 30 hx)
  clear hx
  go_enter Try.func31, Try.ntmps31
  go_wp2_with fail
  refine (over_lit x 30 _ rfl _ HX.out (by omega)).mono ?_
  rintro e w' ⟨rfl, rfl⟩
  go_wp2_with fail
  refine (of_any _ _ HX1.out).mono ?_
  rintro e w1 ⟨rfl, hb1⟩
  have HB1 := Lib.hid hb1; clear hb1
  go_wp2_with fail
  refine (of_lit 13787848793156543929 _ rfl _ (by decide)).mono ?_
  rintro e w2 ⟨rfl, hb2⟩
  have HB2 := Lib.hid hb2; clear hb2
  go_wp2_with fail
  refine (mul_any (dg (MixMath.over x 30)) (dg 13787848793156543929) _ (fun j => dg_lt _ j) (fun j => dg_lt _ j)).mono ?_
  rintro e w3 ⟨p, rfl, hp, hv, hb3⟩
  rw [mul_eq _ _ HX1.out (by decide)] at hv
  have HB3 := Lib.hid hb3; clear hb3
  have HP := Lib.hid (⟨hp, hv⟩ : _ ∧ _); clear hp hv
  go_wp2_with fail
  refine (to_any _ _ _ _ _ (HP.out.1 0 (by omega)) (HP.out.1 1 (by omega)) (HP.out.1 2 (by omega)) (HP.out.1 3 (by omega))).mono ?_
  rw [HP.out.2]
  rintro e w4 ⟨rfl, hb4⟩
  have HB4 := Lib.hid hb4; clear hb4 HP
  obtain ⟨y, hy⟩ : ∃ y, y = MixMath.over x 30 * 13787848793156543929 % 18446744073709551616 := ⟨_, rfl⟩
  rw [← hy]
  have HY : Hid (y < 18446744073709551616) := Lib.hid (by rw [hy]; exact Nat.mod_lt _ (by decide))
  have HYE := Lib.hid hy; clear hy
  go_wp2_with fail
  refine (over_lit y 27 _ rfl _ HY.out (by omega)).mono ?_
  rintro e w' ⟨rfl, rfl⟩
  have HX2 := Lib.hid (MixMath.over_lt y 27 HY.out)
  go_wp2_with fail
  refine (of_any _ _ HX2.out).mono ?_
  rintro e w5 ⟨rfl, hb5⟩
  have HB5 := Lib.hid hb5; clear hb5
  go_wp2_with fail
  refine (of_lit 10723151780598845931 _ rfl _ (by decide)).mono ?_
  rintro e w6 ⟨rfl, hb6⟩
  have HB6 := Lib.hid hb6; clear hb6
  go_wp2_with fail
  refine (mul_any (dg (MixMath.over y 27)) (dg 10723151780598845931) _ (fun j => dg_lt _ j) (fun j => dg_lt _ j)).mono ?_
  rintro e w7 ⟨p, rfl, hp, hv, hb7⟩
  rw [mul_eq _ _ HX2.out (by decide)] at hv
  have HB7 := Lib.hid hb7; clear hb7
  have HP := Lib.hid (⟨hp, hv⟩ : _ ∧ _); clear hp hv
  go_wp2_with fail
  refine (to_any _ _ _ _ _ (HP.out.1 0 (by omega)) (HP.out.1 1 (by omega)) (HP.out.1 2 (by omega)) (HP.out.1 3 (by omega))).mono ?_
  rw [HP.out.2]
  rintro e w8 ⟨rfl, hb8⟩
  have HB8 := Lib.hid hb8; clear hb8 HP
  obtain ⟨z, hz⟩ : ∃ z, z = MixMath.over y 27 * 10723151780598845931 % 18446744073709551616 := ⟨_, rfl⟩
  rw [← hz]
  have HZ : Hid (z < 18446744073709551616) := Lib.hid (by rw [hz]; exact Nat.mod_lt _ (by decide))
  have HZE := Lib.hid hz; clear hz
  go_wp2_with fail
  refine (over_lit z 31 _ rfl _ HZ.out (by omega)).mono ?_
  rintro e w' ⟨rfl, rfl⟩
  go_wp2
  go_ret
  refine ⟨?_, ?_⟩
  · have e : MixMath.over z 31 = MixMath.stir x := by rw [HZE.out, HYE.out]; rfl
    exact ret_int (by rw [e])
  · have h2 := HB1.out.trans (HB2.out.mono HB1.out.size)
    have h3 := h2.trans (HB3.out.mono h2.size)
    have h4 := h3.trans (HB4.out.mono h3.size)
    have h5 := h4.trans (HB5.out.mono h4.size)
    have h6 := h5.trans (HB6.out.mono h5.size)
    have h7 := h6.trans (HB7.out.mono h6.size)
    exact h7.trans (HB8.out.mono h7.size)
end Go.Proofs.Ytbdpinfiicpmhaa
