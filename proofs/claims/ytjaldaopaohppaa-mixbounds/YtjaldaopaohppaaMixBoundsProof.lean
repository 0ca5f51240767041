/-
  For every seed and every number n the law MixBounds returns true: a draw below n is below it, and of one of two halves it is told by the draw alone.
  Conditions: none but those of the given row. The frame of the proof is the kit's shell (proof-skeleton), the walk is ours.
-/
import Derived.Test.YtjaldaopaohppaaB
import Derived.WalkKit
import Derived.ProofKit
import Derived.OpenShut
namespace Go.Proofs.Ytjaldaopaohppaa.mixBounds
open Go.ChangeShapes Go.WideShapes Go.ChangeAt Go.RowKit
set_option linter.unusedVariables false      -- a walk need not use every 'w<i>' (that an integer argument fits its kind)

theorem own : ownKnob Try.prog.godebug = none := by kernel_rfl

theorem share_one (d m : Nat) (hd : d < 18446744073709551616) (hm : m ≤ 1) : share d m = 0 := by
  unfold share
  rcases Nat.le_one_iff_eq_zero_or_eq_one.mp hm with rfl | rfl <;> simp <;> omega

theorem walk_neg (x : Nat) (m : Int) (w : World) (hm : m < 0) :
    Calls Try.prog 8 #[.int .u64 (x : Int), .int .i64 m] w fun e w' => e = .returned (.bool true) ∧ Grown w w' := by
  have h1 : m ≤ 1 := by omega
  go_enter Try.func8, Try.ntmps8
  go_wp2_with fail
  refine (head_any _).mono ?_
  rintro e w' ⟨rfl, rfl⟩
  go_wp2_with fail
  refine (new_any _ _).mono ?_
  rintro e w' ⟨rfl, rfl⟩
  go_wp2_with fail
  refine (new_any _ _).mono ?_
  rintro e w' ⟨rfl, rfl⟩
  go_wp2_with fail
  refine (below_neg _ x _ hm _ ?_ ?_).mono ?_
  · go_simp
  · go_simp
  rintro e w' ⟨rfl, rfl⟩
  go_wp2_with fail
  refine (next_any _ x _ ?_ ?_).mono ?_
  · go_simp
  · go_simp
  rintro e w' ⟨rfl, rfl⟩
  go_wp2
  go_ret
  exact ⟨rfl, ((((Grown.refl _).alloc _ _).alloc _ _).alloc _ _)⟩

theorem walk_one (x : Nat) (m : Nat) (w : World) (hm : m ≤ 1) :
    Calls Try.prog 8 #[.int .u64 (x : Int), .int .i64 (m : Int)] w fun e w' => e = .returned (.bool true) ∧ Grown w w' := by
  have hs := Lib.hid (share_one (MixMath.stir (MixMath.nxt x)) m (MixMath.stir_lt' _) hm)
  go_enter Try.func8, Try.ntmps8
  go_wp2_with fail
  refine (head_any _).mono ?_
  rintro e w' ⟨rfl, rfl⟩
  go_wp2_with fail
  refine (new_any _ _).mono ?_
  rintro e w' ⟨rfl, rfl⟩
  go_wp2_with fail
  refine (new_any _ _).mono ?_
  rintro e w' ⟨rfl, rfl⟩
  go_wp2_with fail
  refine (below_pos _ x _ (by omega) _ ?_ ?_).mono ?_
  · go_simp
  · go_simp
  rw [hs.out]
  rintro e w' ⟨rfl, rfl⟩
  go_wp2_with fail
  refine (next_any _ x _ ?_ ?_).mono ?_
  · go_simp
  · go_simp
  rintro e w' ⟨rfl, rfl⟩
  go_wp2
  go_ret
  exact ⟨rfl, ((((Grown.refl _).alloc _ _).alloc _ _).alloc _ _)⟩

theorem below_at2 (b : Nat) (n : Nat) (w : World) (hc : w.cell? ⟨b, 0, none⟩ = some (.int .u64 (n : Int))) (hf : w.frozen? ⟨b, 0, none⟩ = false) :
    Calls Try.prog 16 #[.pointer (some ⟨b, 0, none⟩), .int .i64 2] w fun e w' => e = .returned (.int .i64 ((share (MixMath.stir (MixMath.nxt n)) 2 : Nat) : Int)) ∧ w.setCell ⟨b, 0, none⟩ (.int .u64 ((MixMath.nxt n : Nat) : Int)) = w' :=
  below_pos b n 2 (by decide) w hc hf

def topBit (d : Nat) : Nat := if 9223372036854775808 ≤ d then 1 else 0

theorem share_two (d : Nat) (hd : d < 18446744073709551616) : share d 2 = topBit d := by
  unfold share topBit; split <;> omega

theorem share_62 (d : Nat) : share d 4611686018427387904 = d / 4 := by
  unfold share; omega

theorem quarter (d : Nat) (hd : d < 18446744073709551616) : (((d / 4 : Nat) : Int) == wrap64 ((d : Int) / 4)) = true := by
  rw [show wrap64 ((d : Int) / 4) = (d : Int) / 4 from by unfold wrap64; omega]
  rw [beq_iff_eq]; omega

set_option maxHeartbeats 1000000 in
theorem walk_more (x : Nat) (m : Nat) (w : World) (hm : 2 ≤ m) (hm' : m ≤ 9223372036854775807) :
    Calls Try.prog 8 #[.int .u64 (x : Int), .int .i64 (m : Int)] w fun e w' => e = .returned (.bool true) ∧ Grown w w' := by
  have hlt := share_lt (MixMath.stir (MixMath.nxt x)) m (MixMath.stir_lt' _) (by omega)
  have hm1 : ¬ m ≤ 1 := by omega
  have H2 := Lib.hid (share_two (MixMath.stir (MixMath.nxt x)) (MixMath.stir_lt' _))
  have HD := Lib.hid (MixMath.stir_lt' (MixMath.nxt x))
  have H62 := Lib.hid (share_62 (MixMath.stir (MixMath.nxt x)))
  rcases hb : decide ((9223372036854775808 : Int) ≤ ((MixMath.stir (MixMath.nxt x) : Nat) : Int)) with _ | _
  · have HB : Hid (topBit (MixMath.stir (MixMath.nxt x)) = 0) := Lib.hid (by have := of_decide_eq_false hb; unfold topBit; rw [if_neg (by omega)])
    go_enter Try.func8, Try.ntmps8
    go_wp2_with fail
    refine (head_any _).mono ?_
    rintro e w' ⟨rfl, rfl⟩
    go_wp2_with fail
    refine (new_any _ _).mono ?_
    rintro e w' ⟨rfl, rfl⟩
    go_wp2_with fail
    refine (new_any _ _).mono ?_
    rintro e w' ⟨rfl, rfl⟩
    go_wp2_with fail
    refine (below_pos _ x _ (by omega) _ ?_ ?_).mono ?_
    · go_simp
    · go_simp
    rintro e w' ⟨rfl, rfl⟩
    go_wp2_with fail
    refine (next_any _ x _ ?_ ?_).mono ?_
    · go_simp
    · go_simp
    rintro e w' ⟨rfl, rfl⟩
    go_wp2_with fail
    refine (new_any _ _).mono ?_
    rintro e w' ⟨rfl, rfl⟩
    go_wp2_with fail
    refine (below_at2 _ x _ ?_ ?_).mono ?_
    · go_simp
    · go_simp
    rw [H2.out, HB.out]
    rintro e w' ⟨rfl, rfl⟩
    go_wp2
    · have hq : (m : Int) = 4611686018427387904 := by assumption
      have hq' : m = 4611686018427387904 := by omega
      go_ret
      refine ⟨?_, (((((Grown.refl _).alloc _ _).alloc _ _).alloc _ _).alloc _ _)⟩
      subst hq'
      rw [H62.out]
      exact ret_bool (quarter _ HD.out)
    · go_ret
      exact ⟨rfl, (((((Grown.refl _).alloc _ _).alloc _ _).alloc _ _).alloc _ _)⟩
  · have HB : Hid (topBit (MixMath.stir (MixMath.nxt x)) = 1) := Lib.hid (by have := of_decide_eq_true hb; unfold topBit; rw [if_pos (by omega)])
    go_enter Try.func8, Try.ntmps8
    go_wp2_with fail
    refine (head_any _).mono ?_
    rintro e w' ⟨rfl, rfl⟩
    go_wp2_with fail
    refine (new_any _ _).mono ?_
    rintro e w' ⟨rfl, rfl⟩
    go_wp2_with fail
    refine (new_any _ _).mono ?_
    rintro e w' ⟨rfl, rfl⟩
    go_wp2_with fail
    refine (below_pos _ x _ (by omega) _ ?_ ?_).mono ?_
    · go_simp
    · go_simp
    rintro e w' ⟨rfl, rfl⟩
    go_wp2_with fail
    refine (next_any _ x _ ?_ ?_).mono ?_
    · go_simp
    · go_simp
    rintro e w' ⟨rfl, rfl⟩
    go_wp2_with fail
    refine (new_any _ _).mono ?_
    rintro e w' ⟨rfl, rfl⟩
    go_wp2_with fail
    refine (below_at2 _ x _ ?_ ?_).mono ?_
    · go_simp
    · go_simp
    rw [H2.out, HB.out]
    rintro e w' ⟨rfl, rfl⟩
    go_wp2
    · have hq : (m : Int) = 4611686018427387904 := by assumption
      have hq' : m = 4611686018427387904 := by omega
      go_ret
      refine ⟨?_, (((((Grown.refl _).alloc _ _).alloc _ _).alloc _ _).alloc _ _)⟩
      subst hq'
      rw [H62.out]
      exact ret_bool (quarter _ HD.out)
    · go_ret
      exact ⟨rfl, (((((Grown.refl _).alloc _ _).alloc _ _).alloc _ _).alloc _ _)⟩

/-! ### STEP 1: THE WALK: the Go text returns true. 'Grown w w'': the world has at most new blocks (Derived/RowKit3.lean). Part the cases AHEAD of 'go_enter' where a test parts the walk; take each callee by a contract of your own. -/
theorem walk (a0 : Int) (a1 : Int) (w0 : (Lit.int .u64 a0).wf = true) (w1 : (Lit.int .i64 a1).wf = true) (w : World) :
    Calls Try.prog 8 #[.int .u64 a0, .int .i64 a1] w fun e w' => e = .returned (.bool true) ∧ Grown w w' := by
  have hx : 0 ≤ a0 ∧ a0 ≤ 18446744073709551615 := by simpa [Lit.wf, IntKind.min, IntKind.max, IntKind.signed, IntKind.bits] using w0
  have hy : -9223372036854775808 ≤ a1 ∧ a1 ≤ 9223372036854775807 := by simpa [Lit.wf, IntKind.min, IntKind.max, IntKind.signed, IntKind.bits] using w1
  obtain ⟨x, rfl⟩ : ∃ x : Nat, a0 = (x : Int) := ⟨a0.toNat, by omega⟩
  clear hx w0 w1
  by_cases hneg : a1 < 0
  · clear hy
    exact walk_neg x a1 w hneg
  · obtain ⟨m, rfl⟩ : ∃ m : Nat, a1 = (m : Int) := ⟨a1.toNat, by omega⟩
    by_cases h1 : m ≤ 1
    · exact walk_one x m w h1
    · exact walk_more x m w (by omega) (by omega)

/-! ### THE ROW's STEP: WRITTEN OUT: LEAVE IT -/
set_option maxRecDepth 100000 in
theorem lifted (os : Os) (started : os.Started) (H : Type) (enc : TypeId × Value → H) :
    ReturnsInHanded {} Try.checked os 8 .any (Rows.mixBoundsSpec.pre6 enc Try.prog Try.f8 Rows.mixBoundsRow.domain false) (Rows.mixBoundsSpec.post enc Try.prog Try.f8 false true false false) := by
  refine returnsInHanded_of_change (C := Try.checked) own started (by kernel_rfl) Try.func8
    (ChangeSpec.witness6 (enc := enc) (C := Try.checked) false ⟨#[], #[.int .u64 0, .int .i64 0], []⟩ 8 (by kernel_rfl) (by kernel_rfl) (by kernel_rfl) (by kernel_rfl)) ?_
  intro W base args ds gs before hval0 hW hcnd _
  have hval : ∀ (j : Nat) t v, Try.f8.params[j]? = some t → args[j]? = some v → Value.okWide Try.prog W .any base t v := hval0
  have hW' := hW
  obtain ⟨p, q, hA0, hV, rfl, hfz, hnd⟩ := hW
  have hA : DataW.TrodAll enc Try.prog W 0 (fun _ => true) true Try.f8.params.toList args.toList ds p := hA0
  rw [Try.params8] at hA hval
  obtain ⟨v0, vs0, d0, ds0, p0, q0, hargs, rfl, rfl, h0, r0⟩ := trodAll_cons hA
  obtain ⟨v1, vs1, d1, ds1, p1, q1, rfl, rfl, rfl, h1, r1⟩ := trodAll_cons r0
  obtain ⟨rfl, rfl, rfl⟩ := trodAll_nil r1
  obtain rfl : args = #[v0, v1] := by cases args; simp_all
  obtain ⟨rfl, rfl⟩ := trodVars_none hV
  obtain ⟨a0, rfl, rfl, rfl, w0⟩ := open_int Try.underlying22 (hval 0 22 v0 rfl rfl) h0
  obtain ⟨a1, rfl, rfl, rfl, w1⟩ := open_int Try.underlying3 (hval 1 3 v1 rfl rfl) h1
  clear hA0 hval0
  simp only [List.append_nil] at hW'
  refine (walk a0 a1 w0 w1 W).mono fun e W' ⟨he, hg⟩ => ?_
  subst he
  exact ⟨_, rfl, post_of_same (pa := []) (pv := []) hW' (fun _ _ _ => (trodAll_cons_mk (shut_bool Try.underlying4 _) trodAll_mk0)) (fun sp _ => (trodAll_cons_mk (shut_int Try.underlying22 w0) (trodAll_cons_mk (shut_int Try.underlying3 w1) trodAll_mk0))) (fun _ _ => rfl) rfl
    (hg.frame _) hg.2.1 (ok_one (by kernel_rfl) rfl (okWide_bool_mk Try.underlying4 _))⟩

theorem over : Rows.mixBoundsRow.holds Try.pinned (OpenSpec.ofChange Rows.mixBoundsSpec) :=
  OpenClaim.holds_of_wide 8 Try.f8 rfl rfl rfl rfl rfl rfl rfl ⟨rfl, rfl, rfl, rfl, rfl⟩ rfl rfl rfl rfl rfl (by kernel_rfl) Try.func8 (by kernel_rfl)
    (of_decide_eq_true (by kernel_rfl)) (by unfold Func.isWrapper; first | (rw [if_pos (by decide +kernel)]; kernel_rfl) | (rw [if_neg (by decide +kernel)]; exact ⟨rfl, rfl⟩))
    (fun os started H enc _ => lifted os started H enc)

/-- ████ THE STATEMENT ████ -/
theorem proved : Rows.MixBoundsSaid :=
  over
end Go.Proofs.Ytjaldaopaohppaa.mixBounds
namespace Go.Proofs.Ytjaldaopaohppaa
theorem mixBounds_holds : Rows.MixBoundsSaid := mixBounds.proved
#print axioms mixBounds_holds
end Go.Proofs.Ytjaldaopaohppaa
