/-
  Whole at once or in two parts: the same sum; nothing of the arguments is turned.
  Conditions: none but those of the given row. The frame of the proof is the kit's shell (proof-skeleton), the walk is ours.
-/
import Derived.Test.YtaefmncngcogkaaB
import Derived.WalkKit
import Derived.ProofKit
import Derived.OpenShut
import Derived.ShutString
import Derived.ChangeOld
import Derived.Below
namespace Go.Proofs.Ytaefmncngcogkaa.crcCuts
open Go.ChangeShapes Go.WideShapes Go.ChangeAt Go.RowKit
open Go.ChangeMaps (open_string shut_string)
set_option linter.unusedVariables false

theorem own : ownKnob Try.prog.godebug = none := by kernel_rfl
theorem laidOut : laidOutB Try.prog = true := by kernel_rfl

/-- WHAT THE WALK IS TOLD OF A SLICE OF INTEGERS THAT CAME IN: it is nil; or it leads to a row of 'cap' cells, the numbers 'zs' (the first 'len' are its elements, the rest its spare room), each fitting its kind. -/
def IsRow (k : IntKind) (w : World) (a : Option Addr) (len cap : Nat) (zs : List Int) : Prop :=
  (a = none ∧ len = 0 ∧ cap = 0 ∧ zs = []) ∨
  ∃ x, a = some x ∧ len ≤ cap ∧ cap ≤ maxLen ∧ zs.length = cap ∧ (∀ i, i < zs.length → w.cell? (x.add i) = some (.int k (zs.getD i 0))) ∧ ∀ n ∈ zs, (Lit.int k n).wf = true

set_option maxHeartbeats 1000000 in
theorem main (a0 : Option Addr) (n cap m : Nat) (f : Nat → Nat) (w : World) (hn : n ≤ 3000) (hm : m ≤ n) (hf : ∀ j, f j < 256) (hs : Src w a0 n f) (hc : n ≤ cap) (hcm : cap ≤ 9223372036854775807) (hsp : a0 = none → n = 0 ∧ cap = 0) :
    Calls Try.prog 8 #[.slice a0 n cap, .int .i64 (m : Int)] w fun e w' => e = .returned (.bool true) ∧ Below w.heap.size w w' := by
  have HF := Lib.hid hf
  have HS := Lib.hid hs
  clear hf hs
  obtain ⟨i0, hi0⟩ : ∃ k, n = m + k := ⟨n - m, by omega⟩
  have HM := Lib.hid (CrcMath.more_add 0 f m i0)
  have HZ : Hid (CrcMath.more 0 f 0 = 0) := Lib.hid (CrcMath.no_no 0)
  rw [← hi0] at HM
  have h1 : ¬ (3000 : Int) < (n : Int) := by omega
  have h2 : ¬ ((m : Int) < 0) := by omega
  have h3 : ¬ ((n : Int) < (m : Int)) := by omega
  have HL := Lib.hid (CrcMath.more_lt 0 f m (by decide) fun j _ => HF.out j)
  have HX : Hid (CrcMath.more 0 f 0 = 0) := Lib.hid (CrcMath.no_no 0)
  have HSUM : Hid (∀ (W : World) sp l c (q : Nat), l ≤ n → Src W sp l f → Calls Try.prog 11 #[.slice sp l c] (W.drewN q) fun e w' => e = .returned (.int .u32 ((CrcMath.more 0 f l : Nat) : Int)) ∧ w' = W.drewN q) :=
    Lib.hid fun W sp l c q hl hs => flip (sum_any sp l c f (W.drewN q) (by omega) (fun j _ => HF.out j) (hs.drewN q))
  have HMORE : Hid (∀ (W : World) sp c (q : Nat), Src W sp i0 (fun j => f (m + j)) → Calls Try.prog 13 #[.int .u32 ((CrcMath.more 0 f m : Nat) : Int), .slice sp i0 c] (W.drewN q) fun e w' => e = .returned (.int .u32 ((CrcMath.more 0 f n : Nat) : Int)) ∧ w' = W.drewN q) :=
    Lib.hid fun W sp c q hs => by rw [HM.out]; exact flip (more_any _ sp i0 c _ (W.drewN q) HL.out (by omega) (fun j _ => HF.out _) (hs.drewN q))
  have HNIL : Hid (∀ (W : World) (q : Nat), Calls Try.prog 11 #[.slice none 0 0] (W.drewN q) fun e w' => e = .returned (.int .u32 0) ∧ w' = W.drewN q) :=
    Lib.hid fun W q => by have h := HSUM.out W none 0 0 q (by omega) (fun h => absurd h (by decide)); rw [HX.out] at h; exact h
  have hk0 : i0 = n - m := by omega
  have HK := Lib.hid hi0
  clear HZ HM hi0
  subst hk0
  rcases a0 with _ | ad
  · obtain ⟨rfl, rfl⟩ := hsp rfl
    obtain rfl : m = 0 := by omega
    rw [HX.out] at HMORE
    clear HSUM HX HL
    go_enter Try.func8, Try.ntmps8
    go_wp2_with fail
    refine (head_any _).mono ?_
    rintro e w1 ⟨rfl, hb⟩
    have HB := Lib.hid hb
    clear hb
    go_wp2
    go_quiet (first
      | (go_at_call 11; exact Calls.quiet_of_same (HNIL.out _ _))
      | (go_at_call 13; exact Calls.quiet_of_same (HMORE.out _ none 0 _ (fun h => absurd h (by decide)))))
    go_wp2
    go_ret
    exact ⟨rfl, below_drewN HB.out _⟩
  · by_cases hcap : cap = m
    · obtain rfl : n = m := by omega
      subst hcap
      rw [Nat.sub_self] at HMORE
      go_enter Try.func8, Try.ntmps8
      go_wp2_with fail
      refine (head_any _).mono ?_
      rintro e w1 ⟨rfl, hb⟩
      have HB := Lib.hid hb
      have HS1 := Lib.hid (HS.out.below HB.out)
      clear hb
      go_wp2
      go_quiet (first
        | (go_at_call 11; exact Calls.quiet_of_same (HNIL.out _ _))
        | (go_at_call 11; exact Calls.quiet_of_same (HSUM.out _ _ _ _ _ (Nat.le_refl _) HS1.out))
        | (go_at_call 13; exact Calls.quiet_of_same (HMORE.out _ _ _ _ (fun h => absurd h (by decide)))))
      go_wp2
      go_ret
      exact ⟨rfl, below_drewN HB.out _⟩
    · have hc1 : (m : Int) ≤ (cap : Int) := by omega
      go_enter Try.func8, Try.ntmps8
      go_wp2_with fail
      refine (head_any _).mono ?_
      rintro e w1 ⟨rfl, hb⟩
      have HB := Lib.hid hb
      have HS1 := Lib.hid (HS.out.below HB.out)
      have HS2 := Lib.hid (HS1.out.front m (by omega))
      have HS3 := Lib.hid (HS1.out.behind m (n - m) (by omega))
      clear hb
      go_wp2
      go_quiet (first
        | (go_at_call 11; exact Calls.quiet_of_same (HNIL.out _ _))
        | (go_at_call 11; exact Calls.quiet_of_same (HSUM.out _ _ _ _ _ (by omega) HS2.out))
        | (go_at_call 11; exact Calls.quiet_of_same (HSUM.out _ _ _ _ _ (Nat.le_refl _) HS1.out))
        | (go_at_call 13; exact Calls.quiet_of_same (HMORE.out _ _ _ _ HS3.out)))
      go_wp2
      go_ret
      exact ⟨rfl, below_drewN HB.out _⟩
set_option maxHeartbeats 1000000 in
theorem walk (a0 : Option Addr) (len0 cap0 : Nat) (z0 : List Int) (a1 : Int) (w : World) (w0 : IsRow .u8 w a0 len0 cap0 z0) (w1 : (Lit.int .i64 a1).wf = true) :
    Calls Try.prog 8 #[.slice a0 len0 cap0, .int .i64 a1] w fun e w' => e = .returned (.bool true) ∧ Below w.heap.size w w' := by
  obtain ⟨⟨hm, hc, hcm, hsp⟩, f, hf, hs⟩ := src_of w0
  have hx : -9223372036854775808 ≤ a1 ∧ a1 ≤ 9223372036854775807 := by simpa [Lit.wf, IntKind.min, IntKind.max, IntKind.signed, IntKind.bits] using w1
  clear w1
  by_cases h : 3000 < len0
  · have h' : (3000 : Int) < (len0 : Int) := by omega
    go_enter Try.func8, Try.ntmps8
    go_wp2_with fail
    refine (head_any _).mono ?_
    rintro e w1 ⟨rfl, hb⟩
    have HB := Lib.hid hb
    clear hb
    go_wp2
    go_ret
    exact ⟨rfl, HB.out⟩
  · have h' : ¬ (3000 : Int) < (len0 : Int) := by omega
    by_cases h2 : a1 < 0
    · go_enter Try.func8, Try.ntmps8
      go_wp2_with fail
      refine (head_any _).mono ?_
      rintro e w1 ⟨rfl, hb⟩
      have HB := Lib.hid hb
      clear hb
      go_wp2
      go_ret
      exact ⟨rfl, HB.out⟩
    · by_cases h3 : (len0 : Int) < a1
      · go_enter Try.func8, Try.ntmps8
        go_wp2_with fail
        refine (head_any _).mono ?_
        rintro e w1 ⟨rfl, hb⟩
        have HB := Lib.hid hb
        clear hb
        go_wp2
        go_ret
        exact ⟨rfl, HB.out⟩
      · obtain ⟨m, rfl⟩ : ∃ m : Nat, a1 = (m : Int) := ⟨a1.toNat, by omega⟩
        exact main a0 len0 cap0 m f w (by omega) (by omega) hf hs hc hcm hsp

set_option maxRecDepth 100000 in
theorem lifted (os : Os) (started : os.Started) (H : Type) (enc : TypeId × Value → H) :
    ReturnsInHanded {} Try.checked os 8 .any (Rows.crcCutsSpec.pre6 enc Try.prog Try.f8 Rows.crcCutsRow.domain false) (Rows.crcCutsSpec.post enc Try.prog Try.f8 false true false false) := by
  refine returnsInHanded_of_change (C := Try.checked) own started (by kernel_rfl) Try.func8
    (ChangeSpec.witness6 (enc := enc) (C := Try.checked) false ⟨#[], #[.slice none 0 0, .int .i64 0], []⟩ 8 (by kernel_rfl) (by kernel_rfl) (by kernel_rfl) (by kernel_rfl)) ?_
  intro W base args ds gs before hval0 hW hcnd _
  have hval : ∀ (j : Nat) t v, Try.f8.params[j]? = some t → args[j]? = some v → Value.okWide Try.prog W .any base t v := hval0
  have hW' := hW
  obtain ⟨p, q, hA0, hV, rfl, hfz, hnd⟩ := hW
  have hA : DataW.TrodAll enc Try.prog W 0 (fun _ => true) true Try.f8.params.toList args.toList ds p := hA0
  rw [Try.params8] at hA hval
  obtain ⟨v0, vs0, d0, ds0, p0, q0, hargs, rfl, rfl, h0, r0⟩ := trodAll_cons hA
  obtain ⟨v1, vs1, d1, ds1, p1, q1, rfl, rfl, rfl, h1, r1⟩ := trodAll_cons r0
  obtain ⟨rfl, rfl, rfl⟩ := trodAll_nil r1
  obtain rfl : args = #[v0, v1] := by cases args; simp_all
  obtain ⟨rfl, rfl⟩ := trodVars_none hV
  obtain ⟨a0, len0, cap0, rfl⟩ := okWide_slice Try.underlying22 (hval 0 22 v0 rfl rfl)
  have k0 := h0
  have lt0 : ∀ x ∈ p0, x.block < W.heap.size := by obtain ⟨m, hm⟩ := k0; exact DataW.trod_lt m _ _ _ hm
  obtain ⟨z0, w0⟩ : ∃ zs, IsRow .u8 W a0 len0 cap0 zs := by
    obtain ⟨fuel, hf⟩ := h0
    rcases open_ints Try.underlying22 Try.underlying5 (by kernel_rfl) hf with ⟨hcs, _⟩ | ⟨x, l, c, zs, hcs, _, hl, hm, hz, _, hcell, hwz⟩
    · simp [Value.cells] at hcs
      obtain ⟨rfl, rfl, rfl⟩ := hcs
      exact ⟨[], .inl ⟨rfl, rfl, rfl, rfl⟩⟩
    · simp [Value.cells] at hcs
      obtain ⟨rfl, rfl, rfl⟩ := hcs
      exact ⟨zs, .inr ⟨_, rfl, hl, hm, by simpa using hz, hcell, hwz⟩⟩
  obtain ⟨a1, rfl, rfl, rfl, w1⟩ := open_int Try.underlying3 (hval 1 3 v1 rfl rfl) h1
  clear hA0 hval0
  refine (walk a0 len0 cap0 z0 a1 W w0 w1).mono fun e W' ⟨he, bel⟩ => ?_
  subst he
  exact ⟨_, rfl, _, _, _, [], _, [], hW', trodAll_mk1 (shut_bool Try.underlying4 _), (trodAll_cons_mk (Below.trod laidOut (by kernel_rfl) (of_decide_eq_true (by kernel_rfl)) k0 bel lt0) (trodAll_cons_mk (shut_int Try.underlying3 w1) trodAll_mk0)), rfl, bel.frame _, fun h => by cases h⟩

theorem over : Rows.crcCutsRow.holds Try.pinned (OpenSpec.ofChange Rows.crcCutsSpec) :=
  OpenClaim.holds_of_wide 8 Try.f8 rfl rfl rfl rfl rfl rfl rfl ⟨rfl, rfl, rfl, rfl, rfl⟩ rfl rfl rfl rfl rfl (by kernel_rfl) Try.func8 (by kernel_rfl)
    (of_decide_eq_true (by kernel_rfl)) (by unfold Func.isWrapper; first | (rw [if_pos (by decide +kernel)]; kernel_rfl) | (rw [if_neg (by decide +kernel)]; exact ⟨rfl, rfl⟩))
    (fun os started H enc _ => lifted os started H enc)

/-- ████ THE STATEMENT ████ -/
theorem proved : Rows.CrcCutsSaid := over
end Go.Proofs.Ytaefmncngcogkaa.crcCuts
namespace Go.Proofs.Ytaefmncngcogkaa
theorem crcCuts_holds : Rows.CrcCutsSaid := crcCuts.proved
#print axioms crcCuts_holds
end Go.Proofs.Ytaefmncngcogkaa
