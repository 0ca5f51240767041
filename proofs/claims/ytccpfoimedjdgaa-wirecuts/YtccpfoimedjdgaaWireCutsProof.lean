/-
  A message that is cut off anywhere is too short, and one with a byte turned is none; nothing of the arguments is turned.
  Conditions: none but those of the given row. The frame of the proof follows the kit's shell (proof-skeleton), the walk and the opening of the events are ours.
-/
import Derived.Test.YtccpfoimedjdgaaJ10
import Derived.WalkKit
import Derived.ProofKit
import Derived.OpenShut
import Derived.ShutString
import Derived.ChangeOld
import Derived.Below
namespace Go.Proofs.Ytccpfoimedjdgaa.wireCuts
open Go.ChangeShapes Go.WideShapes Go.ChangeAt Go.RowKit
set_option linter.unusedVariables false

theorem own : ownKnob Try.prog.godebug = none := by kernel_rfl
theorem laidOut : laidOutB Try.prog = true := by kernel_rfl

theorem walk (k : Int) (N : Nat → Int) (la : Option Addr) (n lc : Nat) (P : Nat → Bs) (da : Value) (D : Bs) (A Z : Int) (w : World) (hn : n ≤ 9223372036854775807) (hc : n ≤ lc) (hl : LsS w la n P) (hla : la = none → n = 0 ∧ lc = 0) (hd : BsS w da D) (w2 : (Lit.int .u8 Z).wf = true) :
    Calls Try.prog 6 #[.agg (msL k N (.slice la n lc) da).toArray, .int .i64 A, .int .u8 Z] w fun e w' => e = .returned (.bool true) ∧ Below w.heap.size w w' := by
  have hZ := u8_bounds w2
  obtain ⟨z, rfl⟩ : ∃ z : Nat, Z = (z : Int) := ⟨Z.toNat, by omega⟩
  exact cuts_main k N la n lc P da D A z w hn hc hl hla hd (by omega)

set_option maxRecDepth 100000 in
theorem lifted (os : Os) (started : os.Started) (H : Type) (enc : TypeId × Value → H) :
    ReturnsInHanded {} Try.checked os 6 .any (Rows.wireCutsSpec.pre6 enc Try.prog Try.f6 Rows.wireCutsRow.domain false) (Rows.wireCutsSpec.post enc Try.prog Try.f6 false true false false) := by
  refine returnsInHanded_of_change (C := Try.checked) own started (by kernel_rfl) Try.func6
    (ChangeSpec.witness6 (enc := enc) (C := Try.checked) false ⟨#[], #[.agg #[.int .i64 0, .int .i64 0, .int .i64 0, .int .i64 0, .int .i64 0, .int .i64 0, .int .i64 0, .int .i64 0, .int .i64 0, .int .i64 0, .slice none 0 0, .slice none 0 0], .int .i64 0, .int .u8 0], []⟩ 8 (by kernel_rfl) (by kernel_rfl) (by kernel_rfl) (by kernel_rfl)) ?_
  intro W base args ds gs before hval0 hW hcnd _
  have hval : ∀ (j : Nat) t v, Try.f6.params[j]? = some t → args[j]? = some v → Value.okWide Try.prog W .any base t v := hval0
  have hW' := hW
  obtain ⟨p, q, hA0, hV, rfl, hfz, hnd⟩ := hW
  have hA : DataW.TrodAll enc Try.prog W 0 (fun _ => true) true Try.f6.params.toList args.toList ds p := hA0
  rw [Try.params6] at hA hval
  obtain ⟨v0, vs0, d0, ds0, p0, q0, hargs, rfl, rfl, h0, r0⟩ := trodAll_cons hA
  obtain ⟨v1, vs1, d1, ds1, p1, q1, rfl, rfl, rfl, h1, r1⟩ := trodAll_cons r0
  obtain ⟨v2, vs2, d2, ds2, p2, q2, rfl, rfl, rfl, h2, r2⟩ := trodAll_cons r1
  obtain ⟨rfl, rfl, rfl⟩ := trodAll_nil r2
  obtain rfl : args = #[v0, v1, v2] := by cases args; simp_all
  obtain ⟨rfl, rfl⟩ := trodVars_none hV
  obtain ⟨cs0, rfl, hz0⟩ := Go.WideShapes.okWide_struct Try.underlying25 (hval 0 25 v0 rfl rfl)
  obtain ⟨a1, rfl, rfl, rfl, w1⟩ := open_int Try.underlying3 (hval 1 3 v1 rfl rfl) h1
  obtain ⟨a2, rfl, rfl, rfl, w2⟩ := open_int Try.underlying5 (hval 2 5 v2 rfl rfl) h2
  have k0 := h0
  have lt0 : ∀ x ∈ p0, x.block < W.heap.size := by obtain ⟨m, hm⟩ := k0; exact DataW.trod_lt m _ _ _ hm
  obtain ⟨mk0, mN0, la0, ln0, lc0, mP0, da0, mD0, hcs0, hl0, hla0, hc0, hn0, hd0⟩ : ∃ (k : Int) (N : Nat → Int) (la : Option Addr) (len lc : Nat) (P : Nat → Bs) (da : Value) (D : Bs), cs0.toList = msL k N (.slice la len lc) da ∧ LsS W la len P ∧ (la = none → len = 0 ∧ lc = 0) ∧ len ≤ lc ∧ len ≤ 9223372036854775807 ∧ BsS W da D := by
    obtain ⟨fuel, hf⟩ := h0
    exact msg_of (by simpa [Value.cells] using hf)
  obtain rfl : cs0 = (msL mk0 mN0 (.slice la0 ln0 lc0) da0).toArray := by cases cs0; simp_all
  clear hA0 hval0
  refine (walk mk0 mN0 la0 ln0 lc0 mP0 da0 mD0 a1 a2 W hn0 hc0 hl0 hla0 hd0 w2).mono fun e W' ⟨he, bel⟩ => ?_
  subst he
  exact ⟨_, rfl, _, _, _, [], _, [], hW', trodAll_mk1 (shut_bool Try.underlying4 _), (trodAll_cons_mk (Below.trod laidOut (by kernel_rfl) (of_decide_eq_true (by kernel_rfl)) k0 bel lt0) (trodAll_cons_mk (shut_int Try.underlying3 w1) (trodAll_cons_mk (shut_int Try.underlying5 w2) trodAll_mk0))), rfl, bel.frame _, fun h => by cases h⟩

theorem over : Rows.wireCutsRow.holds Try.pinned (OpenSpec.ofChange Rows.wireCutsSpec) :=
  OpenClaim.holds_of_wide 6 Try.f6 rfl rfl rfl rfl rfl rfl rfl ⟨rfl, rfl, rfl, rfl, rfl⟩ rfl rfl rfl rfl rfl (by kernel_rfl) Try.func6 (by kernel_rfl)
    (of_decide_eq_true (by kernel_rfl)) (by unfold Func.isWrapper; first | (rw [if_pos (by decide +kernel)]; kernel_rfl) | (rw [if_neg (by decide +kernel)]; exact ⟨rfl, rfl⟩))
    (fun os started H enc _ => lifted os started H enc)

theorem proved : Rows.WireCutsSaid := over
end Go.Proofs.Ytccpfoimedjdgaa.wireCuts
namespace Go.Proofs.Ytccpfoimedjdgaa
theorem wireCuts_holds : Rows.WireCutsSaid := wireCuts.proved
#print axioms wireCuts_holds
end Go.Proofs.Ytccpfoimedjdgaa
