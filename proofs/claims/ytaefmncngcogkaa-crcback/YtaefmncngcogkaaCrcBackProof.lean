/-
  A byte taken away again leaves the sum that was; nothing of the arguments is turned.
  Conditions: none but those of the given row. The frame of the proof is the kit's shell (proof-skeleton), the walk is ours.
-/
import Derived.Test.YtaefmncngcogkaaB
import Derived.WalkKit
import Derived.ProofKit
import Derived.OpenShut
import Derived.ShutString
import Derived.ChangeOld
import Derived.Below
namespace Go.Proofs.Ytaefmncngcogkaa.crcBack
open Go.ChangeShapes Go.WideShapes Go.ChangeAt Go.RowKit
open Go.ChangeMaps (open_string shut_string)
set_option linter.unusedVariables false

theorem own : ownKnob Try.prog.godebug = none := by kernel_rfl
theorem laidOut : laidOutB Try.prog = true := by kernel_rfl

/-- WHAT THE WALK IS TOLD OF A SLICE OF INTEGERS THAT CAME IN: it is nil; or it leads to a row of 'cap' cells, the numbers 'zs' (the first 'len' are its elements, the rest its spare room), each fitting its kind. -/
def IsRow (k : IntKind) (w : World) (a : Option Addr) (len cap : Nat) (zs : List Int) : Prop :=
  (a = none ∧ len = 0 ∧ cap = 0 ∧ zs = []) ∨
  ∃ x, a = some x ∧ len ≤ cap ∧ cap ≤ maxLen ∧ zs.length = cap ∧ (∀ i, i < zs.length → w.cell? (x.add i) = some (.int k (zs.getD i 0))) ∧ ∀ n ∈ zs, (Lit.int k n).wf = true

set_option maxHeartbeats 1000000 in
theorem walk (a0 : Option Addr) (len0 cap0 : Nat) (z0 : List Int) (a1 : Int) (a2 : Int) (w : World) (w0 : IsRow .u8 w a0 len0 cap0 z0) (w1 : (Lit.int .u32 a1).wf = true) (w2 : (Lit.int .u8 a2).wf = true) :
    Calls Try.prog 4 #[.slice a0 len0 cap0, .int .u32 a1, .int .u8 a2] w fun e w' => e = .returned (.bool true) ∧ Below w.heap.size w w' := by
  obtain ⟨⟨hm, hc, hcm, hsp⟩, f, hf, hs⟩ := src_of w0
  obtain ⟨s, rfl, hsl⟩ := u32_nat w1
  obtain ⟨c, rfl, hcl⟩ := u8_nat w2
  clear w0 w1 w2
  have HS := Lib.hid hs
  have HF := Lib.hid hf
  have HP := Lib.hid hsp
  clear hs hf hsp
  by_cases h : 3000 < len0
  · have h' : (3000 : Int) < (len0 : Int) := by omega
    go_enter Try.func4, Try.ntmps4
    go_wp2_with fail
    refine (head_any _).mono ?_
    rintro e w1 ⟨rfl, hb⟩
    have HB := Lib.hid hb
    clear hb
    go_wp2
    go_ret
    exact ⟨rfl, HB.out⟩
  · have h' : ¬ (3000 : Int) < (len0 : Int) := by omega
    go_enter Try.func4, Try.ntmps4
    go_wp2_with fail
    refine (head_any _).mono ?_
    rintro e w1 ⟨rfl, hb⟩
    have HB := Lib.hid hb
    clear hb
    have HS1 := Lib.hid (HS.out.below HB.out)
    go_wp2_with fail
    refine (sum_any a0 len0 cap0 f w1 (by omega) (fun j _ => HF.out j) HS1.out).mono ?_
    rintro e w' ⟨rfl, rfl⟩
    go_wp2
    go_loopw [7, 8] (fun x i wr => ∃ k : Nat, k ≤ len0 ∧ i = .int .i64 ((k : Int) - 1) ∧ x = .int .u32 ((CrcMath.more 0 f k : Nat) : Int) ∧ w1 = wr) (fun _ i _ => (intOf i + 1).toNat)
    case atStart => exact ⟨len0, Nat.le_refl _, rfl, rfl, rfl⟩
    case round =>
      obtain ⟨k, hk, rfl, rfl, rfl⟩ := hrel
      rcases k with _ | k
      · have hz : CrcMath.more 0 f 0 = 0 := CrcMath.no_no 0
        rw [hz]
        have HL1 := Lib.hid (CrcMath.less_lt s c hsl hcl)
        have HL2 := Lib.hid (CrcMath.more_lt s (fun _ => c) 1 hsl fun _ _ => hcl)
        have HE1 := Lib.hid (CrcMath.more_less s c hsl)
        have HE2 := Lib.hid (CrcMath.less_more s c hsl hcl)
        go_wp2_with fail
        refine (less_any s c _ hsl hcl).mono ?_
        rintro e w' ⟨rfl, rfl⟩
        generalize CrcMath.less s c = y at *
        go_wp2_with fail
        refine (more_any y (some ⟨w1.heap.size, 0, none⟩) 1 1 (fun _ => c) _ HL1.out (by decide) (fun _ _ => hcl) (src_one _ c)).mono ?_
        rintro e w' ⟨rfl, rfl⟩
        rw [HE1.out]
        go_wp2_with fail
        refine (more_any s (some ⟨w1.heap.size + 1, 0, none⟩) 1 1 (fun _ => c) _ hsl (by decide) (fun _ _ => hcl) (src_two w1 _ c)).mono ?_
        rintro e w' ⟨rfl, rfl⟩
        generalize CrcMath.more s (fun _ => c) 1 = y2 at *
        go_wp2_with fail
        refine (less_any y2 c _ HL2.out hcl).mono ?_
        rintro e w' ⟨rfl, rfl⟩
        rw [HE2.out]
        go_wp2
        go_ret
        exact ⟨rfl, (HB.out.alloc HB.out.size _).alloc (by have := HB.out.size; simp; omega) _⟩
      · obtain ⟨ad, rfl, hadlt, hadc⟩ := HS1.out (by omega)
        obtain ⟨b, off, spot⟩ := ad
        have h0 := hadc 0 (by omega)
        have hspot : spot = none := by simpa [Addr.add] using World.cell?_spot h0
        subst hspot
        have c1 := hadc k (by omega)
        rw [Go.WideShapes.add_plain] at c1
        clear hadc h0
        have HE := Lib.hid (CrcMath.less_last 0 f k (by decide) (fun j _ => HF.out j))
        have HL := Lib.hid (CrcMath.more_lt 0 f (k + 1) (by decide) fun j _ => HF.out j)
        have hy := HF.out k
        generalize f k = y at *
        generalize CrcMath.more 0 f (k + 1) = x at *
        rw [show (((k + 1 : Nat) : Int) - 1) = (k : Int) by omega]
        have hk' : (k : Int) < (len0 : Int) := by omega
        go_wp2_with fail
        refine (less_any x y _ HL.out hy).mono ?_
        rintro e w' ⟨rfl, rfl⟩
        go_wp2
        go_roundw
        case rel => exact ⟨k, by omega, rfl, val_int (by rw [HE.out]), by first | rfl | trivial⟩
        case measure => simp [intOf]

set_option maxRecDepth 100000 in
theorem lifted (os : Os) (started : os.Started) (H : Type) (enc : TypeId × Value → H) :
    ReturnsInHanded {} Try.checked os 4 .any (Rows.crcBackSpec.pre6 enc Try.prog Try.f4 Rows.crcBackRow.domain false) (Rows.crcBackSpec.post enc Try.prog Try.f4 false true false false) := by
  refine returnsInHanded_of_change (C := Try.checked) own started (by kernel_rfl) Try.func4
    (ChangeSpec.witness6 (enc := enc) (C := Try.checked) false ⟨#[], #[.slice none 0 0, .int .u32 0, .int .u8 0], []⟩ 8 (by kernel_rfl) (by kernel_rfl) (by kernel_rfl) (by kernel_rfl)) ?_
  intro W base args ds gs before hval0 hW hcnd _
  have hval : ∀ (j : Nat) t v, Try.f4.params[j]? = some t → args[j]? = some v → Value.okWide Try.prog W .any base t v := hval0
  have hW' := hW
  obtain ⟨p, q, hA0, hV, rfl, hfz, hnd⟩ := hW
  have hA : DataW.TrodAll enc Try.prog W 0 (fun _ => true) true Try.f4.params.toList args.toList ds p := hA0
  rw [Try.params4] at hA hval
  obtain ⟨v0, vs0, d0, ds0, p0, q0, hargs, rfl, rfl, h0, r0⟩ := trodAll_cons hA
  obtain ⟨v1, vs1, d1, ds1, p1, q1, rfl, rfl, rfl, h1, r1⟩ := trodAll_cons r0
  obtain ⟨v2, vs2, d2, ds2, p2, q2, rfl, rfl, rfl, h2, r2⟩ := trodAll_cons r1
  obtain ⟨rfl, rfl, rfl⟩ := trodAll_nil r2
  obtain rfl : args = #[v0, v1, v2] := by cases args; simp_all
  obtain ⟨rfl, rfl⟩ := trodVars_none hV
  obtain ⟨a0, len0, cap0, rfl⟩ := okWide_slice Try.underlying22 (hval 0 22 v0 rfl rfl)
  have k0 := h0
  have lt0 : ∀ x ∈ p0, x.block < W.heap.size := by obtain ⟨m, hm⟩ := k0; exact DataW.trod_lt m _ _ _ hm
  obtain ⟨z0, w0⟩ : ∃ zs, IsRow .u8 W a0 len0 cap0 zs := by
    obtain ⟨fuel, hf⟩ := h0
    rcases open_ints Try.underlying22 Try.underlying5 (by kernel_rfl) hf with ⟨hcs, _⟩ | ⟨x, l, c, zs, hcs, _, hl, hm, hz, _, hcell, hwz⟩
    · simp [Value.cells] at hcs
      obtain ⟨rfl, rfl, rfl⟩ := hcs
      exact ⟨[], .inl ⟨rfl, rfl, rfl, rfl⟩⟩
    · simp [Value.cells] at hcs
      obtain ⟨rfl, rfl, rfl⟩ := hcs
      exact ⟨zs, .inr ⟨_, rfl, hl, hm, by simpa using hz, hcell, hwz⟩⟩
  obtain ⟨a1, rfl, rfl, rfl, w1⟩ := open_int Try.underlying23 (hval 1 23 v1 rfl rfl) h1
  obtain ⟨a2, rfl, rfl, rfl, w2⟩ := open_int Try.underlying5 (hval 2 5 v2 rfl rfl) h2
  clear hA0 hval0
  refine (walk a0 len0 cap0 z0 a1 a2 W w0 w1 w2).mono fun e W' ⟨he, bel⟩ => ?_
  subst he
  exact ⟨_, rfl, _, _, _, [], _, [], hW', trodAll_mk1 (shut_bool Try.underlying4 _), (trodAll_cons_mk (Below.trod laidOut (by kernel_rfl) (of_decide_eq_true (by kernel_rfl)) k0 bel lt0) (trodAll_cons_mk (shut_int Try.underlying23 w1) (trodAll_cons_mk (shut_int Try.underlying5 w2) trodAll_mk0))), rfl, bel.frame _, fun h => by cases h⟩

theorem over : Rows.crcBackRow.holds Try.pinned (OpenSpec.ofChange Rows.crcBackSpec) :=
  OpenClaim.holds_of_wide 4 Try.f4 rfl rfl rfl rfl rfl rfl rfl ⟨rfl, rfl, rfl, rfl, rfl⟩ rfl rfl rfl rfl rfl (by kernel_rfl) Try.func4 (by kernel_rfl)
    (of_decide_eq_true (by kernel_rfl)) (by unfold Func.isWrapper; first | (rw [if_pos (by decide +kernel)]; kernel_rfl) | (rw [if_neg (by decide +kernel)]; exact ⟨rfl, rfl⟩))
    (fun os started H enc _ => lifted os started H enc)

/-- ████ THE STATEMENT ████ -/
theorem proved : Rows.CrcBackSaid := over
end Go.Proofs.Ytaefmncngcogkaa.crcBack
namespace Go.Proofs.Ytaefmncngcogkaa
theorem crcBack_holds : Rows.CrcBackSaid := crcBack.proved
#print axioms crcBack_holds
end Go.Proofs.Ytaefmncngcogkaa
