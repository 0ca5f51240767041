/-
  Bytes that differ within 32 bits side by side have unlike sums; nothing of the arguments is turned.
  Conditions: none but those of the given row. The frame of the proof is the kit's shell (proof-skeleton), the walk is ours.
-/
import Derived.Test.YtaefmncngcogkaaC
import Derived.WalkKit
import Derived.ProofKit
import Derived.OpenShut
import Derived.ShutString
import Derived.ChangeOld
import Derived.Below
namespace Go.Proofs.Ytaefmncngcogkaa.crcBursts
open Go.ChangeShapes Go.WideShapes Go.ChangeAt Go.RowKit
open Go.ChangeMaps (open_string shut_string)
set_option linter.unusedVariables false

theorem own : ownKnob Try.prog.godebug = none := by kernel_rfl
theorem laidOut : laidOutB Try.prog = true := by kernel_rfl

/-- WHAT THE WALK IS TOLD OF A SLICE OF INTEGERS THAT CAME IN: it is nil; or it leads to a row of 'cap' cells, the numbers 'zs' (the first 'len' are its elements, the rest its spare room), each fitting its kind. -/
def IsRow (k : IntKind) (w : World) (a : Option Addr) (len cap : Nat) (zs : List Int) : Prop :=
  (a = none ∧ len = 0 ∧ cap = 0 ∧ zs = []) ∨
  ∃ x, a = some x ∧ len ≤ cap ∧ cap ≤ maxLen ∧ zs.length = cap ∧ (∀ i, i < zs.length → w.cell? (x.add i) = some (.int k (zs.getD i 0))) ∧ ∀ n ∈ zs, (Lit.int k n).wf = true

set_option maxHeartbeats 1000000 in
theorem main (a0 : Option Addr) (n cap m x : Nat) (f : Nat → Nat) (w : World) (hn : n ≤ 3000) (hm : m ≤ 8 * n) (hx : x < 4294967296) (hf : ∀ j, f j < 256) (hs : Src w a0 n f) (hsp : a0 = none → n = 0 ∧ cap = 0) :
    Calls Try.prog 6 #[.slice a0 n cap, .int .i64 (m : Int), .int .u32 (x : Int)] w fun e w' => e = .returned (.bool true) ∧ Below w.heap.size w w' := by
  have HF := Lib.hid hf
  have HS := Lib.hid hs
  have HX := Lib.hid hx
  have HP := Lib.hid hsp
  clear hf hs hx hsp
  have h1 : ¬ (3000 : Int) < (n : Int) := by omega
  have h2 : ¬ ((m : Int) < 0) := by omega
  have h3 : ¬ (8 * (n : Int) < (m : Int)) := by omega
  go_enter Try.func6, Try.ntmps6
  go_wp2_with fail
  refine (head_any _).mono ?_
  rintro e w1 ⟨rfl, hb⟩
  have HB := Lib.hid hb
  clear hb
  go_wp2_with fail
  refine (rcopy_any a0 n cap f w1 (by omega) (HS.out.below HB.out) HP.out).mono ?_
  rintro e w2 ⟨sp', cap', rfl, hsp', hc', hown, hb2⟩
  have HT : Hid (Turned w1 w2 sp' n cap' m 0 f f) := Lib.hid ⟨hown, hb2, fun j _ => HF.out j, 0, by decide, by rw [Nat.zero_mul, Nat.xor_zero]⟩
  clear hown hb2 hsp'
  go_wp2
  go_loopw [8] (fun i wr => ∃ (t : Nat) (F : Nat → Nat), t ≤ 32 ∧ i = .int .i64 (t : Int) ∧ Hid (Turned w1 wr sp' n cap' m t f F)) (fun i _ => 32 - (intOf i).toNat)
  case atStart => exact ⟨0, f, by omega, rfl, HT⟩
  case round =>
    clear HT
    obtain ⟨t, F, ht, rfl, HT⟩ := hrel
    by_cases hlt : t < 32
    · by_cases hbit : x / 2 ^ t % 2 = 1
      · have HBIT : Hid (bits .and .u32 ((x : Int) / 2 ^ t) 1 = 1) := Lib.hid (low_bit1 x t HX.out hbit)
        have hb1 := HBIT.out
        by_cases hin : m + t < 8 * n
        · have hin' : (m : Int) + (t : Int) < 8 * (n : Int) := by omega
          have hj : (m + t) / 8 < n := by omega
          obtain ⟨g, cap2, e2, hg1, hg2⟩ := HT.out.own.form (by omega)
          injection e2 with e3 e4 e5
          subst e3
          have c1 := (HT.out.own.cellAt ((m + t) / 8) (by omega)).trans (rowB_get F n _ hj)
          have f1 := HT.out.own.frozenAt ((m + t) / 8)
          have hy := HT.out.lt _ hj
          have HTT := Lib.hid (HT.out.turn hj hg1)
          generalize F ((m + t) / 8) = y at *
          have HV := Lib.hid (xor_bit y ((m + t) % 8) hy (Nat.mod_lt _ (by decide)))
          have hz : IntKind.i64.wrap (((m : Int) + (t : Int)) / 8) = ((m : Int) + (t : Int)) / 8 := by rw [IntKind.wrap_i64]; omega
          have hjj : ((m : Int) + (t : Int)) / 8 < (n : Int) := by omega
          go_wp2
          go_roundw
          case rel =>
            refine ⟨t + 1, (fun i => if i = (m + t) / 8 then F i ^^^ 2 ^ ((m + t) % 8) else F i), by omega, by go_num, ?_⟩
            rw [HV.out]
            exact HTT
          case measure => simp [intOf]; omega
        · have hin' : ¬ (m : Int) + (t : Int) < 8 * (n : Int) := by omega
          go_wp2
          go_roundw
          case rel => exact ⟨t + 1, F, by omega, by go_num, Lib.hid HT.out.skip⟩
          case measure => simp [intOf]; omega
      · have hb1 : bits .and .u32 ((x : Int) / 2 ^ t) 1 = 0 := low_bit0 x t HX.out hbit
        go_wp2
        go_roundw
        case rel => exact ⟨t + 1, F, by omega, by go_num, Lib.hid HT.out.skip⟩
        case measure => simp [intOf]; omega
    · obtain rfl : t = 32 := by omega
      have HO := Lib.hid (own_src HT.out.own)
      have HB2 := Lib.hid (HB.out.trans (HT.out.bel.mono HB.out.size))
      have HS2 := Lib.hid (HS.out.below HB2.out)
      by_cases hE : ∀ j, j < n → f j = F j
      · have HC := Lib.hid (CrcMath.more_congr 0 f F n hE)
        have HE := Lib.hid hE
        clear hE
        go_wp2_with fail
        refine (same_any wr a0 sp' n cap cap' f F true (fun j _ => HF.out j) HT.out.lt HS2.out HO.out ⟨fun _ => HE.out, fun _ => rfl⟩).mono ?_
        rintro e w' ⟨rfl, rfl⟩
        go_wp2_with fail
        refine (sum_any a0 n cap f wr (by omega) (fun j _ => HF.out j) HS2.out).mono ?_
        rintro e w' ⟨rfl, rfl⟩
        go_wp2_with fail
        refine (sum_any sp' n cap' F wr (by omega) HT.out.lt HO.out).mono ?_
        rintro e w' ⟨rfl, rfl⟩
        rw [HC.out]
        go_wp2
        go_ret
        exact ⟨rfl, HB2.out⟩
      · have HE := Lib.hid hE
        clear hE
        have HN : Hid (¬ CrcMath.more 0 f n = CrcMath.more 0 F n) := Lib.hid fun h => HE.out (turned_end HT.out (fun j _ => HF.out j) (by omega) h)
        go_wp2_with fail
        refine (same_any wr a0 sp' n cap cap' f F false (fun j _ => HF.out j) HT.out.lt HS2.out HO.out ⟨fun h => absurd h (by decide), fun h => absurd h HE.out⟩).mono ?_
        rintro e w' ⟨rfl, rfl⟩
        go_wp2_with fail
        refine (sum_any a0 n cap f wr (by omega) (fun j _ => HF.out j) HS2.out).mono ?_
        rintro e w' ⟨rfl, rfl⟩
        go_wp2_with fail
        refine (sum_any sp' n cap' F wr (by omega) HT.out.lt HO.out).mono ?_
        rintro e w' ⟨rfl, rfl⟩
        generalize CrcMath.more 0 f n = u at *
        generalize CrcMath.more 0 F n = v at *
        have huv : ((u : Int) == (v : Int)) = false := by rw [beq_eq_false_iff_ne]; have := HN.out; omega
        go_wp2
        go_ret
        exact ⟨rfl, HB2.out⟩
set_option maxHeartbeats 1000000 in
theorem walk (a0 : Option Addr) (len0 cap0 : Nat) (z0 : List Int) (a1 : Int) (a2 : Int) (w : World) (w0 : IsRow .u8 w a0 len0 cap0 z0) (w1 : (Lit.int .i64 a1).wf = true) (w2 : (Lit.int .u32 a2).wf = true) :
    Calls Try.prog 6 #[.slice a0 len0 cap0, .int .i64 a1, .int .u32 a2] w fun e w' => e = .returned (.bool true) ∧ Below w.heap.size w w' := by
  obtain ⟨⟨hm, hc, hcm, hsp⟩, f, hf, hs⟩ := src_of w0
  have hx : -9223372036854775808 ≤ a1 ∧ a1 ≤ 9223372036854775807 := by simpa [Lit.wf, IntKind.min, IntKind.max, IntKind.signed, IntKind.bits] using w1
  obtain ⟨x, rfl, hxl⟩ := u32_nat w2
  clear w1 w2
  by_cases h : 3000 < len0
  · have h' : (3000 : Int) < (len0 : Int) := by omega
    go_enter Try.func6, Try.ntmps6
    go_wp2_with fail
    refine (head_any _).mono ?_
    rintro e w1 ⟨rfl, hb⟩
    have HB := Lib.hid hb
    clear hb
    go_wp2
    go_ret
    exact ⟨rfl, HB.out⟩
  · have h' : ¬ (3000 : Int) < (len0 : Int) := by omega
    by_cases h2 : a1 < 0
    · go_enter Try.func6, Try.ntmps6
      go_wp2_with fail
      refine (head_any _).mono ?_
      rintro e w1 ⟨rfl, hb⟩
      have HB := Lib.hid hb
      clear hb
      go_wp2
      go_ret
      exact ⟨rfl, HB.out⟩
    · by_cases h3 : 8 * (len0 : Int) < a1
      · go_enter Try.func6, Try.ntmps6
        go_wp2_with fail
        refine (head_any _).mono ?_
        rintro e w1 ⟨rfl, hb⟩
        have HB := Lib.hid hb
        clear hb
        go_wp2
        go_ret
        exact ⟨rfl, HB.out⟩
      · obtain ⟨m, rfl⟩ : ∃ m : Nat, a1 = (m : Int) := ⟨a1.toNat, by omega⟩
        exact main a0 len0 cap0 m x f w (by omega) (by omega) hxl hf hs hsp

set_option maxRecDepth 100000 in
theorem lifted (os : Os) (started : os.Started) (H : Type) (enc : TypeId × Value → H) :
    ReturnsInHanded {} Try.checked os 6 .any (Rows.crcBurstsSpec.pre6 enc Try.prog Try.f6 Rows.crcBurstsRow.domain false) (Rows.crcBurstsSpec.post enc Try.prog Try.f6 false true false false) := by
  refine returnsInHanded_of_change (C := Try.checked) own started (by kernel_rfl) Try.func6
    (ChangeSpec.witness6 (enc := enc) (C := Try.checked) false ⟨#[], #[.slice none 0 0, .int .i64 0, .int .u32 0], []⟩ 8 (by kernel_rfl) (by kernel_rfl) (by kernel_rfl) (by kernel_rfl)) ?_
  intro W base args ds gs before hval0 hW hcnd _
  have hval : ∀ (j : Nat) t v, Try.f6.params[j]? = some t → args[j]? = some v → Value.okWide Try.prog W .any base t v := hval0
  have hW' := hW
  obtain ⟨p, q, hA0, hV, rfl, hfz, hnd⟩ := hW
  have hA : DataW.TrodAll enc Try.prog W 0 (fun _ => true) true Try.f6.params.toList args.toList ds p := hA0
  rw [Try.params6] at hA hval
  obtain ⟨v0, vs0, d0, ds0, p0, q0, hargs, rfl, rfl, h0, r0⟩ := trodAll_cons hA
  obtain ⟨v1, vs1, d1, ds1, p1, q1, rfl, rfl, rfl, h1, r1⟩ := trodAll_cons r0
  obtain ⟨v2, vs2, d2, ds2, p2, q2, rfl, rfl, rfl, h2, r2⟩ := trodAll_cons r1
  obtain ⟨rfl, rfl, rfl⟩ := trodAll_nil r2
  obtain rfl : args = #[v0, v1, v2] := by cases args; simp_all
  obtain ⟨rfl, rfl⟩ := trodVars_none hV
  obtain ⟨a0, len0, cap0, rfl⟩ := okWide_slice Try.underlying22 (hval 0 22 v0 rfl rfl)
  have k0 := h0
  have lt0 : ∀ x ∈ p0, x.block < W.heap.size := by obtain ⟨m, hm⟩ := k0; exact DataW.trod_lt m _ _ _ hm
  obtain ⟨z0, w0⟩ : ∃ zs, IsRow .u8 W a0 len0 cap0 zs := by
    obtain ⟨fuel, hf⟩ := h0
    rcases open_ints Try.underlying22 Try.underlying5 (by kernel_rfl) hf with ⟨hcs, _⟩ | ⟨x, l, c, zs, hcs, _, hl, hm, hz, _, hcell, hwz⟩
    · simp [Value.cells] at hcs
      obtain ⟨rfl, rfl, rfl⟩ := hcs
      exact ⟨[], .inl ⟨rfl, rfl, rfl, rfl⟩⟩
    · simp [Value.cells] at hcs
      obtain ⟨rfl, rfl, rfl⟩ := hcs
      exact ⟨zs, .inr ⟨_, rfl, hl, hm, by simpa using hz, hcell, hwz⟩⟩
  obtain ⟨a1, rfl, rfl, rfl, w1⟩ := open_int Try.underlying3 (hval 1 3 v1 rfl rfl) h1
  obtain ⟨a2, rfl, rfl, rfl, w2⟩ := open_int Try.underlying23 (hval 2 23 v2 rfl rfl) h2
  clear hA0 hval0
  refine (walk a0 len0 cap0 z0 a1 a2 W w0 w1 w2).mono fun e W' ⟨he, bel⟩ => ?_
  subst he
  exact ⟨_, rfl, _, _, _, [], _, [], hW', trodAll_mk1 (shut_bool Try.underlying4 _), (trodAll_cons_mk (Below.trod laidOut (by kernel_rfl) (of_decide_eq_true (by kernel_rfl)) k0 bel lt0) (trodAll_cons_mk (shut_int Try.underlying3 w1) (trodAll_cons_mk (shut_int Try.underlying23 w2) trodAll_mk0))), rfl, bel.frame _, fun h => by cases h⟩

theorem over : Rows.crcBurstsRow.holds Try.pinned (OpenSpec.ofChange Rows.crcBurstsSpec) :=
  OpenClaim.holds_of_wide 6 Try.f6 rfl rfl rfl rfl rfl rfl rfl ⟨rfl, rfl, rfl, rfl, rfl⟩ rfl rfl rfl rfl rfl (by kernel_rfl) Try.func6 (by kernel_rfl)
    (of_decide_eq_true (by kernel_rfl)) (by unfold Func.isWrapper; first | (rw [if_pos (by decide +kernel)]; kernel_rfl) | (rw [if_neg (by decide +kernel)]; exact ⟨rfl, rfl⟩))
    (fun os started H enc _ => lifted os started H enc)

/-- ████ THE STATEMENT ████ -/
theorem proved : Rows.CrcBurstsSaid := over
end Go.Proofs.Ytaefmncngcogkaa.crcBursts
namespace Go.Proofs.Ytaefmncngcogkaa
theorem crcBursts_holds : Rows.CrcBurstsSaid := crcBursts.proved
#print axioms crcBursts_holds
end Go.Proofs.Ytaefmncngcogkaa
