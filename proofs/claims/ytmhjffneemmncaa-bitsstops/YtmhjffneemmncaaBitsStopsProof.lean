/-
  For all bytes and every two errors the law BitsStops returns true: who stops a reader is told, the first one counts, and then nothing comes any more.
  Conditions: none but those of the given row. The frame of the proof is the kit's shell (proof-skeleton), the walk is ours.
-/
import Derived.Test.YtmhjffneemmncaaD
import Derived.WalkKit
import Derived.ProofKit
import Derived.OpenShut
import Derived.ShutString
import Derived.ChangeOld
import Derived.Below
namespace Go.Proofs.Ytmhjffneemmncaa.bitsStops
open Go.ChangeShapes Go.WideShapes Go.ChangeAt Go.RowKit
open Go.ChangeMaps (open_string shut_string)
set_option linter.unusedVariables false

theorem own : ownKnob Try.prog.godebug = none := by kernel_rfl
theorem laidOut : laidOutB Try.prog = true := by kernel_rfl

/-- WHAT THE WALK IS TOLD OF A SLICE OF INTEGERS THAT CAME IN: it is nil; or it leads to a row of 'cap' cells, the numbers 'zs' (the first 'len' are its elements, the rest its spare room), each fitting its kind. -/
def IsRow (k : IntKind) (w : World) (a : Option Addr) (len cap : Nat) (zs : List Int) : Prop :=
  (a = none ∧ len = 0 ∧ cap = 0 ∧ zs = []) ∨
  ∃ x, a = some x ∧ len ≤ cap ∧ cap ≤ maxLen ∧ zs.length = cap ∧ (∀ i, i < zs.length → w.cell? (x.add i) = some (.int k (zs.getD i 0))) ∧ ∀ n ∈ zs, (Lit.int k n).wf = true

theorem walk_trivial (a : Option Addr) (len cap : Nat) (x y : Int) (w : World) (hm : len ≤ 9223372036854775807) (h : 100 < len ∨ x = 0 ∨ y = 0) :
    Calls Try.prog 7 #[.slice a len cap, .int .i64 x, .int .i64 y] w fun e w' => e = .returned (.bool true) ∧ Below w.heap.size w w' := by
  by_cases h1 : 100 < len
  · go_enter Try.func7, Try.ntmps7
    go_wp2_with fail
    refine (took_any _).mono ?_
    rintro e w1 ⟨rfl, hb⟩
    have HB := Lib.hid hb; clear hb
    go_wp2
    go_ret
    exact ⟨rfl, HB.out⟩
  · by_cases h2 : x = 0
    · subst h2
      go_enter Try.func7, Try.ntmps7
      go_wp2_with fail
      refine (took_any _).mono ?_
      rintro e w1 ⟨rfl, hb⟩
      have HB := Lib.hid hb; clear hb
      go_wp2
      go_ret
      exact ⟨rfl, HB.out⟩
    · obtain rfl : y = 0 := by omega
      have h2' : (x == 0) = false := by simpa using h2
      go_enter Try.func7, Try.ntmps7
      go_wp2_with fail
      refine (took_any _).mono ?_
      rintro e w1 ⟨rfl, hb⟩
      have HB := Lib.hid hb; clear hb
      go_wp2
      go_ret
      exact ⟨rfl, HB.out⟩

set_option maxHeartbeats 1000000 in
theorem walk_main (a : Option Addr) (len cap : Nat) (f : Nat → Nat) (x y : Int) (w : World) (hl : len ≤ 100) (hf : ∀ j, f j < 256) (hs : Src w a len f) (hx : (x == 0) = false) (hy : (y == 0) = false) :
    Calls Try.prog 7 #[.slice a len cap, .int .i64 x, .int .i64 y] w fun e w' => e = .returned (.bool true) ∧ Below w.heap.size w w' := by
  have HF := Lib.hid hf
  have HS := Lib.hid hs
  clear hf hs
  go_enter Try.func7, Try.ntmps7
  go_wp2_with fail
  refine (took_any _).mono ?_
  rintro e w1 ⟨rfl, hb⟩
  have HB := Lib.hid hb; clear hb
  go_wp2_with fail
  refine (read_any a len cap f _ (by omega) HF.out (HS.out.below HB.out)).mono ?_
  rintro e w2 ⟨g, rb, rfl, hrd, hg, hrb, hb2⟩
  have HD := Lib.hid hrd
  have HB2 : Hid (Below w.heap.size w w2) := Lib.hid (HB.out.trans (hb2.mono HB.out.size))
  have hrb' : w.heap.size ≤ rb := Nat.le_trans HB.out.size hrb
  clear hrd hb2 hg hrb
  go_wp2_with fail
  refine (left_any w2 g rb len 0 f HD.out).mono ?_
  rw [show ((8 * len - 0 : Nat) : Int) = 8 * (len : Int) from by omega]
  rintro e w3 ⟨rfl, q, rfl⟩
  go_wp2_with fail
  refine (fail_any _ g rb len 0 f x (HD.out.drewN q)).mono ?_
  rintro e w4 ⟨rfl, hrs, hgr⟩
  have HS4 := Lib.hid hrs
  have HB4 := Lib.hid (bel_grown (bel_drewN HB2.out q) hgr hrb')
  clear hrs hgr
  go_wp2_with fail
  refine (fail_stop _ rb x y HS4.out).mono ?_
  rintro e w' ⟨rfl, rfl⟩
  go_wp2_with fail
  refine (err_any _ rb x HS4.out.c2).mono ?_
  rintro e w' ⟨rfl, rfl⟩
  go_wp2_with fail
  refine (end_stop _ rb x HS4.out).mono ?_
  rintro e w' ⟨rfl, rfl⟩
  go_wp2_with fail
  refine (get_stop _ rb x 1 HS4.out).mono ?_
  rintro e w5 ⟨rfl, hrs, hgr⟩
  have HS5 := Lib.hid hrs
  have HB5 := Lib.hid (bel_grown HB4.out hgr hrb')
  clear hrs hgr
  go_wp2_with fail
  refine (num_stop _ rb x HS5.out).mono ?_
  rintro e w6 ⟨rfl, hrs, hgr⟩
  have HS6 := Lib.hid hrs
  have HB6 := Lib.hid (bel_grown HB5.out hgr hrb')
  clear hrs hgr
  go_wp2_with fail
  refine (int_stop _ rb x HS6.out).mono ?_
  rintro e w7 ⟨rfl, hrs, hgr⟩
  have HS7 := Lib.hid hrs
  have HB7 := Lib.hid (bel_grown HB6.out hgr hrb')
  clear hrs hgr
  go_wp2_with fail
  refine (left_stop _ rb x HS7.out).mono ?_
  rintro e w8 ⟨rfl, q8, rfl⟩
  go_wp2
  go_ret
  exact ⟨rfl, bel_drewN HB7.out q8⟩

theorem walk (a0 : Option Addr) (len0 cap0 : Nat) (z0 : List Int) (a1 : Int) (a2 : Int) (w : World) (w0 : IsRow .u8 w a0 len0 cap0 z0) (w1 : (Lit.int .i64 a1).wf = true) (w2 : (Lit.int .i64 a2).wf = true) :
    Calls Try.prog 7 #[.slice a0 len0 cap0, .int .i64 a1, .int .i64 a2] w fun e w' => e = .returned (.bool true) ∧ Below w.heap.size w w' := by
  obtain ⟨hm, f, hf, hs⟩ := src_of w0
  by_cases h : 100 < len0 ∨ a1 = 0 ∨ a2 = 0
  · exact walk_trivial a0 len0 cap0 a1 a2 w hm h
  · have h1 : ¬ 100 < len0 := fun e => h (.inl e)
    have h2 : ¬ a1 = 0 := fun e => h (.inr (.inl e))
    have h3 : ¬ a2 = 0 := fun e => h (.inr (.inr e))
    exact walk_main a0 len0 cap0 f a1 a2 w (by omega) hf hs (by simpa using h2) (by simpa using h3)

set_option maxRecDepth 100000 in
theorem lifted (os : Os) (started : os.Started) (H : Type) (enc : TypeId × Value → H) :
    ReturnsInHanded {} Try.checked os 7 .any (Rows.bitsStopsSpec.pre6 enc Try.prog Try.f7 Rows.bitsStopsRow.domain false) (Rows.bitsStopsSpec.post enc Try.prog Try.f7 false true false false) := by
  refine returnsInHanded_of_change (C := Try.checked) own started (by kernel_rfl) Try.func7
    (ChangeSpec.witness6 (enc := enc) (C := Try.checked) false ⟨#[], #[.slice none 0 0, .int .i64 0, .int .i64 0], []⟩ 8 (by kernel_rfl) (by kernel_rfl) (by kernel_rfl) (by kernel_rfl)) ?_
  intro W base args ds gs before hval0 hW hcnd _
  have hval : ∀ (j : Nat) t v, Try.f7.params[j]? = some t → args[j]? = some v → Value.okWide Try.prog W .any base t v := hval0
  have hW' := hW
  obtain ⟨p, q, hA0, hV, rfl, hfz, hnd⟩ := hW
  have hA : DataW.TrodAll enc Try.prog W 0 (fun _ => true) true Try.f7.params.toList args.toList ds p := hA0
  rw [Try.params7] at hA hval
  obtain ⟨v0, vs0, d0, ds0, p0, q0, hargs, rfl, rfl, h0, r0⟩ := trodAll_cons hA
  obtain ⟨v1, vs1, d1, ds1, p1, q1, rfl, rfl, rfl, h1, r1⟩ := trodAll_cons r0
  obtain ⟨v2, vs2, d2, ds2, p2, q2, rfl, rfl, rfl, h2, r2⟩ := trodAll_cons r1
  obtain ⟨rfl, rfl, rfl⟩ := trodAll_nil r2
  obtain rfl : args = #[v0, v1, v2] := by cases args; simp_all
  obtain ⟨rfl, rfl⟩ := trodVars_none hV
  obtain ⟨a0, len0, cap0, rfl⟩ := okWide_slice Try.underlying25 (hval 0 25 v0 rfl rfl)
  have k0 := h0
  have lt0 : ∀ x ∈ p0, x.block < W.heap.size := by obtain ⟨m, hm⟩ := k0; exact DataW.trod_lt m _ _ _ hm
  obtain ⟨z0, w0⟩ : ∃ zs, IsRow .u8 W a0 len0 cap0 zs := by
    obtain ⟨fuel, hf⟩ := h0
    rcases open_ints Try.underlying25 Try.underlying5 (by kernel_rfl) hf with ⟨hcs, _⟩ | ⟨x, l, c, zs, hcs, _, hl, hm, hz, _, hcell, hwz⟩
    · simp [Value.cells] at hcs
      obtain ⟨rfl, rfl, rfl⟩ := hcs
      exact ⟨[], .inl ⟨rfl, rfl, rfl, rfl⟩⟩
    · simp [Value.cells] at hcs
      obtain ⟨rfl, rfl, rfl⟩ := hcs
      exact ⟨zs, .inr ⟨_, rfl, hl, hm, by simpa using hz, hcell, hwz⟩⟩
  obtain ⟨a1, rfl, rfl, rfl, w1⟩ := open_int Try.underlying3 (hval 1 3 v1 rfl rfl) h1
  obtain ⟨a2, rfl, rfl, rfl, w2⟩ := open_int Try.underlying3 (hval 2 3 v2 rfl rfl) h2
  clear hA0 hval0
  refine (walk a0 len0 cap0 z0 a1 a2 W w0 w1 w2).mono fun e W' ⟨he, bel⟩ => ?_
  subst he
  exact ⟨_, rfl, _, _, _, [], _, [], hW', trodAll_mk1 (shut_bool Try.underlying4 _), (trodAll_cons_mk (Below.trod laidOut (by kernel_rfl) (of_decide_eq_true (by kernel_rfl)) k0 bel lt0) (trodAll_cons_mk (shut_int Try.underlying3 w1) (trodAll_cons_mk (shut_int Try.underlying3 w2) trodAll_mk0))), rfl, bel.frame _, fun h => by cases h⟩

theorem over : Rows.bitsStopsRow.holds Try.pinned (OpenSpec.ofChange Rows.bitsStopsSpec) :=
  OpenClaim.holds_of_wide 7 Try.f7 rfl rfl rfl rfl rfl rfl rfl ⟨rfl, rfl, rfl, rfl, rfl⟩ rfl rfl rfl rfl rfl (by kernel_rfl) Try.func7 (by kernel_rfl)
    (of_decide_eq_true (by kernel_rfl)) (by unfold Func.isWrapper; first | (rw [if_pos (by decide +kernel)]; kernel_rfl) | (rw [if_neg (by decide +kernel)]; exact ⟨rfl, rfl⟩))
    (fun os started H enc _ => lifted os started H enc)

/-- ████ THE STATEMENT ████ -/
theorem proved : Rows.BitsStopsSaid := over
end Go.Proofs.Ytmhjffneemmncaa.bitsStops
namespace Go.Proofs.Ytmhjffneemmncaa
theorem bitsStops_holds : Rows.BitsStopsSaid := bitsStops.proved
#print axioms bitsStops_holds
end Go.Proofs.Ytmhjffneemmncaa
