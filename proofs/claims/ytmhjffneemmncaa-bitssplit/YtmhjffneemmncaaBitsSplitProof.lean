/-
  For every number and every two sizes the law BitsSplit returns true: bits that are put in two goes are those that are put in one.
  Conditions: none but those of the given row. The frame of the proof is the kit's shell (proof-skeleton), the walk is ours.
-/
import Derived.Test.YtmhjffneemmncaaW4
import Derived.WalkKit
import Derived.ProofKit
import Derived.OpenShut
import Derived.Below
import Derived.ShutString
namespace Go.Proofs.Ytmhjffneemmncaa.bitsSplit
open Go.ChangeShapes Go.WideShapes Go.ChangeAt Go.RowKit
open Go.ChangeMaps (open_string shut_string)
set_option linter.unusedVariables false      -- a walk need not use every 'w<i>' (that an integer argument fits its kind)

theorem own : ownKnob Try.prog.godebug = none := by kernel_rfl

theorem split_bits (x p q i : Nat) (h : i < p) : x / 2 ^ q / 2 ^ (p - 1 - i) % 2 = x / 2 ^ (p + q - 1 - i) % 2 := by
  rw [Nat.div_div_eq_div_mul, ← Nat.pow_add]; congr 3; omega

set_option maxHeartbeats 1000000 in
theorem walk_main (x : Nat) (y z : Int) (p q : Nat) (w : World) (hx : x < 18446744073709551616) (hp : bits BinOp.and IntKind.i64 y 31 = (p : Int)) (hp' : p ≤ 31) (hq : bits BinOp.and IntKind.i64 z 31 = (q : Int)) (hq' : q ≤ 31) :
    Calls Try.prog 8 #[.int .u64 (x : Int), .int .i64 y, .int .i64 z] w fun e w' => e = .returned (.bool true) ∧ Below w.heap.size w w' := by
  have HX := Lib.hid hx
  clear hx
  go_enter Try.func8, Try.ntmps8
  go_wp2_with fail
  refine (wrote_any _).mono ?_
  rintro e w1 ⟨rfl, hb⟩
  have HB := Lib.hid hb; clear hb
  go_wp2_with fail
  have HA0 : Hid (WR ((w1.alloc (.cells #[.slice none 0 0, .int .i64 0] 27)).alloc (.cells #[.slice none 0 0, .int .i64 0] 27)) w1.heap.size w1.heap.size (.slice none 0 0) (fun _ => 0) 0) :=
    Lib.hid ((WR.new w1 w1.heap.size (Nat.le_refl _)).below ((Below.refl _ _).alloc (Nat.le_refl _) _))
  have HB0 : Hid (WR ((w1.alloc (.cells #[.slice none 0 0, .int .i64 0] 27)).alloc (.cells #[.slice none 0 0, .int .i64 0] 27)) w1.heap.size (w1.heap.size + 1) (.slice none 0 0) (fun _ => 0) 0) := by
    have h := WR.new (w1.alloc (.cells #[.slice none 0 0, .int .i64 0] 27)) w1.heap.size (by simp)
    simp only [World.size_alloc] at h
    exact Lib.hid h
  have hbw : Hid (Below w.heap.size w ((w1.alloc (.cells #[.slice none 0 0, .int .i64 0] 27)).alloc (.cells #[.slice none 0 0, .int .i64 0] 27))) := Lib.hid ((HB.out.alloc HB.out.size _).alloc (by have := HB.out.size; simp; omega) _)
  have hsz : ((w1.alloc (.cells #[.slice none 0 0, .int .i64 0] 27)).alloc (.cells #[.slice none 0 0, .int .i64 0] 27)).heap.size = w1.heap.size + 2 := by simp
  generalize ((w1.alloc (.cells #[.slice none 0 0, .int .i64 0] 27)).alloc (.cells #[.slice none 0 0, .int .i64 0] 27)) = w2 at HA0 HB0 hbw hsz ⊢
  have HSZ := Lib.hid hsz
  clear hsz
  refine (put_any w2 w1.heap.size w1.heap.size (.slice none 0 0) (fun _ => 0) 0 x _ (p + q) (by have := wn_nat (p + q) (by omega); rw [Int.natCast_add] at this; exact this) HA0.out HX.out (by omega)).mono ?_
  rintro e w3 ⟨rfl, va, Fa, ha, _, a2, sa⟩
  have HA3 := Lib.hid ha
  have HA2 := Lib.hid a2
  have HSA := Lib.hid sa
  have HB3 : Hid (WR w3 w1.heap.size (w1.heap.size + 1) (.slice none 0 0) (fun _ => 0) 0) := Lib.hid (HB0.out.kept sa (by omega) (by simp [Value.ownBlock]) (fun k hk => by simp [Value.ownBlock] at hk))
  clear ha a2 sa
  go_wp2_with fail
  rw [show ((x : Int) / 2 ^ q) = ((x / 2 ^ q : Nat) : Int) from by rw [Int.natCast_ediv, Int.natCast_pow]; rfl]
  refine (put_any w3 w1.heap.size (w1.heap.size + 1) (.slice none 0 0) (fun _ => 0) 0 (x / 2 ^ q) _ p (wn_nat p (by omega)) HB3.out (Nat.lt_of_le_of_lt (Nat.div_le_self _ _) HX.out) (by omega)).mono ?_
  rintro e w4 ⟨rfl, vb, Fb, hbb, _, b2, sb⟩
  have HB4 := Lib.hid hbb
  have HB2 := Lib.hid b2
  have HSB := Lib.hid sb
  clear hbb b2 sb
  go_wp2_with fail
  refine (put_any w4 w1.heap.size (w1.heap.size + 1) vb Fb (0 + p) x _ q (wn_nat q (by omega)) HB4.out HX.out (by omega)).mono ?_
  rintro e w5 ⟨rfl, vc, Fc, hcc, c1, c2, sc⟩
  have HB5 := Lib.hid hcc
  have HC2 := Lib.hid (⟨c1, c2⟩ : _ ∧ _)
  have HSC := Lib.hid (HSB.out.trans sc)
  have HA5 : Hid (WR w5 w1.heap.size w1.heap.size va Fa (0 + (p + q))) := Lib.hid (HA3.out.kept HSC.out (by omega) (by simp [Value.ownBlock]) (fun k hk => by
    refine ⟨?_, by simp [Value.ownBlock]⟩
    rcases HSA.out.row with e | ⟨g, e, hg⟩
    · rw [e] at hk; simp [Value.ownBlock] at hk
    · rw [e] at hk; injection hk with hk; have := HSZ.out; omega))
  have HBel : Hid (Below w.heap.size w w5) := by
    have h1 : Below w.heap.size w2 w3 := HSA.out.below HB.out.size (by have := HB.out.size; have := HSZ.out; omega) (fun k hk => by simp [Value.ownBlock] at hk)
    have h2 : Below w.heap.size w3 w5 := HSC.out.below (by have := HB.out.size; omega) (by have := HB.out.size; have := HSZ.out; have := h1.size; omega) (fun k hk => by simp [Value.ownBlock] at hk)
    exact Lib.hid (hbw.out.trans (h1.trans h2))
  have HEQ : Hid (∀ j, j < (0 + (p + q) + 7) / 8 → Fa j = Fc j) := by
    refine Lib.hid (bytes_eq HA5.out.ends (by have := HB5.out.ends; rw [show 0 + p + q = 0 + (p + q) from by omega] at this; exact this) (fun i hi => ?_))
    have e1 := HA2.out i (by omega)
    rw [Nat.zero_add] at e1
    rw [e1]
    by_cases hip : i < p
    · have e2 := HC2.out.1 i (by omega)
      have e3 := HB2.out i hip
      rw [Nat.zero_add] at e3
      rw [e2, e3]
      show x / 2 ^ (p + q - 1 - i) % 2 = x / 2 ^ q / 2 ^ (p - 1 - i) % 2
      rw [split_bits x p q i hip]
    · have e2 := HC2.out.2 (i - p) (by omega)
      rw [show 0 + p + (i - p) = i from by omega] at e2
      rw [e2]
      show x / 2 ^ (p + q - 1 - i) % 2 = x / 2 ^ (q - 1 - (i - p)) % 2
      congr 3; omega
  clear hcc c1 c2 sc
  go_wp2_with fail
  refine (len_any w5 _ _ va Fa (0 + (p + q)) HA5.out).mono ?_
  rw [show ((0 + (p + q) : Nat) : Int) = (p : Int) + (q : Int) from by omega]
  rintro e w' ⟨rfl, rfl⟩
  go_wp2_with fail
  refine (len_any w5 _ _ vc Fc (0 + p + q) HB5.out).mono ?_
  rw [show ((0 + p + q : Nat) : Int) = (p : Int) + (q : Int) from by omega]
  rintro e w' ⟨rfl, rfl⟩
  obtain ⟨n, hn⟩ : ∃ n, (0 + (p + q) + 7) / 8 = n := ⟨_, rfl⟩
  have HN := Lib.hid hn
  have HN2 : Hid ((0 + p + q + 7) / 8 = n) := Lib.hid (by rw [← hn]; congr 1; omega)
  clear hn
  go_wp2_with fail
  refine (bytes_any w5 _ _ va Fa (0 + (p + q)) n HN.out HA5.out (by omega)).mono ?_
  rintro e w6 ⟨rfl, hrow, hlt, hb6⟩
  have HR6 := Lib.hid hrow
  have HB6 := Lib.hid hb6
  have HB56 : Hid (WR w6 w1.heap.size (w1.heap.size + 1) vc Fc (0 + p + q)) := Lib.hid (HB5.out.below hb6)
  have hl6 : w5.heap.size < w6.heap.size := hlt
  clear hrow hlt hb6
  go_wp2_with fail
  refine (bytes_any w6 _ _ vc Fc (0 + p + q) n HN2.out HB56.out (by omega)).mono ?_
  rintro e w7 ⟨rfl, hrow, hlt, hb7⟩
  have HR7 := Lib.hid hrow
  have HB7 := Lib.hid hb7
  clear hrow hlt hb7
  go_wp2_with fail
  refine (same_true w7 _ _ n _ _ Fa Fc ?_ (row_src HR7.out) (fun j hj => HEQ.out j (by rw [HN.out]; exact hj))).mono ?_
  · exact (row_src HR6.out).below HB7.out
  rintro e w' ⟨rfl, rfl⟩
  go_wp2
  go_ret
  refine ⟨rfl, ?_⟩
  have h1 := HBel.out.trans (HB6.out.mono HBel.out.size)
  exact h1.trans (HB7.out.mono h1.size)

theorem walk (a0 : Int) (a1 : Int) (a2 : Int) (w0 : (Lit.int .u64 a0).wf = true) (w1 : (Lit.int .i64 a1).wf = true) (w2 : (Lit.int .i64 a2).wf = true) (w : World) :
    Calls Try.prog 8 #[.int .u64 a0, .int .i64 a1, .int .i64 a2] w fun e w' => e = .returned (.bool true) ∧ Below w.heap.size w w' := by
  obtain ⟨x, rfl, hx⟩ := u64_nat w0
  obtain ⟨p, hp, hp'⟩ := and31 a1
  obtain ⟨q, hq, hq'⟩ := and31 a2
  exact walk_main x a1 a2 p q w hx hp hp' hq hq'

set_option maxRecDepth 100000 in
theorem lifted (os : Os) (started : os.Started) (H : Type) (enc : TypeId × Value → H) :
    ReturnsInHanded {} Try.checked os 8 .any (Rows.bitsSplitSpec.pre6 enc Try.prog Try.f8 Rows.bitsSplitRow.domain false) (Rows.bitsSplitSpec.post enc Try.prog Try.f8 false true false false) := by
  refine returnsInHanded_of_change (C := Try.checked) own started (by kernel_rfl) Try.func8
    (ChangeSpec.witness6 (enc := enc) (C := Try.checked) false ⟨#[], #[.int .u64 0, .int .i64 0, .int .i64 0], []⟩ 8 (by kernel_rfl) (by kernel_rfl) (by kernel_rfl) (by kernel_rfl)) ?_
  intro W base args ds gs before hval0 hW hcnd _
  have hval : ∀ (j : Nat) t v, Try.f8.params[j]? = some t → args[j]? = some v → Value.okWide Try.prog W .any base t v := hval0
  have hW' := hW
  obtain ⟨p, q, hA0, hV, rfl, hfz, hnd⟩ := hW
  have hA : DataW.TrodAll enc Try.prog W 0 (fun _ => true) true Try.f8.params.toList args.toList ds p := hA0
  rw [Try.params8] at hA hval
  obtain ⟨v0, vs0, d0, ds0, p0, q0, hargs, rfl, rfl, h0, r0⟩ := trodAll_cons hA
  obtain ⟨v1, vs1, d1, ds1, p1, q1, rfl, rfl, rfl, h1, r1⟩ := trodAll_cons r0
  obtain ⟨v2, vs2, d2, ds2, p2, q2, rfl, rfl, rfl, h2, r2⟩ := trodAll_cons r1
  obtain ⟨rfl, rfl, rfl⟩ := trodAll_nil r2
  obtain rfl : args = #[v0, v1, v2] := by cases args; simp_all
  obtain ⟨rfl, rfl⟩ := trodVars_none hV
  obtain ⟨a0, rfl, rfl, rfl, w0⟩ := open_int Try.underlying28 (hval 0 28 v0 rfl rfl) h0
  obtain ⟨a1, rfl, rfl, rfl, w1⟩ := open_int Try.underlying3 (hval 1 3 v1 rfl rfl) h1
  obtain ⟨a2, rfl, rfl, rfl, w2⟩ := open_int Try.underlying3 (hval 2 3 v2 rfl rfl) h2
  clear hA0 hval0
  refine (walk a0 a1 a2 w0 w1 w2 W).mono fun e W' ⟨he, hg⟩ => ?_
  subst he
  exact ⟨_, rfl, _, _, _, [], _, [], hW', trodAll_mk1 (shut_bool Try.underlying4 _), (trodAll_cons_mk (shut_int Try.underlying28 w0) (trodAll_cons_mk (shut_int Try.underlying3 w1) (trodAll_cons_mk (shut_int Try.underlying3 w2) trodAll_mk0))), rfl, hg.frame _, fun h => by cases h⟩

theorem over : Rows.bitsSplitRow.holds Try.pinned (OpenSpec.ofChange Rows.bitsSplitSpec) :=
  OpenClaim.holds_of_wide 8 Try.f8 rfl rfl rfl rfl rfl rfl rfl ⟨rfl, rfl, rfl, rfl, rfl⟩ rfl rfl rfl rfl rfl (by kernel_rfl) Try.func8 (by kernel_rfl)
    (of_decide_eq_true (by kernel_rfl)) (by unfold Func.isWrapper; first | (rw [if_pos (by decide +kernel)]; kernel_rfl) | (rw [if_neg (by decide +kernel)]; exact ⟨rfl, rfl⟩))
    (fun os started H enc _ => lifted os started H enc)

/-- ████ THE STATEMENT ████ -/
theorem proved : Rows.BitsSplitSaid :=
  over
end Go.Proofs.Ytmhjffneemmncaa.bitsSplit
namespace Go.Proofs.Ytmhjffneemmncaa
theorem bitsSplit_holds : Rows.BitsSplitSaid := bitsSplit.proved
#print axioms bitsSplit_holds
end Go.Proofs.Ytmhjffneemmncaa
