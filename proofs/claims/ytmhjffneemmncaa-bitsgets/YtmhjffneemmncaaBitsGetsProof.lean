/-
  For all bytes and every two numbers the law BitsGets returns true: bits that are taken in two goes are those that are taken in one.
  Conditions: none but those of the given row. The frame of the proof is the kit's shell (proof-skeleton), the walk is ours.
-/
import Derived.Test.YtmhjffneemmncaaD
import Derived.WalkKit
import Derived.ProofKit
import Derived.OpenShut
import Derived.ShutString
import Derived.ChangeOld
import Derived.Below
namespace Go.Proofs.Ytmhjffneemmncaa.bitsGets
open Go.ChangeShapes Go.WideShapes Go.ChangeAt Go.RowKit
open Go.ChangeMaps (open_string shut_string)
set_option linter.unusedVariables false

theorem own : ownKnob Try.prog.godebug = none := by kernel_rfl
theorem laidOut : laidOutB Try.prog = true := by kernel_rfl

/-- WHAT THE WALK IS TOLD OF A SLICE OF INTEGERS THAT CAME IN: it is nil; or it leads to a row of 'cap' cells, the numbers 'zs' (the first 'len' are its elements, the rest its spare room), each fitting its kind. -/
def IsRow (k : IntKind) (w : World) (a : Option Addr) (len cap : Nat) (zs : List Int) : Prop :=
  (a = none ∧ len = 0 ∧ cap = 0 ∧ zs = []) ∨
  ∃ x, a = some x ∧ len ≤ cap ∧ cap ≤ maxLen ∧ zs.length = cap ∧ (∀ i, i < zs.length → w.cell? (x.add i) = some (.int k (zs.getD i 0))) ∧ ∀ n ∈ zs, (Lit.int k n).wf = true

theorem and31 (n : Int) : ∃ p : Nat, bits .and .i64 n 31 = (p : Int) ∧ p ≤ 31 := by
  have e : bits .and .i64 n 31 = n % 32 := by
    have h31 : (BitVec.ofInt 64 31).toNat = 2 ^ 5 - 1 := by decide
    have key : (BitVec.ofInt 64 n &&& BitVec.ofInt 64 31).toNat = (n % ((2 ^ 64 : Nat) : Int)).toNat % 2 ^ 5 := by
      rw [BitVec.toNat_and, BitVec.toNat_ofInt, h31, Nat.and_two_pow_sub_one_eq_mod]
    show IntKind.i64.wrap ((BitVec.ofInt 64 n &&& BitVec.ofInt 64 31).toNat : Nat) = n % 32
    rw [key, IntKind.wrap_i64]
    omega
  exact ⟨(n % 32).toNat, by rw [e]; omega, by omega⟩

theorem gv_split (f : Nat → Nat) (a p q : Nat) : gv f a (p + q) = 2 ^ q * gv f a p + gv f (a + p) q := by
  induction q with
  | zero => simp [gv]
  | succ q ih =>
    show 2 * gv f a (p + q) + bitAt f (a + (p + q)) = 2 ^ (q + 1) * gv f a p + (2 * gv f (a + p) q + bitAt f (a + p + q))
    rw [ih, Nat.pow_succ, Nat.add_assoc a p q, Nat.mul_add, Nat.mul_comm (2 ^ q) 2, Nat.mul_assoc, Nat.add_assoc]

theorem gv_join (f : Nat → Nat) (p q : Nat) (h : p + q ≤ 64) :
    bits BinOp.or IntKind.u64 (IntKind.u64.wrap (((gv f 0 p : Nat) : Int) * 2 ^ q)) ((gv f p q : Nat) : Int) = ((gv f 0 (p + q) : Nat) : Int) := by
  have h1 := gv_lt f 0 (p + q)
  have h2 := gv_lt f p q
  have h3 := gv_split f 0 p q
  rw [Nat.zero_add] at h3
  have h4 : 2 ^ (p + q) ≤ 2 ^ 64 := Nat.pow_le_pow_right (by decide) h
  have e1 : (((gv f 0 p : Nat) : Int) * 2 ^ q) = ((2 ^ q * gv f 0 p : Nat) : Int) := by rw [Int.natCast_mul, Int.natCast_pow, Int.mul_comm]; rfl
  have e2 : IntKind.u64.wrap ((2 ^ q * gv f 0 p : Nat) : Int) = ((2 ^ q * gv f 0 p : Nat) : Int) := by rw [IntKind.wrap_u64]; omega
  rw [e1, e2, u64_or_nat _ _ (by omega) (by omega), nat_join q _ _ (Nat.mul_mod_right _ _) h2, h3]

theorem walk_trivial (a : Option Addr) (len cap : Nat) (x y : Int) (p q : Nat) (w : World) (hm : len ≤ 9223372036854775807) (hp : bits BinOp.and IntKind.i64 x 31 = (p : Int)) (hp' : p ≤ 31) (hq : bits BinOp.and IntKind.i64 y 31 = (q : Int)) (hq' : q ≤ 31) (h : 100 < len ∨ 8 * len < p + q) :
    Calls Try.prog 9 #[.slice a len cap, .int .i64 x, .int .i64 y] w fun e w' => e = .returned (.bool true) ∧ Below w.heap.size w w' := by
  by_cases h1 : 100 < len
  · go_enter Try.func9, Try.ntmps9
    go_wp2_with fail
    refine (took_any _).mono ?_
    rintro e w1 ⟨rfl, hb⟩
    have HB := Lib.hid hb; clear hb
    go_wp2
    go_ret
    exact ⟨rfl, HB.out⟩
  · have h2 : 8 * (len : Int) < (p : Int) + (q : Int) := by omega
    go_enter Try.func9, Try.ntmps9
    go_wp2_with fail
    refine (took_any _).mono ?_
    rintro e w1 ⟨rfl, hb⟩
    have HB := Lib.hid hb; clear hb
    go_wp2
    go_ret
    exact ⟨rfl, HB.out⟩

set_option maxHeartbeats 1000000 in
theorem walk_main (a : Option Addr) (len cap : Nat) (f : Nat → Nat) (x y : Int) (p q : Nat) (w : World) (hl : len ≤ 100) (hf : ∀ j, f j < 256) (hs : Src w a len f) (hp : bits BinOp.and IntKind.i64 x 31 = (p : Int)) (hp' : p ≤ 31) (hq : bits BinOp.and IntKind.i64 y 31 = (q : Int)) (hq' : q ≤ 31) (h : p + q ≤ 8 * len) :
    Calls Try.prog 9 #[.slice a len cap, .int .i64 x, .int .i64 y] w fun e w' => e = .returned (.bool true) ∧ Below w.heap.size w w' := by
  have HF := Lib.hid hf
  have HS := Lib.hid hs
  have h2 : ¬ 8 * (len : Int) < (p : Int) + (q : Int) := by omega
  clear hf hs
  go_enter Try.func9, Try.ntmps9
  go_wp2_with fail
  refine (took_any _).mono ?_
  rintro e w1 ⟨rfl, hb⟩
  have HB := Lib.hid hb; clear hb
  go_wp2_with fail
  refine (read_any a len cap f _ (by omega) HF.out (HS.out.below HB.out)).mono ?_
  rintro e w2 ⟨g, rb, rfl, hrd, hg, hrb, hb2⟩
  have HD := Lib.hid hrd
  have HB2 : Hid (Below w.heap.size w w2) := Lib.hid (HB.out.trans (hb2.mono HB.out.size))
  have hrb' : w.heap.size ≤ rb := Nat.le_trans HB.out.size hrb
  clear hrd hb2 hg hrb
  go_wp2_with fail
  refine (read_any a len cap f _ (by omega) HF.out (HS.out.below HB2.out)).mono ?_
  rintro e w3 ⟨g3, rb3, rfl, hrd, hg, hrb, hb2⟩
  have HDr : Hid (RD w3 g rb len f 0) := Lib.hid (HD.out.below hb2)
  have HDs := Lib.hid hrd
  have HB3 : Hid (Below w.heap.size w w3) := Lib.hid (HB2.out.trans (hb2.mono HB2.out.size))
  have hrb3 : w.heap.size ≤ rb3 := Nat.le_trans HB2.out.size hrb
  have n1 : g ≠ rb3 := by have := HD.out.glt; omega
  have n2 : rb ≠ rb3 := by have := HD.out.lt; omega
  have n3 : g3 ≠ rb := by have := HD.out.lt; omega
  clear hrd hb2 hg hrb
  go_wp2_with fail
  refine (get_ok w3 g rb len 0 f _ (p + q) (by unfold wn; rw [if_neg (by omega), if_neg (by omega)]; omega) HDr.out (by omega)).mono ?_
  rintro e w4 ⟨rfl, hrd, hgr⟩
  have HDr4 := Lib.hid hrd
  have HDs4 := Lib.hid (HDs.out.kept hgr n2.symm n3)
  have HB4 := Lib.hid (bel_grown HB3.out hgr hrb')
  clear hrd hgr
  go_wp2_with fail
  refine (get_ok w4 g3 rb3 len 0 f _ p (by unfold wn; rw [if_neg (by omega), if_neg (by omega)]; omega) HDs4.out (by omega)).mono ?_
  rintro e w5 ⟨rfl, hrd, hgr⟩
  have HDs5 := Lib.hid hrd
  have HDr5 := Lib.hid (HDr4.out.kept hgr n2 n1)
  have HB5 := Lib.hid (bel_grown HB4.out hgr hrb3)
  clear hrd hgr
  go_wp2_with fail
  refine (get_ok w5 g3 rb3 len (0 + p) f _ q (by unfold wn; rw [if_neg (by omega), if_neg (by omega)]; omega) HDs5.out (by omega)).mono ?_
  rintro e w6 ⟨rfl, hrd, hgr⟩
  have HDs6 := Lib.hid hrd
  have HDr6 := Lib.hid (HDr5.out.kept hgr n2 n1)
  have HB6 := Lib.hid (bel_grown HB5.out hgr hrb3)
  clear hrd hgr
  have eo := gv_join f p q (by omega)
  have el : (((8 * len - (p + q) : Nat) : Int) == 8 * (len : Int) - (p : Int) - (q : Int)) = true := by rw [beq_iff_eq]; omega
  go_wp2_with fail
  refine (left_any w6 g rb len (0 + (p + q)) f HDr6.out).mono ?_
  rw [Nat.zero_add]
  rintro e w7 ⟨rfl, q7, rfl⟩
  go_wp2_with fail
  refine (left_any _ g3 rb3 len (0 + p + q) f (HDs6.out.drewN q7)).mono ?_
  rw [Nat.zero_add]
  rintro e w8 ⟨rfl, q8, rfl⟩
  go_wp2_with fail
  refine (left_any _ g rb len (0 + (p + q)) f (HDr6.out.drewN (q7 + q8))).mono ?_
  rw [Nat.zero_add]
  rintro e w9 ⟨rfl, q9, rfl⟩
  go_wp2
  go_ret
  exact ⟨rfl, bel_drewN HB6.out _⟩

theorem walk (a0 : Option Addr) (len0 cap0 : Nat) (z0 : List Int) (a1 : Int) (a2 : Int) (w : World) (w0 : IsRow .u8 w a0 len0 cap0 z0) (w1 : (Lit.int .i64 a1).wf = true) (w2 : (Lit.int .i64 a2).wf = true) :
    Calls Try.prog 9 #[.slice a0 len0 cap0, .int .i64 a1, .int .i64 a2] w fun e w' => e = .returned (.bool true) ∧ Below w.heap.size w w' := by
  obtain ⟨hm, f, hf, hs⟩ := src_of w0
  obtain ⟨p, hp, hp'⟩ := and31 a1
  obtain ⟨q, hq, hq'⟩ := and31 a2
  by_cases h : 100 < len0 ∨ 8 * len0 < p + q
  · exact walk_trivial a0 len0 cap0 a1 a2 p q w hm hp hp' hq hq' h
  · have h1 : ¬ 100 < len0 := fun e => h (.inl e)
    have h2 : ¬ 8 * len0 < p + q := fun e => h (.inr e)
    exact walk_main a0 len0 cap0 f a1 a2 p q w (by omega) hf hs hp hp' hq hq' (by omega)

set_option maxRecDepth 100000 in
theorem lifted (os : Os) (started : os.Started) (H : Type) (enc : TypeId × Value → H) :
    ReturnsInHanded {} Try.checked os 9 .any (Rows.bitsGetsSpec.pre6 enc Try.prog Try.f9 Rows.bitsGetsRow.domain false) (Rows.bitsGetsSpec.post enc Try.prog Try.f9 false true false false) := by
  refine returnsInHanded_of_change (C := Try.checked) own started (by kernel_rfl) Try.func9
    (ChangeSpec.witness6 (enc := enc) (C := Try.checked) false ⟨#[], #[.slice none 0 0, .int .i64 0, .int .i64 0], []⟩ 8 (by kernel_rfl) (by kernel_rfl) (by kernel_rfl) (by kernel_rfl)) ?_
  intro W base args ds gs before hval0 hW hcnd _
  have hval : ∀ (j : Nat) t v, Try.f9.params[j]? = some t → args[j]? = some v → Value.okWide Try.prog W .any base t v := hval0
  have hW' := hW
  obtain ⟨p, q, hA0, hV, rfl, hfz, hnd⟩ := hW
  have hA : DataW.TrodAll enc Try.prog W 0 (fun _ => true) true Try.f9.params.toList args.toList ds p := hA0
  rw [Try.params9] at hA hval
  obtain ⟨v0, vs0, d0, ds0, p0, q0, hargs, rfl, rfl, h0, r0⟩ := trodAll_cons hA
  obtain ⟨v1, vs1, d1, ds1, p1, q1, rfl, rfl, rfl, h1, r1⟩ := trodAll_cons r0
  obtain ⟨v2, vs2, d2, ds2, p2, q2, rfl, rfl, rfl, h2, r2⟩ := trodAll_cons r1
  obtain ⟨rfl, rfl, rfl⟩ := trodAll_nil r2
  obtain rfl : args = #[v0, v1, v2] := by cases args; simp_all
  obtain ⟨rfl, rfl⟩ := trodVars_none hV
  obtain ⟨a0, len0, cap0, rfl⟩ := okWide_slice Try.underlying25 (hval 0 25 v0 rfl rfl)
  have k0 := h0
  have lt0 : ∀ x ∈ p0, x.block < W.heap.size := by obtain ⟨m, hm⟩ := k0; exact DataW.trod_lt m _ _ _ hm
  obtain ⟨z0, w0⟩ : ∃ zs, IsRow .u8 W a0 len0 cap0 zs := by
    obtain ⟨fuel, hf⟩ := h0
    rcases open_ints Try.underlying25 Try.underlying5 (by kernel_rfl) hf with ⟨hcs, _⟩ | ⟨x, l, c, zs, hcs, _, hl, hm, hz, _, hcell, hwz⟩
    · simp [Value.cells] at hcs
      obtain ⟨rfl, rfl, rfl⟩ := hcs
      exact ⟨[], .inl ⟨rfl, rfl, rfl, rfl⟩⟩
    · simp [Value.cells] at hcs
      obtain ⟨rfl, rfl, rfl⟩ := hcs
      exact ⟨zs, .inr ⟨_, rfl, hl, hm, by simpa using hz, hcell, hwz⟩⟩
  obtain ⟨a1, rfl, rfl, rfl, w1⟩ := open_int Try.underlying3 (hval 1 3 v1 rfl rfl) h1
  obtain ⟨a2, rfl, rfl, rfl, w2⟩ := open_int Try.underlying3 (hval 2 3 v2 rfl rfl) h2
  clear hA0 hval0
  refine (walk a0 len0 cap0 z0 a1 a2 W w0 w1 w2).mono fun e W' ⟨he, bel⟩ => ?_
  subst he
  exact ⟨_, rfl, _, _, _, [], _, [], hW', trodAll_mk1 (shut_bool Try.underlying4 _), (trodAll_cons_mk (Below.trod laidOut (by kernel_rfl) (of_decide_eq_true (by kernel_rfl)) k0 bel lt0) (trodAll_cons_mk (shut_int Try.underlying3 w1) (trodAll_cons_mk (shut_int Try.underlying3 w2) trodAll_mk0))), rfl, bel.frame _, fun h => by cases h⟩

theorem over : Rows.bitsGetsRow.holds Try.pinned (OpenSpec.ofChange Rows.bitsGetsSpec) :=
  OpenClaim.holds_of_wide 9 Try.f9 rfl rfl rfl rfl rfl rfl rfl ⟨rfl, rfl, rfl, rfl, rfl⟩ rfl rfl rfl rfl rfl (by kernel_rfl) Try.func9 (by kernel_rfl)
    (of_decide_eq_true (by kernel_rfl)) (by unfold Func.isWrapper; first | (rw [if_pos (by decide +kernel)]; kernel_rfl) | (rw [if_neg (by decide +kernel)]; exact ⟨rfl, rfl⟩))
    (fun os started H enc _ => lifted os started H enc)

/-- ████ THE STATEMENT ████ -/
theorem proved : Rows.BitsGetsSaid := over
end Go.Proofs.Ytmhjffneemmncaa.bitsGets
namespace Go.Proofs.Ytmhjffneemmncaa
theorem bitsGets_holds : Rows.BitsGetsSaid := bitsGets.proved
#print axioms bitsGets_holds
end Go.Proofs.Ytmhjffneemmncaa
