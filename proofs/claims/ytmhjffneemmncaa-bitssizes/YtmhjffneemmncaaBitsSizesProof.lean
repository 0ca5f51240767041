/-
  For every two numbers and every cut the law BitsSizes returns true: a greater number has no fewer bits, always an odd number of them, and cut off it is too short.
  Conditions: none but those of the given row. The frame of the proof is the kit's shell (proof-skeleton), the walk is ours.
-/
import Derived.Test.YtmhjffneemmncaaN2
import Derived.WalkKit
import Derived.ProofKit
import Derived.OpenShut
import Derived.Below
import Derived.ShutString
namespace Go.Proofs.Ytmhjffneemmncaa.bitsSizes
open Go.ChangeShapes Go.WideShapes Go.ChangeAt Go.RowKit
open Go.ChangeMaps (open_string shut_string)
set_option linter.unusedVariables false      -- a walk need not use every 'w<i>' (that an integer argument fits its kind)

theorem own : ownKnob Try.prog.godebug = none := by kernel_rfl

theorem and1 (n : Nat) (h : n ≤ 1000000) : bits .and .i64 (n : Int) 1 = ((n % 2 : Nat) : Int) := by
  have h1 : (BitVec.ofInt 64 1).toNat = 2 ^ 1 - 1 := by decide
  have key : (BitVec.ofInt 64 (n : Int) &&& BitVec.ofInt 64 1).toNat = ((n : Int) % ((2 ^ 64 : Nat) : Int)).toNat % 2 ^ 1 := by
    rw [BitVec.toNat_and, BitVec.toNat_ofInt, h1, Nat.and_two_pow_sub_one_eq_mod]
  show IntKind.i64.wrap ((BitVec.ofInt 64 (n : Int) &&& BitVec.ofInt 64 1).toNat : Nat) = _
  rw [key, IntKind.wrap_i64]
  omega

theorem and15 (n : Int) : ∃ p : Nat, bits .and .i64 n 15 = (p : Int) ∧ p ≤ 15 := by
  have e : bits .and .i64 n 15 = n % 16 := by
    have h15 : (BitVec.ofInt 64 15).toNat = 2 ^ 4 - 1 := by decide
    have key : (BitVec.ofInt 64 n &&& BitVec.ofInt 64 15).toNat = (n % ((2 ^ 64 : Nat) : Int)).toNat % 2 ^ 4 := by
      rw [BitVec.toNat_and, BitVec.toNat_ofInt, h15, Nat.and_two_pow_sub_one_eq_mod]
    show IntKind.i64.wrap ((BitVec.ofInt 64 n &&& BitVec.ofInt 64 15).toNat : Nat) = n % 16
    rw [key, IntKind.wrap_i64]
    omega
  exact ⟨(n % 16).toNat, by rw [e]; omega, by omega⟩

set_option maxRecDepth 100000 in
set_option maxHeartbeats 2000000 in
theorem walk_main (x y : Nat) (z : Int) (q : Nat) (w : World) (hx : x < 18446744073709551616) (hy : y < 18446744073709551616) (hq : bits BinOp.and IntKind.i64 z 15 = (q : Int)) (hq' : q ≤ 15) :
    Calls Try.prog 6 #[.int .u64 (x : Int), .int .u64 (y : Int), .int .i64 z] w fun e w' => e = .returned (.bool true) ∧ Below w.heap.size w w' := by
  have HX := Lib.hid hx
  have HY := Lib.hid hy
  clear hx hy
  go_enter Try.func6, Try.ntmps6
  go_wp2_with fail
  refine (wrote_any _).mono ?_
  rintro e w0 ⟨rfl, hb0⟩
  have HB0 := Lib.hid hb0; clear hb0
  go_wp2_with fail
  refine (took_any _).mono ?_
  rintro e w1 ⟨rfl, hb⟩
  have HB : Hid (Below w.heap.size w w1) := Lib.hid (HB0.out.trans (hb.mono HB0.out.size)); clear hb
  go_wp2_with fail
  have HA0 : Hid (WR ((w1.alloc (.cells #[.slice none 0 0, .int .i64 0] 27)).alloc (.cells #[.slice none 0 0, .int .i64 0] 27)) w1.heap.size w1.heap.size (.slice none 0 0) (fun _ => 0) 0) :=
    Lib.hid ((WR.new w1 w1.heap.size (Nat.le_refl _)).below ((Below.refl _ _).alloc (Nat.le_refl _) _))
  have HBB0 : Hid (WR ((w1.alloc (.cells #[.slice none 0 0, .int .i64 0] 27)).alloc (.cells #[.slice none 0 0, .int .i64 0] 27)) w1.heap.size (w1.heap.size + 1) (.slice none 0 0) (fun _ => 0) 0) := by
    have h := WR.new (w1.alloc (.cells #[.slice none 0 0, .int .i64 0] 27)) w1.heap.size (by simp)
    simp only [World.size_alloc] at h
    exact Lib.hid h
  have hbw : Hid (Below w.heap.size w ((w1.alloc (.cells #[.slice none 0 0, .int .i64 0] 27)).alloc (.cells #[.slice none 0 0, .int .i64 0] 27))) := Lib.hid ((HB.out.alloc HB.out.size _).alloc (by have := HB.out.size; simp; omega) _)
  have hsz : ((w1.alloc (.cells #[.slice none 0 0, .int .i64 0] 27)).alloc (.cells #[.slice none 0 0, .int .i64 0] 27)).heap.size = w1.heap.size + 2 := by simp
  generalize ((w1.alloc (.cells #[.slice none 0 0, .int .i64 0] 27)).alloc (.cells #[.slice none 0 0, .int .i64 0] 27)) = w2 at HA0 HBB0 hbw hsz ⊢
  have HSZ := Lib.hid hsz
  clear hsz
  refine (wnum_any w2 w1.heap.size w1.heap.size (.slice none 0 0) (fun _ => 0) 0 x HA0.out HX.out (by omega)).mono ?_
  rintro e w3 ⟨rfl, va, Fa, ha, _, a2, sa⟩
  have HA3 := Lib.hid ha
  have HA2 := Lib.hid a2
  have HSA := Lib.hid sa
  have HB3 : Hid (WR w3 w1.heap.size (w1.heap.size + 1) (.slice none 0 0) (fun _ => 0) 0) := Lib.hid (HBB0.out.kept sa (by omega) (by simp [Value.ownBlock]) (fun k hk => by simp [Value.ownBlock] at hk))
  clear ha a2 sa
  go_wp2_with fail
  refine (wnum_any w3 w1.heap.size (w1.heap.size + 1) (.slice none 0 0) (fun _ => 0) 0 y HB3.out HY.out (by omega)).mono ?_
  rintro e w5 ⟨rfl, vb, Fb, hbb, _, _, sb⟩
  have hzx := nz_le x HX.out
  have hzy := nz_le y HY.out
  have HMX : Hid (x ≤ y → nz x ≤ nz y) := Lib.hid nz_mono
  have HMY : Hid (y ≤ x → nz y ≤ nz x) := Lib.hid nz_mono
  have HA5 : Hid (WR w5 w1.heap.size w1.heap.size va Fa (0 + (2 * nz x + 1))) := Lib.hid (HA3.out.kept sb (by omega) (by simp [Value.ownBlock]) (fun k hk => by
    refine ⟨?_, by simp [Value.ownBlock]⟩
    rcases HSA.out.row with e | ⟨g, e, hg⟩
    · rw [e] at hk; simp [Value.ownBlock] at hk
    · rw [e] at hk; injection hk with hk; have := HSZ.out; omega))
  have HB5 := Lib.hid hbb
  have HBel : Hid (Below w.heap.size w w5) := by
    have h1 : Below w.heap.size w2 w3 := HSA.out.below HB.out.size (by have := HB.out.size; have := HSZ.out; omega) (fun k hk => by simp [Value.ownBlock] at hk)
    have h2 : Below w.heap.size w3 w5 := sb.below (by have := HB.out.size; omega) (by have := HB.out.size; have := HSZ.out; have := h1.size; omega) (fun k hk => by simp [Value.ownBlock] at hk)
    exact Lib.hid (hbw.out.trans (h1.trans h2))
  have HCUT : Hid (∀ m, m < (0 + (2 * nz x + 1) + 7) / 8 → (∀ z, ¬ IsNum Fa m 0 z) ∧ ¬ IsForm Fa m 0) := Lib.hid (fun m hm => cut_short HX.out (fun i hi => by have := HA2.out i (by omega); rw [Nat.zero_add] at this; exact this) (by omega))
  have HF : Hid (∀ j, Fa j < 256) := Lib.hid HA5.out.ends.1
  clear hbb sb
  obtain ⟨cx, ecx⟩ : ∃ cx, 0 + (2 * nz x + 1) = cx := ⟨_, rfl⟩
  obtain ⟨cy, ecy⟩ : ∃ cy, 0 + (2 * nz y + 1) = cy := ⟨_, rfl⟩
  rw [ecx] at HA5 HCUT
  rw [ecy] at HB5
  have b1 : bits BinOp.and IntKind.i64 (cx : Int) 1 = 1 := by rw [and1 cx (by omega), show cx % 2 = 1 from by omega]; rfl
  have hcx : cx ≤ 129 := by omega
  have HLE : Hid (x ≤ y → cx ≤ cy) := Lib.hid (fun h => by have := HMX.out h; omega)
  have HGE : Hid (y ≤ x → cy ≤ cx) := Lib.hid (fun h => by have := HMY.out h; omega)
  clear ecx ecy hzx hzy HMX HMY
  obtain ⟨n, hn⟩ : ∃ n, (cx + 7) / 8 = n := ⟨_, rfl⟩
  have HN := Lib.hid hn
  rw [hn] at HCUT
  have hn1 : n ≤ 17 := by omega
  clear hn
  rcases Nat.lt_trichotomy x y with hxy | hxy | hxy
  · have t1 : ¬ cy < cx := by have := HLE.out (by omega); omega
    have t2 : ¬ y < x := by omega
    go_wp2_with fail
    refine (len_any w5 _ _ va Fa cx HA5.out).mono ?_
    rintro e w' ⟨rfl, rfl⟩
    go_wp2_with fail
    refine (len_any w5 _ _ vb Fb cy HB5.out).mono ?_
    rintro e w' ⟨rfl, rfl⟩
    go_wp2_with fail
    refine (len_any w5 _ _ va Fa cx HA5.out).mono ?_
    rintro e w' ⟨rfl, rfl⟩
    go_wp2_with fail
    refine (len_any w5 _ _ va Fa cx HA5.out).mono ?_
    rintro e w' ⟨rfl, rfl⟩
    go_wp2_with fail
    refine (bytes_any w5 _ _ va Fa cx n HN.out HA5.out (by omega)).mono ?_
    rintro e w6 ⟨rfl, hrow, hlt, hb6⟩
    have HR6 := Lib.hid hrow
    have HB6 : Hid (Below w.heap.size w w6) := Lib.hid (HBel.out.trans (hb6.mono HBel.out.size))
    clear hrow hlt hb6
    by_cases hcut : n ≤ q
    · go_wp2
      go_ret
      exact ⟨rfl, HB6.out⟩
    · go_wp2_with fail
      refine (read_any _ q n Fa w6 (by omega) HF.out (fun hq => ?_)).mono ?_
      · obtain ⟨ad, e, hlt, hc⟩ := row_src HR6.out (by omega)
        exact ⟨ad, e, hlt, fun j hj => hc j (by omega)⟩
      rintro e w7 ⟨g, rb, rfl, hrd, hg, hrb, hb7⟩
      have HD7 := Lib.hid hrd
      have HB7 : Hid (Below w.heap.size w w7) := Lib.hid (HB6.out.trans (hb7.mono HB6.out.size))
      have hrb' : w.heap.size ≤ rb := Nat.le_trans HB6.out.size hrb
      clear hrd hb7 hg hrb
      go_wp2_with fail
      refine (num_any w7 g rb q 0 Fa HD7.out).mono ?_
      rintro e w8 ⟨hgr, hcase⟩
      have HCS := HCUT.out q (by omega)
      have hres : e = .returned (.int .u64 0) ∧ RS w8 rb 10 := by
        rcases hcase with ⟨z, hz, _⟩ | ⟨_, h1, h2⟩ | ⟨hf, _⟩
        · exact absurd hz (HCS.1 z)
        · exact ⟨h1, h2⟩
        · exact absurd hf HCS.2
      obtain ⟨rfl, hrs⟩ := hres
      have HS8 := Lib.hid hrs
      have HB8 := Lib.hid (bel_grown HB7.out hgr hrb')
      clear hcase hgr HCS hrs
      go_wp2_with fail
      refine (err_any w8 rb 10 HS8.out.c2).mono ?_
      rintro e w' ⟨rfl, rfl⟩
      go_wp2_with fail
      refine (left_stop w8 rb 10 HS8.out).mono ?_
      rintro e w9 ⟨rfl, q9, rfl⟩
      go_wp2_with fail
      refine (num_stop _ rb 10 (HS8.out.drewN q9)).mono ?_
      rintro e w10 ⟨rfl, hrs, hgr⟩
      have HB10 := Lib.hid (bel_grown (bel_drewN HB8.out q9) hgr hrb')
      clear hrs hgr
      go_wp2
      go_ret
      exact ⟨rfl, HB10.out⟩
  · subst hxy
    go_wp2_with fail
    refine (len_any w5 _ _ va Fa cx HA5.out).mono ?_
    rintro e w' ⟨rfl, rfl⟩
    go_wp2_with fail
    refine (len_any w5 _ _ va Fa cx HA5.out).mono ?_
    rintro e w' ⟨rfl, rfl⟩
    go_wp2_with fail
    refine (bytes_any w5 _ _ va Fa cx n HN.out HA5.out (by omega)).mono ?_
    rintro e w6 ⟨rfl, hrow, hlt, hb6⟩
    have HR6 := Lib.hid hrow
    have HB6 : Hid (Below w.heap.size w w6) := Lib.hid (HBel.out.trans (hb6.mono HBel.out.size))
    clear hrow hlt hb6
    by_cases hcut : n ≤ q
    · go_wp2
      go_ret
      exact ⟨rfl, HB6.out⟩
    · go_wp2_with fail
      refine (read_any _ q n Fa w6 (by omega) HF.out (fun hq => ?_)).mono ?_
      · obtain ⟨ad, e, hlt, hc⟩ := row_src HR6.out (by omega)
        exact ⟨ad, e, hlt, fun j hj => hc j (by omega)⟩
      rintro e w7 ⟨g, rb, rfl, hrd, hg, hrb, hb7⟩
      have HD7 := Lib.hid hrd
      have HB7 : Hid (Below w.heap.size w w7) := Lib.hid (HB6.out.trans (hb7.mono HB6.out.size))
      have hrb' : w.heap.size ≤ rb := Nat.le_trans HB6.out.size hrb
      clear hrd hb7 hg hrb
      go_wp2_with fail
      refine (num_any w7 g rb q 0 Fa HD7.out).mono ?_
      rintro e w8 ⟨hgr, hcase⟩
      have HCS := HCUT.out q (by omega)
      have hres : e = .returned (.int .u64 0) ∧ RS w8 rb 10 := by
        rcases hcase with ⟨z, hz, _⟩ | ⟨_, h1, h2⟩ | ⟨hf, _⟩
        · exact absurd hz (HCS.1 z)
        · exact ⟨h1, h2⟩
        · exact absurd hf HCS.2
      obtain ⟨rfl, hrs⟩ := hres
      have HS8 := Lib.hid hrs
      have HB8 := Lib.hid (bel_grown HB7.out hgr hrb')
      clear hcase hgr HCS hrs
      go_wp2_with fail
      refine (err_any w8 rb 10 HS8.out.c2).mono ?_
      rintro e w' ⟨rfl, rfl⟩
      go_wp2_with fail
      refine (left_stop w8 rb 10 HS8.out).mono ?_
      rintro e w9 ⟨rfl, q9, rfl⟩
      go_wp2_with fail
      refine (num_stop _ rb 10 (HS8.out.drewN q9)).mono ?_
      rintro e w10 ⟨rfl, hrs, hgr⟩
      have HB10 := Lib.hid (bel_grown (bel_drewN HB8.out q9) hgr hrb')
      clear hrs hgr
      go_wp2
      go_ret
      exact ⟨rfl, HB10.out⟩
  · have t1 : ¬ cx < cy := by have := HGE.out (by omega); omega
    have t2 : ¬ x < y := by omega
    go_wp2_with fail
    refine (len_any w5 _ _ va Fa cx HA5.out).mono ?_
    rintro e w' ⟨rfl, rfl⟩
    go_wp2_with fail
    refine (len_any w5 _ _ vb Fb cy HB5.out).mono ?_
    rintro e w' ⟨rfl, rfl⟩
    go_wp2_with fail
    refine (len_any w5 _ _ va Fa cx HA5.out).mono ?_
    rintro e w' ⟨rfl, rfl⟩
    go_wp2_with fail
    refine (len_any w5 _ _ va Fa cx HA5.out).mono ?_
    rintro e w' ⟨rfl, rfl⟩
    go_wp2_with fail
    refine (bytes_any w5 _ _ va Fa cx n HN.out HA5.out (by omega)).mono ?_
    rintro e w6 ⟨rfl, hrow, hlt, hb6⟩
    have HR6 := Lib.hid hrow
    have HB6 : Hid (Below w.heap.size w w6) := Lib.hid (HBel.out.trans (hb6.mono HBel.out.size))
    clear hrow hlt hb6
    by_cases hcut : n ≤ q
    · go_wp2
      go_ret
      exact ⟨rfl, HB6.out⟩
    · go_wp2_with fail
      refine (read_any _ q n Fa w6 (by omega) HF.out (fun hq => ?_)).mono ?_
      · obtain ⟨ad, e, hlt, hc⟩ := row_src HR6.out (by omega)
        exact ⟨ad, e, hlt, fun j hj => hc j (by omega)⟩
      rintro e w7 ⟨g, rb, rfl, hrd, hg, hrb, hb7⟩
      have HD7 := Lib.hid hrd
      have HB7 : Hid (Below w.heap.size w w7) := Lib.hid (HB6.out.trans (hb7.mono HB6.out.size))
      have hrb' : w.heap.size ≤ rb := Nat.le_trans HB6.out.size hrb
      clear hrd hb7 hg hrb
      go_wp2_with fail
      refine (num_any w7 g rb q 0 Fa HD7.out).mono ?_
      rintro e w8 ⟨hgr, hcase⟩
      have HCS := HCUT.out q (by omega)
      have hres : e = .returned (.int .u64 0) ∧ RS w8 rb 10 := by
        rcases hcase with ⟨z, hz, _⟩ | ⟨_, h1, h2⟩ | ⟨hf, _⟩
        · exact absurd hz (HCS.1 z)
        · exact ⟨h1, h2⟩
        · exact absurd hf HCS.2
      obtain ⟨rfl, hrs⟩ := hres
      have HS8 := Lib.hid hrs
      have HB8 := Lib.hid (bel_grown HB7.out hgr hrb')
      clear hcase hgr HCS hrs
      go_wp2_with fail
      refine (err_any w8 rb 10 HS8.out.c2).mono ?_
      rintro e w' ⟨rfl, rfl⟩
      go_wp2_with fail
      refine (left_stop w8 rb 10 HS8.out).mono ?_
      rintro e w9 ⟨rfl, q9, rfl⟩
      go_wp2_with fail
      refine (num_stop _ rb 10 (HS8.out.drewN q9)).mono ?_
      rintro e w10 ⟨rfl, hrs, hgr⟩
      have HB10 := Lib.hid (bel_grown (bel_drewN HB8.out q9) hgr hrb')
      clear hrs hgr
      go_wp2
      go_ret
      exact ⟨rfl, HB10.out⟩

theorem walk (a0 : Int) (a1 : Int) (a2 : Int) (w0 : (Lit.int .u64 a0).wf = true) (w1 : (Lit.int .u64 a1).wf = true) (w2 : (Lit.int .i64 a2).wf = true) (w : World) :
    Calls Try.prog 6 #[.int .u64 a0, .int .u64 a1, .int .i64 a2] w fun e w' => e = .returned (.bool true) ∧ Below w.heap.size w w' := by
  obtain ⟨x, rfl, hx⟩ := u64_nat w0
  obtain ⟨y, rfl, hy⟩ := u64_nat w1
  obtain ⟨q, hq, hq'⟩ := and15 a2
  exact walk_main x y a2 q w hx hy hq hq'

set_option maxRecDepth 100000 in
theorem lifted (os : Os) (started : os.Started) (H : Type) (enc : TypeId × Value → H) :
    ReturnsInHanded {} Try.checked os 6 .any (Rows.bitsSizesSpec.pre6 enc Try.prog Try.f6 Rows.bitsSizesRow.domain false) (Rows.bitsSizesSpec.post enc Try.prog Try.f6 false true false false) := by
  refine returnsInHanded_of_change (C := Try.checked) own started (by kernel_rfl) Try.func6
    (ChangeSpec.witness6 (enc := enc) (C := Try.checked) false ⟨#[], #[.int .u64 0, .int .u64 0, .int .i64 0], []⟩ 8 (by kernel_rfl) (by kernel_rfl) (by kernel_rfl) (by kernel_rfl)) ?_
  intro W base args ds gs before hval0 hW hcnd _
  have hval : ∀ (j : Nat) t v, Try.f6.params[j]? = some t → args[j]? = some v → Value.okWide Try.prog W .any base t v := hval0
  have hW' := hW
  obtain ⟨p, q, hA0, hV, rfl, hfz, hnd⟩ := hW
  have hA : DataW.TrodAll enc Try.prog W 0 (fun _ => true) true Try.f6.params.toList args.toList ds p := hA0
  rw [Try.params6] at hA hval
  obtain ⟨v0, vs0, d0, ds0, p0, q0, hargs, rfl, rfl, h0, r0⟩ := trodAll_cons hA
  obtain ⟨v1, vs1, d1, ds1, p1, q1, rfl, rfl, rfl, h1, r1⟩ := trodAll_cons r0
  obtain ⟨v2, vs2, d2, ds2, p2, q2, rfl, rfl, rfl, h2, r2⟩ := trodAll_cons r1
  obtain ⟨rfl, rfl, rfl⟩ := trodAll_nil r2
  obtain rfl : args = #[v0, v1, v2] := by cases args; simp_all
  obtain ⟨rfl, rfl⟩ := trodVars_none hV
  obtain ⟨a0, rfl, rfl, rfl, w0⟩ := open_int Try.underlying28 (hval 0 28 v0 rfl rfl) h0
  obtain ⟨a1, rfl, rfl, rfl, w1⟩ := open_int Try.underlying28 (hval 1 28 v1 rfl rfl) h1
  obtain ⟨a2, rfl, rfl, rfl, w2⟩ := open_int Try.underlying3 (hval 2 3 v2 rfl rfl) h2
  clear hA0 hval0
  refine (walk a0 a1 a2 w0 w1 w2 W).mono fun e W' ⟨he, hg⟩ => ?_
  subst he
  exact ⟨_, rfl, _, _, _, [], _, [], hW', trodAll_mk1 (shut_bool Try.underlying4 _), (trodAll_cons_mk (shut_int Try.underlying28 w0) (trodAll_cons_mk (shut_int Try.underlying28 w1) (trodAll_cons_mk (shut_int Try.underlying3 w2) trodAll_mk0))), rfl, hg.frame _, fun h => by cases h⟩

theorem over : Rows.bitsSizesRow.holds Try.pinned (OpenSpec.ofChange Rows.bitsSizesSpec) :=
  OpenClaim.holds_of_wide 6 Try.f6 rfl rfl rfl rfl rfl rfl rfl ⟨rfl, rfl, rfl, rfl, rfl⟩ rfl rfl rfl rfl rfl (by kernel_rfl) Try.func6 (by kernel_rfl)
    (of_decide_eq_true (by kernel_rfl)) (by unfold Func.isWrapper; first | (rw [if_pos (by decide +kernel)]; kernel_rfl) | (rw [if_neg (by decide +kernel)]; exact ⟨rfl, rfl⟩))
    (fun os started H enc _ => lifted os started H enc)

/-- ████ THE STATEMENT ████ -/
theorem proved : Rows.BitsSizesSaid :=
  over
end Go.Proofs.Ytmhjffneemmncaa.bitsSizes
namespace Go.Proofs.Ytmhjffneemmncaa
theorem bitsSizes_holds : Rows.BitsSizesSaid := bitsSizes.proved
#print axioms bitsSizes_holds
end Go.Proofs.Ytmhjffneemmncaa
