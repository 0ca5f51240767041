/-
  WireReads: bytes behind bytes; a frame with more behind it.
  WireReads' walk.
-/
import Derived.Test.YtccpfoimedjdgaaJ10
import Derived.Test.YtccpfoimedjdgaaJ04
import Derived.Test.YtccpfoimedjdgaaJ16
import Derived.Deep.RegionHeld3
import Derived.BigQuiet

namespace Go.Proofs.Ytccpfoimedjdgaa.Fr
open Go.ChangeShapes Go.WideShapes Go.ChangeAt Go.RowKit

section

variable {w : World}

set_option maxRecDepth 100000 in
/-- append of bytes to a row of our own, whatever lies behind, nothing too -/
theorem wp_append_src {o : Oper} {a : Act} {K : Act → World → Prop} {Q : Exit → Act → World → Prop} (s x : Operand)
    (ho : o.op = .call { callee := .builtin .append, args := #[s, x], argTypes := #[23, 23] })
    (base : Nat) (v : Value) (n : Nat) (F : Nat → Nat) (hs : a.eval s = v) (hown : w.ownsRow base 5 1 v n (rowB F n))
    (sp : Option Addr) (m c : Nat) (d : Nat → Nat) (hx : a.eval x = .slice sp m c) (hsrc : Src w sp m d) (hsp : sp = none → m = 0 ∧ c = 0)
    (h63 : n + m ≤ 10000000) (hbase : base ≤ w.heap.size)
    (h : ∀ v' w', w'.ownsRow base 5 1 v' (n + m) (rowB (cat F d n) (n + m)) → w.grownBy w' v.ownBlock → K (a.put o.dst v') w') : o.wp Try.prog a w K Q := by
  obtain ⟨i0, hi, hz0, hz1, hz2⟩ := info_parts info5
  rcases sp with _ | ad
  · obtain ⟨rfl, rfl⟩ := hsp rfl
    have hrun := run_append_owned_none (P := Try.prog) (w := w) base 23 o.type 5 i0 1 Try.underlying23 hi v n (rowB F n) hown
    unfold Oper.wp
    simp [execOp, ho, resolve, invoke, builtin, hs, hx, hrun, Result.andThen]
    refine h v w ?_ ⟨rfl, rfl, rfl, Nat.le_refl _, fun _ _ _ => rfl⟩
    rw [Nat.add_zero, ← rowB_congr F (cat F d n) n (fun j hj => (cat_lo hj).symm)]
    exact hown
  · refine wp_append_own w s x 23 ho base 5 i0 (.int .u8 0) 1 1 Try.underlying23 hi hz0 hz1 hz2 rfl (by decide) v n (rowB F n) hs hown ad m c (rowB d m) hx (by rw [rowB_length]; omega) ?_ (rowB_one _ _) (by unfold maxLen; omega) (by omega) hbase ?_
    · intro j u hj
      have hjn : j < m := by
        rcases Nat.lt_or_ge j m with h' | h'
        · exact h'
        · rw [List.getElem?_eq_none (by rw [rowB_length]; exact h')] at hj; cases hj
      rw [rowB_get d m j hjn] at hj
      injection hj with hj
      obtain ⟨ad', e', _, hcc⟩ := hsrc (by omega)
      injection e' with e'
      subst e'
      rw [← hj]
      exact hcc j hjn
    · intro v' w' h2 h3 _
      rw [rowB_cat] at h2
      exact h v' w' h2 h3

set_option maxRecDepth 100000 in
theorem wpList_append_src {ops : Array Oper} {rest : List Oper} {o : Oper} {a : Act} {Q : Exit → Act → World → Prop} (hgd : o.guard = none) (s x : Operand)
    (ho : o.op = .call { callee := .builtin .append, args := #[s, x], argTypes := #[23, 23] })
    (base : Nat) (v : Value) (n : Nat) (F : Nat → Nat) (hs : a.eval s = v) (hown : w.ownsRow base 5 1 v n (rowB F n))
    (sp : Option Addr) (m c : Nat) (d : Nat → Nat) (hx : a.eval x = .slice sp m c) (hsrc : Src w sp m d) (hsp : sp = none → m = 0 ∧ c = 0)
    (h63 : n + m ≤ 10000000) (hbase : base ≤ w.heap.size)
    (h : ∀ v' w', w'.ownsRow base 5 1 v' (n + m) (rowB (cat F d n) (n + m)) → w.grownBy w' v.ownBlock → wpList Try.prog ops Q rest (a.put o.dst v') w') : wpList Try.prog ops Q (o :: rest) a w :=
  wpList_plain hgd fun _ hK => wp_append_src s x ho base v n F hs hown sp m c d hx hsrc hsp h63 hbase fun v' w' h2 h3 => hK _ _ (h v' w' h2 h3)

end

end Go.Proofs.Ytccpfoimedjdgaa.Fr
namespace Go.Proofs.Ytccpfoimedjdgaa
open Go.ChangeShapes Go.WideShapes Go.ChangeAt Go.RowKit
theorem and15 (n : Int) : ∃ p : Nat, bits .and .i64 n 15 = (p : Int) ∧ p ≤ 15 := by
  have e : bits .and .i64 n 15 = n % 16 := by
    have h15 : (BitVec.ofInt 64 15).toNat = 2 ^ 4 - 1 := by decide
    have key : (BitVec.ofInt 64 n &&& BitVec.ofInt 64 15).toNat = (n % ((2 ^ 64 : Nat) : Int)).toNat % 2 ^ 4 := by
      rw [BitVec.toNat_and, BitVec.toNat_ofInt, h15, Nat.and_two_pow_sub_one_eq_mod]
    show IntKind.i64.wrap ((BitVec.ofInt 64 n &&& BitVec.ofInt 64 15).toNat : Nat) = n % 16
    rw [key, IntKind.wrap_i64]
    omega
  exact ⟨(n % 16).toNat, by rw [e]; omega, by omega⟩
theorem Src.congr {w : World} {sp : Option Addr} {n : Nat} {f g : Nat → Nat} (h : Src w sp n f) (he : ∀ j, j < n → f j = g j) : Src w sp n g := by
  intro hn
  obtain ⟨ad, e, hl, hc⟩ := h hn
  exact ⟨ad, e, hl, fun j hj => by rw [← he j hj]; exact hc j hj⟩
/-- a frame with more behind it -/
theorem more_trail {p n k : Nat} {f G : Nat → Nat} (hp : p < 256) (hn : n ≤ 65536) (hk : 0 < k) (hG : ∀ j, j < 12 + n → G j = Fr.frm p n f j) : dErr G (12 + n + k) = 12 := by
  obtain ⟨g1, _, g3, _⟩ := Fr.frm_read p n f G (12 + n + k) hp hn (by omega) hG
  unfold dErr
  rw [if_neg (fun h => h g1), g3, if_pos (by omega)]
/-- a frame alone -/
theorem frame_alone {p n : Nat} {f : Nat → Nat} (hp : p < 256) (hn : n ≤ 65536) : (¬ KOk (p : Int) → dErr (Fr.frm p n f) (12 + n) = 14) ∧ (KOk (p : Int) → dErr (Fr.frm p n f) (12 + n) = eE f n (tF f n s00)) ∧ Fr.kindOf (Fr.frm p n f) = p ∧ Fr.sizeOf' (Fr.frm p n f) = n := by
  obtain ⟨g1, g2, g3, _⟩ := Fr.frm_read p n f (Fr.frm p n f) (12 + n) hp hn (Nat.le_refl _) (fun _ _ => rfl)
  refine ⟨fun h => ?_, fun h => ?_, g2, g3⟩
  · unfold dErr
    rw [if_neg (fun h => h g1), g3, if_neg (Nat.lt_irrefl _), g2, if_pos h]
  · unfold dErr
    rw [if_neg (fun h => h g1), g3, if_neg (Nat.lt_irrefl _), g2, if_neg (fun h' => h' h), ctn_frm]
theorem SameB.symm {a b : Bs} (h : SameB a b) : SameB b a := ⟨h.1.symm, fun j hj => (h.2 j (by rw [h.1]; exact hj)).symm⟩
end Go.Proofs.Ytccpfoimedjdgaa

namespace Go.Proofs.Ytccpfoimedjdgaa
open Go.ChangeShapes Go.WideShapes Go.ChangeAt Go.RowKit

theorem plain_raw (k n0 n1 n2 n3 n4 n5 n6 n7 n8 : Int) (la : Option Addr) (n lc : Nat) (da : Option Addr) (dn dc : Nat) (w : World) :
    Calls Try.prog 11 #[.agg #[.int .i64 k, .int .i64 n0, .int .i64 n1, .int .i64 n2, .int .i64 n3, .int .i64 n4, .int .i64 n5, .int .i64 n6, .int .i64 n7, .int .i64 n8, .slice la n lc, .slice da dn dc]] w (fun e w' => e = .returned (.agg #[.int .i64 n0, .int .i64 n1, .int .i64 n2, .int .i64 n3, .int .i64 n4, .int .i64 n5, .int .i64 n6, .int .i64 n7, .int .i64 n8, .slice la n lc, .slice da dn dc]) ∧ Below w.heap.size w w') :=
  plain_any k (fun j => [n0, n1, n2, n3, n4, n5, n6, n7, n8].getD j 0) la n lc da dn dc w
theorem rread_no {sp : Option Addr} {n cap : Nat} {f : Nat → Nat} {w : World} {er : Int} (hn : n ≤ 100000) (hf : ∀ j, f j < 256) (hs : Src w sp n f) (hne : ¬ er = 0) (he : er = eE f n (tF f n s00)) : Calls Try.prog 16 #[.slice sp n cap] w (fun e w' => e = .returned (.tuple #[rmV zN nilV nilV, .int .i64 er]) ∧ Below w.heap.size w w') := by
  refine (rread_any sp n cap f w hn hf hs).mono ?_
  rintro e w6 ⟨hb6, hres6⟩
  rw [← he] at hres6
  rcases hres6 with ⟨_, rfl⟩ | ⟨h0, _⟩
  · exact ⟨rfl, hb6⟩
  · exact absurd h0 hne
def RyP (m : Nat) (N : Nat → Int) (P : Nat → Bs) (D : Bs) (w : World) (e : Ending) (w' : World) : Prop :=
  ∃ sp cap dsp dn dcap P6 D6, e = .returned (.tuple #[rmV N (.slice sp m cap) (.slice dsp dn dcap), .int .i64 0]) ∧ Below w.heap.size w w' ∧ LsS w' sp m P6 ∧ (∀ i, i < m → SameB (P6 i) (P i)) ∧ BsS w' (.slice dsp dn dcap) D6 ∧ SameB D6 D
theorem rread_yes {sp : Option Addr} {n cap : Nat} {f : Nat → Nat} {w : World} {m : Nat} {N : Nat → Int} {P : Nat → Bs} {D : Bs} (hn : n ≤ 100000) (hf : ∀ j, f j < 256) (hs : Src w sp n f) (h0 : eE f n (tF f n s00) = 0) (em : m = tM f n s00) (eN : N = tN f n s00) (eP : P = tP f n s00) (eD : D = tD f n s00) : Calls Try.prog 16 #[.slice sp n cap] w (RyP m N P D w) := by
  refine (rread_any sp n cap f w hn hf hs).mono ?_
  rintro e w6 ⟨hb6, hres6⟩
  rcases hres6 with ⟨h1, _⟩ | ⟨_, sp6, cp6, dv6, rfl, P6, D6, hls6, hsa6, hbs6, hsd6, _, _⟩
  · exact absurd h0 h1
  · rw [← em] at hls6 hsa6 ⊢
    rw [← eP] at hsa6
    rw [← eD] at hsd6
    rw [← eN]
    have hbs := hbs6
    obtain ⟨dsp6, dcap6, edv6, _⟩ := hbs6
    subst edv6
    exact ⟨sp6, cp6, dsp6, _, dcap6, P6, D6, rfl, hb6, hls6, hsa6, hbs, hsd6⟩
set_option maxRecDepth 100000 in
set_option maxHeartbeats 8000000 in
theorem reads_main (K : Int) (a : Option Addr) (n cap : Nat) (f : Nat → Nat) (b : Option Addr) (k bc : Nat) (g : Nat → Nat) (w : World) (hm : n ≤ 9223372036854775807) (hm' : k ≤ 9223372036854775807) (hf : ∀ j, f j < 256) (hg : ∀ j, g j < 256) (hs : Src w a n f) (hs' : Src w b k g) (hnil : a = none → n = 0 ∧ cap = 0) (hnil' : b = none → k = 0 ∧ bc = 0) :
    Calls Try.prog 4 #[.int .i64 K, .slice a n cap, .slice b k bc] w fun e w' => e = .returned (.bool true) ∧ Below w.heap.size w w' := by
  have HS := Lib.hid hs
  have HS' := Lib.hid hs'
  have HF := Lib.hid hf
  have HG := Lib.hid hg
  have HNIL := Lib.hid hnil
  have HNIL' := Lib.hid hnil'
  obtain ⟨p, hp, hp15⟩ := and15 K
  clear hs hs' hf hg hnil hnil'
  by_cases hn3 : 3000 < n
  · have hn3' : (3000 : Int) < (n : Int) := by omega
    go_enter Try.func4, Try.ntmps4
    go_wp2_with fail
    refine (head_any _).mono ?_
    rintro e w1 ⟨rfl, hb1⟩
    have HB1 := Lib.hid hb1
    clear hb1
    go_wp2
    go_ret
    exact ⟨rfl, HB1.out⟩
  have hn3' : ¬ (3000 : Int) < (n : Int) := by omega
  have HMM : Hid (n ≤ 100000) := Lib.hid (by omega)
  by_cases hk1 : 100 < k
  · have hk1' : (100 : Int) < (k : Int) := by omega
    go_enter Try.func4, Try.ntmps4
    go_wp2_with fail
    refine (head_any _).mono ?_
    rintro e w1 ⟨rfl, hb1⟩
    have HB1 := Lib.hid hb1
    clear hb1
    go_wp2
    go_ret
    exact ⟨rfl, HB1.out⟩
  have hk1' : ¬ (100 : Int) < (k : Int) := by omega
  go_enter Try.func4, Try.ntmps4
  go_wp2_with fail
  refine (head_any _).mono ?_
  rintro e w1 ⟨rfl, hb1⟩
  have HB1 := Lib.hid hb1
  clear hb1
  go_wp2_with fail
  refine (Fr.encode_ok p a n cap f w1 (by omega) (by omega) HF.out (HS.out.below HB1.out) HNIL.out).mono ?_
  rintro e w2 ⟨g2, c2, rfl, ho2, hb2⟩
  have HB2 := Lib.hid (HB1.out.trans (hb2.mono HB1.out.size))
  have hw12 := HB1.out.size
  clear hb2 hp
  obtain ⟨l, el⟩ : ∃ l, l = 12 + n := ⟨_, rfl⟩
  have HEL := Lib.hid el
  rw [← el] at ho2 ⊢
  have hll : l ≤ 3012 := by omega
  clear el
  have HO2 := Lib.hid ho2
  have hz2 : w1.heap.size ≤ w2.heap.size := by have := (ho2.lt g2 rfl); omega
  clear ho2
  go_wp2_with (at_builtin; refine Fr.wpList_append_src rfl _ _ rfl w1.heap.size _ l (Fr.frm p n f) rfl HO2.out b k bc g rfl (HS'.out.below HB2.out) HNIL'.out (by omega) hz2 ?_)
  intro v3 w3 ho3 hg3
  obtain ⟨s3, c3, ev3⟩ := own_form' ho3
  subst ev3
  have HB3 := Lib.hid (HB2.out.grown hg3 HB2.out.size (fun q hq => Nat.le_trans hw12 (HO2.out.lt q hq).1))
  have HS3 := Lib.hid (own_src ho3)
  have hc3 := own_cap' ho3
  clear ho3 hg3 HO2
  by_cases hk0 : 0 < k
  · have hk0' : (0 : Int) < (k : Int) := by omega
    have HE : Hid (dErr (Fr.cat (Fr.frm p n f) g l) (l + k) = 12) := Lib.hid (by
      rw [HEL.out]
      exact more_trail (f := f) (by omega) (by omega) hk0 (fun j hj => cat_lo hj))
    have HGL : Hid (∀ j, Fr.cat (Fr.frm p n f) g l j < 256) := Lib.hid fun j => Fr.cat_lt (Fr.frm_lt p n f HF.out) HG.out l j
    generalize Fr.cat (Fr.frm p n f) g l = G at *
    obtain ⟨lk, elk⟩ : ∃ lk, lk = l + k := ⟨_, rfl⟩
    rw [← elk] at HS3 hc3 HE ⊢
    clear elk
    go_wp2_with fail
    refine (decode_any s3 lk c3 G w3 HGL.out hc3 HS3.out).mono ?_
    rintro e w4 ⟨hb4, hres4⟩
    have HB4 := Lib.hid (HB3.out.trans (hb4.mono HB3.out.size))
    clear hb4
    rcases hres4.symm with ⟨h0, _⟩ | ⟨_, rfl⟩
    · rw [HE.out] at h0; exact absurd h0 (by decide)
    · rw [HE.out]
      have hM9 : MsC (w4.alloc (.cells (msL 0 zN nilV nilV).toArray 25)) w4.heap.size 0 zN nilV nilV := heap_alloc_new w4 _
      have m0 := hM9.cell 0 rfl
      have HB9 : Hid (Below w.heap.size w (w4.alloc (.cells (msL 0 zN nilV nilV).toArray 25))) := Lib.hid (HB4.out.alloc HB4.out.size _)
      clear hM9
      go_wp2
      go_ret
      exact ⟨rfl, HB9.out⟩
  · obtain rfl : k = 0 := by omega
    have HS4 : Hid (Src w3 s3 l (Fr.frm p n f)) := Lib.hid (Src.congr HS3.out fun j hj => cat_lo hj)
    obtain ⟨q1, q2, q3, q4⟩ := frame_alone (f := f) (n := n) (p := p) (by omega) (by omega)
    have HQ1 := Lib.hid q1
    have HQ2 := Lib.hid q2
    have HQ3 := Lib.hid q3
    have HQ4 := Lib.hid q4
    have HGL : Hid (∀ j, Fr.frm p n f j < 256) := Lib.hid (Fr.frm_lt p n f HF.out)
    have HCT : Hid (ctn (Fr.frm p n f) = f) := Lib.hid (ctn_frm p n f)
    clear q1 q2 q3 q4 HS3
    rw [← HEL.out] at HQ1 HQ2
    generalize Fr.frm p n f = G at *
    have hc3' : l ≤ c3 := by omega
    go_wp2_with fail
    refine (decode_any s3 l c3 G w3 HGL.out hc3' HS4.out).mono ?_
    rintro e w4 ⟨hb4, hres4⟩
    have HB4 := Lib.hid (HB3.out.trans (hb4.mono HB3.out.size))
    clear hb4 HS4 HB3 hc3 hc3'
    unfold DecG at hres4
    rw [HQ3.out, HQ4.out, HCT.out] at hres4
    rcases (Classical.em (KOk (p : Int))).symm with hk | hk
    · have h14 := HQ1.out hk
      rcases hres4.symm with ⟨h0, _⟩ | ⟨_, rfl⟩
      · rw [h14] at h0; exact absurd h0 (by decide)
      · rw [h14]
        have HB9 : Hid (Below w.heap.size w (w4.alloc (.cells (msL 0 zN nilV nilV).toArray 25))) := Lib.hid (HB4.out.alloc HB4.out.size _)
        clear h14 HQ1 HQ2
        by_cases h1 : (p : Int) < 1
        · go_wp2
          go_ret
          exact ⟨rfl, HB9.out⟩
        · have h7 : (7 : Int) < (p : Int) := by unfold KOk at hk; omega
          go_wp2
          go_ret
          exact ⟨rfl, HB9.out⟩
    · have hp1 : ¬ (p : Int) < 1 := by unfold KOk at hk; omega
      have hp7 : ¬ (7 : Int) < (p : Int) := by unfold KOk at hk; omega
      have heE := HQ2.out hk
      rw [heE] at hres4
      clear heE hk HQ1 HQ2 HQ3 HQ4 HCT
      rcases hres4 with ⟨hne, rfl⟩ | ⟨h0, sp, cp, dv, rfl, hls, hnl, hcp, hbs⟩
      · have hM9 : MsC (w4.alloc (.cells (msL 0 zN nilV nilV).toArray 25)) w4.heap.size 0 zN nilV nilV := heap_alloc_new w4 _
        have HB9 : Hid (Below w.heap.size w (w4.alloc (.cells (msL 0 zN nilV nilV).toArray 25))) := Lib.hid (HB4.out.alloc HB4.out.size _)
        have HM9 := Lib.hid hM9
        obtain ⟨er, eer⟩ : ∃ er, er = eE f n (tF f n s00) := ⟨_, rfl⟩
        rw [← eer] at hne ⊢
        obtain ⟨w5, ew5⟩ : ∃ w5, w5 = w4.alloc (.cells (msL 0 zN nilV nilV).toArray 25) := ⟨_, rfl⟩
        rw [← ew5] at HB9 hM9
        have HM9 := Lib.hid hM9
        have HRR : Hid (Calls Try.prog 16 #[.slice a n cap] w5 (fun e w' => e = .returned (.tuple #[rmV zN nilV nilV, .int .i64 er]) ∧ Below w5.heap.size w5 w')) := Lib.hid (rread_no HMM.out HF.out (HS.out.below HB9.out) hne eer)
        have HR2 : Hid ((er != 0) = true) := Lib.hid (by rw [bne_iff_ne]; exact hne)
        clear hM9 eer hn3 hn3' hk1 hk1' hm hm' hp15 hw12 hll hz2 hk0 hne
        go_wp2_with fail
        rw [← ew5]
        clear ew5
        refine HRR.out.mono ?_
        rintro e w6 ⟨rfl, hb6⟩
        have hb7 : Below w6.heap.size w6 (w6.alloc (.cells (rmL zN nilV nilV).toArray 35)) := (Below.refl _ _).alloc (Nat.le_refl _) _
        have hM7 : MsC (w6.alloc (.cells (rmL zN nilV nilV).toArray 35)) w4.heap.size 0 zN nilV nilV := (HM9.out.below hb6 HM9.out.lt).below hb7 (Nat.lt_of_lt_of_le HM9.out.lt hb6.size)
        obtain ⟨m0, m1, m2, m3, m4, m5, m6, m7, m8, m9, m10, m11⟩ := hM7.all
        have HB7 := Lib.hid ((HB9.out.trans (hb6.mono HB9.out.size)).trans (hb7.mono (Nat.le_trans HB9.out.size hb6.size)))
        have her1 : (er != er) = false := by simp
        have her2 := HR2.out
        clear hM7 hb7 hb6 HRR HR2 HM9
        go_wp2_with fail
        refine (plain_any 0 zN none 0 0 none 0 0 _).mono ?_
        rintro e w8 ⟨rfl, hb8⟩
        have HB8 := Lib.hid (HB7.out.trans (hb8.mono HB7.out.size))
        clear hb8 m0 m1 m2 m3 m4 m5 m6 m7 m8 m9 m10 m11
        go_wp2_with fail
        refine (samem_any zN zN none none 0 0 0 0 exP exP nilV nilV exD exD w8 (Nat.zero_le _) (fun h => absurd h (Nat.lt_irrefl 0)) (fun h => absurd h (Nat.lt_irrefl 0)) (exBs w8) (exBs w8)).mono ?_
        rintro e w9 ⟨x, rfl, hx, hb9⟩
        have hx1 : x = true := hx.2 ⟨fun _ _ => rfl, rfl, SameB.refl _, fun i hi => absurd hi (Nat.not_lt_zero _)⟩
        subst hx1
        have HB99 := Lib.hid (HB8.out.trans (hb9.mono HB8.out.size))
        clear hb9 hx
        go_wp2
        go_ret
        exact ⟨rfl, HB99.out⟩
      · have HE0 := Lib.hid h0
        obtain ⟨m, em⟩ : ∃ m, m = tM f n s00 := ⟨_, rfl⟩
        obtain ⟨N, eN⟩ : ∃ N, N = tN f n s00 := ⟨_, rfl⟩
        obtain ⟨P, eP⟩ : ∃ P, P = tP f n s00 := ⟨_, rfl⟩
        obtain ⟨D, eD⟩ : ∃ D, D = tD f n s00 := ⟨_, rfl⟩
        rw [← em] at hls hnl hcp ⊢
        rw [← eP] at hls
        rw [← eN]
        rw [← eD] at hbs
        have hm2 : m ≤ 2000 := by rw [em]; exact uV_le f n 2000 _
        have HLS := Lib.hid hls
        have HBS := Lib.hid hbs
        obtain ⟨dsp, dcap, edv, _⟩ := hbs
        obtain ⟨dn, edn⟩ : ∃ dn, dn = D.n := ⟨_, rfl⟩
        rw [← edn] at edv
        subst edv
        obtain ⟨w5, ew5⟩ : ∃ w5, w5 = w4.alloc (.cells (msL (p : Int) N (.slice sp m cp) (.slice dsp dn dcap)).toArray 25) := ⟨_, rfl⟩
        have hb5 : Below w4.heap.size w4 w5 := by rw [ew5]; exact (Below.refl _ _).alloc (Nat.le_refl _) _
        have HM5 : Hid (MsC w5 w4.heap.size p N (.slice sp m cp) (.slice dsp dn dcap)) := Lib.hid (by rw [ew5]; exact heap_alloc_new w4 _)
        have HB5 := Lib.hid (HB4.out.trans (hb5.mono HB4.out.size))
        have HLS5 := Lib.hid (HLS.out.below hb5)
        have HBS5 := Lib.hid (HBS.out.below hb5)
        have HM2 := Lib.hid hm2
        have HRR : Hid (Calls Try.prog 16 #[.slice a n cap] w5 (RyP m N P D w5)) := Lib.hid (rread_yes HMM.out HF.out (HS.out.below HB5.out) HE0.out em eN eP eD)
        clear em eN eP eD edn hls h0 HE0
        clear hb5 HLS HBS HB4 hn3 hn3' hk1 hk1' hm hm' hp15 hw12 hll hz2 hk0 hnl hcp hm2
        go_wp2_with fail
        rw [← ew5]
        clear ew5
        refine HRR.out.mono ?_
        rintro e w6 ⟨sp6, cp6, dsp6, dn6, dcap6, P6, D6, rfl, hb6, hls6, hsa6, hbs6, hsd6⟩
        have HM6 := Lib.hid (HM5.out.below hb6 HM5.out.lt)
        have HB6 := Lib.hid (HB5.out.trans (hb6.mono HB5.out.size))
        have HLS6 := Lib.hid (HLS5.out.below hb6)
        have HBS6 := Lib.hid (HBS5.out.below hb6)
        have HL6 := Lib.hid hls6
        have HD6 := Lib.hid hbs6
        have HSM6 : Hid (SameM N N m m P P6 D D6) := Lib.hid ⟨fun _ _ => rfl, rfl, hsd6.symm, fun i hi => (hsa6 i hi).symm⟩
        clear hb6 hls6 hsa6 hsd6 hbs6 HM5 HB5 HLS5 HBS5 HRR
        obtain ⟨w7, ew7⟩ : ∃ w7, w7 = w6.alloc (.cells (rmL N (.slice sp6 m cp6) (.slice dsp6 dn6 dcap6)).toArray 35) := ⟨_, rfl⟩
        have hb7 : Below w6.heap.size w6 w7 := by rw [ew7]; exact (Below.refl _ _).alloc (Nat.le_refl _) _
        have hR7 : RmC w7 w6.heap.size N (.slice sp6 m cp6) (.slice dsp6 dn6 dcap6) := by rw [ew7]; exact heap_alloc_new w6 _
        have hM7 := HM6.out.below hb7 HM6.out.lt
        have HSA : Hid (∀ W, Below w7.heap.size w7 W → W.cell? ⟨w4.heap.size, 0, none⟩ = some (.int .i64 (p : Int)) ∧ W.cell? ⟨w4.heap.size, 1, none⟩ = some (.int .i64 (N 0)) ∧ W.cell? ⟨w4.heap.size, 2, none⟩ = some (.int .i64 (N 1)) ∧ W.cell? ⟨w4.heap.size, 3, none⟩ = some (.int .i64 (N 2)) ∧ W.cell? ⟨w4.heap.size, 4, none⟩ = some (.int .i64 (N 3)) ∧ W.cell? ⟨w4.heap.size, 5, none⟩ = some (.int .i64 (N 4)) ∧ W.cell? ⟨w4.heap.size, 6, none⟩ = some (.int .i64 (N 5)) ∧ W.cell? ⟨w4.heap.size, 7, none⟩ = some (.int .i64 (N 6)) ∧ W.cell? ⟨w4.heap.size, 8, none⟩ = some (.int .i64 (N 7)) ∧ W.cell? ⟨w4.heap.size, 9, none⟩ = some (.int .i64 (N 8)) ∧ W.cell? ⟨w4.heap.size, 10, none⟩ = some (.slice sp m cp) ∧ W.cell? ⟨w4.heap.size, 11, none⟩ = some (.slice dsp dn dcap) ∧ W.cell? ⟨w6.heap.size, 0, none⟩ = some (.int .i64 (N 0)) ∧ W.cell? ⟨w6.heap.size, 1, none⟩ = some (.int .i64 (N 1)) ∧ W.cell? ⟨w6.heap.size, 2, none⟩ = some (.int .i64 (N 2)) ∧ W.cell? ⟨w6.heap.size, 3, none⟩ = some (.int .i64 (N 3)) ∧ W.cell? ⟨w6.heap.size, 4, none⟩ = some (.int .i64 (N 4)) ∧ W.cell? ⟨w6.heap.size, 5, none⟩ = some (.int .i64 (N 5)) ∧ W.cell? ⟨w6.heap.size, 6, none⟩ = some (.int .i64 (N 6)) ∧ W.cell? ⟨w6.heap.size, 7, none⟩ = some (.int .i64 (N 7)) ∧ W.cell? ⟨w6.heap.size, 8, none⟩ = some (.int .i64 (N 8)) ∧ W.cell? ⟨w6.heap.size, 9, none⟩ = some (.slice sp6 m cp6) ∧ W.cell? ⟨w6.heap.size, 10, none⟩ = some (.slice dsp6 dn6 dcap6)) := Lib.hid fun W hW => by
          obtain ⟨m0, m1, m2, m3, m4, m5, m6, m7, m8, m9, m10, m11⟩ := (hM7.below hW hM7.lt).all
          obtain ⟨r0, r1, r2, r3, r4, r5, r6, r7, r8, r9, r10⟩ := (hR7.below hW hR7.lt).all
          exact ⟨m0, m1, m2, m3, m4, m5, m6, m7, m8, m9, m10, m11, r0, r1, r2, r3, r4, r5, r6, r7, r8, r9, r10⟩
        have HSC : Hid (∀ W, Below w7.heap.size w7 W → Calls Try.prog 15 #[rmV N (.slice sp m cp) (.slice dsp dn dcap), rmV N (.slice sp6 m cp6) (.slice dsp6 dn6 dcap6)] W fun e w' => e = .returned (.bool true) ∧ Below W.heap.size W w') := Lib.hid fun W hW => by
          have hb : Below w6.heap.size w6 W := hb7.trans (hW.mono hb7.size)
          refine (samem_any N N sp sp6 m m cp cp6 P P6 _ _ D D6 W (by have := HM2.out; omega) (HLS6.out.below hb) (HL6.out.below hb) (HBS6.out.below hb) (HD6.out.below hb)).mono ?_
          rintro e w' ⟨x, rfl, hx, hb9⟩
          have hx1 : x = true := hx.2 HSM6.out
          subst hx1
          exact ⟨rfl, hb9⟩
        have HBW : Hid (∀ W, Below w7.heap.size w7 W → Below w.heap.size w W) := Lib.hid fun W hW => HB6.out.trans ((hb7.trans (hW.mono hb7.size)).mono HB6.out.size)
        have hB0 : Below w7.heap.size w7 w7 := Below.refl _ _
        have hB1 : Below w7.heap.size w7 w7.drew := hB0.drew
        clear hb7 hR7 hM7 HM6 HB6 HLS6 HBS6 HL6 HD6 HSM6
        obtain ⟨s0, s1, s2, s3', s4, s5, s6, s7, s8, s9, s10, s11, t0, t1, t2, t3, t4, t5, t6, t7, t8, t9, t10⟩ := HSA.out w7 hB0
        go_wp2_with fail
        rw [← ew7]
        clear ew7
        go_region_held3 (fun W => W.cell? ⟨w4.heap.size, 0, none⟩ = some (.int .i64 (p : Int)) ∧ W.cell? ⟨w4.heap.size, 1, none⟩ = some (.int .i64 (N 0)) ∧ W.cell? ⟨w4.heap.size, 2, none⟩ = some (.int .i64 (N 1)) ∧ W.cell? ⟨w4.heap.size, 3, none⟩ = some (.int .i64 (N 2)) ∧ W.cell? ⟨w4.heap.size, 4, none⟩ = some (.int .i64 (N 3)) ∧ W.cell? ⟨w4.heap.size, 5, none⟩ = some (.int .i64 (N 4)) ∧ W.cell? ⟨w4.heap.size, 6, none⟩ = some (.int .i64 (N 5)) ∧ W.cell? ⟨w4.heap.size, 7, none⟩ = some (.int .i64 (N 6)) ∧ W.cell? ⟨w4.heap.size, 8, none⟩ = some (.int .i64 (N 7)) ∧ W.cell? ⟨w4.heap.size, 9, none⟩ = some (.int .i64 (N 8)) ∧ W.cell? ⟨w4.heap.size, 10, none⟩ = some (.slice sp m cp) ∧ W.cell? ⟨w4.heap.size, 11, none⟩ = some (.slice dsp dn dcap) ∧ W.cell? ⟨w6.heap.size, 0, none⟩ = some (.int .i64 (N 0)) ∧ W.cell? ⟨w6.heap.size, 1, none⟩ = some (.int .i64 (N 1)) ∧ W.cell? ⟨w6.heap.size, 2, none⟩ = some (.int .i64 (N 2)) ∧ W.cell? ⟨w6.heap.size, 3, none⟩ = some (.int .i64 (N 3)) ∧ W.cell? ⟨w6.heap.size, 4, none⟩ = some (.int .i64 (N 4)) ∧ W.cell? ⟨w6.heap.size, 5, none⟩ = some (.int .i64 (N 5)) ∧ W.cell? ⟨w6.heap.size, 6, none⟩ = some (.int .i64 (N 6)) ∧ W.cell? ⟨w6.heap.size, 7, none⟩ = some (.int .i64 (N 7)) ∧ W.cell? ⟨w6.heap.size, 8, none⟩ = some (.int .i64 (N 8)) ∧ W.cell? ⟨w6.heap.size, 9, none⟩ = some (.slice sp6 m cp6) ∧ W.cell? ⟨w6.heap.size, 10, none⟩ = some (.slice dsp6 dn6 dcap6))
          (first | exact HSA.out _ hB1 | exact HSA.out _ hB0)
          (first
            | (go_at_call 11; refine (plain_raw _ _ _ _ _ _ _ _ _ _ _ _ _ _ _ _ _).mono ?_; rintro e wx ⟨rfl, hbx⟩; replace hB1 := hB1.trans (hbx.mono hB1.size); clear hbx)
            | (go_at_call 15; refine (HSC.out _ hB1).mono ?_; rintro e wx ⟨rfl, hbx⟩; replace hB1 := hB1.trans (hbx.mono hB1.size); clear hbx))
        all_goals
          have HB9 := Lib.hid (HBW.out _ hB1)
          clear HSA HSC HBW hB0 hB1
          go_wp2
          go_ret
          exact ⟨rfl, HB9.out⟩
end Go.Proofs.Ytccpfoimedjdgaa

