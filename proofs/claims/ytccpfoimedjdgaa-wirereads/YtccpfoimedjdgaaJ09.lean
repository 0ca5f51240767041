/-
  Bytes that are a message are just those that are encoded of it; WireForm's walk.
-/
import Derived.Test.YtccpfoimedjdgaaJ07
import Derived.Test.YtccpfoimedjdgaaJ08
import Derived.Test.YtccpfoimedjdgaaJ06
import Derived.Test.YtccpfoimedjdgaaJ04
import Derived.Test.YtccpfoimedjdgaaJ02

namespace Go.Proofs.Ytccpfoimedjdgaa
open Go.ChangeShapes Go.WideShapes Go.ChangeAt Go.RowKit

theorem frm_congr {k z : Nat} {d d' : Nat → Nat} (h : ∀ j, j < z → d j = d' j) : ∀ j, j < 12 + z → Fr.frm k z d j = Fr.frm k z d' j := by
  intro j hj
  have e : Fr.h12 k z d = Fr.h12 k z d' := by
    unfold Fr.h12 Fr.s3
    rw [CrcMath.more_congr _ d d' z h]
  unfold Fr.frm
  rw [e]
  by_cases hl : j < 12
  · rw [cat_lo hl, cat_lo hl]
  · obtain ⟨i, rfl⟩ : ∃ i, j = 12 + i := ⟨j - 12, by omega⟩
    rw [cat_hi, cat_hi]
    exact h i (by omega)
theorem dErr_parts {f : Nat → Nat} {n : Nat} (h : dErr f n = 0) : Fr.derr f n = 0 ∧ n = 12 + Fr.sizeOf' f ∧ Fr.sizeOf' f ≤ 65536 ∧ KOk (Fr.kindOf f : Int) ∧ eE (ctn f) (Fr.sizeOf' f) (tF (ctn f) (Fr.sizeOf' f) s00) = 0 := by
  unfold dErr at h
  split at h
  · rename_i h1; omega
  · rename_i h1
    have h1 := Decidable.not_not.1 h1
    obtain ⟨a, b⟩ := derr_size h1
    split at h
    · exact absurd (show (12 : Int) = 0 from h) (by decide)
    · split at h
      · exact absurd (show (14 : Int) = 0 from h) (by decide)
      · rename_i h2 h3
        exact ⟨h1, by omega, a, Classical.not_not.1 h3, h⟩
theorem eE_ok {d : Nat → Nat} {z : Nat} {s : PS} (hd : ∀ j, d j < 256) (ha : s.e = 0 → s.a ≤ 8 * z) (h : eE d z s = 0) : s.e = 0 ∧ 8 * z < s.a + 8 ∧ Ends d s.a := by
  unfold eE at h
  split at h
  · rename_i h0
    have h1 : endOf d s.a (8 * z - s.a) = 0 := by omega
    have := ha h0
    exact ⟨h0, end_zero hd (by omega) h1⟩
  · rename_i h0
    exact absurd h h0
/-- a message that bytes are -/
theorem form_fact {f : Nat → Nat} {n : Nat} (hf : ∀ j, f j < 256) (h : dErr f n = 0) {z : Nat} {d : Nat → Nat} (hz : z = Fr.sizeOf' f) (hd : d = ctn f) :
    mErr (Fr.kindOf f : Int) (tN d z s00) (tM d z s00) (tP d z s00) (tD d z s00) = 0 ∧ (msgL (tN d z s00) (tM d z s00) (tP d z s00) (tD d z s00)).length ≤ 8 * z ∧ n = 12 + z ∧
    ∀ nb F, nb = ((msgL (tN d z s00) (tM d z s00) (tP d z s00) (tD d z s00)).length + 7) / 8 → Ends F (msgL (tN d z s00) (tM d z s00) (tP d z s00) (tD d z s00)).length → Sp F 0 (msgL (tN d z s00) (tM d z s00) (tP d z s00) (tD d z s00)) → nb = z ∧ ∀ j, j < n → f j = Fr.frm (Fr.kindOf f) nb F j := by
  obtain ⟨h1, h2, h3, h4, h5⟩ := dErr_parts h
  rw [← hz, ← hd] at h5
  rw [← hz] at h2
  have hdl : ∀ j, d j < 256 := fun j => by rw [hd]; exact hf (12 + j)
  have hT : (tF d z s00).e = 0 → _ := fun h => tF_ok (f := d) (n := z) (s := s00) (Nat.zero_le _) h
  obtain ⟨e1, e2, e3⟩ := eE_ok hdl (fun h => by rw [(hT h).2.1]; exact (hT h).2.2.1) h5
  obtain ⟨_, g2, g3, g4⟩ := hT e1
  rw [g2] at e2 e3
  have ez : s00.a = 0 := rfl
  rw [ez] at g3 g4 e2 e3
  rw [Nat.zero_add] at g3 e2 e3
  refine ⟨mErr_ok h4 (fun j _ => NOk_uV d z _) (by have := uV_le d z 2000 (nmS d z s00 9); unfold tM; omega) (fun i _ => ?_), g3, h2, fun nb F hnb hE hS => ?_⟩
  · unfold prt
    split
    · exact tB_le d z _
    · exact tB_le d z _
  · generalize msgL (tN d z s00) (tM d z s00) (tP d z s00) (tD d z s00) = L at *
    dsimp only at e2 e3
    have hnz : nb = z := by omega
    have hFd : ∀ j, j < z → F j = d j := fun j hj => bytes_eq hE e3 (fun i hi => by
      have a1 := hS i hi
      have a2 := g4 i hi
      rw [Nat.zero_add] at a1 a2
      rw [a1, a2]) j (by omega)
    refine ⟨hnz, fun j hj => ?_⟩
    obtain ⟨q1, q2⟩ := Fr.derr_goods h1
    have ht := (Fr.text_is f hf q1 z hz).2 q2 j (by omega)
    rw [← ht, Fr.kind_eq f hf, hnz]
    refine frm_congr (fun i hi => ?_) j (by omega)
    rw [hFd i hi, hd]; rfl

set_option maxRecDepth 100000 in
set_option maxHeartbeats 8000000 in
theorem form_main (a : Option Addr) (n cap : Nat) (f : Nat → Nat) (w : World) (hm : n ≤ 9223372036854775807) (hf : ∀ j, f j < 256) (hs : Src w a n f) (hnil : a = none → n = 0 ∧ cap = 0) :
    Calls Try.prog 5 #[.slice a n cap] w fun e w' => e = .returned (.bool true) ∧ Below w.heap.size w w' := by
  have HS := Lib.hid hs
  have HF := Lib.hid hf
  have HNIL := Lib.hid hnil
  clear hs hf hnil
  by_cases hn3 : 3000 < n
  · have hn3' : (3000 : Int) < (n : Int) := by omega
    go_enter Try.func5, Try.ntmps5
    go_wp2_with fail
    refine (head_any _).mono ?_
    rintro e w1 ⟨rfl, hb1⟩
    have HB1 := Lib.hid hb1
    clear hb1
    go_wp2
    go_ret
    exact ⟨rfl, HB1.out⟩
  have hn3' : ¬ (3000 : Int) < (n : Int) := by omega
  go_enter Try.func5, Try.ntmps5
  go_wp2_with fail
  refine (head_any _).mono ?_
  rintro e w1 ⟨rfl, hb1⟩
  have HB1 := Lib.hid hb1
  clear hb1
  go_wp2_with fail
  refine (rcopy_own a n cap f w1 (by omega) (HS.out.below HB1.out) HNIL.out).mono ?_
  rintro e w2 ⟨s2, c2, rfl, ho2, hb2⟩
  have HB2 := Lib.hid (HB1.out.trans (hb2.mono HB1.out.size))
  have HO2 := Lib.hid (own_src ho2)
  have hc2 : n ≤ c2 := own_cap' ho2
  clear hb2 ho2 HB1
  go_wp2_with fail
  refine (decode_any s2 n c2 f w2 HF.out hc2 HO2.out).mono ?_
  rintro e w3 ⟨hb3, hres3⟩
  have HB3 := Lib.hid (HB2.out.trans (hb3.mono HB2.out.size))
  have HO3 := Lib.hid (HO2.out.below hb3)
  clear hb3 HB2 HO2
  rcases hres3 with ⟨her, rfl⟩ | ⟨h0, sp, cp, dv, rfl, hG⟩
  · obtain ⟨er, eer⟩ : ∃ er, er = dErr f n := ⟨_, rfl⟩
    rw [← eer] at her ⊢
    clear eer
    have her1 : (er != 0) = true := by rw [bne_iff_ne]; exact her
    have hb4 : Below w3.heap.size w3 (w3.alloc (.cells (msL 0 zN nilV nilV).toArray 25)) := (Below.refl _ _).alloc (Nat.le_refl _) _
    have hM4 : MsC (w3.alloc (.cells (msL 0 zN nilV nilV).toArray 25)) w3.heap.size 0 zN nilV nilV := heap_alloc_new w3 _
    obtain ⟨m0, m1, m2, m3, m4, m5, m6, m7, m8, m9, m10, m11⟩ := hM4.all
    have HB4 := Lib.hid (HB3.out.trans (hb4.mono HB3.out.size))
    have HO4 := Lib.hid (HO3.out.below hb4)
    clear hb4 hM4 HB3 HO3
    go_wp2_with fail
    refine (sameB_any _ s2 a n n c2 cap f f true HF.out HF.out HO4.out (HS.out.below HB4.out) ⟨fun _ => ⟨rfl, fun _ _ => rfl⟩, fun _ => rfl⟩).mono ?_
    rintro e w5 ⟨rfl, rfl⟩
    go_wp2
    go_ret
    exact ⟨rfl, HB4.out⟩
  · obtain ⟨z, ez⟩ : ∃ z, z = Fr.sizeOf' f := ⟨_, rfl⟩
    obtain ⟨d, ed⟩ : ∃ d, d = ctn f := ⟨_, rfl⟩
    obtain ⟨q1, q2, q3, q4⟩ := form_fact HF.out h0 ez ed
    unfold DecG at hG
    rw [← ez, ← ed] at hG ⊢
    clear ez ed h0
    obtain ⟨hls, hnl, hcp, hbs⟩ := hG
    generalize tN d z s00 = N at *
    generalize tM d z s00 = m at *
    generalize tP d z s00 = P at *
    generalize tD d z s00 = D at *
    obtain ⟨_, _, hm2, _⟩ := mErr_zero q1
    have HQ1 := Lib.hid q1
    have HQ4 := Lib.hid q4
    have HLM : Hid ((msgL N m P D).length ≤ 500000) := Lib.hid (by omega)
    have hBS := hbs
    obtain ⟨dsp, dcap, edv, _⟩ := hBS
    obtain ⟨dn, edn⟩ : ∃ dn, dn = D.n := ⟨_, rfl⟩
    rw [← edn] at edv
    subst edv
    have HQ2 := Lib.hid q3
    clear q1 q2 q3 q4 edn
    obtain ⟨kd, ek⟩ : ∃ kd : Nat, kd = Fr.kindOf f := ⟨_, rfl⟩
    rw [← ek] at HQ1 HQ4 ⊢
    clear ek
    have hb4 : Below w3.heap.size w3 (w3.alloc (.cells (msL (kd : Int) N (.slice sp m cp) (.slice dsp dn dcap)).toArray 25)) := (Below.refl _ _).alloc (Nat.le_refl _) _
    have hM4 : MsC (w3.alloc (.cells (msL (kd : Int) N (.slice sp m cp) (.slice dsp dn dcap)).toArray 25)) w3.heap.size kd N (.slice sp m cp) (.slice dsp dn dcap) := heap_alloc_new w3 _
    obtain ⟨m0, m1, m2, m3, m4, m5, m6, m7, m8, m9, m10, m11⟩ := hM4.all
    have HB4 := Lib.hid (HB3.out.trans (hb4.mono HB3.out.size))
    have HO4 := Lib.hid (HO3.out.below hb4)
    have HLS := Lib.hid (hls.below hb4)
    have HBS := Lib.hid (hbs.below hb4)
    have HNL := Lib.hid hnl
    clear hb4 hM4 HB3 HO3 hls hbs hnl
    go_wp2_with fail
    refine (sameB_any _ s2 a n n c2 cap f f true HF.out HF.out HO4.out (HS.out.below HB4.out) ⟨fun _ => ⟨rfl, fun _ _ => rfl⟩, fun _ => rfl⟩).mono ?_
    rintro e w5 ⟨rfl, rfl⟩
    go_wp2_with fail
    refine (encode_any kd N sp m cp P (.slice dsp dn dcap) D _ (by omega) hcp HLS.out HNL.out HBS.out (fun _ => HLM.out)).mono ?_
    rintro e w6 ⟨hb6, hres6⟩
    have HB6 := Lib.hid (HB4.out.trans (hb6.mono HB4.out.size))
    rcases hres6 with ⟨h, _⟩ | ⟨_, g6, c6, nb, F, rfl, hs6, hc6, hnb, hE, hS⟩
    · exact absurd HQ1.out h
    · obtain ⟨e1, e2⟩ := HQ4.out nb F hnb hE hS
      have e3 : Int.toNat (kd : Int) = kd := rfl
      rw [e3] at hs6
      have HS6 := Lib.hid hs6
      have HF6 : Hid (∀ j, Fr.frm kd nb F j < 256) := Lib.hid (Fr.frm_lt kd nb F hE.1)
      have HE6 : Hid (n = 12 + nb ∧ ∀ j, j < n → f j = Fr.frm kd nb F j) := Lib.hid ⟨by have := HQ2.out; omega, e2⟩
      clear hb6 hs6 hE hS e1 e2 HB4 m0 m1 m2 m3 m4 m5 m6 m7 m8 m9 m10 m11 HLS HBS HO4
      generalize Fr.frm kd nb F = G at *
      obtain ⟨l6, el6⟩ : ∃ l6 : Nat, l6 = 12 + nb := ⟨_, rfl⟩
      rw [← el6] at HS6 HE6 ⊢
      clear hnb el6 hc6
      go_wp2_with fail
      refine (sameB_any w6 a (some ⟨g6, 0, none⟩) n l6 cap c6 f G true HF.out HF6.out (HS.out.below HB6.out) HS6.out ⟨fun _ => HE6.out, fun _ => rfl⟩).mono ?_
      rintro e w7 ⟨rfl, rfl⟩
      go_wp2
      go_ret
      exact ⟨rfl, HB6.out⟩
end Go.Proofs.Ytccpfoimedjdgaa

