/-
  FrameJoins' walk, where there are not too many.
-/
import Derived.Test.YtgplannipnceeaaW
import Derived.Test.YtgplannipnceeaaR
namespace Go.Proofs.Ytgplannipnceeaa
open Go.ChangeShapes Go.WideShapes Go.ChangeAt Go.RowKit

theorem jn_at {α : Type} {n t x : Nat} {f g : Nat → α} (h : t = n + x) : jn n f g t = g x := by rw [h]; exact jn_hi n f g x
theorem tot_le300 (z : Nat → Nat) (c : Nat) (hz : ∀ i, i < c → z i ≤ 300) : tot z c ≤ 312 * c := by
  induction c with
  | zero => exact Nat.le_refl _
  | succ c ih => have := ih fun i hi => hz i (by omega); have := hz c (by omega); show tot z c + (12 + z c) ≤ _; omega

theorem cat_lt' (f g : Nat → Nat) (n j : Nat) (hf : ∀ j, f j < 256) (hg : ∀ j, g j < 256) : cat f g n j < 256 := by
  by_cases h : j < n
  · rw [cat_lo h]; exact hf j
  · obtain ⟨i, rfl⟩ : ∃ i, j = n + i := ⟨j - n, by omega⟩
    rw [cat_hi]; exact hg i
theorem allF_lt (k z : Nat → Nat) (d : Nat → Nat → Nat) (c : Nat) (hd : ∀ i, i < c → ∀ j, d i j < 256) : ∀ j, allF k z d c j < 256 := by
  induction c with
  | zero => exact fun _ => Nat.zero_lt_succ 255
  | succ c ih => exact fun j => cat_lt' _ _ _ j (ih fun i hi => hd i (by omega)) (frm_lt (k c) (z c) (d c) (hd c (by omega)))

/-- frames of two slices, a byte row of theirs and some bytes behind: what is scanned -/
theorem joins_math (la lb lt : Nat) (k z k' z' : Nat → Nat) (d d' : Nat → Nat → Nat) (ft : Nat → Nat) (hlt : lt ≤ 7)
    (hk : ∀ i, i < la → k i < 256) (hk' : ∀ i, i < lb → k' i < 256) (hz : ∀ i, i < la → z i ≤ 300) (hz' : ∀ i, i < lb → z' i ≤ 300)
    (F : Nat → Nat) (hF : F = cat (cat (allF k z d la) (allF k' z' d' lb) (tot z la)) ft (tot z la + tot z' lb)) (c er : Nat) (hw : Wholes F (tot z la + tot z' lb + lt) c) (he : Ends F (tot z la + tot z' lb + lt) c er) :
    c = la + lb ∧ scanP F c = tot z la + tot z' lb ∧ er = (if lt = 0 then 0 else 10) ∧ ∀ i, i < la + lb → kindOf (sh F (scanP F i)) = jn la k k' i ∧ sizeOf' (sh F (scanP F i)) = jn la z z' i ∧ ∀ j, j < jn la z z' i → sh F (scanP F i) (12 + j) = jn la d d' i j := by
  have hkj : ∀ i, i < la + lb → jn la k k' i < 256 := fun i hi => by
    unfold jn; split
    · exact hk i (by assumption)
    · exact hk' _ (by omega)
  have hzj : ∀ i, i < la + lb → jn la z z' i ≤ 65536 := fun i hi => by
    unfold jn; split
    · have := hz i (by assumption); omega
    · have := hz' (i - la) (by omega); omega
  obtain ⟨h1, h2, h3⟩ := scan_all F (tot z la + tot z' lb + lt) (la + lb) (jn la k k') (jn la z z') (jn la d d') hkj hzj (by rw [tot_jn]; omega) (fun j hj => by
    rw [tot_jn] at hj
    rw [allF_jn la k z k' z' d d' lb j hj, hF]
    exact cat_lo hj)
  have h4 : scanP F (la + lb) = tot z la + tot z' lb := by rw [h1 _ (Nat.le_refl _), tot_jn]
  have h5 := ends_short F (tot z la + tot z' lb + lt) (la + lb) (by omega) (by omega)
  obtain ⟨e1, e2⟩ := scan_one h2 h5 hw he
  subst e1
  refine ⟨rfl, h4, ?_, h3⟩
  rw [e2, h4]
  by_cases h : lt = 0
  · rw [if_pos h, if_pos (by omega)]
  · rw [if_neg h, if_neg (by omega)]

set_option maxRecDepth 100000 in
set_option maxHeartbeats 4000000 in
theorem joins_main (a0 : Option Addr) (la ca : Nat) (Ka : Nat → Int) (za : Nat → Nat) (da : Nat → Nat → Nat) (b0 : Option Addr) (lb cb : Nat) (Kb : Nat → Int) (zb : Nat → Nat) (db : Nat → Nat → Nat) (t0 : Option Addr) (lt ct : Nat) (ft : Nat → Nat) (w : World)
    (hla : la ≤ 8) (hlb : lb ≤ 8) (hlt : lt ≤ 7) (hfa : FSI w a0 la Ka za da) (hna : a0 = none → la = 0 ∧ ca = 0) (hda : ∀ i, i < la → ∀ j, da i j < 256) (hfb : FSI w b0 lb Kb zb db) (hnb : b0 = none → lb = 0 ∧ cb = 0) (hdb : ∀ i, i < lb → ∀ j, db i j < 256) (hst : Src w t0 lt ft) (hft : ∀ j, ft j < 256) (hnt : t0 = none → lt = 0 ∧ ct = 0) :
    Calls Try.prog 7 #[.slice a0 la ca, .slice b0 lb cb, .slice t0 lt ct] w fun e w' => e = .returned (.bool true) ∧ Below w.heap.size w w' := by
  obtain ⟨Va, hVa, hAa⟩ := hfa.at24
  obtain ⟨Vb, hVb, hAb⟩ := hfb.at24
  have HVA := Lib.hid hVa
  have HVB := Lib.hid hVb
  have HAA := Lib.hid hAa
  have HAB := Lib.hid hAb
  have HFA := Lib.hid hfa
  have HFB := Lib.hid hfb
  have HNA := Lib.hid hna
  have HNB := Lib.hid hnb
  have HNT := Lib.hid hnt
  have HDA := Lib.hid hda
  have HDB := Lib.hid hdb
  have HST := Lib.hid hst
  have HFT := Lib.hid hft
  clear hVa hVb hAa hAb hfa hfb hna hnb hnt hda hdb hst hft
  have h1 : ¬ (8 : Int) < (la : Int) := by omega
  have h2 : ¬ (8 : Int) < (lb : Int) := by omega
  have h3 : ¬ (7 : Int) < (lt : Int) := by omega
  go_enter Try.func7, Try.ntmps7
  go_wp2_with fail
  refine (head_any _).mono ?_
  rintro e w1 ⟨rfl, hb⟩
  have HB1 := Lib.hid hb
  clear hb
  have HBA : Hid (Below w.heap.size w (w1.alloc (.cells #[] 24))) := Lib.hid (HB1.out.alloc HB1.out.size _)
  have HO1 : Hid ((w1.alloc (.cells #[] 24)).ownsRow w.heap.size 24 2 (.slice (some ⟨w1.heap.size, 0, none⟩) 0 0) 0 (rowI (fun _ => 0) (fun _ => .slice none 0 0) 0)) := Lib.hid (World.ownsRow_lit w1 #[] 0 HB1.out.size (Nat.zero_le _) rfl)
  go_wp2_with (at_builtin; refine wpList_append_fs rfl _ _ rfl w.heap.size _ 0 (fun _ => 0) (fun _ => .slice none 0 0) rfl HO1.out a0 la ca Ka Va rfl (fun i hi => by obtain ⟨x, y, e⟩ := HVA.out i hi; exact ⟨x, _, y, e⟩) (HAA.out.below HBA.out) HNA.out (by omega) HBA.out.size ?_)
  intro v2 w2 hown2 hgrow2
  have HO2 : Hid (w2.ownsRow w.heap.size 24 2 v2 la (rowI Ka Va la)) := Lib.hid hown2
  have HB2 := Lib.hid (HBA.out.grown hgrow2 HBA.out.size (fun q hq => (HO1.out.lt q hq).1))
  clear hown2 hgrow2 HO1 HBA
  go_wp2_with (at_builtin; refine wpList_append_fs rfl _ _ rfl w.heap.size _ la Ka Va rfl HO2.out b0 lb cb Kb Vb rfl (fun i hi => by obtain ⟨x, y, e⟩ := HVB.out i hi; exact ⟨x, _, y, e⟩) (HAB.out.below HB2.out) HNB.out (by omega) HB2.out.size ?_)
  intro v3 w3 hown3 hgrow3
  rw [rowI_app] at hown3
  obtain ⟨sp3, cp3, rfl, hsp3⟩ := own24_form hown3
  have HS3 := Lib.hid hsp3
  have HO3 : Hid (w3.ownsRow w.heap.size 24 2 (.slice sp3 (la + lb) cp3) (la + lb) (rowI (jn la Ka Kb) (jn la Va Vb) (la + lb))) := Lib.hid hown3
  have HB3 := Lib.hid (HB2.out.grown hgrow3 HB2.out.size (fun q hq => (HO2.out.lt q hq).1))
  have HVJ : Hid (∀ i, i < la + lb → ∃ spi capi, jn la Va Vb i = .slice spi (jn la za zb i) capi) := Lib.hid fun i hi => by
    by_cases h : i < la
    · rw [jn_lo h, jn_lo h]; exact HVA.out i h
    · obtain ⟨x, rfl⟩ : ∃ x, i = la + x := ⟨i - la, by omega⟩
      rw [jn_hi, jn_hi]; exact HVB.out x (by omega)
  obtain ⟨c, ec⟩ : ∃ c, c = la + lb := ⟨_, rfl⟩
  rw [← ec] at HS3 HO3 HVJ ⊢
  have hc16 : c ≤ 16 := by omega
  have HC := Lib.hid ec
  clear hown3 hgrow3 HO2 HB2 hsp3 ec
  go_wp2
  go_loopw [8, 40] (fun _ i wr => ∃ t : Nat, t ≤ c ∧ i = .int .i64 (t : Int) ∧ Hid (Below w3.heap.size w3 wr ∧ ∀ i, i < t → jn la za zb i ≤ 300 ∧ 0 ≤ jn la Ka Kb i ∧ jn la Ka Kb i ≤ 255)) (fun _ i _ => c - (intOf i).toNat)
  case atStart => exact ⟨0, Nat.zero_le _, rfl, Lib.hid ⟨Below.refl _ _, fun i hi => absurd hi (Nat.not_lt_zero _)⟩⟩
  case round =>
    obtain ⟨t, ht, rfl, HT⟩ := hrel
    by_cases hlt' : t < c
    · obtain ⟨g3, rfl, hg3⟩ := HS3.out (by omega)
      obtain ⟨spi, capi, evi⟩ := HVJ.out t hlt'
      obtain ⟨r0, r1⟩ := rowI_get (jn la Ka Kb) (jn la Va Vb) c t hlt'
      rw [evi] at r1
      have c0 := (HO3.out.cellAt (t * 2) (by omega)).trans r0
      have c1 := (HO3.out.cellAt (t * 2 + 1) (by omega)).trans r1
      have x0 := (HT.out.1.cell (p := ⟨g3, t * 2, none⟩) hg3).trans c0
      have x1 := (HT.out.1.cell (p := ⟨g3, t * 2 + 1, none⟩) hg3).trans c1
      have hti : (t : Int) < (c : Int) := by omega
      have HBR : Hid (∀ o, Below w.heap.size w (wr.alloc o)) := Lib.hid fun o => by
        have h := HB3.out.trans (HT.out.1.mono HB3.out.size)
        exact h.alloc h.size _
      have HBN : Hid (∀ o, Below w3.heap.size w3 (wr.alloc o)) := Lib.hid fun o => HT.out.1.alloc HT.out.1.size _
      have HPR : Hid (jn la za zb t ≤ 300 ∧ 0 ≤ jn la Ka Kb t ∧ jn la Ka Kb t ≤ 255 → ∀ i, i < t + 1 → jn la za zb i ≤ 300 ∧ 0 ≤ jn la Ka Kb i ∧ jn la Ka Kb i ≤ 255) := Lib.hid fun hh i hi => by
        by_cases h : i < t
        · exact HT.out.2 i h
        · obtain rfl : i = t := by omega
          exact hh
      clear c0 c1 r0 r1 evi
      generalize jn la Ka Kb t = kk at *
      generalize jn la za zb t = zz at *
      by_cases hz3 : 300 < zz
      · have hz3' : (300 : Int) < (zz : Int) := by omega
        go_wp2
        go_ret
        exact ⟨rfl, HBR.out _⟩
      · have hz3' : ¬ (300 : Int) < (zz : Int) := by omega
        by_cases hk0 : kk < 0
        · go_wp2
          go_ret
          exact ⟨rfl, HBR.out _⟩
        · by_cases hk5 : 255 < kk
          · go_wp2
            go_ret
            exact ⟨rfl, HBR.out _⟩
          · go_wp2
            go_roundw
            case rel => exact ⟨t + 1, by omega, by go_num, Lib.hid ⟨HBN.out _, HPR.out ⟨by omega, by omega, by omega⟩⟩⟩
            case measure => simp [intOf]; omega
    · obtain rfl : t = c := by omega
      have HKA : Hid (∀ i, i < la → 0 ≤ Ka i ∧ Ka i ≤ 255 ∧ za i ≤ 300) := Lib.hid fun i hi => by
        have h := HT.out.2 i (by have := HC.out; omega)
        simp only [jn_lo hi] at h
        exact ⟨h.2.1, h.2.2, h.1⟩
      have HKB : Hid (∀ i, i < lb → 0 ≤ Kb i ∧ Kb i ≤ 255 ∧ zb i ≤ 300) := Lib.hid fun i hi => by
        have h := HT.out.2 (la + i) (by have := HC.out; omega)
        simp only [jn_hi] at h
        exact ⟨h.2.1, h.2.2, h.1⟩
      have HBR : Hid (Below w.heap.size w wr) := Lib.hid (HB3.out.trans (HT.out.1.mono HB3.out.size))
      obtain ⟨wq, hwq⟩ : ∃ wq, wq = wr := ⟨_, rfl⟩
      subst hwq
      clear HT HO3 HVJ HS3 HAA HAB HVA HVB
      have HFSA := Lib.hid ((HFA.out.fs (fun i hi => (HKA.out i hi).1)).below HBR.out)
      obtain ⟨na, ena⟩ : ∃ na, na = tot za la := ⟨_, rfl⟩
      have hna : na ≤ 2496 := by rw [ena]; have := tot_le300 za la (fun i hi => (HKA.out i hi).2.2); omega
      obtain ⟨nb, enb⟩ : ∃ nb, nb = tot zb lb := ⟨_, rfl⟩
      have hnb : nb ≤ 2496 := by rw [enb]; have := tot_le300 zb lb (fun i hi => (HKB.out i hi).2.2); omega
      have ENA := Lib.hid ena
      have ENB := Lib.hid enb
      clear ena enb
      obtain ⟨fa, efa⟩ : ∃ fa, fa = allF (fun i => (Ka i).toNat) za da la := ⟨_, rfl⟩
      obtain ⟨fb, efb⟩ : ∃ fb, fb = allF (fun i => (Kb i).toNat) zb db lb := ⟨_, rfl⟩
      have EFA := Lib.hid efa
      have EFB := Lib.hid efb
      have HFL : Hid (∀ j, cat (cat fa fb na) ft (na + nb) j < 256) := Lib.hid fun j => cat_lt' _ _ _ _ (fun j => cat_lt' _ _ _ _ (by rw [EFA.out]; exact allF_lt _ _ _ _ HDA.out) (by rw [EFB.out]; exact allF_lt _ _ _ _ HDB.out)) HFT.out
      clear efa efb
      go_wp2_with fail
      refine (all_ok a0 la ca (fun i => (Ka i).toNat) za da wq (by omega) (by rw [← ENA.out]; omega) (fun i hi => by have := HKA.out i hi; show (Ka i).toNat < 256; omega) (fun i hi => by have := HKA.out i hi; omega) HDA.out HFSA.out).mono ?_
      rintro e w4 ⟨g4, cp4, rfl, ho4, hb4⟩
      rw [← ENA.out] at ho4 ⊢
      rw [← EFA.out] at ho4
      have HS4 := Lib.hid (own_src ho4)
      have HB4 := Lib.hid (HBR.out.trans (hb4.mono HBR.out.size))
      have HFSB := Lib.hid ((HFB.out.fs (fun i hi => (HKB.out i hi).1)).below HB4.out)
      clear ho4 hb4 HFSA HBR
      go_wp2_with fail
      refine (all_ok b0 lb cb (fun i => (Kb i).toNat) zb db w4 (by omega) (by rw [← ENB.out]; omega) (fun i hi => by have := HKB.out i hi; show (Kb i).toNat < 256; omega) (fun i hi => by have := HKB.out i hi; omega) HDB.out HFSB.out).mono ?_
      rintro e w5 ⟨g5, cp5, rfl, ho5, hb5⟩
      rw [← ENB.out] at ho5 ⊢
      rw [← EFB.out] at ho5
      have HS5 := Lib.hid (HS4.out.below hb5)
      have HY5 := Lib.hid (own_src ho5)
      have HB5 := Lib.hid (HB4.out.trans (hb5.mono HB4.out.size))
      clear ho5 hb5 HS4 HB4 HFSB
      go_wp2_with fail
      refine (rcopy_some _ na cp4 fa w5 (by omega) HS5.out (fun h => by cases h)).mono ?_
      rintro e w6 ⟨g6, cp6, rfl, hg6, ho6, hb6⟩
      have HO6 := Lib.hid ho6
      have HB6 := Lib.hid hb6
      have HY6 := Lib.hid (HY5.out.below hb6)
      clear ho6 hb6 hg6 HS5 HY5
      go_wp2_with (at_builtin; refine wpList_append_src rfl _ _ rfl w5.heap.size _ na fa rfl HO6.out _ nb cp5 fb rfl HY6.out (fun h => by cases h) (by omega) HB6.out.size ?_)
      intro v7 w7 ho7 hgr7
      have HO7 := Lib.hid ho7
      have HB7 := Lib.hid (HB6.out.grown hgr7 HB6.out.size (fun q hq => (HO6.out.lt q hq).1))
      have HT7 := Lib.hid (HST.out.below (HB5.out.trans (HB7.out.mono HB5.out.size)))
      clear ho7 hgr7 HO6 HB6 HY6
      go_wp2_with (at_builtin; refine wpList_append_src rfl _ _ rfl w5.heap.size _ (na + nb) (cat fa fb na) rfl HO7.out t0 lt ct ft rfl HT7.out HNT.out (by omega) HB7.out.size ?_)
      intro v8 w8 ho8 hgr8
      have HB8 := Lib.hid (HB7.out.grown hgr8 HB7.out.size (fun q hq => (HO7.out.lt q hq).1))
      obtain ⟨sp8, cp8, rfl, hn8, hc8⟩ := own_slice ho8
      have HO8 := Lib.hid (own_src ho8)
      have HBW8 := Lib.hid (HB5.out.trans (HB8.out.mono HB5.out.size))
      clear ho8 hgr8 HO7 HB7 HT7 hn8 HB8 HB5
      obtain ⟨F, eF⟩ : ∃ F, F = cat (cat fa fb na) ft (na + nb) := ⟨_, rfl⟩
      rw [← eF] at HFL HO8
      have EF := Lib.hid eF
      clear eF
      go_wp2_with fail
      refine (scan_any sp8 (na + nb + lt) cp8 F w8 (by omega) hc8 HFL.out HO8.out).mono ?_
      rintro e w9 ⟨hb9, c9, er, v9, rfl, hwh, hend, hfr⟩
      obtain ⟨V9, hoV, _⟩ := hfr.row
      obtain ⟨spv, cpv, ev, _⟩ := own24_form hoV
      subst ev
      clear hoV
      obtain ⟨e1, e2, e3, e4⟩ := joins_math la lb lt (fun i => (Ka i).toNat) za (fun i => (Kb i).toNat) zb da db ft hlt (fun i hi => by have := HKA.out i hi; show (Ka i).toNat < 256; omega) (fun i hi => by have := HKB.out i hi; show (Kb i).toNat < 256; omega) (fun i hi => (HKA.out i hi).2.2) (fun i hi => (HKB.out i hi).2.2) F (by rw [EF.out, ENA.out, ENB.out, EFA.out, EFB.out]) c9 er (by rw [← ENA.out, ← ENB.out]; exact hwh) (by rw [← ENA.out, ← ENB.out]; exact hend)
      rw [e2, ← ENA.out, ← ENB.out]
      subst e1
      have HFV := Lib.hid hfr.fs
      have HE4 := Lib.hid e4
      have HBW9 := Lib.hid (HBW8.out.trans (hb9.mono HBW8.out.size))
      clear hb9 hwh hend hfr e2 e4 HBW8 HO8 HB3
      have hd0 : (er = 0 ∧ lt = 0) ∨ (er = 10 ∧ 0 < lt) := by
        rw [e3]
        by_cases h : lt = 0
        · exact .inl ⟨if_pos h, h⟩
        · exact .inr ⟨if_neg h, by omega⟩
      clear e3
      rcases hd0 with ⟨rfl, hl0⟩ | ⟨rfl, hl0⟩
      all_goals
        first | (have hl1 : ((lt : Int) == 0) = true := by (rw [beq_iff_eq]; omega)) | (have hl1 : ((lt : Int) == 0) = false := by (rw [beq_eq_false_iff_ne]; omega))
        first | (have hl2 : (0 : Int) < (lt : Int) := by omega) | (have hl2 : ¬ (0 : Int) < (lt : Int) := by omega)
        go_wp2
        go_loopw [17, 18, 123] (fun _ _ x ws => ∃ t : Nat, t ≤ la + lb ∧ x = .int .i64 (t : Int) ∧ Hid (Below w9.heap.size w9 ws)) (fun _ _ x _ => la + lb - (intOf x).toNat)
        case atStart => exact ⟨0, Nat.zero_le _, rfl, Lib.hid (Below.refl _ _)⟩
        case round =>
          obtain ⟨t, ht, rfl, HT⟩ := hrel
          by_cases hti : t < la + lb
          · obtain ⟨bv, ov, rfl, hbv, hcv⟩ := HFV.out (by omega)
            obtain ⟨sv, cv, v0, v1, hsv, hpv⟩ := hcv t hti
            obtain ⟨q1, q2, q3⟩ := HE4.out t hti
            dsimp only at v0 v1 hsv
            have hti' : (t : Int) < (la : Int) + (lb : Int) := by omega
            have HBT := Lib.hid (HBW9.out.trans (HT.out.mono HBW9.out.size))
            by_cases hta : t < la
            · have hk0 := (HKA.out t hta).1
              rw [jn_lo hta] at q1 q2
              rw [jn_lo hta, jn_lo hta] at q3
              have hta' : (t : Int) < (la : Int) := by omega
              rw [q1, Int.toNat_of_nonneg hk0] at v0
              rw [q2] at v1 hsv
              have a0' := (HT.out.cell (p := ⟨bv, ov + t * 2, none⟩) hbv).trans v0
              have a1' := (HT.out.cell (p := ⟨bv, ov + t * 2 + 1, none⟩) hbv).trans v1
              obtain ⟨gd, egd⟩ : ∃ gd : Nat → Nat, gd = fun j => sh F (scanP F t) (12 + j) := ⟨_, rfl⟩
              rw [← egd] at hsv
              have HGD : Hid (∀ j, j < za t → gd j < 256) := Lib.hid fun j _ => by rw [egd]; exact HFL.out _
              have HGE : Hid (∀ j, j < za t → gd j = da t j) := Lib.hid fun j hj => by rw [egd]; exact q3 j hj
              have HDD : Hid (∀ j, j < za t → da t j < 256) := Lib.hid fun j _ => HDA.out t hta j
              have HSV := Lib.hid (hsv.below HT.out)
              obtain ⟨ba, oa, rfl, hba, hca⟩ := HFA.out (by omega)
              obtain ⟨sa, cca, u0, u1, hsa, hpa⟩ := hca t hta
              have x0' := ((HBT.out.alloc HBT.out.size (.cells #[.int .i64 0, .slice none 0 0] 24)).cell (p := ⟨ba, oa + t * 2, none⟩) hba).trans u0
              have x1' := ((HBT.out.alloc HBT.out.size (.cells #[.int .i64 0, .slice none 0 0] 24)).cell (p := ⟨ba, oa + t * 2 + 1, none⟩) hba).trans u1
              have HSA := Lib.hid (hsa.below HBT.out)
              clear u0 u1 hsa hpa hca v0 v1 hsv hpv hcv q1 q2 q3 egd
              generalize Ka t = kk at *
              generalize za t = zz at *
              generalize da t = dd at *
              go_wp2
              obtain ⟨wx, ewx⟩ : ∃ wx, wx = wr.alloc (.cells #[.int .i64 kk, .slice sa zz cca] 24) := ⟨_, rfl⟩
              rw [← ewx]
              have hbx : Below wr.heap.size wr wx := by rw [ewx]; exact (Below.refl _ _).alloc (Nat.le_refl _) _
              have hxl : wr.heap.size < wx.heap.size := by rw [ewx]; simp
              have hxx : wx.heap[wr.heap.size]? = some (.cells #[.int .i64 kk, .slice sa zz cca] 24 (0, 0)) := by rw [ewx]; exact heap_alloc_new wr _
              obtain ⟨⟨y0, y1⟩, _⟩ := zcells hxx
              have hbvl : bv < wr.heap.size := Nat.lt_of_lt_of_le hbv HT.out.size
              have hbvx : bv < wx.heap.size := Nat.lt_of_lt_of_le hbvl hbx.size
              have g0' := (hbx.cell (p := ⟨bv, ov + t * 2, none⟩) hbvl).trans a0'
              have g1' := (hbx.cell (p := ⟨bv, ov + t * 2 + 1, none⟩) hbvl).trans a1'
              have HLS : Hid (∀ W, Below wx.heap.size wx W → Calls Try.prog 14 #[.agg #[.int .i64 kk, .slice sv zz cv], .agg #[.int .i64 kk, .slice sa zz cca]] W fun e w' => e = .returned (.bool true) ∧ Below W.heap.size W w') :=
                Lib.hid fun W hb => lsame_any kk kk sv sa zz cv cca gd dd W HGD.out HDD.out ((HSV.out.below hbx).below hb) ((HSA.out.below hbx).below hb) rfl HGE.out
              have HKK : Hid (∀ W, Below wx.heap.size wx W → W.cell? ⟨bv, ov + t * 2, none⟩ = some (.int .i64 kk) ∧ W.cell? ⟨bv, ov + t * 2 + 1, none⟩ = some (.slice sv zz cv) ∧ W.cell? ⟨wr.heap.size, 0, none⟩ = some (.int .i64 kk) ∧ W.cell? ⟨wr.heap.size, 1, none⟩ = some (.slice sa zz cca)) :=
                Lib.hid fun W hb => ⟨(hb.cell hbvx).trans g0', (hb.cell hbvx).trans g1', (hb.cell hxl).trans y0, (hb.cell hxl).trans y1⟩
              have HBX := Lib.hid hbx
              clear hbx hxx ewx a0' a1' x0' x1' HGD HGE HDD HSV HSA
              have hB0 : Below wx.heap.size wx wx := Below.refl _ _
              have hB : Below wx.heap.size wx wx.drew := (Below.refl _ _).drew
              go_region_held3 (fun W => W.cell? ⟨bv, ov + t * 2, none⟩ = some (.int .i64 kk) ∧ W.cell? ⟨bv, ov + t * 2 + 1, none⟩ = some (.slice sv zz cv) ∧ W.cell? ⟨wr.heap.size, 0, none⟩ = some (.int .i64 kk) ∧ W.cell? ⟨wr.heap.size, 1, none⟩ = some (.slice sa zz cca))
                (first | exact HKK.out _ hB | exact HKK.out _ hB0)
                (first | (go_at_call 14; refine (HLS.out _ hB).mono ?_; rintro e w8' ⟨rfl, hb8⟩; replace hB := hB.trans (hb8.mono hB.size)))
              have HT8 := Lib.hid (HT.out.trans ((HBX.out.trans (hB.mono HBX.out.size)).mono HT.out.size))
              clear hb8 hB hB0 y0 y1 g0' g1' HLS HKK
              go_wp2
              go_roundw
              case rel => exact ⟨t + 1, by omega, by go_num, HT8⟩
              case measure => simp [intOf]; omega
            · obtain ⟨x, hx⟩ : ∃ x, t = la + x := ⟨t - la, by omega⟩
              have hxb : x < lb := by omega
              have hk0 := (HKB.out x hxb).1
              rw [jn_at hx] at q1 q2
              rw [jn_at hx, jn_at hx] at q3
              have hta' : ¬ (t : Int) < (la : Int) := by omega
              have hta2 : (x : Int) < (lb : Int) := by omega
              have hta3 : (t : Int) - (la : Int) = (x : Int) := by omega
              clear hx
              rw [q1, Int.toNat_of_nonneg hk0] at v0
              rw [q2] at v1 hsv
              have a0' := (HT.out.cell (p := ⟨bv, ov + t * 2, none⟩) hbv).trans v0
              have a1' := (HT.out.cell (p := ⟨bv, ov + t * 2 + 1, none⟩) hbv).trans v1
              obtain ⟨gd, egd⟩ : ∃ gd : Nat → Nat, gd = fun j => sh F (scanP F t) (12 + j) := ⟨_, rfl⟩
              rw [← egd] at hsv
              have HGD : Hid (∀ j, j < zb x → gd j < 256) := Lib.hid fun j _ => by rw [egd]; exact HFL.out _
              have HGE : Hid (∀ j, j < zb x → gd j = db x j) := Lib.hid fun j hj => by rw [egd]; exact q3 j hj
              have HDD : Hid (∀ j, j < zb x → db x j < 256) := Lib.hid fun j _ => HDB.out x hxb j
              have HSV := Lib.hid (hsv.below HT.out)
              obtain ⟨ba, oa, rfl, hba, hca⟩ := HFB.out (by omega)
              obtain ⟨sa, cca, u0, u1, hsa, hpa⟩ := hca x hxb
              have x0' := ((HBT.out.alloc HBT.out.size (.cells #[.int .i64 0, .slice none 0 0] 24)).cell (p := ⟨ba, oa + x * 2, none⟩) hba).trans u0
              have x1' := ((HBT.out.alloc HBT.out.size (.cells #[.int .i64 0, .slice none 0 0] 24)).cell (p := ⟨ba, oa + x * 2 + 1, none⟩) hba).trans u1
              have HSA := Lib.hid (hsa.below HBT.out)
              clear u0 u1 hsa hpa hca v0 v1 hsv hpv hcv q1 q2 q3 egd
              generalize Kb x = kk at *
              generalize zb x = zz at *
              generalize db x = dd at *
              go_wp2
              obtain ⟨wx, ewx⟩ : ∃ wx, wx = wr.alloc (.cells #[.int .i64 kk, .slice sa zz cca] 24) := ⟨_, rfl⟩
              rw [← ewx]
              have hbx : Below wr.heap.size wr wx := by rw [ewx]; exact (Below.refl _ _).alloc (Nat.le_refl _) _
              have hxl : wr.heap.size < wx.heap.size := by rw [ewx]; simp
              have hxx : wx.heap[wr.heap.size]? = some (.cells #[.int .i64 kk, .slice sa zz cca] 24 (0, 0)) := by rw [ewx]; exact heap_alloc_new wr _
              obtain ⟨⟨y0, y1⟩, _⟩ := zcells hxx
              have hbvl : bv < wr.heap.size := Nat.lt_of_lt_of_le hbv HT.out.size
              have hbvx : bv < wx.heap.size := Nat.lt_of_lt_of_le hbvl hbx.size
              have g0' := (hbx.cell (p := ⟨bv, ov + t * 2, none⟩) hbvl).trans a0'
              have g1' := (hbx.cell (p := ⟨bv, ov + t * 2 + 1, none⟩) hbvl).trans a1'
              have HLS : Hid (∀ W, Below wx.heap.size wx W → Calls Try.prog 14 #[.agg #[.int .i64 kk, .slice sv zz cv], .agg #[.int .i64 kk, .slice sa zz cca]] W fun e w' => e = .returned (.bool true) ∧ Below W.heap.size W w') :=
                Lib.hid fun W hb => lsame_any kk kk sv sa zz cv cca gd dd W HGD.out HDD.out ((HSV.out.below hbx).below hb) ((HSA.out.below hbx).below hb) rfl HGE.out
              have HKK : Hid (∀ W, Below wx.heap.size wx W → W.cell? ⟨bv, ov + t * 2, none⟩ = some (.int .i64 kk) ∧ W.cell? ⟨bv, ov + t * 2 + 1, none⟩ = some (.slice sv zz cv) ∧ W.cell? ⟨wr.heap.size, 0, none⟩ = some (.int .i64 kk) ∧ W.cell? ⟨wr.heap.size, 1, none⟩ = some (.slice sa zz cca)) :=
                Lib.hid fun W hb => ⟨(hb.cell hbvx).trans g0', (hb.cell hbvx).trans g1', (hb.cell hxl).trans y0, (hb.cell hxl).trans y1⟩
              have HBX := Lib.hid hbx
              clear hbx hxx ewx a0' a1' x0' x1' HGD HGE HDD HSV HSA
              have hB0 : Below wx.heap.size wx wx := Below.refl _ _
              have hB : Below wx.heap.size wx wx.drew := (Below.refl _ _).drew
              go_region_held3 (fun W => W.cell? ⟨bv, ov + t * 2, none⟩ = some (.int .i64 kk) ∧ W.cell? ⟨bv, ov + t * 2 + 1, none⟩ = some (.slice sv zz cv) ∧ W.cell? ⟨wr.heap.size, 0, none⟩ = some (.int .i64 kk) ∧ W.cell? ⟨wr.heap.size, 1, none⟩ = some (.slice sa zz cca))
                (first | exact HKK.out _ hB | exact HKK.out _ hB0)
                (first | (go_at_call 14; refine (HLS.out _ hB).mono ?_; rintro e w8' ⟨rfl, hb8⟩; replace hB := hB.trans (hb8.mono hB.size)))
              have HT8 := Lib.hid (HT.out.trans ((HBX.out.trans (hB.mono HBX.out.size)).mono HT.out.size))
              clear hb8 hB hB0 y0 y1 g0' g1' HLS HKK
              go_wp2
              go_roundw
              case rel => exact ⟨t + 1, by omega, by go_num, HT8⟩
              case measure => simp [intOf]; omega
          · obtain rfl : t = la + lb := by omega
            go_wp2
            go_ret
            exact ⟨rfl, HBW9.out.trans (HT.out.mono HBW9.out.size)⟩
end Go.Proofs.Ytgplannipnceeaa
