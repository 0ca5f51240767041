/-
  FrameScans' walk, where the bytes are not too many.
-/
import Derived.Test.YtgplannipnceeaaO
namespace Go.Proofs.Ytgplannipnceeaa
open Go.ChangeShapes Go.WideShapes Go.ChangeAt Go.RowKit

theorem own24_slice {w : World} {base c : Nat} {v : Value} {k : Nat → Nat} (h : ∃ V : Nat → Value, w.ownsRow base 24 2 v c ((List.range c).flatMap fun i => [Value.int .i64 ((k i : Nat) : Int), V i]) ∧ True) : ∃ sp cp, v = .slice sp c cp ∧ (sp = none → c = 0 ∧ cp = 0) := by
  obtain ⟨V, ho, _⟩ := h
  rcases ho.2 with ⟨e, rfl⟩ | ⟨g, cp, cur, e, _⟩
  · exact ⟨_, _, e, fun _ => ⟨rfl, rfl⟩⟩
  · exact ⟨_, _, e, fun h => (by cases h)⟩

set_option maxHeartbeats 4000000 in
theorem scans_main (a0 : Option Addr) (n cap : Nat) (f : Nat → Nat) (w : World) (hn : n ≤ 5000) (hc : n ≤ cap) (hf : ∀ j, f j < 256) (hs : Src w a0 n f) (hsp : a0 = none → n = 0 ∧ cap = 0) :
    Calls Try.prog 5 #[.slice a0 n cap] w fun e w' => e = .returned (.bool true) ∧ Below w.heap.size w w' := by
  obtain ⟨i0, hi, hz0, hz1, hz2⟩ := info_parts info24
  have HF := Lib.hid hf
  have HS := Lib.hid hs
  have HP := Lib.hid hsp
  clear hf hs hsp
  have h1 : ¬ (5000 : Int) < (n : Int) := by omega
  go_enter Try.func5, Try.ntmps5
  go_wp2_with fail
  refine (head_any _).mono ?_
  rintro e w1 ⟨rfl, hb⟩
  have HB1 := Lib.hid hb
  clear hb
  go_wp2_with fail
  refine (rcopy_some a0 n cap f w1 (by omega) (HS.out.below HB1.out) HP.out).mono ?_
  rintro e w2 ⟨g2, cap2, rfl, hg2, hown2, hb2⟩
  have HO2 := Lib.hid (own_src hown2)
  have hc2 := (own_cap hown2).1
  have HB2 := Lib.hid (HB1.out.trans (hb2.mono HB1.out.size))
  clear hown2 hb2 HB1
  go_wp2_with fail
  refine (scan_any _ n cap2 f w2 (by omega) hc2 HF.out HO2.out).mono ?_
  rintro e w3 ⟨hb3, c, er, v, rfl, hwh, hend, hfr⟩
  obtain ⟨spv, cpv, ev, hspv⟩ := own24_slice (by obtain ⟨V, ho, _⟩ := hfr.row; exact ⟨V, ho, trivial⟩)
  subst ev
  have HWH := Lib.hid hwh
  have HEND : Hid (Ends f n c er) := Lib.hid hend
  have HFR3 := Lib.hid hfr
  have HB3 := Lib.hid (HB2.out.trans (hb3.mono HB2.out.size))
  have HS3 := Lib.hid (HS.out.below HB3.out)
  clear hb3 hwh hend hfr hspv HO2 HB2
  obtain ⟨pc, epc⟩ : ∃ pc, pc = scanP f c := ⟨_, rfl⟩
  rw [← epc]
  have HPC := Lib.hid epc
  clear epc
  go_wp2
  go_loopw [6, 7, 8, 9, 10, 11] (fun vw ie qe _ _ _ wr => ∃ i q : Nat, ie = .int .i64 ((scanP f i : Nat) : Int) ∧ qe = .int .i64 (q : Int) ∧ Hid (Wholes f n i ∧ (q = 0 ∨ (scanP f i < n ∧ q = derr (sh f (scanP f i)) (n - scanP f i) ∧ ¬ q = 0)) ∧ Below w3.heap.size w3 wr ∧ Frames wr w3.heap.size vw i (fun i => kindOf (sh f (scanP f i))) (fun i => sizeOf' (sh f (scanP f i))) (fun i j => sh f (scanP f i) (12 + j)))) (fun _ ie qe _ _ _ _ => (n - (intOf ie).toNat) * 2 + (if intOf qe = 0 then 1 else 0))
  case atStart => exact ⟨0, 0, rfl, rfl, Lib.hid ⟨fun i hi => absurd hi (Nat.not_lt_zero _), .inl rfl, (Below.refl _ _).alloc (Nat.le_refl _) _, ⟨fun _ => .slice none 0 0, World.ownsRow_lit w3 #[] 0 (Nat.le_refl _) (Nat.zero_le _) rfl, fun i hi => absurd hi (Nat.not_lt_zero _)⟩⟩⟩
  case round =>
    obtain ⟨i, q, rfl, rfl, HA⟩ := hrel
    have hbd := scan_bounds HA.out.1
    by_cases hlt : scanP f i < n
    · by_cases hq : q = 0
      · subst hq
        obtain ⟨ad, rfl, _⟩ := HS3.out (by omega)
        have HWS := Lib.hid HA.out.1
        have HP1 : Hid (scanP f (i + 1) = scanP f i + (12 + sizeOf' (sh f (scanP f i)))) := Lib.hid rfl
        obtain ⟨p, ep⟩ : ∃ p, p = scanP f i := ⟨_, rfl⟩
        rw [← ep] at hlt hbd ⊢
        have HEP := Lib.hid ep
        clear ep
        have HSR := Lib.hid ((HS3.out.below HA.out.2.2.1).behind p (n - p) (by omega))
        have hl1 : (p : Int) < (n : Int) := by omega
        have hl2 : (n : Int) ≤ (cap : Int) := by omega
        have hl3 : ¬ cap = p := by omega
        have hl4 : ¬ p = cap := by omega
        have hl5 : (p : Int) ≤ (n : Int) := by omega
        have hl6 : (p : Int) ≤ (cap : Int) := by omega
        go_wp2_with fail
        refine (read_any (some (ad.add p)) (n - p) (cap - p) (sh f p) wr (fun j => HF.out _) (by omega) HSR.out).mono ?_
        rintro e w5 ⟨hb5, hres⟩
        have HB5 := Lib.hid (HA.out.2.2.1.trans (hb5.mono HA.out.2.2.1.size))
        have HFR5 := Lib.hid (HA.out.2.2.2.below hb5)
        have hsz : w3.heap.size ≤ w5.heap.size := HB5.out.size
        rcases hres with ⟨hne, rfl⟩ | ⟨heq, sp', cap', rfl, hown5, hsp5⟩
        · have hq : ((((derr (sh f p) (n - p) : Nat) : Int)) == 0) = false := by rw [beq_eq_false_iff_ne]; omega
          obtain ⟨qq, eqq⟩ : ∃ qq, qq = derr (sh f p) (n - p) := ⟨_, rfl⟩
          rw [← eqq] at hq hne ⊢
          have HQ := Lib.hid eqq
          have HNE := Lib.hid hne
          unfold zeroF
          clear hb5 hne eqq
          go_wp2
          go_roundw
          case rel => exact ⟨i, qq, val_int (by rw [← HEP.out]), rfl, Lib.hid ⟨HWS.out, .inr ⟨by rw [← HEP.out]; exact hlt, by rw [← HEP.out]; exact HQ.out, HNE.out⟩, HB5.out.alloc HB5.out.size _, HFR5.out.below ((Below.refl _ _).alloc (Nat.le_refl _) _)⟩⟩
          case measure =>
            have := HNE.out
            simp [intOf, this]
        · have HEQ := Lib.hid heq
          have HOW5 := Lib.hid (own_mono hown5 HA.out.2.2.1.size)
          have HSP5 := Lib.hid hsp5
          obtain ⟨kd, ekd⟩ : ∃ kd, kd = kindOf (sh f p) := ⟨_, rfl⟩
          obtain ⟨z, ez⟩ : ∃ z, z = sizeOf' (sh f p) := ⟨_, rfl⟩
          have hfit := derr_fits heq
          rw [← ekd, ← ez]
          rw [← ez] at HOW5 HSP5 hfit
          have HKD := Lib.hid ekd
          have HZD := Lib.hid ez
          clear ekd ez heq hown5 hsp5 hb5
          obtain ⟨V, hoV, hV⟩ := HFR5.out.row
          have HBW : Hid (Below w5.heap.size w5 ((w5.alloc (.cells #[.int .i64 (kd : Int), .slice sp' z cap'] 24)).alloc (.cells #[.int .i64 (kd : Int), .slice sp' z cap'] 24))) := Lib.hid (((Below.refl _ _).alloc (Nat.le_refl _) _).alloc (by simp) _)
          have HOVW := Lib.hid (own24_below hoV HBW.out)
          have HVV := Lib.hid hV
          clear hoV hV
          have HNW : Hid (((w5.alloc (.cells #[.int .i64 (kd : Int), .slice sp' z cap'] 24)).alloc (.cells #[.int .i64 (kd : Int), .slice sp' z cap'] 24)).heap[w5.heap.size + 1]? = some (.cells #[.int .i64 (kd : Int), .slice sp' z cap'] 24 (0, 0))) := Lib.hid (by have := heap_alloc_new (w5.alloc (.cells #[.int .i64 (kd : Int), .slice sp' z cap'] 24)) (.cells #[.int .i64 (kd : Int), .slice sp' z cap'] 24); rwa [show (w5.alloc (.cells #[.int .i64 (kd : Int), .slice sp' z cap'] 24)).heap.size = w5.heap.size + 1 by simp] at this)
          go_wp2_with (at_builtin; refine wpList_append_own _ rfl _ _ 39 rfl w3.heap.size 24 i0 (.agg #[.int .i64 0, .slice none 0 0]) 2 32 Try.underlying39 hi hz0 hz1 hz2 rfl (by decide) _ i ((List.range i).flatMap fun i => [Value.int .i64 ((kindOf (sh f (scanP f i)) : Nat) : Int), V i]) rfl ?a0 ⟨w5.heap.size + 1, 0, none⟩ 1 1 [.int .i64 (kd : Int), .slice sp' z cap'] rfl ?a1 ?a2 ?a3 ?a4 ?a5 ?a6 ?_)
          case a0 => exact HOVW.out
          case a1 => rfl
          case a2 =>
            intro j u hj
            rw [Go.WideShapes.add_plain, cell_of_row _ _ _ _ 24 (0, 0) HNW.out, Nat.zero_add]
            simpa using hj
          case a3 =>
            intro u hu
            simp at hu
            rcases hu with rfl | rfl <;> rfl
          case a4 => unfold maxLen; omega
          case a5 => omega
          case a6 => simp; omega
          intro v6 w6 hown6 hgrow6 _
          have HB6 := Lib.hid ((HB5.out.trans (HBW.out.mono HB5.out.size)).grown hgrow6 (Nat.le_trans hsz HBW.out.size) (fun q hq => (HOVW.out.lt q hq).1))
          have HFR6 : Hid (Frames w6 w3.heap.size v6 (i + 1) (fun i => kindOf (sh f (scanP f i))) (fun i => sizeOf' (sh f (scanP f i))) (fun i j => sh f (scanP f i) (12 + j))) := Lib.hid (by
            refine Frames.app (V := V) (sp := sp') (cap := cap') HOVW.out (fun i hi => ?_) ?_ ?_ ?_ hgrow6
            · obtain ⟨sp1, cap1, e1, o1, p1⟩ := HVV.out i hi
              exact ⟨sp1, cap1, e1, own_below o1 HBW.out, p1⟩
            · show ((w5.alloc (.cells #[.int .i64 (kd : Int), .slice sp' z cap'] 24)).alloc (.cells #[.int .i64 (kd : Int), .slice sp' z cap'] 24)).ownsRow w3.heap.size 5 1 (.slice sp' (sizeOf' (sh f (scanP f i))) cap') (sizeOf' (sh f (scanP f i))) (rowB (fun j => sh f (scanP f i) (12 + j)) (sizeOf' (sh f (scanP f i))))
              rw [← HEP.out, ← HZD.out]
              exact own_below HOW5.out HBW.out
            · show sp' = none → sizeOf' (sh f (scanP f i)) = 0 ∧ cap' = 0
              rw [← HEP.out, ← HZD.out]
              exact HSP5.out
            · show w6.ownsRow w3.heap.size 24 2 v6 (i + 1) (_ ++ [Value.int .i64 ((kindOf (sh f (scanP f i)) : Nat) : Int), .slice sp' (sizeOf' (sh f (scanP f i))) cap'])
              rw [← HEP.out, ← HZD.out, ← HKD.out]
              exact hown6)
          have HW6 : Hid (Wholes f n (i + 1)) := Lib.hid fun x hx => by
            by_cases h : x < i
            · exact HWS.out x h
            · obtain rfl : x = i := by omega
              rw [← HEP.out]
              exact ⟨hlt, HEQ.out⟩
          clear hown6 hgrow6
          go_wp2
          go_roundw
          case rel => exact ⟨i + 1, 0, val_int (by rw [HP1.out, ← HEP.out, ← HZD.out]; omega), rfl, Lib.hid ⟨HW6.out, .inl rfl, HB6.out, HFR6.out⟩⟩
          case measure => simp [intOf]; omega
      · have HEI : Hid (Ends f n i q) := Lib.hid (by
          rcases HA.out.2.1 with h | ⟨h1, h2, h3⟩
          · exact absurd h hq
          · exact .inr ⟨h1, h2, h3⟩)
        have hq' : ((q : Int) == 0) = false := by rw [beq_eq_false_iff_ne]; omega
        have hlt' : ((scanP f i : Nat) : Int) < (n : Int) := by omega
        clear hq hlt
        obtain ⟨rfl, rfl⟩ := scan_one HWH.out HEND.out HA.out.1 HEI.out
        obtain ⟨spw, cpw, evw, hspw⟩ := own24_slice (by obtain ⟨V, ho, _⟩ := HA.out.2.2.2.row; exact ⟨V, ho, trivial⟩)
        subst evw
        have HFW : Hid (FS wr spw i (fun i => kindOf (sh f (scanP f i))) (fun i => sizeOf' (sh f (scanP f i))) (fun i j => sh f (scanP f i) (12 + j))) := Lib.hid HA.out.2.2.2.fs
        have HBW := Lib.hid (HB3.out.trans (HA.out.2.2.1.mono HB3.out.size))
        have HFV : Hid (FS wr spv i (fun i => kindOf (sh f (scanP f i))) (fun i => sizeOf' (sh f (scanP f i))) (fun i j => sh f (scanP f i) (12 + j))) := Lib.hid (HFR3.out.fs.below HA.out.2.2.1)
        have HSB := Lib.hid (HS3.out.below HA.out.2.2.1)
        have HBD := Lib.hid (scan_bounds HA.out.1)
        have HWI := Lib.hid HA.out.1
        clear HA HEI HEND HWH HFR3 hspw
        rw [← HPC.out] at HBD hlt' ⊢
        have HPE := HPC
        obtain ⟨wq, hwq⟩ : ∃ wq, wq = wr := ⟨_, rfl⟩
        subst hwq
        go_wp2
        go_loopw [12, 71] (fun _ x ws => ∃ t : Nat, t ≤ i ∧ x = .int .i64 (t : Int) ∧ Hid (Below wq.heap.size wq ws)) (fun _ x _ => i - (intOf x).toNat)
        case atStart => exact ⟨0, Nat.zero_le _, rfl, Lib.hid (Below.refl _ _)⟩
        case round =>
          obtain ⟨t, ht, rfl, HT⟩ := hrel
          by_cases hti : t < i
          · obtain ⟨bv, ov, rfl, hbv, hcv⟩ := HFV.out (by omega)
            obtain ⟨sv, cv, v0, v1, hsv, hpv⟩ := hcv t hti
            obtain ⟨bw, ow, rfl, hbw, hcw⟩ := HFW.out (by omega)
            obtain ⟨sw, cw, x0, x1, hsw, hpw⟩ := hcw t hti
            have hti' : (t : Int) < (i : Int) := by omega
            have a0' := (HT.out.cell (p := ⟨bv, ov + t * 2, none⟩) hbv).trans v0
            have a1' := (HT.out.cell (p := ⟨bv, ov + t * 2 + 1, none⟩) hbv).trans v1
            have b0' := (HT.out.cell (p := ⟨bw, ow + t * 2, none⟩) hbw).trans x0
            have b1' := (HT.out.cell (p := ⟨bw, ow + t * 2 + 1, none⟩) hbw).trans x1
            have HSV := Lib.hid (hsv.below HT.out)
            have HSW := Lib.hid (hsw.below HT.out)
            clear v0 v1 x0 x1 hsv hsw hpv hpw hcv hcw
            dsimp only at a0' a1' b0' b1' HSV HSW
            obtain ⟨dd, edd⟩ : ∃ dd : Nat → Nat, dd = fun j => sh f (scanP f t) (12 + j) := ⟨_, rfl⟩
            have HFD0 : Hid (∀ j, dd j < 256) := Lib.hid (by rw [edd]; exact fun j => HF.out _)
            rw [← edd] at HSV HSW
            clear edd
            generalize kindOf (sh f (scanP f t)) = kk at *
            generalize sizeOf' (sh f (scanP f t)) = zz at *
            have HFD : Hid (∀ j, j < zz → dd j < 256) := Lib.hid fun j _ => HFD0.out j
            have HLS : Hid (∀ W, Below wr.heap.size wr W → Calls Try.prog 14 #[.agg #[.int .i64 (kk : Int), .slice sv zz cv], .agg #[.int .i64 (kk : Int), .slice sw zz cw]] W fun e w' => e = .returned (.bool true) ∧ Below W.heap.size W w') :=
              Lib.hid fun W hb => lsame_any (kk : Int) (kk : Int) sv sw zz cv cw dd dd W HFD.out HFD.out (HSV.out.below hb) (HSW.out.below hb) rfl (fun _ _ => rfl)
            have hbvl : bv < wr.heap.size := Nat.lt_of_lt_of_le hbv HT.out.size
            have hbwl : bw < wr.heap.size := Nat.lt_of_lt_of_le hbw HT.out.size
            have HKK : Hid (∀ W, Below wr.heap.size wr W → W.cell? ⟨bv, ov + t * 2, none⟩ = some (.int .i64 (kk : Int)) ∧ W.cell? ⟨bv, ov + t * 2 + 1, none⟩ = some (.slice sv zz cv) ∧ W.cell? ⟨bw, ow + t * 2, none⟩ = some (.int .i64 (kk : Int)) ∧ W.cell? ⟨bw, ow + t * 2 + 1, none⟩ = some (.slice sw zz cw)) :=
              Lib.hid fun W hb => ⟨(hb.cell hbvl).trans a0', (hb.cell hbvl).trans a1', (hb.cell hbwl).trans b0', (hb.cell hbwl).trans b1'⟩
            have hB0 : Below wr.heap.size wr wr := Below.refl _ _
            have hB : Below wr.heap.size wr wr.drew := (Below.refl _ _).drew
            go_wp2
            go_region_held3 (fun W => W.cell? ⟨bv, ov + t * 2, none⟩ = some (.int .i64 (kk : Int)) ∧ W.cell? ⟨bv, ov + t * 2 + 1, none⟩ = some (.slice sv zz cv) ∧ W.cell? ⟨bw, ow + t * 2, none⟩ = some (.int .i64 (kk : Int)) ∧ W.cell? ⟨bw, ow + t * 2 + 1, none⟩ = some (.slice sw zz cw))
              (first | exact HKK.out _ hB | exact HKK.out _ hB0)
              (first | (go_at_call 14; refine (HLS.out _ hB).mono ?_; rintro e w8 ⟨rfl, hb8⟩; replace hB := hB.trans (hb8.mono hB.size)))
            have HT8 := Lib.hid (HT.out.trans (hB.mono HT.out.size))
            clear hb8 hB hB0 a0' a1' b0' b1' HLS HKK
            go_wp2
            go_roundw
            case rel => exact ⟨t + 1, by omega, by go_num, HT8⟩
            case measure => simp [intOf]; omega
          · obtain rfl : t = i := by omega
            have HFA := Lib.hid (HFV.out.below HT.out)
            have HTOT := Lib.hid (scan_tot f t)
            have hpn : pc ≤ n := HBD.out.1
            go_wp2_with fail
            refine (all_ok spv t cpv (fun i => kindOf (sh f (scanP f i))) (fun i => sizeOf' (sh f (scanP f i))) (fun i j => sh f (scanP f i) (12 + j)) wr (by have := HBD.out; omega) (by rw [HTOT.out, ← HPE.out]; omega) (fun i hi => by have h := kind_eq (sh f (scanP f i)) (fun j => HF.out _); show kindOf (sh f (scanP f i)) < 256; rw [h]; exact HF.out _) (fun i hi => (derr_fits (HWI.out i hi).2).2) (fun i _ j => HF.out _) HFA.out).mono ?_
            rintro e w9 ⟨g9, cp9, rfl, ho9, hb9⟩
            rw [HTOT.out, ← HPE.out] at ho9 ⊢
            have HO9 := Lib.hid (own_src ho9)
            have HB9 := Lib.hid ((HBW.out.trans (HT.out.mono HBW.out.size)).trans (hb9.mono (HBW.out.trans (HT.out.mono HBW.out.size)).size))
            have HS9 := Lib.hid (((HSB.out.below HT.out).below hb9).front pc hpn)
            have HAG : Hid (∀ j, j < pc → allF (fun i => kindOf (sh f (scanP f i))) (fun i => sizeOf' (sh f (scanP f i))) (fun i j => sh f (scanP f i) (12 + j)) t j = f j) := Lib.hid (by rw [HPE.out]; exact scan_again f n t HF.out HWI.out)
            have HAL : Hid (∀ j, j < pc → allF (fun i => kindOf (sh f (scanP f i))) (fun i => sizeOf' (sh f (scanP f i))) (fun i j => sh f (scanP f i) (12 + j)) t j < 256) := Lib.hid fun j hj => by rw [HAG.out j hj]; exact HF.out j
            have hpc : (pc : Int) ≤ (cap : Int) := by omega
            have hp0 : (0 : Int) ≤ (pc : Int) := by omega
            clear ho9 hb9
            go_wp2_with fail
            refine (same_any w9 _ a0 pc cp9 cap _ f true HAL.out (fun j _ => HF.out j) HO9.out HS9.out ⟨fun _ => HAG.out, fun _ => rfl⟩).mono ?_
            rintro e w' ⟨rfl, rfl⟩
            go_wp2
            go_ret
            exact ⟨rfl, HB9.out⟩
    · have hq0 : q = 0 := by
        rcases HA.out.2.1 with h | ⟨h1, _, _⟩
        · exact h
        · exact absurd h1 hlt
      have HEI : Hid (Ends f n i q) := Lib.hid (.inl ⟨by omega, hq0⟩)
      have hlt' : ¬ ((scanP f i : Nat) : Int) < (n : Int) := by omega
      clear hq0 hlt
      obtain ⟨rfl, rfl⟩ := scan_one HWH.out HEND.out HA.out.1 HEI.out
      obtain ⟨spw, cpw, evw, hspw⟩ := own24_slice (by obtain ⟨V, ho, _⟩ := HA.out.2.2.2.row; exact ⟨V, ho, trivial⟩)
      subst evw
      have HFW : Hid (FS wr spw i (fun i => kindOf (sh f (scanP f i))) (fun i => sizeOf' (sh f (scanP f i))) (fun i j => sh f (scanP f i) (12 + j))) := Lib.hid HA.out.2.2.2.fs
      have HBW := Lib.hid (HB3.out.trans (HA.out.2.2.1.mono HB3.out.size))
      have HFV : Hid (FS wr spv i (fun i => kindOf (sh f (scanP f i))) (fun i => sizeOf' (sh f (scanP f i))) (fun i j => sh f (scanP f i) (12 + j))) := Lib.hid (HFR3.out.fs.below HA.out.2.2.1)
      have HSB := Lib.hid (HS3.out.below HA.out.2.2.1)
      have HBD := Lib.hid (scan_bounds HA.out.1)
      have HWI := Lib.hid HA.out.1
      clear HA HEI HEND HWH HFR3 hspw
      rw [← HPC.out] at HBD hlt' ⊢
      have HPE := HPC
      obtain ⟨wq, hwq⟩ : ∃ wq, wq = wr := ⟨_, rfl⟩
      subst hwq
      go_wp2
      go_loopw [12, 71] (fun _ x ws => ∃ t : Nat, t ≤ i ∧ x = .int .i64 (t : Int) ∧ Hid (Below wq.heap.size wq ws)) (fun _ x _ => i - (intOf x).toNat)
      case atStart => exact ⟨0, Nat.zero_le _, rfl, Lib.hid (Below.refl _ _)⟩
      case round =>
        obtain ⟨t, ht, rfl, HT⟩ := hrel
        by_cases hti : t < i
        · obtain ⟨bv, ov, rfl, hbv, hcv⟩ := HFV.out (by omega)
          obtain ⟨sv, cv, v0, v1, hsv, hpv⟩ := hcv t hti
          obtain ⟨bw, ow, rfl, hbw, hcw⟩ := HFW.out (by omega)
          obtain ⟨sw, cw, x0, x1, hsw, hpw⟩ := hcw t hti
          have hti' : (t : Int) < (i : Int) := by omega
          have a0' := (HT.out.cell (p := ⟨bv, ov + t * 2, none⟩) hbv).trans v0
          have a1' := (HT.out.cell (p := ⟨bv, ov + t * 2 + 1, none⟩) hbv).trans v1
          have b0' := (HT.out.cell (p := ⟨bw, ow + t * 2, none⟩) hbw).trans x0
          have b1' := (HT.out.cell (p := ⟨bw, ow + t * 2 + 1, none⟩) hbw).trans x1
          have HSV := Lib.hid (hsv.below HT.out)
          have HSW := Lib.hid (hsw.below HT.out)
          clear v0 v1 x0 x1 hsv hsw hpv hpw hcv hcw
          dsimp only at a0' a1' b0' b1' HSV HSW
          obtain ⟨dd, edd⟩ : ∃ dd : Nat → Nat, dd = fun j => sh f (scanP f t) (12 + j) := ⟨_, rfl⟩
          have HFD0 : Hid (∀ j, dd j < 256) := Lib.hid (by rw [edd]; exact fun j => HF.out _)
          rw [← edd] at HSV HSW
          clear edd
          generalize kindOf (sh f (scanP f t)) = kk at *
          generalize sizeOf' (sh f (scanP f t)) = zz at *
          have HFD : Hid (∀ j, j < zz → dd j < 256) := Lib.hid fun j _ => HFD0.out j
          have HLS : Hid (∀ W, Below wr.heap.size wr W → Calls Try.prog 14 #[.agg #[.int .i64 (kk : Int), .slice sv zz cv], .agg #[.int .i64 (kk : Int), .slice sw zz cw]] W fun e w' => e = .returned (.bool true) ∧ Below W.heap.size W w') :=
            Lib.hid fun W hb => lsame_any (kk : Int) (kk : Int) sv sw zz cv cw dd dd W HFD.out HFD.out (HSV.out.below hb) (HSW.out.below hb) rfl (fun _ _ => rfl)
          have hbvl : bv < wr.heap.size := Nat.lt_of_lt_of_le hbv HT.out.size
          have hbwl : bw < wr.heap.size := Nat.lt_of_lt_of_le hbw HT.out.size
          have HKK : Hid (∀ W, Below wr.heap.size wr W → W.cell? ⟨bv, ov + t * 2, none⟩ = some (.int .i64 (kk : Int)) ∧ W.cell? ⟨bv, ov + t * 2 + 1, none⟩ = some (.slice sv zz cv) ∧ W.cell? ⟨bw, ow + t * 2, none⟩ = some (.int .i64 (kk : Int)) ∧ W.cell? ⟨bw, ow + t * 2 + 1, none⟩ = some (.slice sw zz cw)) :=
            Lib.hid fun W hb => ⟨(hb.cell hbvl).trans a0', (hb.cell hbvl).trans a1', (hb.cell hbwl).trans b0', (hb.cell hbwl).trans b1'⟩
          have hB0 : Below wr.heap.size wr wr := Below.refl _ _
          have hB : Below wr.heap.size wr wr.drew := (Below.refl _ _).drew
          go_wp2
          go_region_held3 (fun W => W.cell? ⟨bv, ov + t * 2, none⟩ = some (.int .i64 (kk : Int)) ∧ W.cell? ⟨bv, ov + t * 2 + 1, none⟩ = some (.slice sv zz cv) ∧ W.cell? ⟨bw, ow + t * 2, none⟩ = some (.int .i64 (kk : Int)) ∧ W.cell? ⟨bw, ow + t * 2 + 1, none⟩ = some (.slice sw zz cw))
            (first | exact HKK.out _ hB | exact HKK.out _ hB0)
            (first | (go_at_call 14; refine (HLS.out _ hB).mono ?_; rintro e w8 ⟨rfl, hb8⟩; replace hB := hB.trans (hb8.mono hB.size)))
          have HT8 := Lib.hid (HT.out.trans (hB.mono HT.out.size))
          clear hb8 hB hB0 a0' a1' b0' b1' HLS HKK
          go_wp2
          go_roundw
          case rel => exact ⟨t + 1, by omega, by go_num, HT8⟩
          case measure => simp [intOf]; omega
        · obtain rfl : t = i := by omega
          have HFA := Lib.hid (HFV.out.below HT.out)
          have HTOT := Lib.hid (scan_tot f t)
          have hpn : pc ≤ n := HBD.out.1
          go_wp2_with fail
          refine (all_ok spv t cpv (fun i => kindOf (sh f (scanP f i))) (fun i => sizeOf' (sh f (scanP f i))) (fun i j => sh f (scanP f i) (12 + j)) wr (by have := HBD.out; omega) (by rw [HTOT.out, ← HPE.out]; omega) (fun i hi => by have h := kind_eq (sh f (scanP f i)) (fun j => HF.out _); show kindOf (sh f (scanP f i)) < 256; rw [h]; exact HF.out _) (fun i hi => (derr_fits (HWI.out i hi).2).2) (fun i _ j => HF.out _) HFA.out).mono ?_
          rintro e w9 ⟨g9, cp9, rfl, ho9, hb9⟩
          rw [HTOT.out, ← HPE.out] at ho9 ⊢
          have HO9 := Lib.hid (own_src ho9)
          have HB9 := Lib.hid ((HBW.out.trans (HT.out.mono HBW.out.size)).trans (hb9.mono (HBW.out.trans (HT.out.mono HBW.out.size)).size))
          have HS9 := Lib.hid (((HSB.out.below HT.out).below hb9).front pc hpn)
          have HAG : Hid (∀ j, j < pc → allF (fun i => kindOf (sh f (scanP f i))) (fun i => sizeOf' (sh f (scanP f i))) (fun i j => sh f (scanP f i) (12 + j)) t j = f j) := Lib.hid (by rw [HPE.out]; exact scan_again f n t HF.out HWI.out)
          have HAL : Hid (∀ j, j < pc → allF (fun i => kindOf (sh f (scanP f i))) (fun i => sizeOf' (sh f (scanP f i))) (fun i j => sh f (scanP f i) (12 + j)) t j < 256) := Lib.hid fun j hj => by rw [HAG.out j hj]; exact HF.out j
          have hpc : (pc : Int) ≤ (cap : Int) := by omega
          have hp0 : (0 : Int) ≤ (pc : Int) := by omega
          clear ho9 hb9
          go_wp2_with fail
          refine (same_any w9 _ a0 pc cp9 cap _ f true HAL.out (fun j _ => HF.out j) HO9.out HS9.out ⟨fun _ => HAG.out, fun _ => rfl⟩).mono ?_
          rintro e w' ⟨rfl, rfl⟩
          go_wp2
          go_ret
          exact ⟨rfl, HB9.out⟩
end Go.Proofs.Ytgplannipnceeaa
