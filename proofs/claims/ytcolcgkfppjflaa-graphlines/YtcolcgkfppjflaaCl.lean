/-
  GraphLines' walk.
-/
import Derived.Test.YtcolcgkfppjflaaCk
import Derived.IntWalk
namespace Go.Proofs.Ytcolcgkfppjflaa
open Go.ChangeShapes Go.WideShapes Go.ChangeAt Go.RowKit
set_option linter.unusedVariables false

theorem and_mask (x : Int) (m M : Nat) (h : (BitVec.ofInt 64 (m : Int)).toNat = M) (hM : M ≤ 1023) : ∃ k : Nat, k ≤ M ∧ bits .and .i64 x (m : Int) = (k : Int) := by
  refine ⟨(BitVec.ofInt 64 x).toNat &&& M, Nat.and_le_right, ?_⟩
  have hle : ((BitVec.ofInt 64 x).toNat &&& M) ≤ M := Nat.and_le_right
  unfold bits
  show IntKind.i64.wrap (((BitVec.ofInt 64 x) &&& (BitVec.ofInt 64 (m : Int))).toNat : Int) = _
  rw [BitVec.toNat_and, h]
  exact IntWalk.i64_in _ (by omega)

set_option maxRecDepth 100000 in
set_option maxHeartbeats 4000000 in
theorem lines_law (z f : Int) (w : World) :
    Calls Try.prog 10 #[.int .i64 z, .int .i64 f] w (fun e w' => e = .returned (.bool true) ∧ Below w.heap.size w w') := by
  obtain ⟨m, hm, hmv⟩ := and_mask z 63 63 (by decide) (by omega)
  obtain ⟨q, hq, hqv⟩ := and_mask f 1023 1023 (by decide) (by omega)
  have hmv : bits .and .i64 z 63 = (m : Int) := hmv
  have hqv : bits .and .i64 f 1023 = (q : Int) := hqv
  obtain ⟨i8, hi8, hx0, hx1, hx2⟩ := info_parts info27
  have HO := Lib.hid (found_any w)
  go_enter Try.func10, Try.ntmps10
  go_wp2_with fail
  refine HO.out.mono ?_
  rintro e w2 ⟨rfl, hb2⟩
  have HB2 := Lib.hid hb2
  have HOR := Lib.hid (ordered_any w2)
  clear hb2 HO
  go_wp2_with fail
  refine HOR.out.mono ?_
  rintro e w3 ⟨rfl, hb3⟩
  have HB4 := Lib.hid (HB2.out.trans (hb3.mono HB2.out.size))
  have HW3 := HB4
  clear hb3 HOR HB2
  have HTW : Hid ((w3.alloc (.cells #[] 27)).ownsRow w3.heap.size 27 2 (.slice (some ⟨w3.heap.size, 0, none⟩) 0 0) 0 (rowA pL 0) ∧ Below w3.heap.size w3 (w3.alloc (.cells #[] 27))) := Lib.hid ⟨⟨rfl, .inr ⟨w3.heap.size, 0, #[], rfl, Nat.le_refl _, heap_alloc_new _ _, Nat.le_refl _, Nat.zero_le _, rfl, rfl⟩⟩, (Below.refl _ _).alloc (Nat.le_refl _) _⟩
  have hN1 : (1 : Int) + (m : Int) = (m : Int) + 1 := by omega
  go_wp2
  obtain ⟨gt, egt⟩ : ∃ gt, gt = w3.heap.size := ⟨_, rfl⟩
  obtain ⟨wc, ewc⟩ : ∃ wc, wc = w3.alloc (.cells #[] 27) := ⟨_, rfl⟩
  have HT1 : Hid (wc.ownsRow w3.heap.size 27 2 (.slice (some ⟨gt, 0, none⟩) 0 0) 0 (rowA pL 0) ∧ Below w3.heap.size w3 wc) := Lib.hid (by rw [ewc, egt]; exact HTW.out)
  rw [← ewc, ← egt]
  clear HTW ewc egt hN1 hmv
  go_loopg [5, 6] m (fun gk vo i wr => ∃ (t g cp : Nat), t ≤ m ∧ gk = m - t ∧ i = .int .i64 (t : Int) ∧ vo = .slice (some ⟨g, 0, none⟩) t cp ∧ Hid (wr.ownsRow w3.heap.size 27 2 (.slice (some ⟨g, 0, none⟩) t cp) t (rowA pL t) ∧ Below w3.heap.size w3 wr))
  case atStart => exact ⟨0, gt, 0, Nat.zero_le _, rfl, rfl, rfl, HT1⟩
  case round =>
    obtain ⟨t, g, cp, ht, rfl, rfl, rfl, HT⟩ := hrel
    clear HT1
    by_cases hlt : t < m
    · have hlt' : (t : Int) + 1 < (m : Int) + 1 := by omega
      have HOR := Lib.hid HT.out.1
      have HBR := Lib.hid HT.out.2
      have HRA : Hid (rowA pL (t + 1) = rowA pL t ++ [.int .i64 (t : Int), .int .i64 ((t : Int) + 1)]) := Lib.hid (by
        have h1 : ((t + 1 : Nat) : Int) = (t : Int) + 1 := by omega
        show rowA pL t ++ [.int .i64 (t : Int), .int .i64 ((t + 1 : Nat) : Int)] = _
        rw [h1])
      have HNW : Hid (∀ (W : World) (j : Nat) (z : Value), [Value.int .i64 (t : Int), .int .i64 ((t : Int) + 1)][j]? = some z → (W.alloc (.cells #[.int .i64 (t : Int), .int .i64 ((t : Int) + 1)] 27)).cell? ((⟨W.heap.size, 0, none⟩ : Addr).add j) = some z) := Lib.hid fun W j z hj => by
        rw [Go.WideShapes.add_plain, cell_of_row _ _ _ _ 27 (0, 0) (heap_alloc_new W _), Nat.zero_add]
        simpa using hj
      have hwx : Below wr.heap.size wr (wr.alloc (.cells #[.int .i64 (t : Int), .int .i64 ((t : Int) + 1)] 27)) := (Below.refl _ _).alloc (Nat.le_refl _) _
      have HBX := Lib.hid (HBR.out.trans (hwx.mono HBR.out.size))
      have HOX := Lib.hid (own_keep HOR.out fun g hg => hwx.block g (HOR.out.lt g hg).2)
      clear hwx HT
      go_wp2_with (at_builtin; refine wpList_append_lies _ rfl _ _ 22 rfl w3.heap.size 27 i8 (.agg #[.int .i64 0, .int .i64 0]) 2 16 Try.underlying22 hi8 hx0 hx1 hx2 rfl (by decide) _ t (rowA pL t) rfl HOX.out ⟨wr.heap.size, 0, none⟩ 1 1 [.int .i64 (t : Int), .int .i64 ((t : Int) + 1)] (by simp [Act.eval]) rfl (HNW.out _) (by intro u hu; simp at hu; rcases hu with rfl | rfl <;> rfl) (by omega) (by unfold maxLen; omega) (by omega) HBX.out.size _ rfl ?_)
      intro g7 c7 w7 ho7 hg7 hat7 hl7
      have HB7 := Lib.hid (HBX.out.grown hg7 HBX.out.size (fun q hq => (HOR.out.lt q hq).1))
      rw [← HRA.out] at ho7
      have HO7 := Lib.hid ho7
      clear ho7 hg7 hat7
      go_wp2
      go_roundg (m - (t + 1))
      case measure => omega
      case rel => exact ⟨t + 1, g7, c7, by omega, rfl, by go_num, rfl, Lib.hid ⟨HO7.out, HB7.out⟩⟩
    · obtain rfl : t = m := by omega
      have HRO := Lib.hid HT.out.1
      have HPT := Lib.hid (own_pairs HT.out.1)
      have HB5 := Lib.hid (HB4.out.trans (HT.out.2.mono HB4.out.size))
      clear HT HB4
      obtain ⟨wE, ewE⟩ : ∃ wE, wE = wr := ⟨_, rfl⟩
      rw [← ewE] at HPT HB5 HRO ⊢
      clear ewE
      have hAL : adj pL t = adj pL (t + 1 - 1) := by rw [Nat.add_sub_cancel]
      have HA1 := Lib.hid (arcs_any (some ⟨g, 0, none⟩) t cp pL wE (by omega) HPT.out)
      go_wp2_with fail
      refine HA1.out.mono ?_
      rintro e w6 ⟨g6, cp6, rfl, ho, hb⟩
      have HX6 := Lib.hid (hb)
      have HP6 := Lib.hid (HPT.out.below hb)
      have HR6 := Lib.hid (own_keep HRO.out fun g hg => hb.block g (HRO.out.lt g hg).2)
      have HO1 := Lib.hid (Order_any ((t : Int) + 1) (t + 1) (some ⟨g6, 0, none⟩) t cp6 pL w6 (by omega) (by omega) (ArcP.pairs ho))
      clear ho hb HA1
      go_wp2_with fail
      refine HO1.out.mono ?_
      rintro e w7 ⟨O, bo, spO, cpO, rfl, hor, hls, hb⟩
      have HX7 := Lib.hid (HX6.out.trans (hb.mono HX6.out.size))
      have HP7 := Lib.hid (HP6.out.below hb)
      have HR7 := Lib.hid (own_keep HR6.out fun g hg => hb.block g (HR6.out.lt g hg).2)
      rw [hAL] at hor
      obtain ⟨rfl, rfl⟩ := (line_ord (t + 1)).one hor
      have HLO := Lib.hid hls
      clear hor hls hb HO1
      have HA2 := Lib.hid (arcs_any (some ⟨g, 0, none⟩) t cp pL w7 (by omega) HP7.out)
      go_wp2_with fail
      refine HA2.out.mono ?_
      rintro e w8 ⟨g8, cp8, rfl, ho, hb⟩
      have HX8 := Lib.hid (HX7.out.trans (hb.mono HX7.out.size))
      have HP8 := Lib.hid (HP7.out.below hb)
      have HR8 := Lib.hid (own_keep HR7.out fun g hg => hb.block g (HR7.out.lt g hg).2)
      have HL8 := Lib.hid (HLO.out.below hb)
      have HO2 := Lib.hid (reach_any ((t : Int) + 1) (t + 1) (some ⟨g8, 0, none⟩) t cp8 pL w8 (by omega) (by omega) (ArcP.pairs ho))
      clear ho hb HA2 HLO
      go_wp2_with fail
      refine HO2.out.mono ?_
      rintro e w9 ⟨gA, rbA, TA, rfl, hRA, hWA, hb⟩
      have HX9 := Lib.hid (HX8.out.trans (hb.mono HX8.out.size))
      have HP9 := Lib.hid (HP8.out.below hb)
      have HR9 := Lib.hid (own_keep HR8.out fun g hg => hb.block g (HR8.out.lt g hg).2)
      have HL9 := Lib.hid (HL8.out.below hb)
      have HT9 := Lib.hid hRA
      have HWT : Hid (∀ i j, i < t + 1 → j < t + 1 → (TA i j = true ↔ i < j)) := Lib.hid fun i j hi hj => by
        rw [hWA i j hi hj, hAL]
        exact line_way hi hj
      clear hRA hWA hb HO2 HL8
      have HA3 := Lib.hid (arcs_any (some ⟨g, 0, none⟩) t cp pL w9 (by omega) HP9.out)
      go_wp2_with fail
      refine HA3.out.mono ?_
      rintro e w10 ⟨g10, cp10, rfl, ho, hb⟩
      have HX10 := Lib.hid (HX9.out.trans (hb.mono HX9.out.size))
      have HR10 := Lib.hid (own_keep HR9.out fun g hg => hb.block g (HR9.out.lt g hg).2)
      have HL10 := Lib.hid (HL9.out.below hb)
      have HT10 := Lib.hid (HT9.out.below hb)
      have HO3 := Lib.hid (Cycle_any ((t : Int) + 1) (t + 1) (some ⟨g10, 0, none⟩) t cp10 pL w10 (by omega) (by omega) (ArcP.pairs ho))
      clear ho hb HA3 HL9 HT9
      go_wp2_with fail
      refine HO3.out.mono ?_
      rintro e w11 ⟨C, spC, cpC, rfl, hcC, _, _, hb⟩
      have HX11 := Lib.hid (HX10.out.trans (hb.mono HX10.out.size))
      have HR11 := Lib.hid (own_keep HR10.out fun g hg => hb.block g (HR10.out.lt g hg).2)
      have HL11 := Lib.hid (HL10.out.below hb)
      have HT11 := Lib.hid (HT10.out.below hb)
      rw [hAL] at hcC
      obtain rfl := line_cyc hcC
      clear hcC hb HO3 HL10 HT10
      have hrem : (q : Int).tmod ((t : Int) + 1) = ((q % (t + 1) : Nat) : Int) := by
        rw [show ((t : Int) + 1) = ((t + 1 : Nat) : Int) by simp, Int.ofNat_tmod]
      obtain ⟨F, hF⟩ : ∃ F, F = q % (t + 1) := ⟨_, rfl⟩
      rw [← hF] at hrem
      have hFt : F < t + 1 := by rw [hF]; exact Nat.mod_lt _ (by omega)
      clear hF
      have hF1 : (F : Int) < (t : Int) + 1 := by omega
      have a0 := (HT11.out.top F hFt).1
      have hne0 : ¬ ((t : Int) + 1 = 0) := by omega
      have hne0b : (((t : Int) + 1) == 0) = false := beq_eq_false_iff_ne.2 hne0
      have hqv2 := hqv
      obtain ⟨bo, oo, rfl, hbo, hco⟩ := (LsS.ints HL11.out) (by simp)
      have HCO : Hid (∀ i, i < t + 1 → w11.cell? ⟨bo, oo + i, none⟩ = some (.int .i64 (i : Int))) := Lib.hid fun i hi => by
        have := hco i (by simpa using hi)
        rw [show (some (Value.int .i64 (i : Int))) = some (Value.int .i64 (((List.range (t + 1)).getD i 0 : Nat) : Int)) by rw [range_getD _ _ hi]]
        exact this
      clear hco HL11
      go_wp2
      clear hne0 hne0b hrem a0 hqv hqv2
      go_loopg [4, 10, 84] (t + 1) (fun gk _ _ i wr => ∃ r : Nat, r ≤ t + 1 ∧ gk = t + 1 - r ∧ i = .int .i64 (r : Int) ∧ Hid (Below w11.heap.size w11 wr))
      case atStart => exact ⟨0, Nat.zero_le _, rfl, rfl, Lib.hid (Below.refl _ _)⟩
      case round =>
        obtain ⟨r, hr, rfl, rfl, HV⟩ := hrel
        by_cases hrt : r < t + 1
        · have hrt' : (r : Int) < (t : Int) + 1 := by omega
          have a0 := (HT11.out.below HV.out).top F hFt |>.1
          have a1 := (HT11.out.below HV.out).cell F r hFt hrt
          have x0 := (HV.out.cell (p := ⟨bo, oo + r, none⟩) hbo).trans (HCO.out r hrt)
          obtain ⟨bb, hbb⟩ : ∃ bb, bb = TA F r := ⟨_, rfl⟩
          rw [← hbb] at a1
          have hdec : decide ((F : Int) < (r : Int)) = bb := by
            rw [hbb]
            apply Bool.eq_iff_iff.2
            rw [decide_eq_true_iff, HWT.out F r hFt hrt]
            omega
          have hdec2 : decide (F < r) = bb := by rw [← hdec]; simp
          have hnb : (!bb == bb) = false := by cases bb <;> rfl
          have hbn : (bb != bb) = false := by simp
          have hrn : ((r : Int) != (r : Int)) = false := by simp
          clear hbb
          go_wp2
          go_roundg (t + 1 - (r + 1))
          case measure => omega
          case rel => exact ⟨r + 1, by omega, rfl, by go_num, HV⟩
        · obtain rfl : r = t + 1 := by omega
          have HR12 := Lib.hid (own_keep HR11.out fun g hg => HV.out.block g (HR11.out.lt g hg).2)
          have HX12 := Lib.hid (HX11.out.trans (HV.out.mono HX11.out.size))
          have HBW := Lib.hid (HB5.out.trans (HX12.out.mono HB5.out.size))
          have h35 : w3.heap.size ≤ wr.heap.size := by
            rcases Nat.lt_or_ge g w3.heap.size with h | h
            · have := (HR12.out.lt g rfl).1; omega
            · have := (HR12.out.lt g rfl).2; omega
          clear HV HCO HWT HT11 HX11 HR11 HX12 HB5
          obtain ⟨wz, ewz⟩ : ∃ wz, wz = wr := ⟨_, rfl⟩
          rw [← ewz] at HR12 HBW h35 ⊢
          clear ewz
          have HNW : Hid (∀ (W : World) (j : Nat) (z : Value), [Value.int .i64 (t : Int), .int .i64 0][j]? = some z → (W.alloc (.cells #[.int .i64 (t : Int), .int .i64 0] 27)).cell? ((⟨W.heap.size, 0, none⟩ : Addr).add j) = some z) := Lib.hid fun W j z hj => by
            rw [Go.WideShapes.add_plain, cell_of_row _ _ _ _ 27 (0, 0) (heap_alloc_new W _), Nat.zero_add]
            simpa using hj
          have hwx : Below wz.heap.size wz (wz.alloc (.cells #[.int .i64 (t : Int), .int .i64 0] 27)) := (Below.refl _ _).alloc (Nat.le_refl _) _
          have HBX := Lib.hid (HBW.out.trans (hwx.mono HBW.out.size))
          have HOX := Lib.hid (own_keep HR12.out fun g hg => hwx.block g (HR12.out.lt g hg).2)
          have hXs : w3.heap.size ≤ (wz.alloc (.cells #[.int .i64 (t : Int), .int .i64 0] 27)).heap.size := Nat.le_trans h35 hwx.size
          clear hwx
          go_wp2_with (at_builtin; refine wpList_append_lies _ rfl _ _ 22 rfl w3.heap.size 27 i8 (.agg #[.int .i64 0, .int .i64 0]) 2 16 Try.underlying22 hi8 hx0 hx1 hx2 rfl (by decide) _ t (rowA pL t) rfl HOX.out ⟨wz.heap.size, 0, none⟩ 1 1 [.int .i64 (t : Int), .int .i64 0] (by simp [Act.eval]) rfl (HNW.out _) (by intro u hu; simp at hu; rcases hu with rfl | rfl <;> rfl) (by omega) (by unfold maxLen; omega) (by omega) hXs _ rfl ?_)
          intro g7 c7 w7b ho7 hg7 hat7 hl7
          have HB7 := Lib.hid (HBX.out.grown hg7 HBX.out.size (fun q hq => by have := (HR12.out.lt q hq).1; have := HW3.out.size; omega))
          have hRP := rowA_pR (t + 1) (by omega)
          rw [Nat.add_sub_cancel] at hRP
          rw [hRP] at ho7
          have HP7 := Lib.hid (own_pairs ho7)
          clear ho7 hg7 hat7 hRP
          have HA4 := Lib.hid (arcs_any (some ⟨g7, 0, none⟩) (t + 1) c7 (pR (t + 1)) w7b (by omega) HP7.out)
          go_wp2_with fail
          refine HA4.out.mono ?_
          rintro e y1 ⟨h1, k1, rfl, ho, hb⟩
          have HY1 := Lib.hid (HB7.out.trans (hb.mono HB7.out.size))
          have HQ1 := Lib.hid (HP7.out.below hb)
          have HC1 := Lib.hid (Cycle_any ((t : Int) + 1) (t + 1) (some ⟨h1, 0, none⟩) (t + 1) k1 (pR (t + 1)) y1 (by omega) (by omega) (ArcP.pairs ho))
          clear ho hb HA4
          go_wp2_with fail
          refine HC1.out.mono ?_
          rintro e y2 ⟨C, spC, cpC, rfl, hcC, _, hlC, hb⟩
          have HY2 := Lib.hid (HY1.out.trans (hb.mono HY1.out.size))
          have HQ2 := Lib.hid (HQ1.out.below hb)
          have HCR := Lib.hid hcC
          obtain rfl := hcC.one (ring_cyc (by omega))
          have HLC := Lib.hid hlC
          clear hcC hb hlC HC1
          have HA5 := Lib.hid (arcs_any (some ⟨g7, 0, none⟩) (t + 1) c7 (pR (t + 1)) y2 (by omega) HQ2.out)
          go_wp2_with fail
          refine HA5.out.mono ?_
          rintro e y3 ⟨h3, k3, rfl, ho, hb⟩
          have HY3 := Lib.hid (HY2.out.trans (hb.mono HY2.out.size))
          have HL3 := Lib.hid (HLC.out.below hb)
          have HC2 := Lib.hid (Order_any ((t : Int) + 1) (t + 1) (some ⟨h3, 0, none⟩) (t + 1) k3 (pR (t + 1)) y3 (by omega) (by omega) (ArcP.pairs ho))
          clear ho hb HA5 HLC
          go_wp2_with fail
          refine HC2.out.mono ?_
          rintro e y4 ⟨O2, b2, spP, cpP, rfl, ho2, _, hb⟩
          have HY4 := Lib.hid (HY3.out.trans (hb.mono HY3.out.size))
          have HL4 := Lib.hid (HL3.out.below hb)
          have hb2 : b2 = false := (either ho2 HCR.out).2 (by simp)
          subst hb2
          clear ho2 hb HC2 HL3 HCR
          obtain ⟨bc, oc, rfl, hbc, hcc⟩ := (LsS.ints HL4.out) (by simp)
          have HCO : Hid (∀ i, i < t + 1 → y4.cell? ⟨bc, oc + i, none⟩ = some (.int .i64 (i : Int))) := Lib.hid fun i hi => by
            have := hcc i (by simpa using hi)
            rw [show (some (Value.int .i64 (i : Int))) = some (Value.int .i64 (((List.range (t + 1)).getD i 0 : Nat) : Int)) by rw [range_getD _ _ hi]]
            exact this
          clear hcc HL4
          go_wp2
          go_loopg [4, 14, 133] (t + 1) (fun gk _ _ i wr => ∃ r : Nat, r ≤ t + 1 ∧ gk = t + 1 - r ∧ i = .int .i64 (r : Int) ∧ y4 = wr)
          case atStart => exact ⟨0, Nat.zero_le _, rfl, rfl, rfl⟩
          case round =>
            obtain ⟨r, hr, rfl, rfl, rfl⟩ := hrel
            by_cases hrt : r < t + 1
            · have hrt' : (r : Int) < (t : Int) + 1 := by omega
              have x0 := HCO.out r hrt
              go_wp2
              go_roundg (t + 1 - (r + 1))
              case measure => omega
              case rel => exact ⟨r + 1, by omega, rfl, by go_num, rfl⟩
            · obtain rfl : r = t + 1 := by omega
              go_wp2
              go_ret
              exact ⟨rfl, HY4.out⟩
end Go.Proofs.Ytcolcgkfppjflaa
