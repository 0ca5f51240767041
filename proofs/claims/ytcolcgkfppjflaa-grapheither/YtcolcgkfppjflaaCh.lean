/-
  GraphEither's walk.
-/
import Derived.Test.YtcolcgkfppjflaaCg
import Derived.Test.YtcolcgkfppjflaaY
namespace Go.Proofs.Ytcolcgkfppjflaa
open Go.ChangeShapes Go.WideShapes Go.ChangeAt Go.RowKit
set_option linter.unusedVariables false

set_option maxRecDepth 100000 in
set_option maxHeartbeats 4000000 in
theorem either_law (z : Int) (a : Option Addr) (n cap : Nat) (p : Nat → Int × Int) (w : World) (hs : PsS w a n p) :
    Calls Try.prog 7 #[.int .i64 z, .slice a n cap] w (fun e w' => e = .returned (.bool true) ∧ Below w.heap.size w w') := by
  have HS := Lib.hid hs
  clear hs
  have HO := Lib.hid (found_any w)
  go_enter Try.func7, Try.ntmps7
  go_wp2_with fail
  refine HO.out.mono ?_
  rintro e w2 ⟨rfl, hb2⟩
  have HB2 := Lib.hid hb2
  have HOR := Lib.hid (ordered_any w2)
  clear hb2 HO
  go_wp2_with fail
  refine HOR.out.mono ?_
  rintro e w3 ⟨rfl, hb3⟩
  have HB4 := Lib.hid (HB2.out.trans (hb3.mono HB2.out.size))
  clear hb3 HOR HB2
  by_cases hz : 80 < z
  · go_wp2
    go_ret
    exact ⟨rfl, HB4.out⟩
  · have hz' : decide (80 < z) = false := by simp; omega
    by_cases hn : 300 < n
    · have hn' : (300 : Int) < (n : Int) := by omega
      go_wp2
      go_ret
      exact ⟨rfl, HB4.out⟩
    · have hn' : decide ((300 : Int) < (n : Int)) = false := by simp; omega
      obtain ⟨N, hN⟩ : ∃ N : Nat, max z 0 = (N : Int) := ⟨(max z 0).toNat, by omega⟩
      have hN2 : (if z < 0 then 0 else z) = (N : Int) := by split <;> omega
      have hN8 : N ≤ 80 := by omega
      have HA2 := Lib.hid (arcs_any a n cap p w3 (by omega) (HS.out.below HB4.out))
      go_wp2_with fail
      refine HA2.out.mono ?_
      rintro e w5 ⟨g5, cp5, rfl, ho, hb⟩
      have HB5 := Lib.hid (HB4.out.trans (hb.mono HB4.out.size))
      have HPP := Lib.hid (ArcP.pairs ho)
      have HI2 := Lib.hid (Cycle_any z N (some ⟨g5, 0, none⟩) n cp5 p w5 (by omega) (by omega) HPP.out)
      clear ho hb HA2 HB4
      go_wp2_with fail
      refine HI2.out.mono ?_
      rintro e w6 ⟨C, spc, cpc, rfl, hcy, hCN, hlc, hb⟩
      have HB6 := Lib.hid (HB5.out.trans (hb.mono HB5.out.size))
      have HP6 := Lib.hid (HPP.out.below hb)
      have HOO := Lib.hid (Order_any z N (some ⟨g5, 0, none⟩) n cp5 p w6 (by omega) (by omega) HP6.out)
      have HCY := Lib.hid hcy
      have HLC := Lib.hid hlc
      clear hb HI2 HB5 hcy hlc HPP
      go_wp2_with fail
      refine HOO.out.mono ?_
      rintro e w7 ⟨O, b, spo, cpo, rfl, hor, hlo, hb⟩
      have HB7 := Lib.hid (HB6.out.trans (hb.mono HB6.out.size))
      have HEI := Lib.hid (either hor HCY.out)
      cases b with
      | false =>
        have hC0 := HEI.out.1 rfl
        have hC0' : (0 : Int) < (C.length : Int) := by omega
        have HIS := Lib.hid (is_any (N : Int) N (some ⟨g5, 0, none⟩) n cp5 p spc C.length cpc _ true w7 (by omega) (by omega) (HP6.out.below hb) (LsS.ints (HLC.out.below hb)) (by omega) ⟨fun _ => HCY.out.cyc hC0, fun _ => rfl⟩)
        clear hor hlo hb HOO HEI HB6
        go_wp2_with fail
        refine HIS.out.mono ?_
        rintro e w8 ⟨rfl, hb⟩
        have HB8 := Lib.hid (HB7.out.trans (hb.mono HB7.out.size))
        clear hb
        go_wp2
        go_ret
        exact ⟨rfl, HB8.out⟩
      | true =>
        have hC0 : C.length = 0 := by
          rcases Nat.eq_zero_or_pos C.length with h | h
          · exact h
          · have := HEI.out.2 h; cases this
        obtain ⟨hbl, hlen⟩ : Bld (adj p n) N O ∧ O.length = N := by
          rcases hor with ⟨_, h1, h2⟩ | ⟨h, _⟩
          · exact ⟨h1, h2⟩
          · cases h
        have HBL := Lib.hid hbl
        have HLO := Lib.hid (LsS.ints hlo)
        have HLEN := Lib.hid hlen
        have HFA := Lib.hid hbl.facts
        obtain ⟨mc, hmc⟩ : ∃ mc, mc = madeCells #[.int .i64 0] N := ⟨_, rfl⟩
        have hmi := makeI N (by omega) mc hmc
        have HW0 : Hid ((w7.alloc (.cells mc 3)).ownsRow w7.heap.size 3 1 (.slice (some ⟨w7.heap.size, 0, none⟩) N N) N (rowC (fun _ => 0) N) ∧ Below w7.heap.size w7 (w7.alloc (.cells mc 3))) := Lib.hid ⟨⟨by unfold rowC; rw [rowV_length]; omega, .inr ⟨w7.heap.size, N, mc, rfl, Nat.le_refl _, heap_alloc_new _ _, Nat.le_refl _, by unfold maxLen; omega, by rw [hmc, size_madeCells]; omega, by rw [hmc, made_ints, List.take_of_length_le]; unfold rowC; rw [rowV_length]; omega⟩⟩, (Below.refl _ _).alloc (Nat.le_refl _) _⟩
        rw [hlen, hC0]
        rw [hlen] at HLO
        have hne : ((N : Int) != (N : Int)) = false := by simp
        clear hor hlo hb HOO HEI HB6 hbl hlen hmc hC0 hCN HLC HCY HP6
        go_wp2
        clear hmi hN hN2 hz hz' hne
        obtain ⟨gp, egp⟩ : ∃ gp, gp = w7.heap.size := ⟨_, rfl⟩
        obtain ⟨wc, ewc⟩ : ∃ wc, wc = w7.alloc (.cells mc 3) := ⟨_, rfl⟩
        have HW1 : Hid (wc.ownsRow w7.heap.size 3 1 (.slice (some ⟨gp, 0, none⟩) N N) N (rowC (fun _ => 0) N) ∧ Below w7.heap.size w7 wc) := Lib.hid (by rw [ewc, egp]; exact HW0.out)
        rw [← ewc, ← egp]
        clear HW0 ewc egp
        have HGN : Hid (∀ j, j < N → O.getD j 0 < N) := Lib.hid fun j hj => HFA.out.2 _ (by have := HLEN.out; rw [List.getD_eq_getElem?_getD, List.getElem?_eq_getElem (by omega)]; exact List.getElem_mem _)
        have HG1 : Hid (∀ i j, i < N → j < N → O.getD i 0 = O.getD j 0 → i = j) := Lib.hid fun i j hi hj e => by
          have hlen := HLEN.out
          rw [List.getD_eq_getElem?_getD, List.getD_eq_getElem?_getD, List.getElem?_eq_getElem (by omega), List.getElem?_eq_getElem (by omega)] at e
          have hp := List.pairwise_iff_getElem.1 (List.nodup_iff_pairwise_ne.1 HFA.out.1)
          have e2 : O[i]'(by omega) = O[j]'(by omega) := e
          rcases Nat.lt_trichotomy i j with h1 | h1 | h1
          · exact absurd e2 (hp i j (by omega) (by omega) h1)
          · exact h1
          · exact absurd e2.symm (hp j i (by omega) (by omega) h1)
        have HGA : Hid (∀ x, x < N → ∃ j, j < N ∧ O.getD j 0 = x) := Lib.hid fun x hx => by
          obtain ⟨j, hj, e⟩ := List.getElem_of_mem (full_mem HFA.out.1 HFA.out.2 HLEN.out x hx)
          exact ⟨j, by have := HLEN.out; omega, by rw [List.getD_eq_getElem?_getD, List.getElem?_eq_getElem hj]; exact e⟩
        go_loopg [4, 10, 11, 61] N (fun gk _ _ _ i wr => ∃ (t : Nat) (Pl : Nat → Nat), t ≤ N ∧ gk = N - t ∧ i = .int .i64 (t : Int) ∧ Hid (wr.ownsRow w7.heap.size 3 1 (.slice (some ⟨gp, 0, none⟩) N N) N (rowC Pl N) ∧ Below w7.heap.size w7 wr ∧ ∀ j, j < t → Pl (O.getD j 0) = j + 1))
        case atStart => exact ⟨0, _, Nat.zero_le _, rfl, rfl, Lib.hid ⟨HW1.out.1, HW1.out.2, fun j hj => absurd hj (Nat.not_lt_zero _)⟩⟩
        case round =>
          obtain ⟨t, Pl, ht, rfl, rfl, HT⟩ := hrel
          clear HW1
          by_cases htN : t < N
          · have htN' : (t : Int) < (N : Int) := by omega
            obtain ⟨ob, oo, rfl, hol, hoc⟩ := HLO.out (by omega)
            have cx := (HT.out.2.1.cell (p := ⟨ob, oo + t, none⟩) hol).trans (hoc t htN)
            obtain ⟨x, hx⟩ : ∃ x, x = O.getD t 0 := ⟨_, rfl⟩
            have hxN : x < N := by rw [hx]; exact HGN.out t htN
            have hxN' : (x : Int) < (N : Int) := by omega
            have hx1 : decide ((N : Int) ≤ (x : Int)) = false := by simp; omega
            dsimp only at cx
            rw [← hx] at cx
            have cp0 : wr.cell? ⟨gp, x, none⟩ = some (.int .i64 (Pl x : Int)) := (HT.out.1.cellAt x (by omega)).trans (rowV_get _ _ _ hxN)
            have fp0 := HT.out.1.frozenAt x
            have HN : Hid ((wr.setCell ⟨gp, x, none⟩ (.int .i64 ((t : Int) + 1))).ownsRow w7.heap.size 3 1 (.slice (some ⟨gp, 0, none⟩) N N) N (rowC (fun y => if y = x then t + 1 else Pl y) N) ∧ Below w7.heap.size w7 (wr.setCell ⟨gp, x, none⟩ (.int .i64 ((t : Int) + 1))) ∧ ∀ j, j < t + 1 → (if O.getD j 0 = x then t + 1 else Pl (O.getD j 0)) = j + 1) := Lib.hid (by
              have h1 := (HT.out.1.stored x (.int .i64 ((t + 1 : Nat) : Int))).1
              rw [rowC_set] at h1
              refine ⟨h1, HT.out.2.1.setCell (by exact (HT.out.1.lt gp rfl).1) _, fun j hj => ?_⟩
              by_cases h2 : j < t
              · have h3 : ¬ O.getD j 0 = x := fun e => by rw [hx] at e; have := HG1.out j t (by omega) htN e; omega
                rw [if_neg h3]; exact HT.out.2.2 j h2
              · have : j = t := by omega
                rw [this, if_pos hx.symm])
            clear hoc hx
            go_wp2
            go_roundg (N - (t + 1))
            case measure => omega
            case rel => exact ⟨t + 1, _, by omega, rfl, by go_num, HN⟩
          · obtain rfl : t = N := by omega
            have HPA : Hid (∀ x, x < t → ∃ j, j < t ∧ O.getD j 0 = x ∧ Pl x = j + 1) := Lib.hid fun x hx => by
              obtain ⟨j, hj, e⟩ := HGA.out x hx
              exact ⟨j, hj, e, by rw [← e]; exact HT.out.2.2 j hj⟩
            have HAR : Hid (∀ s u v, s < n → p s = (((u : Nat) : Int), ((v : Nat) : Int)) → u < t → v < t → Pl u < Pl v) := Lib.hid fun s u v hs e hu hv => by
              obtain ⟨j, hj, ej, hpj⟩ := HPA.out v hv
              have hlen := HLEN.out
              obtain ⟨i, hi, ei⟩ := HBL.out.arc j (by omega) u hu (by rw [ej]; exact ⟨s, hs, e⟩)
              have := HT.out.2.2 i (by omega)
              rw [ei] at this
              omega
            have HOW := Lib.hid HT.out.1
            have HT0 := Lib.hid HT.out.2.1
            clear HT
            go_wp2
            obtain ⟨wE, ewE⟩ : ∃ wE, wE = wr := ⟨_, rfl⟩
            rw [← ewE] at HOW HT0 ⊢
            clear ewE
            go_loopg [4, 13, 81] n (fun gk _ _ i wr => ∃ s : Nat, s ≤ n ∧ gk = n - s ∧ i = .int .i64 (s : Int) ∧ Hid (Below wE.heap.size wE wr))
            case atStart => exact ⟨0, Nat.zero_le _, rfl, rfl, Lib.hid (Below.refl _ _)⟩
            case round =>
              obtain ⟨s, hs, rfl, rfl, HV⟩ := hrel
              by_cases hsn : s < n
              · have hsn' : (s : Int) < (n : Int) := by omega
                obtain ⟨pb, po, rfl, hpl, hpc⟩ := HS.out (by omega)
                have hBa := HB7.out.trans ((HT0.out.trans (HV.out.mono HT0.out.size)).mono HB7.out.size)
                obtain ⟨d0, d1⟩ := hpc s hsn
                have x0 := (hBa.cell (p := ⟨pb, po + s * 2, none⟩) hpl).trans d0
                have x1 := (hBa.cell (p := ⟨pb, po + s * 2 + 1, none⟩) hpl).trans d1
                obtain ⟨⟨u, v⟩, hpt⟩ : ∃ q, p s = q := ⟨_, rfl⟩
                rw [hpt] at x0 x1
                dsimp only at x0 x1
                have HPT := Lib.hid hpt
                have HVB : Hid (∀ q, Below wE.heap.size wE ((wr.alloc (.cells #[.int .i64 u, .int .i64 v] 27)).drewN q)) := Lib.hid fun q => below_drewN (HV.out.alloc HV.out.size _) q
                clear hpt hpc d0 d1 hBa
                by_cases hu0 : 0 ≤ u
                · have hu0' : decide (0 ≤ u) = true := by simp [hu0]
                  by_cases hu1 : u < t
                  · have hu1' : decide (u < (t : Int)) = true := by simp [hu1]
                    by_cases hv0 : 0 ≤ v
                    · have hv0' : decide (0 ≤ v) = true := by simp [hv0]
                      by_cases hv1 : v < t
                      · have hv1' : decide (v < (t : Int)) = true := by simp [hv1]
                        obtain ⟨i, rfl⟩ : ∃ i : Nat, u = (i : Int) := ⟨u.toNat, by omega⟩
                        obtain ⟨j, rfl⟩ : ∃ j : Nat, v = (j : Int) := ⟨v.toNat, by omega⟩
                        have hi : i < t := by omega
                        have hj : j < t := by omega
                        have hlt := HAR.out s i j hsn HPT.out hi hj
                        have hO2 := own_at HOW.out (HV.out.block gp (HOW.out.lt gp rfl).2)
                        have hO3 := hO2.alloc (.cells #[.int .i64 (i : Int), .int .i64 (j : Int)] 27)
                        have e0 : (wr.alloc (.cells #[.int .i64 (i : Int), .int .i64 (j : Int)] 27)).cell? ⟨gp, i, none⟩ = some (.int .i64 (Pl i : Int)) := (hO3.cellAt i (by omega)).trans (rowV_get _ _ _ hi)
                        have e1 : (wr.alloc (.cells #[.int .i64 (i : Int), .int .i64 (j : Int)] 27)).cell? ⟨gp, j, none⟩ = some (.int .i64 (Pl j : Int)) := (hO3.cellAt j (by omega)).trans (rowV_get _ _ _ hj)
                        have hge : decide ((Pl j : Int) ≤ (Pl i : Int)) = false := by simp; omega
                        generalize Pl i = pi_ at e0 hge hlt
                        generalize Pl j = pj_ at e1 hge hlt
                        have hge2 : decide (pj_ ≤ pi_) = false := by simp; omega
                        have hge3 : ¬ (pj_ : Int) ≤ (pi_ : Int) := by omega
                        clear hO2 hO3 hu0 hu1 hv0 hv1
                        go_wp2
                        go_quiet (fail)
                        go_wp2
                        go_roundg (n - (s + 1))
                        case measure => omega
                        case rel => exact ⟨s + 1, by omega, rfl, by go_num, Lib.hid (HVB.out _)⟩
                      · have hv1' : decide (v < (t : Int)) = false := by simp; omega
                        clear hu0 hu1 hv0 hv1
                        go_wp2
                        go_quiet (fail)
                        go_wp2
                        go_roundg (n - (s + 1))
                        case measure => omega
                        case rel => exact ⟨s + 1, by omega, rfl, by go_num, Lib.hid (HVB.out _)⟩
                    · have hv0' : decide (0 ≤ v) = false := by simp; omega
                      clear hu0 hu1 hv0
                      go_wp2
                      go_quiet (fail)
                      go_wp2
                      go_roundg (n - (s + 1))
                      case measure => omega
                      case rel => exact ⟨s + 1, by omega, rfl, by go_num, Lib.hid (HVB.out _)⟩
                  · have hu1' : decide (u < (t : Int)) = false := by simp; omega
                    clear hu0 hu1
                    go_wp2
                    go_quiet (fail)
                    go_wp2
                    go_roundg (n - (s + 1))
                    case measure => omega
                    case rel => exact ⟨s + 1, by omega, rfl, by go_num, Lib.hid (HVB.out _)⟩
                · have hu0' : decide (0 ≤ u) = false := by simp; omega
                  clear hu0
                  go_wp2
                  go_quiet (fail)
                  go_wp2
                  go_roundg (n - (s + 1))
                  case measure => omega
                  case rel => exact ⟨s + 1, by omega, rfl, by go_num, Lib.hid (HVB.out _)⟩
              · obtain rfl : s = n := by omega
                go_wp2
                obtain ⟨wG, ewG⟩ : ∃ wG, wG = wr := ⟨_, rfl⟩
                rw [← ewG] at HV ⊢
                clear ewG
                go_loopg [4, 15, 121] t (fun gk _ _ i wr => ∃ r : Nat, r ≤ t ∧ gk = t - r ∧ i = .int .i64 (r : Int) ∧ wG = wr)
                case atStart => exact ⟨0, Nat.zero_le _, rfl, rfl, rfl⟩
                case round =>
                  obtain ⟨r, hr, rfl, rfl, rfl⟩ := hrel
                  by_cases hrt : r < t
                  · have hrt' : (r : Int) < (t : Int) := by omega
                    obtain ⟨j, hj, _, hpr⟩ := HPA.out r hrt
                    have hO2 := own_at HOW.out (HV.out.block gp (HOW.out.lt gp rfl).2)
                    have e0 : wG.cell? ⟨gp, r, none⟩ = some (.int .i64 (Pl r : Int)) := (hO2.cellAt r (by omega)).trans (rowV_get _ _ _ hrt)
                    have hne0 : ((Pl r : Int) == 0) = false := by simp; omega
                    have hne1 : ¬ (Pl r : Int) = 0 := by omega
                    generalize Pl r = pr_ at e0 hne0 hne1
                    clear hO2 hpr
                    go_wp2
                    go_roundg (t - (r + 1))
                    case measure => omega
                    case rel => exact ⟨r + 1, by omega, rfl, by go_num, rfl⟩
                  · obtain rfl : r = t := by omega
                    go_wp2
                    go_ret
                    exact ⟨rfl, HB7.out.trans ((HT0.out.trans (HV.out.mono HT0.out.size)).mono HB7.out.size)⟩
end Go.Proofs.Ytcolcgkfppjflaa
