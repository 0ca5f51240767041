/-
  GraphReaches' walk.
-/
import Derived.Test.YtcolcgkfppjflaaP
import Derived.Test.YtcolcgkfppjflaaR
import Derived.Test.YtcolcgkfppjflaaK
namespace Go.Proofs.Ytcolcgkfppjflaa
open Go.ChangeShapes Go.WideShapes Go.ChangeAt Go.RowKit
set_option linter.unusedVariables false

theorem way_lit1 : Way (adj (fun _ => ((0 : Int), (1 : Int))) 1) 2 0 1 := .one (by omega) (by omega) ⟨0, by omega, rfl⟩
theorem way_lit2 : ¬ Way (adj (fun _ => ((0 : Int), (1 : Int))) 1) 2 1 0 := by
  intro h
  cases h with
  | one _ _ h => obtain ⟨k, _, e⟩ := h; injection e with e _; omega
  | more _ _ h => obtain ⟨k, _, e⟩ := h; injection e with _ e; omega

set_option maxRecDepth 100000 in
set_option maxHeartbeats 4000000 in
/-- what follows once both tables are there -/
theorem reaches_law (z : Int) (a : Option Addr) (n cap : Nat) (p : Nat → Int × Int) (w : World) (hs : PsS w a n p) :
    Calls Try.prog 3 #[.int .i64 z, .slice a n cap] w (fun e w' => e = .returned (.bool true) ∧ Below w.heap.size w w') := by
  have HS := Lib.hid hs
  clear hs
  have hb1 : Below w.heap.size w (w.alloc (.cells #[.int .i64 0, .int .i64 1] 27)) := (Below.refl _ _).alloc (Nat.le_refl _) _
  have HB1 := Lib.hid hb1
  have HA1 := Lib.hid (arcs_any (some ⟨w.heap.size, 0, none⟩) 1 1 (fun _ => ((0 : Int), (1 : Int))) _ (by omega) (lit_pair w 0 1))
  clear hb1
  go_enter Try.func3, Try.ntmps3
  go_wp2_with fail
  refine HA1.out.mono ?_
  rintro e w2 ⟨g, cp, rfl, ho, hb⟩
  have HB2 := Lib.hid (HB1.out.trans (hb.mono HB1.out.size))
  have HI1 := Lib.hid (reach_any 2 2 (some ⟨g, 0, none⟩) 1 cp (fun _ => ((0 : Int), (1 : Int))) w2 (by decide) (by omega) (ArcP.pairs ho))
  clear ho hb HA1 HB1
  go_wp2_with fail
  refine HI1.out.mono ?_
  rintro e w3 ⟨g3, rb3, T3, rfl, hR3, hW3, hb⟩
  have HB4 := Lib.hid (HB2.out.trans (hb.mono HB2.out.size))
  obtain ⟨c0, _⟩ := hR3.top 0 (by omega)
  obtain ⟨c1, _⟩ := hR3.top 1 (by omega)
  have c01 := hR3.cell 0 1 (by omega) (by omega)
  have c10 := hR3.cell 1 0 (by omega) (by omega)
  rw [(hW3 0 1 (by omega) (by omega)).2 way_lit1] at c01
  have h10 : T3 1 0 = false := by
    cases h : T3 1 0 with
    | false => rfl
    | true => exact absurd ((hW3 1 0 (by omega) (by omega)).1 h) way_lit2
  rw [h10] at c10
  clear hb HI1 HB2 hR3 hW3 h10
  by_cases hz : 60 < z
  · go_wp2
    go_ret
    exact ⟨rfl, HB4.out⟩
  · have hz' : decide (60 < z) = false := by simp; omega
    by_cases hn : 300 < n
    · have hn' : (300 : Int) < (n : Int) := by omega
      go_wp2
      go_ret
      exact ⟨rfl, HB4.out⟩
    · have hn' : decide ((300 : Int) < (n : Int)) = false := by simp; omega
      obtain ⟨N, hN⟩ : ∃ N : Nat, (N : Int) = max z 0 := ⟨(max z 0).toNat, by omega⟩
      have HA2 := Lib.hid (arcs_any a n cap p w3 (by omega) (HS.out.below HB4.out))
      go_wp2_with fail
      refine HA2.out.mono ?_
      rintro e w5 ⟨g5, cp5, rfl, ho, hb⟩
      have HB5 := Lib.hid (HB4.out.trans (hb.mono HB4.out.size))
      have HI2 := Lib.hid (reach_any z N (some ⟨g5, 0, none⟩) n cp5 p w5 (by omega) (by omega) (ArcP.pairs ho))
      clear ho hb HA2 HB4 c0 c1 c01 c10
      go_wp2_with fail
      refine HI2.out.mono ?_
      rintro e w6 ⟨g6, rb6, T6, rfl, hR6, hW6, hb⟩
      have HB6 := Lib.hid (HB5.out.trans (hb.mono HB5.out.size))
      have HR6 := Lib.hid hR6
      have HW6 := Lib.hid hW6
      clear hb HI2 HB5 hR6 hW6
      have HT := Lib.hid (table_any N a n cap p w6 (by omega) (by omega) (HS.out.below HB6.out))
      have HN4 : Hid (N ≤ 400) := Lib.hid (by omega)
      go_upto_if 51 with (fail)
      go_cut [0] from 50 (fun v wc => v = .int .i64 (N : Int) ∧ w6 = wc)
      case first =>
        by_cases hz0 : z < 0
        · obtain rfl : N = 0 := by omega
          go_wp2
          go_meet
          exact ⟨rfl, rfl⟩
        · have hzN : z = (N : Int) := by omega
          subst hzN
          clear hN hz0
          go_wp2
          go_meet
          exact ⟨rfl, rfl⟩
      case rest =>
        obtain ⟨rfl, rfl⟩ := hcut
        clear hN hz hz'
        go_wp2_with fail
        refine HT.out.mono ?_
        rintro e w7 ⟨g7, rb7, T7, rfl, hR7, hA7, hb⟩
        have HB7 := Lib.hid (HB6.out.trans (hb.mono HB6.out.size))
        have HX7 := Lib.hid hb
        have HRR := Lib.hid (rreach_any g7 N rb7 T7 (adj p n) w7 HN4.out hR7 hA7)
        clear hb hR7 hA7 HT HB6
        go_wp2_with fail
        refine HRR.out.mono ?_
        rintro e w8 ⟨g8, rb8, cp8, T8, rfl, hR8, hW8, hb⟩
        have HB8 := Lib.hid (HB7.out.trans (hb.mono HB7.out.size))
        have HR68 := Lib.hid ((HR6.out.below HX7.out).below hb)
        have HR8 := Lib.hid hR8
        have HEQ : Hid (∀ i j, i < N → j < N → T6 i j = T8 i j) := Lib.hid fun i j hi hj => by
          apply Bool.eq_iff_iff.2
          rw [HW6.out i j hi hj, hW8 i j hi hj]
        clear hb hR8 hW8 HRR HB7 HX7 HR6 HW6
        have hne : ((N : Int) != (N : Int)) = false := by simp
        have hN4 := HN4.out
        go_wp2
        go_loopw [4, 8, 9, 63] (fun _ _ _ i wr => ∃ t : Nat, t ≤ N ∧ i = .int .i64 (t : Int) ∧ Hid (Below w8.heap.size w8 wr)) (fun _ _ _ i _ => N - (intOf i).toNat)
        case atStart => exact ⟨0, Nat.zero_le _, rfl, Lib.hid (Below.refl _ _)⟩
        case round =>
          obtain ⟨t, ht, rfl, HW⟩ := hrel
          by_cases htN : t < N
          · have htN' : (t : Int) < (N : Int) := by omega
            have a0 := ((HR68.out.below HW.out).top t htN).1
            have b0 := ((HR8.out.below HW.out).top t htN).1
            go_wp2
            clear a0 b0
            obtain ⟨wE, ewE⟩ : ∃ wE, wE = wr := ⟨_, rfl⟩
            go_loopw [4, 9, 78] (fun _ _ i wr => ∃ s : Nat, s ≤ N ∧ i = .int .i64 (s : Int) ∧ Hid (Below w8.heap.size w8 wr)) (fun _ _ i _ => N - (intOf i).toNat)
            case atStart => exact ⟨0, Nat.zero_le _, rfl, HW⟩
            case round =>
              obtain ⟨s, hs, rfl, HV⟩ := hrel
              clear HW ewE
              by_cases hsN : s < N
              · have hsN' : (s : Int) < (N : Int) := by omega
                have a0 := ((HR68.out.below HV.out).top t htN).1
                have b0 := ((HR8.out.below HV.out).top t htN).1
                have a1 := (HR68.out.below HV.out).cell t s htN hsN
                have b1 := (HR8.out.below HV.out).cell t s htN hsN
                rw [HEQ.out t s htN hsN] at a1
                obtain ⟨bb, hbb⟩ : ∃ bb, bb = T8 t s := ⟨_, rfl⟩
                rw [← hbb] at a1 b1
                clear hbb
                have hbn : (bb != bb) = false := by simp
                go_wp2
                go_quiet (fail)
                go_wp2
                go_roundw
                case rel => exact ⟨s + 1, by omega, by go_num, Lib.hid (below_drewN HV.out _)⟩
                case measure => simp [intOf]; omega
              · obtain rfl : s = N := by omega
                go_wp2
                go_roundw
                case rel => exact ⟨t + 1, by omega, by go_num, HV⟩
                case measure => simp [intOf]; omega
          · obtain rfl : t = N := by omega
            go_wp2
            go_ret
            exact ⟨rfl, HB8.out.trans (HW.out.mono HB8.out.size)⟩
end Go.Proofs.Ytcolcgkfppjflaa
