/-
  GraphIs' walk.
-/
import Derived.Test.YtcolcgkfppjflaaH
import Derived.Test.YtcolcgkfppjflaaJ
import Derived.Test.YtcolcgkfppjflaaO
namespace Go.Proofs.Ytcolcgkfppjflaa
open Go.ChangeShapes Go.WideShapes Go.ChangeAt Go.RowKit
set_option linter.unusedVariables false

theorem lit_pair (w : World) (u v : Int) : PsS (w.alloc (.cells #[.int .i64 u, .int .i64 v] 27)) (some ⟨w.heap.size, 0, none⟩) 1 (fun _ => (u, v)) := by
  intro _
  refine ⟨w.heap.size, 0, rfl, by simp, fun i hi => ?_⟩
  obtain rfl : i = 0 := by omega
  rw [cell_of_row _ _ _ _ _ _ (heap_alloc_new w _), cell_of_row _ _ _ _ _ _ (heap_alloc_new w _)]
  exact ⟨rfl, rfl⟩
theorem lit_int (w : World) (u : Int) : IsS (w.alloc (.cells #[.int .i64 u] 3)) (some ⟨w.heap.size, 0, none⟩) 1 (fun _ => u) := by
  intro _
  refine ⟨w.heap.size, 0, rfl, by simp, fun i hi => ?_⟩
  obtain rfl : i = 0 := by omega
  rw [cell_of_row _ _ _ _ _ _ (heap_alloc_new w _)]
  rfl
theorem cyc_one : Cyc 1 1 (adj (fun _ => ((0 : Int), (0 : Int))) 1) (fun _ => 0) := by
  refine ⟨by omega, fun i hi => ⟨Int.le_refl 0, (by decide : (0 : Int) < ((1 : Nat) : Int))⟩, fun i j h1 h2 => by omega, fun i hi => ⟨0, by omega, rfl⟩⟩

set_option maxRecDepth 100000 in
set_option maxHeartbeats 4000000 in
theorem is_law (z : Int) (a : Option Addr) (n cap : Nat) (p : Nat → Int × Int) (c : Option Addr) (k kc : Nat) (f : Nat → Int) (w : World) (hs : PsS w a n p) (hc : IsS w c k f) :
    Calls Try.prog 6 #[.int .i64 z, .slice a n cap, .slice c k kc] w (fun e w' => e = .returned (.bool true) ∧ Below w.heap.size w w') := by
  have HS := Lib.hid hs
  have HC := Lib.hid hc
  clear hs hc
  have hb1 : Below w.heap.size w (w.alloc (.cells #[.int .i64 0, .int .i64 0] 27)) := (Below.refl _ _).alloc (Nat.le_refl _) _
  have HB1 := Lib.hid hb1
  have HA1 := Lib.hid (arcs_any (some ⟨w.heap.size, 0, none⟩) 1 1 (fun _ => ((0 : Int), (0 : Int))) _ (by omega) (lit_pair w 0 0))
  clear hb1
  go_enter Try.func6, Try.ntmps6
  go_wp2_with fail
  refine HA1.out.mono ?_
  rintro e w2 ⟨g, cp, rfl, ho, hb⟩
  have HB2 := Lib.hid (HB1.out.trans (hb.mono HB1.out.size))
  have hal : Below w2.heap.size w2 (w2.alloc (.cells #[.int .i64 0] 3)) := (Below.refl _ _).alloc (Nat.le_refl _) _
  have HI1 := Lib.hid (is_any 1 1 (some ⟨g, 0, none⟩) 1 cp (fun _ => ((0 : Int), (0 : Int))) (some ⟨w2.heap.size, 0, none⟩) 1 1 (fun _ => 0) true _ (by decide) (by omega) ((ArcP.pairs ho).below hal) (lit_int w2 0) (by omega) ⟨fun _ => cyc_one, fun _ => rfl⟩)
  have HB3 := Lib.hid (HB2.out.trans (hal.mono HB2.out.size))
  clear ho hb hal HA1 HB1 HB2
  go_wp2_with fail
  refine HI1.out.mono ?_
  rintro e w3 ⟨rfl, hb⟩
  have HB4 := Lib.hid (HB3.out.trans (hb.mono HB3.out.size))
  clear hb HI1 HB3
  by_cases hz : 60 < z
  · go_wp2
    go_ret
    exact ⟨rfl, HB4.out⟩
  · have hz' : decide (60 < z) = false := by simp; omega
    by_cases hn : 300 < n
    · have hn' : (300 : Int) < (n : Int) := by omega
      go_wp2
      go_ret
      exact ⟨rfl, HB4.out⟩
    · have hn' : decide ((300 : Int) < (n : Int)) = false := by simp; omega
      by_cases hk : 60 < k
      · have hk' : (60 : Int) < (k : Int) := by omega
        go_wp2
        go_ret
        exact ⟨rfl, HB4.out⟩
      · have hk' : decide ((60 : Int) < (k : Int)) = false := by simp; omega
        obtain ⟨N, hN⟩ : ∃ N : Nat, (N : Int) = max z 0 := ⟨(max z 0).toNat, by omega⟩
        obtain ⟨b, hb⟩ : ∃ b : Bool, b = true ↔ Cyc N k (adj p n) f := by
          by_cases h : Cyc N k (adj p n) f
          · exact ⟨true, by simp [h]⟩
          · exact ⟨false, by simp [h]⟩
        have HBB := Lib.hid hb
        clear hb
        have HA2 := Lib.hid (arcs_any a n cap p w3 (by omega) (HS.out.below HB4.out))
        go_wp2_with fail
        refine HA2.out.mono ?_
        rintro e w5 ⟨g5, cp5, rfl, ho, hb⟩
        have HB5 := Lib.hid (HB4.out.trans (hb.mono HB4.out.size))
        have HI2 := Lib.hid (is_any z N (some ⟨g5, 0, none⟩) n cp5 p c k kc f b w5 (by omega) (by omega) (ArcP.pairs ho) (HC.out.below HB5.out) (by omega) HBB.out)
        clear ho hb HA2 HB4
        go_wp2_with fail
        refine HI2.out.mono ?_
        rintro e w6 ⟨rfl, hb⟩
        have HB6 := Lib.hid (HB5.out.trans (hb.mono HB5.out.size))
        clear hb HI2 HB5
        have HT := Lib.hid (table_any N a n cap p w6 (by omega) (by omega) (HS.out.below HB6.out))
        by_cases hz0 : z < 0
        · obtain rfl : N = 0 := by omega
          go_wp2_with fail
          refine HT.out.mono ?_
          rintro e w7 ⟨g7, rb, T, rfl, hR, hA, hb⟩
          have HB7 := Lib.hid (HB6.out.trans (hb.mono HB6.out.size))
          have HR7 := Lib.hid (ris_any g7 0 rb T c k kc f (adj p n) b w7 (by omega) hR hA (HC.out.below HB7.out) (by omega) HBB.out)
          clear hR hA hb HT HB6
          go_wp2_with fail
          refine HR7.out.mono ?_
          rintro e w8 ⟨rfl, hb⟩
          have HB8 := Lib.hid (HB7.out.trans (hb.mono HB7.out.size))
          clear hb
          have hbb : (b == b) = true := by simp
          go_wp2
          go_ret
          exact ⟨rfl, HB8.out⟩
        · have hzN : z = (N : Int) := by omega
          subst hzN
          clear hN hz0
          go_wp2_with fail
          refine HT.out.mono ?_
          rintro e w7 ⟨g7, rb, T, rfl, hR, hA, hb⟩
          have HB7 := Lib.hid (HB6.out.trans (hb.mono HB6.out.size))
          have HR7 := Lib.hid (ris_any g7 N rb T c k kc f (adj p n) b w7 (by omega) hR hA (HC.out.below HB7.out) (by omega) HBB.out)
          clear hR hA hb HT HB6
          go_wp2_with fail
          refine HR7.out.mono ?_
          rintro e w8 ⟨rfl, hb⟩
          have HB8 := Lib.hid (HB7.out.trans (hb.mono HB7.out.size))
          clear hb
          have hbb : (b == b) = true := by simp
          go_wp2
          go_ret
          exact ⟨rfl, HB8.out⟩
end Go.Proofs.Ytcolcgkfppjflaa
