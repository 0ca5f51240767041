/-
  ordered; GraphOrders' walk.
-/
import Derived.Test.YtcolcgkfppjflaaW
import Derived.Test.YtcolcgkfppjflaaX
import Derived.Test.YtcolcgkfppjflaaK
namespace Go.Proofs.Ytcolcgkfppjflaa
open Go.ChangeShapes Go.WideShapes Go.ChangeAt Go.RowKit
set_option linter.unusedVariables false

/-- the pairs of ordered -/
def pO (i : Nat) : Int × Int := if i = 0 then (2, 0) else (1, 0)
theorem lit_pO (w : World) : PsS (w.alloc (.cells #[.int .i64 2, .int .i64 0, .int .i64 1, .int .i64 0] 27)) (some ⟨w.heap.size, 0, none⟩) 2 pO := by
  intro _
  refine ⟨w.heap.size, 0, rfl, by simp, fun i hi => ?_⟩
  rw [cell_of_row _ _ _ _ _ _ (heap_alloc_new w _), cell_of_row _ _ _ _ _ _ (heap_alloc_new w _)]
  rcases (show i = 0 ∨ i = 1 by omega) with rfl | rfl <;> exact ⟨rfl, rfl⟩
theorem adj_pO (i j : Nat) : adj pO 2 i j ↔ (i = 2 ∨ i = 1) ∧ j = 0 := by
  constructor
  · rintro ⟨k, hk, e⟩
    unfold pO at e
    split at e <;> (injection e with e1 e2; omega)
  · rintro ⟨rfl | rfl, rfl⟩
    · exact ⟨0, by omega, rfl⟩
    · exact ⟨1, by omega, rfl⟩
theorem ord_pO : OrdR (adj pO 2) 3 [1, 2, 0] true := by
  have hf : ∀ (O : List Nat) (v : Nat), Free (adj pO 2) 3 O v ↔ v < 3 ∧ v ∉ O ∧ (v = 0 → 1 ∈ O ∧ 2 ∈ O) := fun O v => by
    unfold Free
    constructor
    · rintro ⟨h1, h2, h3⟩
      exact ⟨h1, h2, fun h => ⟨h3 1 (by omega) ((adj_pO _ _).2 ⟨.inr rfl, h⟩), h3 2 (by omega) ((adj_pO _ _).2 ⟨.inl rfl, h⟩)⟩⟩
    · rintro ⟨h1, h2, h3⟩
      refine ⟨h1, h2, fun u hu ha => ?_⟩
      obtain ⟨h4, h5⟩ := (adj_pO _ _).1 ha
      rcases h4 with rfl | rfl
      · exact (h3 h5).2
      · exact (h3 h5).1
  refine .inl ⟨rfl, ?_, rfl⟩
  refine .snoc (O := [1, 2]) (.snoc (O := [1]) (.snoc (O := []) .nil ⟨(hf _ _).2 (by simp), fun u hu h => ?_⟩) ⟨(hf _ _).2 (by simp), fun u hu h => ?_⟩) ⟨(hf _ _).2 (by simp), fun u hu h => by omega⟩
  · obtain rfl : u = 0 := by omega
    have := ((hf _ _).1 h).2.2 rfl
    simp at this
  · rcases (show u = 0 ∨ u = 1 by omega) with rfl | rfl
    · have := ((hf _ _).1 h).2.2 rfl
      simp at this
    · have := ((hf _ _).1 h).2.1
      simp at this
theorem lit_120 (w : World) : IsS (w.alloc (.cells #[.int .i64 1, .int .i64 2, .int .i64 0] 3)) (some ⟨w.heap.size, 0, none⟩) 3 (fun i => (([1, 2, 0] : List Nat).getD i 0 : Nat)) := by
  intro _
  refine ⟨w.heap.size, 0, rfl, by simp, fun i hi => ?_⟩
  rw [cell_of_row _ _ _ _ _ _ (heap_alloc_new w _)]
  rcases (show i = 0 ∨ i = 1 ∨ i = 2 by omega) with rfl | rfl | rfl <;> rfl

set_option maxRecDepth 100000 in
set_option maxHeartbeats 4000000 in
theorem ordered_any (w : World) : Calls Try.prog 19 #[] w (fun e w' => e = .returned (.bool true) ∧ Below w.heap.size w w') := by
  have HB1 : Hid (Below w.heap.size w (w.alloc (.cells #[.int .i64 2, .int .i64 0, .int .i64 1, .int .i64 0] 27))) := Lib.hid ((Below.refl _ _).alloc (Nat.le_refl _) _)
  have HA1 := Lib.hid (arcs_any (some ⟨w.heap.size, 0, none⟩) 2 2 pO _ (by omega) (lit_pO w))
  go_enter Try.func19, Try.ntmps19
  go_wp2_with fail
  refine HA1.out.mono ?_
  rintro e w2 ⟨g, cp, rfl, ho, hb⟩
  have HB2 := Lib.hid (HB1.out.trans (hb.mono HB1.out.size))
  have HI1 := Lib.hid (Order_any 3 3 (some ⟨g, 0, none⟩) 2 cp pO w2 (by decide) (by omega) (ArcP.pairs ho))
  clear ho hb HA1 HB1
  go_wp2_with fail
  refine HI1.out.mono ?_
  rintro e w3 ⟨O, b, sp, cp3, rfl, hor, hls, hb⟩
  obtain ⟨rfl, rfl⟩ := hor.one ord_pO
  have HB3 := Lib.hid (HB2.out.trans (hb.mono HB2.out.size))
  have hal : Below w3.heap.size w3 (w3.alloc (.cells #[.int .i64 1, .int .i64 2, .int .i64 0] 3)) := (Below.refl _ _).alloc (Nat.le_refl _) _
  have HB4 := Lib.hid (HB3.out.trans (hal.mono HB3.out.size))
  have HSM := Lib.hid (same_any sp 3 cp3 _ (some ⟨w3.heap.size, 0, none⟩) 3 3 _ true _ ((LsS.ints hls).below hal) (lit_120 w3) (by omega) (by omega) ⟨fun _ => ⟨rfl, fun i _ => rfl⟩, fun _ => rfl⟩)
  clear hor hls hb hal HI1 HB2 HB3
  go_wp2_with fail
  refine HSM.out.mono ?_
  rintro e w5 ⟨rfl, hb⟩
  have HB5 := Lib.hid (HB4.out.trans (hb.mono HB4.out.size))
  clear hb
  go_wp2
  go_ret
  exact ⟨rfl, HB5.out⟩

set_option maxRecDepth 100000 in
set_option maxHeartbeats 4000000 in
theorem orders_law (z : Int) (a : Option Addr) (n cap : Nat) (p : Nat → Int × Int) (w : World) (hs : PsS w a n p) :
    Calls Try.prog 5 #[.int .i64 z, .slice a n cap] w (fun e w' => e = .returned (.bool true) ∧ Below w.heap.size w w') := by
  have HS := Lib.hid hs
  clear hs
  have HO := Lib.hid (ordered_any w)
  go_enter Try.func5, Try.ntmps5
  go_wp2_with fail
  refine HO.out.mono ?_
  rintro e w3 ⟨rfl, hb⟩
  have HB4 := Lib.hid hb
  clear hb HO
  by_cases hz : 60 < z
  · go_wp2
    go_ret
    exact ⟨rfl, HB4.out⟩
  · have hz' : decide (60 < z) = false := by simp; omega
    by_cases hn : 300 < n
    · have hn' : (300 : Int) < (n : Int) := by omega
      go_wp2
      go_ret
      exact ⟨rfl, HB4.out⟩
    · have hn' : decide ((300 : Int) < (n : Int)) = false := by simp; omega
      obtain ⟨N, hN⟩ : ∃ N : Nat, (N : Int) = max z 0 := ⟨(max z 0).toNat, by omega⟩
      have HA2 := Lib.hid (arcs_any a n cap p w3 (by omega) (HS.out.below HB4.out))
      go_wp2_with fail
      refine HA2.out.mono ?_
      rintro e w5 ⟨g5, cp5, rfl, ho, hb⟩
      have HB5 := Lib.hid (HB4.out.trans (hb.mono HB4.out.size))
      have HI2 := Lib.hid (Order_any z N (some ⟨g5, 0, none⟩) n cp5 p w5 (by omega) (by omega) (ArcP.pairs ho))
      clear ho hb HA2 HB4
      go_wp2_with fail
      refine HI2.out.mono ?_
      rintro e w6 ⟨O, b, sp, cp, rfl, hor, hls, hb⟩
      have HB6 := Lib.hid (HB5.out.trans (hb.mono HB5.out.size))
      have HOR := Lib.hid hor
      have HLS := Lib.hid hls
      clear hb HI2 HB5 hor hls
      have HT := Lib.hid (table_any N a n cap p w6 (by omega) (by omega) (HS.out.below HB6.out))
      have HN4 : Hid (N ≤ 400) := Lib.hid (by omega)
      go_upto_if 26 with (fail)
      go_cut [0] from 25 (fun v wc => v = .int .i64 (N : Int) ∧ w6 = wc)
      case first =>
        by_cases hz0 : z < 0
        · obtain rfl : N = 0 := by omega
          go_wp2
          go_meet
          exact ⟨rfl, rfl⟩
        · have hzN : z = (N : Int) := by omega
          subst hzN
          clear hN hz0
          go_wp2
          go_meet
          exact ⟨rfl, rfl⟩
      case rest =>
        obtain ⟨rfl, rfl⟩ := hcut
        clear hN hz hz'
        go_wp2_with fail
        refine HT.out.mono ?_
        rintro e w7 ⟨g7, rb7, T7, rfl, hR7, hA7, hb⟩
        have HB7 := Lib.hid (HB6.out.trans (hb.mono HB6.out.size))
        have HX7 := Lib.hid hb
        have HRR := Lib.hid (rorder_any g7 N rb7 T7 (adj p n) w7 HN4.out hR7 hA7)
        clear hb hR7 hA7 HT HB6
        go_wp2_with fail
        refine HRR.out.mono ?_
        rintro e w8 ⟨O', b', sp', cp', rfl, hor, hls, hb⟩
        obtain ⟨rfl, rfl⟩ := HOR.out.one hor
        have HB8 := Lib.hid (HB7.out.trans (hb.mono HB7.out.size))
        have hO : O.length ≤ 400 := by
          rcases hor with ⟨_, _, h⟩ | ⟨_, h, _⟩
          · have := HN4.out; omega
          · rw [h]; simp
        have HSM := Lib.hid (same_any sp O.length cp _ sp' O.length cp' _ true w8 (LsS.ints ((HLS.out.below HX7.out).below hb)) (LsS.ints hls) (by omega) (by omega) ⟨fun _ => ⟨rfl, fun i _ => rfl⟩, fun _ => rfl⟩)
        clear hb hor hls HRR HB7 HX7 HLS HOR
        have hbb : (b == b) = true := by simp
        go_wp2_with (go_at_call 17; refine HSM.out.mono ?_; rintro e w9 ⟨rfl, hb⟩; have HB9 := Lib.hid (HB8.out.trans (hb.mono HB8.out.size)); clear hb)
        go_ret
        exact ⟨rfl, HB9.out⟩
end Go.Proofs.Ytcolcgkfppjflaa
