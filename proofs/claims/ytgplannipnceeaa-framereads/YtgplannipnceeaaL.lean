/-
  FrameReads' walk, where the bytes are not too many.
-/
import Derived.Test.YtgplannipnceeaaK
namespace Go.Proofs.Ytgplannipnceeaa
open Go.ChangeShapes Go.WideShapes Go.ChangeAt Go.RowKit

set_option maxHeartbeats 2000000 in
theorem reads_main (a0 : Option Addr) (n cap : Nat) (f : Nat → Nat) (w : World) (hn : n ≤ 70000) (hc : n ≤ cap) (hf : ∀ j, f j < 256) (hs : Src w a0 n f) (hsp : a0 = none → n = 0 ∧ cap = 0) :
    Calls Try.prog 4 #[.slice a0 n cap] w fun e w' => e = .returned (.bool true) ∧ Below w.heap.size w w' := by
  have HF := Lib.hid hf
  have HS := Lib.hid hs
  have HP := Lib.hid hsp
  clear hf hs hsp
  have h1 : ¬ (70000 : Int) < (n : Int) := by omega
  go_enter Try.func4, Try.ntmps4
  go_wp2_with fail
  refine (head_any _).mono ?_
  rintro e w1 ⟨rfl, hb⟩
  have HB1 := Lib.hid hb
  clear hb
  go_wp2_with fail
  refine (rcopy_some a0 n cap f w1 (by omega) (HS.out.below HB1.out) HP.out).mono ?_
  rintro e w2 ⟨g2, cap2, rfl, hg2, hown2, hb2⟩
  have HO2 := Lib.hid (own_src hown2)
  have hc2 := (own_cap hown2).1
  have HB2 := Lib.hid (HB1.out.trans (hb2.mono HB1.out.size))
  have HS2 := Lib.hid (HS.out.below HB2.out)
  clear hown2 hb2 HB1
  go_wp2_with fail
  refine (decode_any _ n cap2 f w2 HF.out hc2 HO2.out).mono ?_
  rintro e w3 ⟨hb3, hres3⟩
  have HB3 := Lib.hid (HB2.out.trans (hb3.mono HB2.out.size))
  have HO3 := Lib.hid (HO2.out.below hb3)
  have HS3 := Lib.hid (HS2.out.below hb3)
  clear hb3 HO2 HS2 HB2
  rcases hres3 with ⟨hne, rfl⟩ | ⟨heq, sp', cap', rfl, hown3, hsp3⟩
  · have HNE := Lib.hid hne
    clear hne
    unfold zeroF
    go_wp2_with fail
    have HBA : Hid (Below w3.heap.size w3 (w3.alloc (.cells #[.int .i64 0, .slice none 0 0] 24))) := Lib.hid ((Below.refl _ _).alloc (Nat.le_refl _) _)
    have HXA : Hid ((w3.alloc (.cells #[.int .i64 0, .slice none 0 0] 24)).heap[w3.heap.size]? = some (.cells #[.int .i64 0, .slice none 0 0] 24 (0, 0))) := Lib.hid (heap_alloc_new w3 _)
    generalize (w3.alloc (.cells #[.int .i64 0, .slice none 0 0] 24)) = w4 at *
    have HB4 := Lib.hid (HB3.out.trans (HBA.out.mono HB3.out.size))
    have HO4 := Lib.hid (HO3.out.below HBA.out)
    have HS4 := Lib.hid (HS3.out.below HBA.out)
    generalize w3.heap.size = P at *
    clear HBA HO3 HS3 HB3
    refine (read_any a0 n cap f w4 HF.out hc HS4.out).mono ?_
    rintro e w5 ⟨hb5, hres5⟩
    have hPl : P < w4.heap.size := by
      rcases Nat.lt_or_ge P w4.heap.size with h' | h'
      · exact h'
      · have := HXA.out; rw [Array.getElem?_eq_none h'] at this; cases this
    have hP5 : P < w5.heap.size := Nat.lt_of_lt_of_le hPl hb5.size
    have HX5 := Lib.hid ((hb5.block _ hPl).trans HXA.out)
    have HB5 := Lib.hid (HB4.out.trans (hb5.mono HB4.out.size))
    have HO5 := Lib.hid (HO4.out.below hb5)
    have HS5 := Lib.hid (HS4.out.below hb5)
    clear hb5 HB4 HO4 HS4 HXA
    rcases hres5 with ⟨_, rfl⟩ | ⟨heq, _⟩
    · unfold zeroF
      obtain ⟨⟨x0, x1⟩, _⟩ := zcells HX5.out
      have hPne : ¬ P = w5.heap.size := by omega
      have y0 : (w5.alloc (.cells #[.int .i64 0, .slice none 0 0] 24)).cell? ⟨P, 0, none⟩ = some (.int .i64 0) := (World.cell?_alloc_lt _ _ _ hP5).trans x0
      have y1 : (w5.alloc (.cells #[.int .i64 0, .slice none 0 0] 24)).cell? ⟨P, 1, none⟩ = some (.slice none 0 0) := (World.cell?_alloc_lt _ _ _ hP5).trans x1
      have HB6 : Hid (Below w5.heap.size w5 (w5.alloc (.cells #[.int .i64 0, .slice none 0 0] 24))) := Lib.hid ((Below.refl _ _).alloc (Nat.le_refl _) _)
      generalize derr f n = q at *
      go_wp2_with fail
      refine (lsame_any 0 0 none none 0 0 0 (fun _ => 0) (fun _ => 0) _ (fun _ _ => by decide) (fun _ _ => by decide) (fun h => absurd h (by decide)) (fun h => absurd h (by decide)) rfl (fun _ _ => rfl)).mono ?_
      rintro e w7 ⟨rfl, hb7⟩
      have HB7 := Lib.hid (HB5.out.trans ((HB6.out.trans (hb7.mono HB6.out.size)).mono HB5.out.size))
      have HO7 := Lib.hid ((HO5.out.below HB6.out).below hb7)
      have HS7 := Lib.hid ((HS5.out.below HB6.out).below hb7)
      clear hb7 y0 y1 x0 x1
      go_wp2_with fail
      refine (same_any w7 _ a0 n cap2 cap f f true (fun j _ => HF.out j) (fun j _ => HF.out j) HO7.out HS7.out ⟨fun _ _ _ => rfl, fun _ => rfl⟩).mono ?_
      rintro e w' ⟨rfl, rfl⟩
      go_wp2
      go_ret
      exact ⟨rfl, HB7.out⟩
    · exact absurd heq HNE.out
  · have HEQ := Lib.hid heq
    have HOW3 := Lib.hid hown3
    have HSP3 := Lib.hid hsp3
    clear heq hown3 hsp3
    obtain ⟨kd, ekd⟩ : ∃ kd, kd = kindOf f := ⟨_, rfl⟩
    obtain ⟨z, ez⟩ : ∃ z, z = sizeOf' f := ⟨_, rfl⟩
    rw [← ekd, ← ez]
    rw [← ez] at HOW3 HSP3
    have HKD := Lib.hid ekd
    have HZD := Lib.hid ez
    clear ekd ez
    go_wp2_with fail
    have HBA : Hid (Below w3.heap.size w3 (w3.alloc (.cells #[.int .i64 (kd : Int), .slice sp' z cap'] 24))) := Lib.hid ((Below.refl _ _).alloc (Nat.le_refl _) _)
    have HXA : Hid ((w3.alloc (.cells #[.int .i64 (kd : Int), .slice sp' z cap'] 24)).heap[w3.heap.size]? = some (.cells #[.int .i64 (kd : Int), .slice sp' z cap'] 24 (0, 0))) := Lib.hid (heap_alloc_new w3 _)
    generalize (w3.alloc (.cells #[.int .i64 (kd : Int), .slice sp' z cap'] 24)) = w4 at *
    have HB4 := Lib.hid (HB3.out.trans (HBA.out.mono HB3.out.size))
    have HO4 := Lib.hid (HO3.out.below HBA.out)
    have HS4 := Lib.hid (HS3.out.below HBA.out)
    have HW4 := Lib.hid ((own_src HOW3.out).below HBA.out)
    generalize w3.heap.size = P at *
    clear HBA HO3 HS3 HB3 HOW3
    refine (read_any a0 n cap f w4 HF.out hc HS4.out).mono ?_
    rintro e w5 ⟨hb5, hres5⟩
    have hPl : P < w4.heap.size := by
      rcases Nat.lt_or_ge P w4.heap.size with h' | h'
      · exact h'
      · have := HXA.out; rw [Array.getElem?_eq_none h'] at this; cases this
    have hP5 : P < w5.heap.size := Nat.lt_of_lt_of_le hPl hb5.size
    have HX5 := Lib.hid ((hb5.block _ hPl).trans HXA.out)
    have HB5 := Lib.hid (HB4.out.trans (hb5.mono HB4.out.size))
    have HO5 := Lib.hid (HO4.out.below hb5)
    have HS5 := Lib.hid (HS4.out.below hb5)
    have HW5 := Lib.hid (HW4.out.below hb5)
    clear hb5 HB4 HO4 HS4 HXA HW4
    rcases hres5 with ⟨hne, _⟩ | ⟨_, sp2, cap3, rfl, hown5, hsp5⟩
    · exact absurd HEQ.out hne
    · rw [← HKD.out, ← HZD.out]
      rw [← HZD.out] at hown5
      have HV5 := Lib.hid (own_src hown5)
      clear hown5 hsp5
      obtain ⟨⟨x0, x1⟩, _⟩ := zcells HX5.out
      have hPne : ¬ P = w5.heap.size := by omega
      have y0 : (w5.alloc (.cells #[.int .i64 (kd : Int), .slice sp2 z cap3] 24)).cell? ⟨P, 0, none⟩ = some (.int .i64 (kd : Int)) := (World.cell?_alloc_lt _ _ _ hP5).trans x0
      have y1 : (w5.alloc (.cells #[.int .i64 (kd : Int), .slice sp2 z cap3] 24)).cell? ⟨P, 1, none⟩ = some (.slice sp' z cap') := (World.cell?_alloc_lt _ _ _ hP5).trans x1
      have HB6 : Hid (Below w5.heap.size w5 (w5.alloc (.cells #[.int .i64 (kd : Int), .slice sp2 z cap3] 24))) := Lib.hid ((Below.refl _ _).alloc (Nat.le_refl _) _)
      go_wp2_with fail
      refine (lsame_any (kd : Int) (kd : Int) sp' sp2 z cap' cap3 (fun j => f (12 + j)) (fun j => f (12 + j)) _ (fun _ _ => HF.out _) (fun _ _ => HF.out _) (HW5.out.below HB6.out) (HV5.out.below HB6.out) rfl (fun _ _ => rfl)).mono ?_
      rintro e w7 ⟨rfl, hb7⟩
      have HB7 := Lib.hid (HB5.out.trans ((HB6.out.trans (hb7.mono HB6.out.size)).mono HB5.out.size))
      have HO7 := Lib.hid ((HO5.out.below HB6.out).below hb7)
      have HS7 := Lib.hid ((HS5.out.below HB6.out).below hb7)
      clear hb7 y0 y1 x0 x1
      go_wp2_with fail
      refine (same_any w7 _ a0 n cap2 cap f f true (fun j _ => HF.out j) (fun j _ => HF.out j) HO7.out HS7.out ⟨fun _ _ _ => rfl, fun _ => rfl⟩).mono ?_
      rintro e w' ⟨rfl, rfl⟩
      go_wp2
      go_ret
      exact ⟨rfl, HB7.out⟩
end Go.Proofs.Ytgplannipnceeaa
