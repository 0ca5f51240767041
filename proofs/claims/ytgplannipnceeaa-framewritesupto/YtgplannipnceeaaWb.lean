/-
  FrameWrites' walk.
-/
import Derived.Test.YtgplannipnceeaaWa
import Derived.Test.YtgplannipnceeaaT
namespace Go.Proofs.Ytgplannipnceeaa
open Go.ChangeShapes Go.WideShapes Go.ChangeAt Go.RowKit

theorem src_set {W : World} {g b n j : Nat} {f : Nat → Nat} {v : Value} (h : Src W (some ⟨g, 0, none⟩) n f) (hne : g ≠ b) : Src (W.setCell ⟨b, j, none⟩ v) (some ⟨g, 0, none⟩) n f := by
  intro hn
  obtain ⟨ad, e, hl, hc⟩ := h hn
  injection e with e
  subst e
  refine ⟨_, rfl, by simpa using hl, fun i hi => ?_⟩
  rw [← hc i hi, Go.WideShapes.add_plain]
  exact World.cell?_of_block (heap_setCell_other W ⟨b, j, none⟩ g v (fun e => hne e))

set_option maxRecDepth 100000 in
set_option maxHeartbeats 4000000 in
theorem writes_short (k : Int) (sp : Option Addr) (z cap : Nat) (d : Nat → Nat) (lg : Int) (w : World) (hz : z ≤ 1048576) (hd : ∀ j, d j < 256) (hs : Src w sp z d) (hsp : sp = none → z = 0 ∧ cap = 0) (hlg : ¬ (0 < lg ∧ lg < 4)) :
    Calls Try.prog 3 #[.agg #[.int .i64 k, .slice sp z cap], .int .i64 lg] w fun e w' => e = .returned (.bool true) ∧ Below w.heap.size w w' := by
  have HFD := Lib.hid hd
  have HSD := Lib.hid hs
  have HPD := Lib.hid hsp
  clear hd hs hsp
  have HBX : Hid (Below w.heap.size w (w.alloc (.cells #[.int .i64 k, .slice sp z cap] 24))) := Lib.hid ((Below.refl _ _).alloc (Nat.le_refl _) _)
  have HXX : Hid ((w.alloc (.cells #[.int .i64 k, .slice sp z cap] 24)).heap[w.heap.size]? = some (.cells #[.int .i64 k, .slice sp z cap] 24 (0, 0))) := Lib.hid (heap_alloc_new w _)
  have HLX : Hid (w.heap.size < (w.alloc (.cells #[.int .i64 k, .slice sp z cap] 24)).heap.size) := Lib.hid (by simp)
  go_enter Try.func3, Try.ntmps3
  go_wp2_with fail
  refine (head_any _).mono ?_
  rintro e w1 ⟨rfl, hb⟩
  have HB1 := Lib.hid (HBX.out.trans (hb.mono HBX.out.size))
  have HQ1 := Lib.hid ((hb.block _ HLX.out).trans HXX.out)
  have hl1 : w.heap.size < w1.heap.size := Nat.lt_of_lt_of_le HLX.out hb.size
  obtain ⟨⟨o0, o1⟩, fzq⟩ := zcells HQ1.out
  clear hb HBX HXX HLX
  by_cases hz7 : 70000 < z
  · have hz7' : (70000 : Int) < (z : Int) := by omega
    by_cases hl0 : 0 < lg
    · have hl4 : ¬ lg < 4 := by omega
      clear hlg
      go_wp2
      go_ret
      exact ⟨rfl, HB1.out⟩
    · clear hlg
      go_wp2
      go_ret
      exact ⟨rfl, HB1.out⟩
  · have hz7' : ¬ (70000 : Int) < (z : Int) := by omega
    have HB3 : Hid (Below w.heap.size w w1) := HB1
    have HQ3 := HQ1
    have hl3 := hl1
    have HS3 := Lib.hid (HSD.out.below HB1.out)
    have HF := HFD
    have HPN := HPD
    obtain ⟨w3, hw3⟩ : ∃ w3, w3 = w1 := ⟨_, rfl⟩
    subst hw3
    clear HB1 HQ1 hl1 HSD HFD HPD
    by_cases hl0 : 0 < lg
    · have hl4 : ¬ lg < 4 := by omega
      clear hlg
      have HK : Hid (∀ W, Below w3.heap.size w3 W → W.cell? ⟨w.heap.size, 0, none⟩ = some (.int .i64 k) ∧ W.cell? ⟨w.heap.size, 1, none⟩ = some (.slice sp z cap)) := Lib.hid fun W hbw => (zcells ((hbw.block _ hl3).trans HQ3.out)).1
      have HZ7 : Hid (∀ W, Below (w3.drew.alloc (.cells #[.int .i64 0, .slice none 0 0] 24)).heap.size (w3.drew.alloc (.cells #[.int .i64 0, .slice none 0 0] 24)) W → W.heap[w3.heap.size]? = some (.cells #[.int .i64 0, .slice none 0 0] 24 (0, 0))) := Lib.hid fun W hbw => (hbw.block _ (by simp)).trans (heap_alloc_new w3.drew _)
      have hsz1 : w3.heap.size ≤ (w3.drew.alloc (.cells #[.int .i64 0, .slice none 0 0] 24)).heap.size := by simp
      have HCP : Hid (∀ W, Below w3.heap.size w3 W → Calls Try.prog 9 #[.slice sp z cap] W (CopySome z d W)) :=
        Lib.hid fun W hb => rcopy_big _ _ _ _ W (by omega) (HS3.out.below hb) HPN.out
      obtain ⟨c0', c1'⟩ := HK.out _ (Below.refl _ _)
      go_wp2
      go_region_held3 (fun W => W.cell? ⟨w.heap.size, 0, none⟩ = some (.int .i64 k) ∧ W.cell? ⟨w.heap.size, 1, none⟩ = some (.slice sp z cap))
        (first
          | exact HK.out _ ((Below.refl _ _).drew)
          | exact HK.out _ (Below.refl _ _)
          | exact HK.out _ (((Below.refl _ _).drew).alloc (Nat.le_refl _) _)
          | exact HK.out _ (((Below.refl _ _).drew).trans hb4)
          | exact HK.out _ ((((Below.refl _ _).drew).trans hb4).alloc hb4.size _)
          | exact HK.out _ ((((Below.refl _ _).drew).alloc (Nat.le_refl _) _).trans (hb4.mono hsz1))
          | exact HK.out _ ((((((Below.refl _ _).drew).alloc (Nat.le_refl _) _).trans (hb4.mono hsz1)).setCell (Nat.le_refl _) _).setCell (Nat.le_refl _) _))
        (first
          | (go_at_call 9; refine (HCP.out _ ((Below.refl _ _).drew)).mono ?_; rintro e w4 ⟨g4, cap4, rfl, hg4, hown4, hb4⟩)
          | (go_at_call 9; refine (HCP.out _ (((Below.refl _ _).drew).alloc (Nat.le_refl _) _)).mono ?_; rintro e w4 ⟨g4, cap4, rfl, hg4, hown4, hb4⟩; obtain ⟨⟨q0, q1⟩, fq⟩ := zcells (HZ7.out _ hb4)))
      · have HB5 : Hid (Below w3.heap.size w3 (w4.alloc (.cells #[.int .i64 k, .slice (some ⟨g4, 0, none⟩) z cap4] 24))) := Lib.hid ((((Below.refl _ _).drew).trans hb4).alloc hb4.size _)
        have HX5 : Hid ((w4.alloc (.cells #[.int .i64 k, .slice (some ⟨g4, 0, none⟩) z cap4] 24)).heap[w4.heap.size]? = some (.cells #[.int .i64 k, .slice (some ⟨g4, 0, none⟩) z cap4] 24 (0, 0))) := Lib.hid (heap_alloc_new w4 _)
        have HO5 : Hid ((w4.alloc (.cells #[.int .i64 k, .slice (some ⟨g4, 0, none⟩) z cap4] 24)).ownsRow w3.heap.size 5 1 (.slice (some ⟨g4, 0, none⟩) z cap4) z (rowB d z)) := Lib.hid (hown4.alloc _)
        clear hb4 hown4 c0' c1'
        generalize (w4.alloc (.cells #[.int .i64 k, .slice (some ⟨g4, 0, none⟩) z cap4] 24)) = w5 at *
        generalize w4.heap.size = Q at *
        have HBB5 := Lib.hid (HB3.out.trans (HB5.out.mono HB3.out.size))
        have HQ5 := Lib.hid ((HB5.out.block _ hl3).trans HQ3.out)
        have hQ : Q < w5.heap.size := by
          rcases Nat.lt_or_ge Q w5.heap.size with h' | h'
          · exact h'
          · have := HX5.out; rw [Array.getElem?_eq_none h'] at this; cases this
        have hl5 : w.heap.size < w5.heap.size := Nat.lt_of_lt_of_le hl3 HB5.out.size
        have HS5 := Lib.hid (HS3.out.below HB5.out)
        have HM5 := Lib.hid (own_src HO5.out)
        obtain ⟨⟨m0, m1⟩, _⟩ := zcells HX5.out
        have HX5' := HX5
        clear HK HCP HZ7 HB3 HB5 HO5 HQ3 HS3 hsz1
        by_cases hfit : 0 ≤ k ∧ k ≤ 255 ∧ z ≤ 65536
        · obtain ⟨kn, hkn⟩ : ∃ kn : Nat, k = (kn : Int) := ⟨k.toNat, by omega⟩
          subst hkn
          have hk2 : kn < 256 := by omega
          have hz65 : z ≤ 65536 := hfit.2.2
          have hka : ¬ (kn : Int) < 0 := by omega
          have hkb : ¬ (255 : Int) < (kn : Int) := by omega
          have hkc : ¬ (65536 : Int) < (z : Int) := by omega
          obtain ⟨rd0, rd1, rd2, rd3⟩ := frm_read kn z d (frm kn z d) (12 + z) hk2 hz65 (Nat.le_refl _) (fun _ _ => rfl)
          have HR0 := Lib.hid rd0
          have HR1 := Lib.hid rd1
          have HR2 := Lib.hid rd2
          have HR3 := Lib.hid rd3
          clear hfit rd0 rd1 rd2 rd3
          go_wp2_with fail
          refine (encode_ok kn _ z cap4 d w5 hk2 hz65 HF.out HM5.out (fun h => by cases h)).mono ?_
          rintro e w6 ⟨g6, cp6, rfl, ho6, hb6⟩
          have HS6 := Lib.hid (HS5.out.below hb6)
          have HM6 := Lib.hid (HM5.out.below hb6)
          have HO6 := Lib.hid (own_src ho6)
          have hcp6 := (own_cap ho6).1
          have HQ6 := Lib.hid ((hb6.block _ hl5).trans HQ5.out)
          obtain ⟨⟨q0, q1⟩, _⟩ := zcells HQ6.out
          obtain ⟨⟨r0, r1⟩, _⟩ := zcells ((hb6.block _ hQ).trans HX5'.out)
          have hl6 : w.heap.size < w6.heap.size := Nat.lt_of_lt_of_le hl5 hb6.size
          have HBB6 := Lib.hid (HBB5.out.trans (hb6.mono HBB5.out.size))
          clear ho6 hb6 HS5 HM5 HX5 HX5' HQ5 m0 m1 HBB5
          go_wp2_with fail
          refine (same_any w6 _ _ z cap4 _ d d true (fun j _ => HF.out j) (fun j _ => HF.out j) HM6.out HS6.out ⟨fun _ _ _ => rfl, fun _ => rfl⟩).mono ?_
          rintro e w' ⟨rfl, rfl⟩
          go_wp2_with fail
          refine (decode_any _ (12 + z) cp6 (frm kn z d) w6 (frm_lt kn z d HF.out) hcp6 HO6.out).mono ?_
          rintro e w7 ⟨hb7, hres⟩
          rcases hres with ⟨hne, _⟩ | ⟨heq, sp', cap', rfl, hown7, hsp7⟩
          · exact absurd HR0.out hne
          · rw [HR1.out, HR2.out]
            rw [HR2.out] at hown7 hsp7
            have HW8 : Hid (Below w6.heap.size w6 (w7.alloc (.cells #[.int .i64 (kn : Int), .slice sp' z cap'] 24))) := Lib.hid (hb7.alloc hb7.size _)
            have HG8 : Hid (Src (w7.alloc (.cells #[.int .i64 (kn : Int), .slice sp' z cap'] 24)) sp' z (fun j => frm kn z d (12 + j))) := Lib.hid ((own_src hown7).below ((Below.refl _ _).alloc (Nat.le_refl _) _))
            have hX8 := heap_alloc_new w7 (.cells #[.int .i64 (kn : Int), .slice sp' z cap'] 24)
            have hl8 : w7.heap.size < (w7.alloc (.cells #[.int .i64 (kn : Int), .slice sp' z cap'] 24)).heap.size := by simp
            have HX8 := Lib.hid hX8
            have HS8 := Lib.hid (HS6.out.below HW8.out)
            have HQ8 := Lib.hid ((HW8.out.block _ hl6).trans HQ6.out)
            obtain ⟨⟨s0, s1⟩, _⟩ := zcells HQ8.out
            have hl68 : w.heap.size < (w7.alloc (.cells #[.int .i64 (kn : Int), .slice sp' z cap'] 24)).heap.size := Nat.lt_of_lt_of_le hl6 HW8.out.size
            have HO8 := Lib.hid (HO6.out.below HW8.out)
            have HBB8 := Lib.hid (HBB6.out.trans (HW8.out.mono HBB6.out.size))
            clear hX8 hown7 hb7 heq
            go_wp2_with fail
            refine (text_any kn _ z _ d _ hk2 hz65 HF.out HS8.out HPN.out).mono ?_
            rintro e w9 ⟨g9, cp9, rfl, ho9, hb9⟩
            have HO9 := Lib.hid (own_src ho9)
            have HOb := Lib.hid (HO8.out.below hb9)
            have HS9 := Lib.hid (HS8.out.below hb9)
            have HG9 := Lib.hid (HG8.out.below hb9)
            obtain ⟨⟨t0, t1⟩, _⟩ := zcells ((hb9.block _ hl68).trans HQ8.out)
            obtain ⟨⟨t2, t3⟩, _⟩ := zcells ((hb9.block _ hl8).trans HX8.out)
            have HBB9 := Lib.hid (HBB8.out.trans (hb9.mono HBB8.out.size))
            clear ho9 hb9 s0 s1
            go_wp2_with fail
            refine (same_any w9 _ _ (12 + z) cp6 cp9 (frm kn z d) (frm kn z d) true (fun j _ => frm_lt kn z d HF.out j) (fun j _ => frm_lt kn z d HF.out j) HOb.out HO9.out ⟨fun _ _ _ => rfl, fun _ => rfl⟩).mono ?_
            rintro e w' ⟨rfl, rfl⟩
            go_wp2_with fail
            refine (lsame_any (kn : Int) (kn : Int) _ sp' z _ cap' d (fun j => frm kn z d (12 + j)) w9 (fun j _ => HF.out j) (fun j _ => frm_lt kn z d HF.out _) HS9.out HG9.out rfl (fun j hj => (HR3.out j hj).symm)).mono ?_
            rintro e w10 ⟨rfl, hb10⟩
            have HB10 := Lib.hid (HBB9.out.trans (hb10.mono HBB9.out.size))
            clear hb10
            go_wp2
            go_ret
            exact ⟨rfl, HB10.out⟩
        · have hne : ¬ fitsOf k z = 0 := by
            unfold fitsOf
            split
            · decide
            · split
              · decide
              · omega
          go_wp2_with fail
          refine (encode_no k _ z cap4 w5 (by omega) hne).mono ?_
          rintro e w6 ⟨rfl, hb6⟩
          have HS6 := Lib.hid (HS5.out.below hb6)
          have HM6 := Lib.hid (HM5.out.below hb6)
          obtain ⟨⟨q0, q1⟩, _⟩ := zcells ((hb6.block _ hl5).trans HQ5.out)
          obtain ⟨⟨r0, r1⟩, _⟩ := zcells ((hb6.block _ hQ).trans HX5'.out)
          have HBB6 := Lib.hid (HBB5.out.trans (hb6.mono HBB5.out.size))
          clear hb6 hne HS5 HM5 HX5 HX5' HQ5 m0 m1 HBB5
          by_cases hk1 : k < 0
          · have hv : fitsOf k z = 14 := by unfold fitsOf; rw [if_pos (.inl hk1)]
            rw [hv]
            clear hv hfit
            go_wp2_with fail
            refine (same_any w6 _ _ z cap4 _ d d true (fun j _ => HF.out j) (fun j _ => HF.out j) HM6.out HS6.out ⟨fun _ _ _ => rfl, fun _ => rfl⟩).mono ?_
            rintro e w' ⟨rfl, rfl⟩
            go_wp2
            go_ret
            exact ⟨rfl, HBB6.out⟩
          · by_cases hk5 : 255 < k
            · have hv : fitsOf k z = 14 := by unfold fitsOf; rw [if_pos (.inr hk5)]
              rw [hv]
              clear hv hfit
              go_wp2_with fail
              refine (same_any w6 _ _ z cap4 _ d d true (fun j _ => HF.out j) (fun j _ => HF.out j) HM6.out HS6.out ⟨fun _ _ _ => rfl, fun _ => rfl⟩).mono ?_
              rintro e w' ⟨rfl, rfl⟩
              go_wp2
              go_ret
              exact ⟨rfl, HBB6.out⟩
            · have hz65 : (65536 : Int) < (z : Int) := by omega
              have hv : fitsOf k z = 3 := by unfold fitsOf; rw [if_neg (by omega), if_pos (by omega)]
              rw [hv]
              clear hv hfit
              go_wp2_with fail
              refine (same_any w6 _ _ z cap4 _ d d true (fun j _ => HF.out j) (fun j _ => HF.out j) HM6.out HS6.out ⟨fun _ _ _ => rfl, fun _ => rfl⟩).mono ?_
              rintro e w' ⟨rfl, rfl⟩
              go_wp2
              go_ret
              exact ⟨rfl, HBB6.out⟩
      · have HB5 : Hid (Below w3.heap.size w3 ((w4.setCell ⟨w3.heap.size, 0, none⟩ (.int .i64 k)).setCell ⟨w3.heap.size, 1, none⟩ (.slice (some ⟨g4, 0, none⟩) z cap4))) := Lib.hid ((((((Below.refl _ _).drew).alloc (Nat.le_refl _) _).trans (hb4.mono hsz1)).setCell (Nat.le_refl _) _).setCell (Nat.le_refl _) _)
        have HX5 : Hid (((w4.setCell ⟨w3.heap.size, 0, none⟩ (.int .i64 k)).setCell ⟨w3.heap.size, 1, none⟩ (.slice (some ⟨g4, 0, none⟩) z cap4)).heap[w3.heap.size]? = some (.cells #[.int .i64 k, .slice (some ⟨g4, 0, none⟩) z cap4] 24 (0, 0))) := Lib.hid (heap_setCell_same _ w3.heap.size 1 _ 24 _ (heap_setCell_same _ w3.heap.size 0 _ 24 _ (HZ7.out _ hb4)))
        have HO5 : Hid (((w4.setCell ⟨w3.heap.size, 0, none⟩ (.int .i64 k)).setCell ⟨w3.heap.size, 1, none⟩ (.slice (some ⟨g4, 0, none⟩) z cap4)).ownsRow w3.heap.size 5 1 (.slice (some ⟨g4, 0, none⟩) z cap4) z (rowB d z)) := Lib.hid (own_kept2 (own_mono hown4 hsz1) (fun k hk => by have hk' : g4 = k := Option.some.inj hk; rw [← hk']; exact own_ne hown4 (HZ7.out _ hb4) (by decide)))
        clear hb4 hown4 q0 q1 fq c0' c1'
        generalize ((w4.setCell ⟨w3.heap.size, 0, none⟩ (.int .i64 k)).setCell ⟨w3.heap.size, 1, none⟩ (.slice (some ⟨g4, 0, none⟩) z cap4)) = w5 at *
        obtain ⟨Q, eQ⟩ : ∃ Q, Q = w3.heap.size := ⟨_, rfl⟩
        rw [← eQ] at HX5 ⊢
        clear eQ
        have HBB5 := Lib.hid (HB3.out.trans (HB5.out.mono HB3.out.size))
        have HQ5 := Lib.hid ((HB5.out.block _ hl3).trans HQ3.out)
        have hQ : Q < w5.heap.size := by
          rcases Nat.lt_or_ge Q w5.heap.size with h' | h'
          · exact h'
          · have := HX5.out; rw [Array.getElem?_eq_none h'] at this; cases this
        have hl5 : w.heap.size < w5.heap.size := Nat.lt_of_lt_of_le hl3 HB5.out.size
        have HS5 := Lib.hid (HS3.out.below HB5.out)
        have HM5 := Lib.hid (own_src HO5.out)
        obtain ⟨⟨m0, m1⟩, _⟩ := zcells HX5.out
        have HX5' := HX5
        clear HK HCP HZ7 HB3 HB5 HO5 HQ3 HS3 hsz1
        by_cases hfit : 0 ≤ k ∧ k ≤ 255 ∧ z ≤ 65536
        · obtain ⟨kn, hkn⟩ : ∃ kn : Nat, k = (kn : Int) := ⟨k.toNat, by omega⟩
          subst hkn
          have hk2 : kn < 256 := by omega
          have hz65 : z ≤ 65536 := hfit.2.2
          have hka : ¬ (kn : Int) < 0 := by omega
          have hkb : ¬ (255 : Int) < (kn : Int) := by omega
          have hkc : ¬ (65536 : Int) < (z : Int) := by omega
          obtain ⟨rd0, rd1, rd2, rd3⟩ := frm_read kn z d (frm kn z d) (12 + z) hk2 hz65 (Nat.le_refl _) (fun _ _ => rfl)
          have HR0 := Lib.hid rd0
          have HR1 := Lib.hid rd1
          have HR2 := Lib.hid rd2
          have HR3 := Lib.hid rd3
          clear hfit rd0 rd1 rd2 rd3
          go_wp2_with fail
          refine (encode_ok kn _ z cap4 d w5 hk2 hz65 HF.out HM5.out (fun h => by cases h)).mono ?_
          rintro e w6 ⟨g6, cp6, rfl, ho6, hb6⟩
          have HS6 := Lib.hid (HS5.out.below hb6)
          have HM6 := Lib.hid (HM5.out.below hb6)
          have HO6 := Lib.hid (own_src ho6)
          have hcp6 := (own_cap ho6).1
          have HQ6 := Lib.hid ((hb6.block _ hl5).trans HQ5.out)
          obtain ⟨⟨q0, q1⟩, _⟩ := zcells HQ6.out
          obtain ⟨⟨r0, r1⟩, _⟩ := zcells ((hb6.block _ hQ).trans HX5'.out)
          have hl6 : w.heap.size < w6.heap.size := Nat.lt_of_lt_of_le hl5 hb6.size
          have HBB6 := Lib.hid (HBB5.out.trans (hb6.mono HBB5.out.size))
          clear ho6 hb6 HS5 HM5 HX5 HX5' HQ5 m0 m1 HBB5
          go_wp2_with fail
          refine (same_any w6 _ _ z cap4 _ d d true (fun j _ => HF.out j) (fun j _ => HF.out j) HM6.out HS6.out ⟨fun _ _ _ => rfl, fun _ => rfl⟩).mono ?_
          rintro e w' ⟨rfl, rfl⟩
          go_wp2_with fail
          refine (decode_any _ (12 + z) cp6 (frm kn z d) w6 (frm_lt kn z d HF.out) hcp6 HO6.out).mono ?_
          rintro e w7 ⟨hb7, hres⟩
          rcases hres with ⟨hne, _⟩ | ⟨heq, sp', cap', rfl, hown7, hsp7⟩
          · exact absurd HR0.out hne
          · rw [HR1.out, HR2.out]
            rw [HR2.out] at hown7 hsp7
            have HW8 : Hid (Below w6.heap.size w6 (w7.alloc (.cells #[.int .i64 (kn : Int), .slice sp' z cap'] 24))) := Lib.hid (hb7.alloc hb7.size _)
            have HG8 : Hid (Src (w7.alloc (.cells #[.int .i64 (kn : Int), .slice sp' z cap'] 24)) sp' z (fun j => frm kn z d (12 + j))) := Lib.hid ((own_src hown7).below ((Below.refl _ _).alloc (Nat.le_refl _) _))
            have hX8 := heap_alloc_new w7 (.cells #[.int .i64 (kn : Int), .slice sp' z cap'] 24)
            have hl8 : w7.heap.size < (w7.alloc (.cells #[.int .i64 (kn : Int), .slice sp' z cap'] 24)).heap.size := by simp
            have HX8 := Lib.hid hX8
            have HS8 := Lib.hid (HS6.out.below HW8.out)
            have HQ8 := Lib.hid ((HW8.out.block _ hl6).trans HQ6.out)
            obtain ⟨⟨s0, s1⟩, _⟩ := zcells HQ8.out
            have hl68 : w.heap.size < (w7.alloc (.cells #[.int .i64 (kn : Int), .slice sp' z cap'] 24)).heap.size := Nat.lt_of_lt_of_le hl6 HW8.out.size
            have HO8 := Lib.hid (HO6.out.below HW8.out)
            have HBB8 := Lib.hid (HBB6.out.trans (HW8.out.mono HBB6.out.size))
            clear hX8 hown7 hb7 heq
            go_wp2_with fail
            refine (text_any kn _ z _ d _ hk2 hz65 HF.out HS8.out HPN.out).mono ?_
            rintro e w9 ⟨g9, cp9, rfl, ho9, hb9⟩
            have HO9 := Lib.hid (own_src ho9)
            have HOb := Lib.hid (HO8.out.below hb9)
            have HS9 := Lib.hid (HS8.out.below hb9)
            have HG9 := Lib.hid (HG8.out.below hb9)
            obtain ⟨⟨t0, t1⟩, _⟩ := zcells ((hb9.block _ hl68).trans HQ8.out)
            obtain ⟨⟨t2, t3⟩, _⟩ := zcells ((hb9.block _ hl8).trans HX8.out)
            have HBB9 := Lib.hid (HBB8.out.trans (hb9.mono HBB8.out.size))
            clear ho9 hb9 s0 s1
            go_wp2_with fail
            refine (same_any w9 _ _ (12 + z) cp6 cp9 (frm kn z d) (frm kn z d) true (fun j _ => frm_lt kn z d HF.out j) (fun j _ => frm_lt kn z d HF.out j) HOb.out HO9.out ⟨fun _ _ _ => rfl, fun _ => rfl⟩).mono ?_
            rintro e w' ⟨rfl, rfl⟩
            go_wp2_with fail
            refine (lsame_any (kn : Int) (kn : Int) _ sp' z _ cap' d (fun j => frm kn z d (12 + j)) w9 (fun j _ => HF.out j) (fun j _ => frm_lt kn z d HF.out _) HS9.out HG9.out rfl (fun j hj => (HR3.out j hj).symm)).mono ?_
            rintro e w10 ⟨rfl, hb10⟩
            have HB10 := Lib.hid (HBB9.out.trans (hb10.mono HBB9.out.size))
            clear hb10
            go_wp2
            go_ret
            exact ⟨rfl, HB10.out⟩
        · have hne : ¬ fitsOf k z = 0 := by
            unfold fitsOf
            split
            · decide
            · split
              · decide
              · omega
          go_wp2_with fail
          refine (encode_no k _ z cap4 w5 (by omega) hne).mono ?_
          rintro e w6 ⟨rfl, hb6⟩
          have HS6 := Lib.hid (HS5.out.below hb6)
          have HM6 := Lib.hid (HM5.out.below hb6)
          obtain ⟨⟨q0, q1⟩, _⟩ := zcells ((hb6.block _ hl5).trans HQ5.out)
          obtain ⟨⟨r0, r1⟩, _⟩ := zcells ((hb6.block _ hQ).trans HX5'.out)
          have HBB6 := Lib.hid (HBB5.out.trans (hb6.mono HBB5.out.size))
          clear hb6 hne HS5 HM5 HX5 HX5' HQ5 m0 m1 HBB5
          by_cases hk1 : k < 0
          · have hv : fitsOf k z = 14 := by unfold fitsOf; rw [if_pos (.inl hk1)]
            rw [hv]
            clear hv hfit
            go_wp2_with fail
            refine (same_any w6 _ _ z cap4 _ d d true (fun j _ => HF.out j) (fun j _ => HF.out j) HM6.out HS6.out ⟨fun _ _ _ => rfl, fun _ => rfl⟩).mono ?_
            rintro e w' ⟨rfl, rfl⟩
            go_wp2
            go_ret
            exact ⟨rfl, HBB6.out⟩
          · by_cases hk5 : 255 < k
            · have hv : fitsOf k z = 14 := by unfold fitsOf; rw [if_pos (.inr hk5)]
              rw [hv]
              clear hv hfit
              go_wp2_with fail
              refine (same_any w6 _ _ z cap4 _ d d true (fun j _ => HF.out j) (fun j _ => HF.out j) HM6.out HS6.out ⟨fun _ _ _ => rfl, fun _ => rfl⟩).mono ?_
              rintro e w' ⟨rfl, rfl⟩
              go_wp2
              go_ret
              exact ⟨rfl, HBB6.out⟩
            · have hz65 : (65536 : Int) < (z : Int) := by omega
              have hv : fitsOf k z = 3 := by unfold fitsOf; rw [if_neg (by omega), if_pos (by omega)]
              rw [hv]
              clear hv hfit
              go_wp2_with fail
              refine (same_any w6 _ _ z cap4 _ d d true (fun j _ => HF.out j) (fun j _ => HF.out j) HM6.out HS6.out ⟨fun _ _ _ => rfl, fun _ => rfl⟩).mono ?_
              rintro e w' ⟨rfl, rfl⟩
              go_wp2
              go_ret
              exact ⟨rfl, HBB6.out⟩
    · clear hlg
      have HK : Hid (∀ W, Below w3.heap.size w3 W → W.cell? ⟨w.heap.size, 0, none⟩ = some (.int .i64 k) ∧ W.cell? ⟨w.heap.size, 1, none⟩ = some (.slice sp z cap)) := Lib.hid fun W hbw => (zcells ((hbw.block _ hl3).trans HQ3.out)).1
      have HZ7 : Hid (∀ W, Below (w3.drew.alloc (.cells #[.int .i64 0, .slice none 0 0] 24)).heap.size (w3.drew.alloc (.cells #[.int .i64 0, .slice none 0 0] 24)) W → W.heap[w3.heap.size]? = some (.cells #[.int .i64 0, .slice none 0 0] 24 (0, 0))) := Lib.hid fun W hbw => (hbw.block _ (by simp)).trans (heap_alloc_new w3.drew _)
      have hsz1 : w3.heap.size ≤ (w3.drew.alloc (.cells #[.int .i64 0, .slice none 0 0] 24)).heap.size := by simp
      have HCP : Hid (∀ W, Below w3.heap.size w3 W → Calls Try.prog 9 #[.slice sp z cap] W (CopySome z d W)) :=
        Lib.hid fun W hb => rcopy_big _ _ _ _ W (by omega) (HS3.out.below hb) HPN.out
      obtain ⟨c0', c1'⟩ := HK.out _ (Below.refl _ _)
      go_wp2
      go_region_held3 (fun W => W.cell? ⟨w.heap.size, 0, none⟩ = some (.int .i64 k) ∧ W.cell? ⟨w.heap.size, 1, none⟩ = some (.slice sp z cap))
        (first
          | exact HK.out _ ((Below.refl _ _).drew)
          | exact HK.out _ (Below.refl _ _)
          | exact HK.out _ (((Below.refl _ _).drew).alloc (Nat.le_refl _) _)
          | exact HK.out _ (((Below.refl _ _).drew).trans hb4)
          | exact HK.out _ ((((Below.refl _ _).drew).trans hb4).alloc hb4.size _)
          | exact HK.out _ ((((Below.refl _ _).drew).alloc (Nat.le_refl _) _).trans (hb4.mono hsz1))
          | exact HK.out _ ((((((Below.refl _ _).drew).alloc (Nat.le_refl _) _).trans (hb4.mono hsz1)).setCell (Nat.le_refl _) _).setCell (Nat.le_refl _) _))
        (first
          | (go_at_call 9; refine (HCP.out _ ((Below.refl _ _).drew)).mono ?_; rintro e w4 ⟨g4, cap4, rfl, hg4, hown4, hb4⟩)
          | (go_at_call 9; refine (HCP.out _ (((Below.refl _ _).drew).alloc (Nat.le_refl _) _)).mono ?_; rintro e w4 ⟨g4, cap4, rfl, hg4, hown4, hb4⟩; obtain ⟨⟨q0, q1⟩, fq⟩ := zcells (HZ7.out _ hb4)))
      · have HB5 : Hid (Below w3.heap.size w3 (w4.alloc (.cells #[.int .i64 k, .slice (some ⟨g4, 0, none⟩) z cap4] 24))) := Lib.hid ((((Below.refl _ _).drew).trans hb4).alloc hb4.size _)
        have HX5 : Hid ((w4.alloc (.cells #[.int .i64 k, .slice (some ⟨g4, 0, none⟩) z cap4] 24)).heap[w4.heap.size]? = some (.cells #[.int .i64 k, .slice (some ⟨g4, 0, none⟩) z cap4] 24 (0, 0))) := Lib.hid (heap_alloc_new w4 _)
        have HO5 : Hid ((w4.alloc (.cells #[.int .i64 k, .slice (some ⟨g4, 0, none⟩) z cap4] 24)).ownsRow w3.heap.size 5 1 (.slice (some ⟨g4, 0, none⟩) z cap4) z (rowB d z)) := Lib.hid (hown4.alloc _)
        clear hb4 hown4 c0' c1'
        generalize (w4.alloc (.cells #[.int .i64 k, .slice (some ⟨g4, 0, none⟩) z cap4] 24)) = w5 at *
        generalize w4.heap.size = Q at *
        have HBB5 := Lib.hid (HB3.out.trans (HB5.out.mono HB3.out.size))
        have HQ5 := Lib.hid ((HB5.out.block _ hl3).trans HQ3.out)
        have hQ : Q < w5.heap.size := by
          rcases Nat.lt_or_ge Q w5.heap.size with h' | h'
          · exact h'
          · have := HX5.out; rw [Array.getElem?_eq_none h'] at this; cases this
        have hl5 : w.heap.size < w5.heap.size := Nat.lt_of_lt_of_le hl3 HB5.out.size
        have HS5 := Lib.hid (HS3.out.below HB5.out)
        have HM5 := Lib.hid (own_src HO5.out)
        obtain ⟨⟨m0, m1⟩, _⟩ := zcells HX5.out
        have HX5' := HX5
        clear HK HCP HZ7 HB3 HB5 HO5 HQ3 HS3 hsz1
        by_cases hfit : 0 ≤ k ∧ k ≤ 255 ∧ z ≤ 65536
        · obtain ⟨kn, hkn⟩ : ∃ kn : Nat, k = (kn : Int) := ⟨k.toNat, by omega⟩
          subst hkn
          have hk2 : kn < 256 := by omega
          have hz65 : z ≤ 65536 := hfit.2.2
          have hka : ¬ (kn : Int) < 0 := by omega
          have hkb : ¬ (255 : Int) < (kn : Int) := by omega
          have hkc : ¬ (65536 : Int) < (z : Int) := by omega
          obtain ⟨rd0, rd1, rd2, rd3⟩ := frm_read kn z d (frm kn z d) (12 + z) hk2 hz65 (Nat.le_refl _) (fun _ _ => rfl)
          have HR0 := Lib.hid rd0
          have HR1 := Lib.hid rd1
          have HR2 := Lib.hid rd2
          have HR3 := Lib.hid rd3
          clear hfit rd0 rd1 rd2 rd3
          go_wp2_with fail
          refine (encode_ok kn _ z cap4 d w5 hk2 hz65 HF.out HM5.out (fun h => by cases h)).mono ?_
          rintro e w6 ⟨g6, cp6, rfl, ho6, hb6⟩
          have HS6 := Lib.hid (HS5.out.below hb6)
          have HM6 := Lib.hid (HM5.out.below hb6)
          have HO6 := Lib.hid (own_src ho6)
          have hcp6 := (own_cap ho6).1
          have HQ6 := Lib.hid ((hb6.block _ hl5).trans HQ5.out)
          obtain ⟨⟨q0, q1⟩, _⟩ := zcells HQ6.out
          obtain ⟨⟨r0, r1⟩, _⟩ := zcells ((hb6.block _ hQ).trans HX5'.out)
          have hl6 : w.heap.size < w6.heap.size := Nat.lt_of_lt_of_le hl5 hb6.size
          have HBB6 := Lib.hid (HBB5.out.trans (hb6.mono HBB5.out.size))
          clear ho6 hb6 HS5 HM5 HX5 HX5' HQ5 m0 m1 HBB5
          go_wp2_with fail
          refine (same_any w6 _ _ z cap4 _ d d true (fun j _ => HF.out j) (fun j _ => HF.out j) HM6.out HS6.out ⟨fun _ _ _ => rfl, fun _ => rfl⟩).mono ?_
          rintro e w' ⟨rfl, rfl⟩
          go_wp2_with fail
          refine (decode_any _ (12 + z) cp6 (frm kn z d) w6 (frm_lt kn z d HF.out) hcp6 HO6.out).mono ?_
          rintro e w7 ⟨hb7, hres⟩
          rcases hres with ⟨hne, _⟩ | ⟨heq, sp', cap', rfl, hown7, hsp7⟩
          · exact absurd HR0.out hne
          · rw [HR1.out, HR2.out]
            rw [HR2.out] at hown7 hsp7
            have HW8 : Hid (Below w6.heap.size w6 (w7.alloc (.cells #[.int .i64 (kn : Int), .slice sp' z cap'] 24))) := Lib.hid (hb7.alloc hb7.size _)
            have HG8 : Hid (Src (w7.alloc (.cells #[.int .i64 (kn : Int), .slice sp' z cap'] 24)) sp' z (fun j => frm kn z d (12 + j))) := Lib.hid ((own_src hown7).below ((Below.refl _ _).alloc (Nat.le_refl _) _))
            have hX8 := heap_alloc_new w7 (.cells #[.int .i64 (kn : Int), .slice sp' z cap'] 24)
            have hl8 : w7.heap.size < (w7.alloc (.cells #[.int .i64 (kn : Int), .slice sp' z cap'] 24)).heap.size := by simp
            have HX8 := Lib.hid hX8
            have HS8 := Lib.hid (HS6.out.below HW8.out)
            have HQ8 := Lib.hid ((HW8.out.block _ hl6).trans HQ6.out)
            obtain ⟨⟨s0, s1⟩, _⟩ := zcells HQ8.out
            have hl68 : w.heap.size < (w7.alloc (.cells #[.int .i64 (kn : Int), .slice sp' z cap'] 24)).heap.size := Nat.lt_of_lt_of_le hl6 HW8.out.size
            have HO8 := Lib.hid (HO6.out.below HW8.out)
            have HBB8 := Lib.hid (HBB6.out.trans (HW8.out.mono HBB6.out.size))
            clear hX8 hown7 hb7 heq
            go_wp2_with fail
            refine (text_any kn _ z _ d _ hk2 hz65 HF.out HS8.out HPN.out).mono ?_
            rintro e w9 ⟨g9, cp9, rfl, ho9, hb9⟩
            have HO9 := Lib.hid (own_src ho9)
            have HOb := Lib.hid (HO8.out.below hb9)
            have HS9 := Lib.hid (HS8.out.below hb9)
            have HG9 := Lib.hid (HG8.out.below hb9)
            obtain ⟨⟨t0, t1⟩, _⟩ := zcells ((hb9.block _ hl68).trans HQ8.out)
            obtain ⟨⟨t2, t3⟩, _⟩ := zcells ((hb9.block _ hl8).trans HX8.out)
            have HBB9 := Lib.hid (HBB8.out.trans (hb9.mono HBB8.out.size))
            clear ho9 hb9 s0 s1
            go_wp2_with fail
            refine (same_any w9 _ _ (12 + z) cp6 cp9 (frm kn z d) (frm kn z d) true (fun j _ => frm_lt kn z d HF.out j) (fun j _ => frm_lt kn z d HF.out j) HOb.out HO9.out ⟨fun _ _ _ => rfl, fun _ => rfl⟩).mono ?_
            rintro e w' ⟨rfl, rfl⟩
            go_wp2_with fail
            refine (lsame_any (kn : Int) (kn : Int) _ sp' z _ cap' d (fun j => frm kn z d (12 + j)) w9 (fun j _ => HF.out j) (fun j _ => frm_lt kn z d HF.out _) HS9.out HG9.out rfl (fun j hj => (HR3.out j hj).symm)).mono ?_
            rintro e w10 ⟨rfl, hb10⟩
            have HB10 := Lib.hid (HBB9.out.trans (hb10.mono HBB9.out.size))
            clear hb10
            go_wp2
            go_ret
            exact ⟨rfl, HB10.out⟩
        · have hne : ¬ fitsOf k z = 0 := by
            unfold fitsOf
            split
            · decide
            · split
              · decide
              · omega
          go_wp2_with fail
          refine (encode_no k _ z cap4 w5 (by omega) hne).mono ?_
          rintro e w6 ⟨rfl, hb6⟩
          have HS6 := Lib.hid (HS5.out.below hb6)
          have HM6 := Lib.hid (HM5.out.below hb6)
          obtain ⟨⟨q0, q1⟩, _⟩ := zcells ((hb6.block _ hl5).trans HQ5.out)
          obtain ⟨⟨r0, r1⟩, _⟩ := zcells ((hb6.block _ hQ).trans HX5'.out)
          have HBB6 := Lib.hid (HBB5.out.trans (hb6.mono HBB5.out.size))
          clear hb6 hne HS5 HM5 HX5 HX5' HQ5 m0 m1 HBB5
          by_cases hk1 : k < 0
          · have hv : fitsOf k z = 14 := by unfold fitsOf; rw [if_pos (.inl hk1)]
            rw [hv]
            clear hv hfit
            go_wp2_with fail
            refine (same_any w6 _ _ z cap4 _ d d true (fun j _ => HF.out j) (fun j _ => HF.out j) HM6.out HS6.out ⟨fun _ _ _ => rfl, fun _ => rfl⟩).mono ?_
            rintro e w' ⟨rfl, rfl⟩
            go_wp2
            go_ret
            exact ⟨rfl, HBB6.out⟩
          · by_cases hk5 : 255 < k
            · have hv : fitsOf k z = 14 := by unfold fitsOf; rw [if_pos (.inr hk5)]
              rw [hv]
              clear hv hfit
              go_wp2_with fail
              refine (same_any w6 _ _ z cap4 _ d d true (fun j _ => HF.out j) (fun j _ => HF.out j) HM6.out HS6.out ⟨fun _ _ _ => rfl, fun _ => rfl⟩).mono ?_
              rintro e w' ⟨rfl, rfl⟩
              go_wp2
              go_ret
              exact ⟨rfl, HBB6.out⟩
            · have hz65 : (65536 : Int) < (z : Int) := by omega
              have hv : fitsOf k z = 3 := by unfold fitsOf; rw [if_neg (by omega), if_pos (by omega)]
              rw [hv]
              clear hv hfit
              go_wp2_with fail
              refine (same_any w6 _ _ z cap4 _ d d true (fun j _ => HF.out j) (fun j _ => HF.out j) HM6.out HS6.out ⟨fun _ _ _ => rfl, fun _ => rfl⟩).mono ?_
              rintro e w' ⟨rfl, rfl⟩
              go_wp2
              go_ret
              exact ⟨rfl, HBB6.out⟩
      · have HB5 : Hid (Below w3.heap.size w3 ((w4.setCell ⟨w3.heap.size, 0, none⟩ (.int .i64 k)).setCell ⟨w3.heap.size, 1, none⟩ (.slice (some ⟨g4, 0, none⟩) z cap4))) := Lib.hid ((((((Below.refl _ _).drew).alloc (Nat.le_refl _) _).trans (hb4.mono hsz1)).setCell (Nat.le_refl _) _).setCell (Nat.le_refl _) _)
        have HX5 : Hid (((w4.setCell ⟨w3.heap.size, 0, none⟩ (.int .i64 k)).setCell ⟨w3.heap.size, 1, none⟩ (.slice (some ⟨g4, 0, none⟩) z cap4)).heap[w3.heap.size]? = some (.cells #[.int .i64 k, .slice (some ⟨g4, 0, none⟩) z cap4] 24 (0, 0))) := Lib.hid (heap_setCell_same _ w3.heap.size 1 _ 24 _ (heap_setCell_same _ w3.heap.size 0 _ 24 _ (HZ7.out _ hb4)))
        have HO5 : Hid (((w4.setCell ⟨w3.heap.size, 0, none⟩ (.int .i64 k)).setCell ⟨w3.heap.size, 1, none⟩ (.slice (some ⟨g4, 0, none⟩) z cap4)).ownsRow w3.heap.size 5 1 (.slice (some ⟨g4, 0, none⟩) z cap4) z (rowB d z)) := Lib.hid (own_kept2 (own_mono hown4 hsz1) (fun k hk => by have hk' : g4 = k := Option.some.inj hk; rw [← hk']; exact own_ne hown4 (HZ7.out _ hb4) (by decide)))
        clear hb4 hown4 q0 q1 fq c0' c1'
        generalize ((w4.setCell ⟨w3.heap.size, 0, none⟩ (.int .i64 k)).setCell ⟨w3.heap.size, 1, none⟩ (.slice (some ⟨g4, 0, none⟩) z cap4)) = w5 at *
        obtain ⟨Q, eQ⟩ : ∃ Q, Q = w3.heap.size := ⟨_, rfl⟩
        rw [← eQ] at HX5 ⊢
        clear eQ
        have HBB5 := Lib.hid (HB3.out.trans (HB5.out.mono HB3.out.size))
        have HQ5 := Lib.hid ((HB5.out.block _ hl3).trans HQ3.out)
        have hQ : Q < w5.heap.size := by
          rcases Nat.lt_or_ge Q w5.heap.size with h' | h'
          · exact h'
          · have := HX5.out; rw [Array.getElem?_eq_none h'] at this; cases this
        have hl5 : w.heap.size < w5.heap.size := Nat.lt_of_lt_of_le hl3 HB5.out.size
        have HS5 := Lib.hid (HS3.out.below HB5.out)
        have HM5 := Lib.hid (own_src HO5.out)
        obtain ⟨⟨m0, m1⟩, _⟩ := zcells HX5.out
        have HX5' := HX5
        clear HK HCP HZ7 HB3 HB5 HO5 HQ3 HS3 hsz1
        by_cases hfit : 0 ≤ k ∧ k ≤ 255 ∧ z ≤ 65536
        · obtain ⟨kn, hkn⟩ : ∃ kn : Nat, k = (kn : Int) := ⟨k.toNat, by omega⟩
          subst hkn
          have hk2 : kn < 256 := by omega
          have hz65 : z ≤ 65536 := hfit.2.2
          have hka : ¬ (kn : Int) < 0 := by omega
          have hkb : ¬ (255 : Int) < (kn : Int) := by omega
          have hkc : ¬ (65536 : Int) < (z : Int) := by omega
          obtain ⟨rd0, rd1, rd2, rd3⟩ := frm_read kn z d (frm kn z d) (12 + z) hk2 hz65 (Nat.le_refl _) (fun _ _ => rfl)
          have HR0 := Lib.hid rd0
          have HR1 := Lib.hid rd1
          have HR2 := Lib.hid rd2
          have HR3 := Lib.hid rd3
          clear hfit rd0 rd1 rd2 rd3
          go_wp2_with fail
          refine (encode_ok kn _ z cap4 d w5 hk2 hz65 HF.out HM5.out (fun h => by cases h)).mono ?_
          rintro e w6 ⟨g6, cp6, rfl, ho6, hb6⟩
          have HS6 := Lib.hid (HS5.out.below hb6)
          have HM6 := Lib.hid (HM5.out.below hb6)
          have HO6 := Lib.hid (own_src ho6)
          have hcp6 := (own_cap ho6).1
          have HQ6 := Lib.hid ((hb6.block _ hl5).trans HQ5.out)
          obtain ⟨⟨q0, q1⟩, _⟩ := zcells HQ6.out
          obtain ⟨⟨r0, r1⟩, _⟩ := zcells ((hb6.block _ hQ).trans HX5'.out)
          have hl6 : w.heap.size < w6.heap.size := Nat.lt_of_lt_of_le hl5 hb6.size
          have HBB6 := Lib.hid (HBB5.out.trans (hb6.mono HBB5.out.size))
          clear ho6 hb6 HS5 HM5 HX5 HX5' HQ5 m0 m1 HBB5
          go_wp2_with fail
          refine (same_any w6 _ _ z cap4 _ d d true (fun j _ => HF.out j) (fun j _ => HF.out j) HM6.out HS6.out ⟨fun _ _ _ => rfl, fun _ => rfl⟩).mono ?_
          rintro e w' ⟨rfl, rfl⟩
          go_wp2_with fail
          refine (decode_any _ (12 + z) cp6 (frm kn z d) w6 (frm_lt kn z d HF.out) hcp6 HO6.out).mono ?_
          rintro e w7 ⟨hb7, hres⟩
          rcases hres with ⟨hne, _⟩ | ⟨heq, sp', cap', rfl, hown7, hsp7⟩
          · exact absurd HR0.out hne
          · rw [HR1.out, HR2.out]
            rw [HR2.out] at hown7 hsp7
            have HW8 : Hid (Below w6.heap.size w6 (w7.alloc (.cells #[.int .i64 (kn : Int), .slice sp' z cap'] 24))) := Lib.hid (hb7.alloc hb7.size _)
            have HG8 : Hid (Src (w7.alloc (.cells #[.int .i64 (kn : Int), .slice sp' z cap'] 24)) sp' z (fun j => frm kn z d (12 + j))) := Lib.hid ((own_src hown7).below ((Below.refl _ _).alloc (Nat.le_refl _) _))
            have hX8 := heap_alloc_new w7 (.cells #[.int .i64 (kn : Int), .slice sp' z cap'] 24)
            have hl8 : w7.heap.size < (w7.alloc (.cells #[.int .i64 (kn : Int), .slice sp' z cap'] 24)).heap.size := by simp
            have HX8 := Lib.hid hX8
            have HS8 := Lib.hid (HS6.out.below HW8.out)
            have HQ8 := Lib.hid ((HW8.out.block _ hl6).trans HQ6.out)
            obtain ⟨⟨s0, s1⟩, _⟩ := zcells HQ8.out
            have hl68 : w.heap.size < (w7.alloc (.cells #[.int .i64 (kn : Int), .slice sp' z cap'] 24)).heap.size := Nat.lt_of_lt_of_le hl6 HW8.out.size
            have HO8 := Lib.hid (HO6.out.below HW8.out)
            have HBB8 := Lib.hid (HBB6.out.trans (HW8.out.mono HBB6.out.size))
            clear hX8 hown7 hb7 heq
            go_wp2_with fail
            refine (text_any kn _ z _ d _ hk2 hz65 HF.out HS8.out HPN.out).mono ?_
            rintro e w9 ⟨g9, cp9, rfl, ho9, hb9⟩
            have HO9 := Lib.hid (own_src ho9)
            have HOb := Lib.hid (HO8.out.below hb9)
            have HS9 := Lib.hid (HS8.out.below hb9)
            have HG9 := Lib.hid (HG8.out.below hb9)
            obtain ⟨⟨t0, t1⟩, _⟩ := zcells ((hb9.block _ hl68).trans HQ8.out)
            obtain ⟨⟨t2, t3⟩, _⟩ := zcells ((hb9.block _ hl8).trans HX8.out)
            have HBB9 := Lib.hid (HBB8.out.trans (hb9.mono HBB8.out.size))
            clear ho9 hb9 s0 s1
            go_wp2_with fail
            refine (same_any w9 _ _ (12 + z) cp6 cp9 (frm kn z d) (frm kn z d) true (fun j _ => frm_lt kn z d HF.out j) (fun j _ => frm_lt kn z d HF.out j) HOb.out HO9.out ⟨fun _ _ _ => rfl, fun _ => rfl⟩).mono ?_
            rintro e w' ⟨rfl, rfl⟩
            go_wp2_with fail
            refine (lsame_any (kn : Int) (kn : Int) _ sp' z _ cap' d (fun j => frm kn z d (12 + j)) w9 (fun j _ => HF.out j) (fun j _ => frm_lt kn z d HF.out _) HS9.out HG9.out rfl (fun j hj => (HR3.out j hj).symm)).mono ?_
            rintro e w10 ⟨rfl, hb10⟩
            have HB10 := Lib.hid (HBB9.out.trans (hb10.mono HBB9.out.size))
            clear hb10
            go_wp2
            go_ret
            exact ⟨rfl, HB10.out⟩
        · have hne : ¬ fitsOf k z = 0 := by
            unfold fitsOf
            split
            · decide
            · split
              · decide
              · omega
          go_wp2_with fail
          refine (encode_no k _ z cap4 w5 (by omega) hne).mono ?_
          rintro e w6 ⟨rfl, hb6⟩
          have HS6 := Lib.hid (HS5.out.below hb6)
          have HM6 := Lib.hid (HM5.out.below hb6)
          obtain ⟨⟨q0, q1⟩, _⟩ := zcells ((hb6.block _ hl5).trans HQ5.out)
          obtain ⟨⟨r0, r1⟩, _⟩ := zcells ((hb6.block _ hQ).trans HX5'.out)
          have HBB6 := Lib.hid (HBB5.out.trans (hb6.mono HBB5.out.size))
          clear hb6 hne HS5 HM5 HX5 HX5' HQ5 m0 m1 HBB5
          by_cases hk1 : k < 0
          · have hv : fitsOf k z = 14 := by unfold fitsOf; rw [if_pos (.inl hk1)]
            rw [hv]
            clear hv hfit
            go_wp2_with fail
            refine (same_any w6 _ _ z cap4 _ d d true (fun j _ => HF.out j) (fun j _ => HF.out j) HM6.out HS6.out ⟨fun _ _ _ => rfl, fun _ => rfl⟩).mono ?_
            rintro e w' ⟨rfl, rfl⟩
            go_wp2
            go_ret
            exact ⟨rfl, HBB6.out⟩
          · by_cases hk5 : 255 < k
            · have hv : fitsOf k z = 14 := by unfold fitsOf; rw [if_pos (.inr hk5)]
              rw [hv]
              clear hv hfit
              go_wp2_with fail
              refine (same_any w6 _ _ z cap4 _ d d true (fun j _ => HF.out j) (fun j _ => HF.out j) HM6.out HS6.out ⟨fun _ _ _ => rfl, fun _ => rfl⟩).mono ?_
              rintro e w' ⟨rfl, rfl⟩
              go_wp2
              go_ret
              exact ⟨rfl, HBB6.out⟩
            · have hz65 : (65536 : Int) < (z : Int) := by omega
              have hv : fitsOf k z = 3 := by unfold fitsOf; rw [if_neg (by omega), if_pos (by omega)]
              rw [hv]
              clear hv hfit
              go_wp2_with fail
              refine (same_any w6 _ _ z cap4 _ d d true (fun j _ => HF.out j) (fun j _ => HF.out j) HM6.out HS6.out ⟨fun _ _ _ => rfl, fun _ => rfl⟩).mono ?_
              rintro e w' ⟨rfl, rfl⟩
              go_wp2
              go_ret
              exact ⟨rfl, HBB6.out⟩

set_option maxRecDepth 100000 in
set_option maxHeartbeats 4000000 in
theorem writes_long (k : Int) (sp : Option Addr) (z cap : Nat) (d : Nat → Nat) (lg : Int) (w : World) (hz : z ≤ 1048576) (hd : ∀ j, d j < 256) (hs : Src w sp z d) (hsp : sp = none → z = 0 ∧ cap = 0) (hlg : 0 < lg ∧ lg < 4) :
    Calls Try.prog 3 #[.agg #[.int .i64 k, .slice sp z cap], .int .i64 lg] w fun e w' => e = .returned (.bool true) ∧ Below w.heap.size w w' := by
  have HFD := Lib.hid hd
  have HSD := Lib.hid hs
  have HPD := Lib.hid hsp
  clear hd hs hsp
  have HBX : Hid (Below w.heap.size w (w.alloc (.cells #[.int .i64 k, .slice sp z cap] 24))) := Lib.hid ((Below.refl _ _).alloc (Nat.le_refl _) _)
  have HXX : Hid ((w.alloc (.cells #[.int .i64 k, .slice sp z cap] 24)).heap[w.heap.size]? = some (.cells #[.int .i64 k, .slice sp z cap] 24 (0, 0))) := Lib.hid (heap_alloc_new w _)
  have HLX : Hid (w.heap.size < (w.alloc (.cells #[.int .i64 k, .slice sp z cap] 24)).heap.size) := Lib.hid (by simp)
  go_enter Try.func3, Try.ntmps3
  go_wp2_with fail
  refine (head_any _).mono ?_
  rintro e w1 ⟨rfl, hb⟩
  have HB1 := Lib.hid (HBX.out.trans (hb.mono HBX.out.size))
  have HQ1 := Lib.hid ((hb.block _ HLX.out).trans HXX.out)
  have hl1 : w.heap.size < w1.heap.size := Nat.lt_of_lt_of_le HLX.out hb.size
  obtain ⟨⟨o0, o1⟩, fzq⟩ := zcells HQ1.out
  clear hb HBX HXX HLX
  obtain ⟨i0, hi, hz0, hz1, hz2⟩ := info_parts info5
  have hl0 : 0 < lg := hlg.1
  have hl4 : lg < 4 := hlg.2
  clear hlg
  obtain ⟨m, hm⟩ : ∃ m : Nat, m = 65535 := ⟨_, rfl⟩
  have hmm : ((m : Nat) : Int) = 65535 := by omega
  have hmp : 0 < m := by omega
  have hml : m ≤ 100000 := by omega
  have HMM := Lib.hid hmm
  clear hm hmm
  go_wp2_with fail
  refine (rcopy_big sp z cap d w1 (by omega) (HSD.out.below HB1.out) HPD.out).mono ?_
  rintro e w2 ⟨g2, cp2, rfl, hg2, ho2, hb2⟩
  have HO2 := Lib.hid ho2
  have HB2 := Lib.hid hb2
  clear ho2 hb2
  go_wp2_with (at_builtin; refine wpList_append_noughts _ rfl _ _ rfl i0 hi hz0 hz1 hz2 w1.heap.size g2 z cp2 m (rowB d z) rfl (by rw [HMM.out]; rfl) HO2.out hmp hml (by omega) HB2.out.size ?_)
  intro g3 cp3 wy ho3 hgr3
  rw [rowB_cat] at ho3
  have HBy := Lib.hid (HB2.out.grown hgr3 HB2.out.size (fun q hq => (HO2.out.lt q hq).1))
  have HOy := Lib.hid ho3
  have hg3 := (ho3.lt g3 rfl).1
  have hcp3 := (own_cap ho3).1
  have HQy := Lib.hid ((HBy.out.block _ hl1).trans HQ1.out)
  obtain ⟨⟨p0, p1⟩, fzy⟩ := zcells HQy.out
  have fz1 := fzy 1
  obtain ⟨z3, ez3⟩ : ∃ z3, z3 = z + m := ⟨_, rfl⟩
  rw [← ez3] at HOy hcp3 ⊢
  obtain ⟨d3, ed3⟩ : ∃ d3 : Nat → Nat, d3 = cat d (fun _ => 0) z := ⟨_, rfl⟩
  rw [← ed3] at HOy
  have HF : Hid (∀ j, d3 j < 256) := Lib.hid (by rw [ed3]; exact fun j => cat_lt' _ _ _ j HFD.out (fun _ => Nat.zero_lt_succ 255))
  have HBW : Hid (Below w.heap.size w wy) := Lib.hid (HB1.out.trans (HBy.out.mono HB1.out.size))
  have HPN : Hid ((some (⟨g3, 0, none⟩ : Addr)) = none → z3 = 0 ∧ cp3 = 0) := Lib.hid (fun h => by cases h)
  have HB3 : Hid (Below w.heap.size w (wy.setCell ⟨w.heap.size, 1, none⟩ (.slice (some ⟨g3, 0, none⟩) z3 cp3))) := Lib.hid (HBW.out.setCell (Nat.le_refl _) _)
  have HQ3 : Hid ((wy.setCell ⟨w.heap.size, 1, none⟩ (.slice (some ⟨g3, 0, none⟩) z3 cp3)).heap[w.heap.size]? = some (.cells #[.int .i64 k, .slice (some ⟨g3, 0, none⟩) z3 cp3] 24 (0, 0))) := Lib.hid (heap_setCell_same _ w.heap.size 1 _ 24 _ HQy.out)
  have HS3 : Hid (Src (wy.setCell ⟨w.heap.size, 1, none⟩ (.slice (some ⟨g3, 0, none⟩) z3 cp3)) (some ⟨g3, 0, none⟩) z3 d3) := Lib.hid (src_set (own_src HOy.out) (by omega))
  have hl3 : w.heap.size < (wy.setCell ⟨w.heap.size, 1, none⟩ (.slice (some ⟨g3, 0, none⟩) z3 cp3)).heap.size := by simp; have := HBy.out.size; omega
  obtain ⟨⟨o2, o3⟩, _⟩ := zcells HQ3.out
  have hz3 : z3 ≤ 1200000 := by have := HMM.out; omega
  clear ho3 hgr3 fzy ed3 ez3 HBy HOy HQy HBW HB2 HO2 HSD HFD HPD hg3
  by_cases hz7 : 70000 < z3
  · have hz7' : (70000 : Int) < (z3 : Int) := by omega
    go_wp2
    go_ret
    exact ⟨rfl, HB3.out⟩
  · have hz7' : ¬ (70000 : Int) < (z3 : Int) := by omega
    go_wp2
    clear o0 o1 o2 o3 p0 p1 fz1
    obtain ⟨w3, ew3⟩ : ∃ w3, w3 = wy.setCell ⟨w.heap.size, 1, none⟩ (.slice (some ⟨g3, 0, none⟩) z3 cp3) := ⟨_, rfl⟩
    rw [← ew3] at HB3 HQ3 HS3 hl3 ⊢
    clear ew3 HB1 HQ1
    have HK : Hid (∀ W, Below w3.heap.size w3 W → W.cell? ⟨w.heap.size, 0, none⟩ = some (.int .i64 k) ∧ W.cell? ⟨w.heap.size, 1, none⟩ = some (.slice (some ⟨g3, 0, none⟩) z3 cp3)) := Lib.hid fun W hbw => (zcells ((hbw.block _ hl3).trans HQ3.out)).1
    have HZ7 : Hid (∀ W, Below (w3.drew.alloc (.cells #[.int .i64 0, .slice none 0 0] 24)).heap.size (w3.drew.alloc (.cells #[.int .i64 0, .slice none 0 0] 24)) W → W.heap[w3.heap.size]? = some (.cells #[.int .i64 0, .slice none 0 0] 24 (0, 0))) := Lib.hid fun W hbw => (hbw.block _ (by simp)).trans (heap_alloc_new w3.drew _)
    have hsz1 : w3.heap.size ≤ (w3.drew.alloc (.cells #[.int .i64 0, .slice none 0 0] 24)).heap.size := by simp
    have HCP : Hid (∀ W, Below w3.heap.size w3 W → Calls Try.prog 9 #[.slice (some ⟨g3, 0, none⟩) z3 cp3] W (CopySome z3 d3 W)) :=
      Lib.hid fun W hb => rcopy_big _ _ _ _ W (by omega) (HS3.out.below hb) HPN.out
    obtain ⟨c0', c1'⟩ := HK.out _ (Below.refl _ _)
    go_region_held3 (fun W => W.cell? ⟨w.heap.size, 0, none⟩ = some (.int .i64 k) ∧ W.cell? ⟨w.heap.size, 1, none⟩ = some (.slice (some ⟨g3, 0, none⟩) z3 cp3))
      (first
        | exact HK.out _ ((Below.refl _ _).drew)
        | exact HK.out _ (Below.refl _ _)
        | exact HK.out _ (((Below.refl _ _).drew).alloc (Nat.le_refl _) _)
        | exact HK.out _ (((Below.refl _ _).drew).trans hb4)
        | exact HK.out _ ((((Below.refl _ _).drew).trans hb4).alloc hb4.size _)
        | exact HK.out _ ((((Below.refl _ _).drew).alloc (Nat.le_refl _) _).trans (hb4.mono hsz1))
        | exact HK.out _ ((((((Below.refl _ _).drew).alloc (Nat.le_refl _) _).trans (hb4.mono hsz1)).setCell (Nat.le_refl _) _).setCell (Nat.le_refl _) _))
      (first
        | (go_at_call 9; refine (HCP.out _ ((Below.refl _ _).drew)).mono ?_; rintro e w4 ⟨g4, cap4, rfl, hg4, hown4, hb4⟩)
        | (go_at_call 9; refine (HCP.out _ (((Below.refl _ _).drew).alloc (Nat.le_refl _) _)).mono ?_; rintro e w4 ⟨g4, cap4, rfl, hg4, hown4, hb4⟩; obtain ⟨⟨q0, q1⟩, fq⟩ := zcells (HZ7.out _ hb4)))
    · have HB5 : Hid (Below w3.heap.size w3 (w4.alloc (.cells #[.int .i64 k, .slice (some ⟨g4, 0, none⟩) z3 cap4] 24))) := Lib.hid ((((Below.refl _ _).drew).trans hb4).alloc hb4.size _)
      have HX5 : Hid ((w4.alloc (.cells #[.int .i64 k, .slice (some ⟨g4, 0, none⟩) z3 cap4] 24)).heap[w4.heap.size]? = some (.cells #[.int .i64 k, .slice (some ⟨g4, 0, none⟩) z3 cap4] 24 (0, 0))) := Lib.hid (heap_alloc_new w4 _)
      have HO5 : Hid ((w4.alloc (.cells #[.int .i64 k, .slice (some ⟨g4, 0, none⟩) z3 cap4] 24)).ownsRow w3.heap.size 5 1 (.slice (some ⟨g4, 0, none⟩) z3 cap4) z3 (rowB d3 z3)) := Lib.hid (hown4.alloc _)
      clear hb4 hown4 c0' c1'
      generalize (w4.alloc (.cells #[.int .i64 k, .slice (some ⟨g4, 0, none⟩) z3 cap4] 24)) = w5 at *
      generalize w4.heap.size = Q at *
      have HBB5 := Lib.hid (HB3.out.trans (HB5.out.mono HB3.out.size))
      have HQ5 := Lib.hid ((HB5.out.block _ hl3).trans HQ3.out)
      have hQ : Q < w5.heap.size := by
        rcases Nat.lt_or_ge Q w5.heap.size with h' | h'
        · exact h'
        · have := HX5.out; rw [Array.getElem?_eq_none h'] at this; cases this
      have hl5 : w.heap.size < w5.heap.size := Nat.lt_of_lt_of_le hl3 HB5.out.size
      have HS5 := Lib.hid (HS3.out.below HB5.out)
      have HM5 := Lib.hid (own_src HO5.out)
      obtain ⟨⟨m0, m1⟩, _⟩ := zcells HX5.out
      have HX5' := HX5
      clear HK HCP HZ7 HB3 HB5 HO5 HQ3 HS3 hsz1
      by_cases hfit : 0 ≤ k ∧ k ≤ 255 ∧ z3 ≤ 65536
      · obtain ⟨kn, hkn⟩ : ∃ kn : Nat, k = (kn : Int) := ⟨k.toNat, by omega⟩
        subst hkn
        have hk2 : kn < 256 := by omega
        have hz65 : z3 ≤ 65536 := hfit.2.2
        have hka : ¬ (kn : Int) < 0 := by omega
        have hkb : ¬ (255 : Int) < (kn : Int) := by omega
        have hkc : ¬ (65536 : Int) < (z3 : Int) := by omega
        obtain ⟨rd0, rd1, rd2, rd3⟩ := frm_read kn z3 d3 (frm kn z3 d3) (12 + z3) hk2 hz65 (Nat.le_refl _) (fun _ _ => rfl)
        have HR0 := Lib.hid rd0
        have HR1 := Lib.hid rd1
        have HR2 := Lib.hid rd2
        have HR3 := Lib.hid rd3
        clear hfit rd0 rd1 rd2 rd3
        go_wp2_with fail
        refine (encode_ok kn _ z3 cap4 d3 w5 hk2 hz65 HF.out HM5.out (fun h => by cases h)).mono ?_
        rintro e w6 ⟨g6, cp6, rfl, ho6, hb6⟩
        have HS6 := Lib.hid (HS5.out.below hb6)
        have HM6 := Lib.hid (HM5.out.below hb6)
        have HO6 := Lib.hid (own_src ho6)
        have hcp6 := (own_cap ho6).1
        have HQ6 := Lib.hid ((hb6.block _ hl5).trans HQ5.out)
        obtain ⟨⟨q0, q1⟩, _⟩ := zcells HQ6.out
        obtain ⟨⟨r0, r1⟩, _⟩ := zcells ((hb6.block _ hQ).trans HX5'.out)
        have hl6 : w.heap.size < w6.heap.size := Nat.lt_of_lt_of_le hl5 hb6.size
        have HBB6 := Lib.hid (HBB5.out.trans (hb6.mono HBB5.out.size))
        clear ho6 hb6 HS5 HM5 HX5 HX5' HQ5 m0 m1 HBB5
        go_wp2_with fail
        refine (same_any w6 _ _ z3 cap4 _ d3 d3 true (fun j _ => HF.out j) (fun j _ => HF.out j) HM6.out HS6.out ⟨fun _ _ _ => rfl, fun _ => rfl⟩).mono ?_
        rintro e w' ⟨rfl, rfl⟩
        go_wp2_with fail
        refine (decode_any _ (12 + z3) cp6 (frm kn z3 d3) w6 (frm_lt kn z3 d3 HF.out) hcp6 HO6.out).mono ?_
        rintro e w7 ⟨hb7, hres⟩
        rcases hres with ⟨hne, _⟩ | ⟨heq, sp', cap', rfl, hown7, hsp7⟩
        · exact absurd HR0.out hne
        · rw [HR1.out, HR2.out]
          rw [HR2.out] at hown7 hsp7
          have HW8 : Hid (Below w6.heap.size w6 (w7.alloc (.cells #[.int .i64 (kn : Int), .slice sp' z3 cap'] 24))) := Lib.hid (hb7.alloc hb7.size _)
          have HG8 : Hid (Src (w7.alloc (.cells #[.int .i64 (kn : Int), .slice sp' z3 cap'] 24)) sp' z3 (fun j => frm kn z3 d3 (12 + j))) := Lib.hid ((own_src hown7).below ((Below.refl _ _).alloc (Nat.le_refl _) _))
          have hX8 := heap_alloc_new w7 (.cells #[.int .i64 (kn : Int), .slice sp' z3 cap'] 24)
          have hl8 : w7.heap.size < (w7.alloc (.cells #[.int .i64 (kn : Int), .slice sp' z3 cap'] 24)).heap.size := by simp
          have HX8 := Lib.hid hX8
          have HS8 := Lib.hid (HS6.out.below HW8.out)
          have HQ8 := Lib.hid ((HW8.out.block _ hl6).trans HQ6.out)
          obtain ⟨⟨s0, s1⟩, _⟩ := zcells HQ8.out
          have hl68 : w.heap.size < (w7.alloc (.cells #[.int .i64 (kn : Int), .slice sp' z3 cap'] 24)).heap.size := Nat.lt_of_lt_of_le hl6 HW8.out.size
          have HO8 := Lib.hid (HO6.out.below HW8.out)
          have HBB8 := Lib.hid (HBB6.out.trans (HW8.out.mono HBB6.out.size))
          clear hX8 hown7 hb7 heq
          go_wp2_with fail
          refine (text_any kn _ z3 _ d3 _ hk2 hz65 HF.out HS8.out HPN.out).mono ?_
          rintro e w9 ⟨g9, cp9, rfl, ho9, hb9⟩
          have HO9 := Lib.hid (own_src ho9)
          have HOb := Lib.hid (HO8.out.below hb9)
          have HS9 := Lib.hid (HS8.out.below hb9)
          have HG9 := Lib.hid (HG8.out.below hb9)
          obtain ⟨⟨t0, t1⟩, _⟩ := zcells ((hb9.block _ hl68).trans HQ8.out)
          obtain ⟨⟨t2, t3⟩, _⟩ := zcells ((hb9.block _ hl8).trans HX8.out)
          have HBB9 := Lib.hid (HBB8.out.trans (hb9.mono HBB8.out.size))
          clear ho9 hb9 s0 s1
          go_wp2_with fail
          refine (same_any w9 _ _ (12 + z3) cp6 cp9 (frm kn z3 d3) (frm kn z3 d3) true (fun j _ => frm_lt kn z3 d3 HF.out j) (fun j _ => frm_lt kn z3 d3 HF.out j) HOb.out HO9.out ⟨fun _ _ _ => rfl, fun _ => rfl⟩).mono ?_
          rintro e w' ⟨rfl, rfl⟩
          go_wp2_with fail
          refine (lsame_any (kn : Int) (kn : Int) _ sp' z3 _ cap' d3 (fun j => frm kn z3 d3 (12 + j)) w9 (fun j _ => HF.out j) (fun j _ => frm_lt kn z3 d3 HF.out _) HS9.out HG9.out rfl (fun j hj => (HR3.out j hj).symm)).mono ?_
          rintro e w10 ⟨rfl, hb10⟩
          have HB10 := Lib.hid (HBB9.out.trans (hb10.mono HBB9.out.size))
          clear hb10
          go_wp2
          go_ret
          exact ⟨rfl, HB10.out⟩
      · have hne : ¬ fitsOf k z3 = 0 := by
          unfold fitsOf
          split
          · decide
          · split
            · decide
            · omega
        go_wp2_with fail
        refine (encode_no k _ z3 cap4 w5 (by omega) hne).mono ?_
        rintro e w6 ⟨rfl, hb6⟩
        have HS6 := Lib.hid (HS5.out.below hb6)
        have HM6 := Lib.hid (HM5.out.below hb6)
        obtain ⟨⟨q0, q1⟩, _⟩ := zcells ((hb6.block _ hl5).trans HQ5.out)
        obtain ⟨⟨r0, r1⟩, _⟩ := zcells ((hb6.block _ hQ).trans HX5'.out)
        have HBB6 := Lib.hid (HBB5.out.trans (hb6.mono HBB5.out.size))
        clear hb6 hne HS5 HM5 HX5 HX5' HQ5 m0 m1 HBB5
        by_cases hk1 : k < 0
        · have hv : fitsOf k z3 = 14 := by unfold fitsOf; rw [if_pos (.inl hk1)]
          rw [hv]
          clear hv hfit
          go_wp2_with fail
          refine (same_any w6 _ _ z3 cap4 _ d3 d3 true (fun j _ => HF.out j) (fun j _ => HF.out j) HM6.out HS6.out ⟨fun _ _ _ => rfl, fun _ => rfl⟩).mono ?_
          rintro e w' ⟨rfl, rfl⟩
          go_wp2
          go_ret
          exact ⟨rfl, HBB6.out⟩
        · by_cases hk5 : 255 < k
          · have hv : fitsOf k z3 = 14 := by unfold fitsOf; rw [if_pos (.inr hk5)]
            rw [hv]
            clear hv hfit
            go_wp2_with fail
            refine (same_any w6 _ _ z3 cap4 _ d3 d3 true (fun j _ => HF.out j) (fun j _ => HF.out j) HM6.out HS6.out ⟨fun _ _ _ => rfl, fun _ => rfl⟩).mono ?_
            rintro e w' ⟨rfl, rfl⟩
            go_wp2
            go_ret
            exact ⟨rfl, HBB6.out⟩
          · have hz65 : (65536 : Int) < (z3 : Int) := by omega
            have hv : fitsOf k z3 = 3 := by unfold fitsOf; rw [if_neg (by omega), if_pos (by omega)]
            rw [hv]
            clear hv hfit
            go_wp2_with fail
            refine (same_any w6 _ _ z3 cap4 _ d3 d3 true (fun j _ => HF.out j) (fun j _ => HF.out j) HM6.out HS6.out ⟨fun _ _ _ => rfl, fun _ => rfl⟩).mono ?_
            rintro e w' ⟨rfl, rfl⟩
            go_wp2
            go_ret
            exact ⟨rfl, HBB6.out⟩
    · have HB5 : Hid (Below w3.heap.size w3 ((w4.setCell ⟨w3.heap.size, 0, none⟩ (.int .i64 k)).setCell ⟨w3.heap.size, 1, none⟩ (.slice (some ⟨g4, 0, none⟩) z3 cap4))) := Lib.hid ((((((Below.refl _ _).drew).alloc (Nat.le_refl _) _).trans (hb4.mono hsz1)).setCell (Nat.le_refl _) _).setCell (Nat.le_refl _) _)
      have HX5 : Hid (((w4.setCell ⟨w3.heap.size, 0, none⟩ (.int .i64 k)).setCell ⟨w3.heap.size, 1, none⟩ (.slice (some ⟨g4, 0, none⟩) z3 cap4)).heap[w3.heap.size]? = some (.cells #[.int .i64 k, .slice (some ⟨g4, 0, none⟩) z3 cap4] 24 (0, 0))) := Lib.hid (heap_setCell_same _ w3.heap.size 1 _ 24 _ (heap_setCell_same _ w3.heap.size 0 _ 24 _ (HZ7.out _ hb4)))
      have HO5 : Hid (((w4.setCell ⟨w3.heap.size, 0, none⟩ (.int .i64 k)).setCell ⟨w3.heap.size, 1, none⟩ (.slice (some ⟨g4, 0, none⟩) z3 cap4)).ownsRow w3.heap.size 5 1 (.slice (some ⟨g4, 0, none⟩) z3 cap4) z3 (rowB d3 z3)) := Lib.hid (own_kept2 (own_mono hown4 hsz1) (fun k hk => by have hk' : g4 = k := Option.some.inj hk; rw [← hk']; exact own_ne hown4 (HZ7.out _ hb4) (by decide)))
      clear hb4 hown4 q0 q1 fq c0' c1'
      generalize ((w4.setCell ⟨w3.heap.size, 0, none⟩ (.int .i64 k)).setCell ⟨w3.heap.size, 1, none⟩ (.slice (some ⟨g4, 0, none⟩) z3 cap4)) = w5 at *
      obtain ⟨Q, eQ⟩ : ∃ Q, Q = w3.heap.size := ⟨_, rfl⟩
      rw [← eQ] at HX5 ⊢
      clear eQ
      have HBB5 := Lib.hid (HB3.out.trans (HB5.out.mono HB3.out.size))
      have HQ5 := Lib.hid ((HB5.out.block _ hl3).trans HQ3.out)
      have hQ : Q < w5.heap.size := by
        rcases Nat.lt_or_ge Q w5.heap.size with h' | h'
        · exact h'
        · have := HX5.out; rw [Array.getElem?_eq_none h'] at this; cases this
      have hl5 : w.heap.size < w5.heap.size := Nat.lt_of_lt_of_le hl3 HB5.out.size
      have HS5 := Lib.hid (HS3.out.below HB5.out)
      have HM5 := Lib.hid (own_src HO5.out)
      obtain ⟨⟨m0, m1⟩, _⟩ := zcells HX5.out
      have HX5' := HX5
      clear HK HCP HZ7 HB3 HB5 HO5 HQ3 HS3 hsz1
      by_cases hfit : 0 ≤ k ∧ k ≤ 255 ∧ z3 ≤ 65536
      · obtain ⟨kn, hkn⟩ : ∃ kn : Nat, k = (kn : Int) := ⟨k.toNat, by omega⟩
        subst hkn
        have hk2 : kn < 256 := by omega
        have hz65 : z3 ≤ 65536 := hfit.2.2
        have hka : ¬ (kn : Int) < 0 := by omega
        have hkb : ¬ (255 : Int) < (kn : Int) := by omega
        have hkc : ¬ (65536 : Int) < (z3 : Int) := by omega
        obtain ⟨rd0, rd1, rd2, rd3⟩ := frm_read kn z3 d3 (frm kn z3 d3) (12 + z3) hk2 hz65 (Nat.le_refl _) (fun _ _ => rfl)
        have HR0 := Lib.hid rd0
        have HR1 := Lib.hid rd1
        have HR2 := Lib.hid rd2
        have HR3 := Lib.hid rd3
        clear hfit rd0 rd1 rd2 rd3
        go_wp2_with fail
        refine (encode_ok kn _ z3 cap4 d3 w5 hk2 hz65 HF.out HM5.out (fun h => by cases h)).mono ?_
        rintro e w6 ⟨g6, cp6, rfl, ho6, hb6⟩
        have HS6 := Lib.hid (HS5.out.below hb6)
        have HM6 := Lib.hid (HM5.out.below hb6)
        have HO6 := Lib.hid (own_src ho6)
        have hcp6 := (own_cap ho6).1
        have HQ6 := Lib.hid ((hb6.block _ hl5).trans HQ5.out)
        obtain ⟨⟨q0, q1⟩, _⟩ := zcells HQ6.out
        obtain ⟨⟨r0, r1⟩, _⟩ := zcells ((hb6.block _ hQ).trans HX5'.out)
        have hl6 : w.heap.size < w6.heap.size := Nat.lt_of_lt_of_le hl5 hb6.size
        have HBB6 := Lib.hid (HBB5.out.trans (hb6.mono HBB5.out.size))
        clear ho6 hb6 HS5 HM5 HX5 HX5' HQ5 m0 m1 HBB5
        go_wp2_with fail
        refine (same_any w6 _ _ z3 cap4 _ d3 d3 true (fun j _ => HF.out j) (fun j _ => HF.out j) HM6.out HS6.out ⟨fun _ _ _ => rfl, fun _ => rfl⟩).mono ?_
        rintro e w' ⟨rfl, rfl⟩
        go_wp2_with fail
        refine (decode_any _ (12 + z3) cp6 (frm kn z3 d3) w6 (frm_lt kn z3 d3 HF.out) hcp6 HO6.out).mono ?_
        rintro e w7 ⟨hb7, hres⟩
        rcases hres with ⟨hne, _⟩ | ⟨heq, sp', cap', rfl, hown7, hsp7⟩
        · exact absurd HR0.out hne
        · rw [HR1.out, HR2.out]
          rw [HR2.out] at hown7 hsp7
          have HW8 : Hid (Below w6.heap.size w6 (w7.alloc (.cells #[.int .i64 (kn : Int), .slice sp' z3 cap'] 24))) := Lib.hid (hb7.alloc hb7.size _)
          have HG8 : Hid (Src (w7.alloc (.cells #[.int .i64 (kn : Int), .slice sp' z3 cap'] 24)) sp' z3 (fun j => frm kn z3 d3 (12 + j))) := Lib.hid ((own_src hown7).below ((Below.refl _ _).alloc (Nat.le_refl _) _))
          have hX8 := heap_alloc_new w7 (.cells #[.int .i64 (kn : Int), .slice sp' z3 cap'] 24)
          have hl8 : w7.heap.size < (w7.alloc (.cells #[.int .i64 (kn : Int), .slice sp' z3 cap'] 24)).heap.size := by simp
          have HX8 := Lib.hid hX8
          have HS8 := Lib.hid (HS6.out.below HW8.out)
          have HQ8 := Lib.hid ((HW8.out.block _ hl6).trans HQ6.out)
          obtain ⟨⟨s0, s1⟩, _⟩ := zcells HQ8.out
          have hl68 : w.heap.size < (w7.alloc (.cells #[.int .i64 (kn : Int), .slice sp' z3 cap'] 24)).heap.size := Nat.lt_of_lt_of_le hl6 HW8.out.size
          have HO8 := Lib.hid (HO6.out.below HW8.out)
          have HBB8 := Lib.hid (HBB6.out.trans (HW8.out.mono HBB6.out.size))
          clear hX8 hown7 hb7 heq
          go_wp2_with fail
          refine (text_any kn _ z3 _ d3 _ hk2 hz65 HF.out HS8.out HPN.out).mono ?_
          rintro e w9 ⟨g9, cp9, rfl, ho9, hb9⟩
          have HO9 := Lib.hid (own_src ho9)
          have HOb := Lib.hid (HO8.out.below hb9)
          have HS9 := Lib.hid (HS8.out.below hb9)
          have HG9 := Lib.hid (HG8.out.below hb9)
          obtain ⟨⟨t0, t1⟩, _⟩ := zcells ((hb9.block _ hl68).trans HQ8.out)
          obtain ⟨⟨t2, t3⟩, _⟩ := zcells ((hb9.block _ hl8).trans HX8.out)
          have HBB9 := Lib.hid (HBB8.out.trans (hb9.mono HBB8.out.size))
          clear ho9 hb9 s0 s1
          go_wp2_with fail
          refine (same_any w9 _ _ (12 + z3) cp6 cp9 (frm kn z3 d3) (frm kn z3 d3) true (fun j _ => frm_lt kn z3 d3 HF.out j) (fun j _ => frm_lt kn z3 d3 HF.out j) HOb.out HO9.out ⟨fun _ _ _ => rfl, fun _ => rfl⟩).mono ?_
          rintro e w' ⟨rfl, rfl⟩
          go_wp2_with fail
          refine (lsame_any (kn : Int) (kn : Int) _ sp' z3 _ cap' d3 (fun j => frm kn z3 d3 (12 + j)) w9 (fun j _ => HF.out j) (fun j _ => frm_lt kn z3 d3 HF.out _) HS9.out HG9.out rfl (fun j hj => (HR3.out j hj).symm)).mono ?_
          rintro e w10 ⟨rfl, hb10⟩
          have HB10 := Lib.hid (HBB9.out.trans (hb10.mono HBB9.out.size))
          clear hb10
          go_wp2
          go_ret
          exact ⟨rfl, HB10.out⟩
      · have hne : ¬ fitsOf k z3 = 0 := by
          unfold fitsOf
          split
          · decide
          · split
            · decide
            · omega
        go_wp2_with fail
        refine (encode_no k _ z3 cap4 w5 (by omega) hne).mono ?_
        rintro e w6 ⟨rfl, hb6⟩
        have HS6 := Lib.hid (HS5.out.below hb6)
        have HM6 := Lib.hid (HM5.out.below hb6)
        obtain ⟨⟨q0, q1⟩, _⟩ := zcells ((hb6.block _ hl5).trans HQ5.out)
        obtain ⟨⟨r0, r1⟩, _⟩ := zcells ((hb6.block _ hQ).trans HX5'.out)
        have HBB6 := Lib.hid (HBB5.out.trans (hb6.mono HBB5.out.size))
        clear hb6 hne HS5 HM5 HX5 HX5' HQ5 m0 m1 HBB5
        by_cases hk1 : k < 0
        · have hv : fitsOf k z3 = 14 := by unfold fitsOf; rw [if_pos (.inl hk1)]
          rw [hv]
          clear hv hfit
          go_wp2_with fail
          refine (same_any w6 _ _ z3 cap4 _ d3 d3 true (fun j _ => HF.out j) (fun j _ => HF.out j) HM6.out HS6.out ⟨fun _ _ _ => rfl, fun _ => rfl⟩).mono ?_
          rintro e w' ⟨rfl, rfl⟩
          go_wp2
          go_ret
          exact ⟨rfl, HBB6.out⟩
        · by_cases hk5 : 255 < k
          · have hv : fitsOf k z3 = 14 := by unfold fitsOf; rw [if_pos (.inr hk5)]
            rw [hv]
            clear hv hfit
            go_wp2_with fail
            refine (same_any w6 _ _ z3 cap4 _ d3 d3 true (fun j _ => HF.out j) (fun j _ => HF.out j) HM6.out HS6.out ⟨fun _ _ _ => rfl, fun _ => rfl⟩).mono ?_
            rintro e w' ⟨rfl, rfl⟩
            go_wp2
            go_ret
            exact ⟨rfl, HBB6.out⟩
          · have hz65 : (65536 : Int) < (z3 : Int) := by omega
            have hv : fitsOf k z3 = 3 := by unfold fitsOf; rw [if_neg (by omega), if_pos (by omega)]
            rw [hv]
            clear hv hfit
            go_wp2_with fail
            refine (same_any w6 _ _ z3 cap4 _ d3 d3 true (fun j _ => HF.out j) (fun j _ => HF.out j) HM6.out HS6.out ⟨fun _ _ _ => rfl, fun _ => rfl⟩).mono ?_
            rintro e w' ⟨rfl, rfl⟩
            go_wp2
            go_ret
            exact ⟨rfl, HBB6.out⟩

theorem writes_main (k : Int) (sp : Option Addr) (z cap : Nat) (d : Nat → Nat) (lg : Int) (w : World) (hz : z ≤ 1048576) (hd : ∀ j, d j < 256) (hs : Src w sp z d) (hsp : sp = none → z = 0 ∧ cap = 0) :
    Calls Try.prog 3 #[.agg #[.int .i64 k, .slice sp z cap], .int .i64 lg] w fun e w' => e = .returned (.bool true) ∧ Below w.heap.size w w' := by
  by_cases h : 0 < lg ∧ lg < 4
  · exact writes_long k sp z cap d lg w hz hd hs hsp h
  · exact writes_short k sp z cap d lg w hz hd hs hsp h
end Go.Proofs.Ytgplannipnceeaa
