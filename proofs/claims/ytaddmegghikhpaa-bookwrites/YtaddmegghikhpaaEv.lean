/-
  BookWrites' walk.
-/
import Derived.Test.YtaddmegghikhpaaEu
import Derived.IntWalk
namespace Go.Proofs.Ytaddmegghikhpaa
open Go.ChangeShapes Go.WideShapes Go.ChangeAt Go.RowKit

set_option maxRecDepth 100000 in
set_option maxHeartbeats 8000000 in
theorem writes_main (a : Option Addr) (len cap : Nat) (E : Nat → Ev) (w : World) (hs : EvS w a len E) :
    Calls Try.prog 3 #[.slice a len cap] w fun e w' => e = .returned (.bool true) ∧ Below w.heap.size w w' := by
  have HS := Lib.hid hs
  clear hs
  go_enter Try.func3, Try.ntmps3
  go_wp2_with fail
  refine (head_any _).mono ?_
  rintro e w1 ⟨rfl, hb1⟩
  have HB1 := Lib.hid hb1
  clear hb1
  go_wp2_with fail
  refine (big_any a len cap E w1 (HS.out.below HB1.out)).mono ?_
  rintro e w2 ⟨bb, rfl, hiff, hb2⟩
  have HB2 := Lib.hid (HB1.out.trans (hb2.mono HB1.out.size))
  have HIF := Lib.hid hiff
  clear hb2 hiff HB1
  cases bb
  · have hl5 : len ≤ 500 := by
      rcases Nat.lt_or_ge 500 len with h | h
      · have := HIF.out.2 (.inl h); cases this
      · exact h
    have HN : Hid (∀ i, i < len → (E i).n ≤ 30) := Lib.hid fun i hi => by
      rcases Nat.lt_or_ge 30 (E i).n with h | h
      · have := HIF.out.2 (.inr ⟨i, hi, h⟩); cases this
      · exact h
    clear HIF
    go_wp2_with fail
    refine (copy_any a len cap E w2 (by omega) (fun i hi => by have := HN.out i hi; omega) (HS.out.below HB2.out)).mono ?_
    rintro e w3 ⟨v3, V3, rfl, hO3, hb3⟩
    obtain ⟨s3, c3, rfl⟩ := own_form' hO3.row
    have HB3 := Lib.hid (HB2.out.trans (hb3.mono HB2.out.size))
    have HM3 := Lib.hid hO3.evs
    clear hO3 hb3 HB2
    go_wp2_with fail
    refine (encode_any s3 len c3 E w3 HM3.out).mono ?_
    rintro e w4 ⟨hb4, hres⟩
    have HB4 := Lib.hid (HB3.out.trans (hb4.mono HB3.out.size))
    have HM4 := Lib.hid (HM3.out.below hb4)
    have HZS : Hid (∀ W : World, Src W none 0 (fun _ => 0)) := Lib.hid fun W h => absurd h (by decide)
    clear hb4 HB3 HM3
    rcases hres with ⟨hl4, rfl⟩ | ⟨hl4, ⟨hno, rfl⟩ | ⟨hfit, g, n, F, rfl, hE⟩⟩
    · go_wp2_with fail
      refine (renc_many a len cap w4 hl4).mono ?_
      rintro e w5 ⟨rfl, rfl⟩
      go_wp2_with fail
      refine (sameB_any w4 none none 0 0 0 0 (fun _ => 0) (fun _ => 0) true (fun _ => by decide) (fun _ => by decide) (HZS.out _) (HZS.out _) ⟨fun _ => ⟨rfl, fun _ _ => rfl⟩, fun _ => rfl⟩).mono ?_
      rintro e w5 ⟨rfl, rfl⟩
      go_wp2_with fail
      refine (sameE_any s3 len c3 E a len cap E true w4 (by omega) (fun j hj => by have := HN.out j hj; omega) HM4.out (HS.out.below HB4.out) ⟨fun _ => sameEv_refl len E, fun _ => rfl⟩).mono ?_
      rintro e w6 ⟨rfl, q6, hq6⟩
      have HB6 : Hid (Below w.heap.size w w6) := Lib.hid (by rw [hq6]; exact bel_drewN HB4.out _)
      clear hq6
      go_wp2
      go_ret
      exact ⟨rfl, HB6.out⟩
    · go_wp2_with fail
      refine (renc_any a len cap E (fun _ => 0) w4 hl4 (HS.out.below HB4.out) (fun h => by obtain ⟨i, hi, hn⟩ := hno; exact absurd (h i hi) hn)).mono ?_
      rintro e w5 ⟨hb5, ⟨_, rfl⟩ | ⟨hall, _⟩⟩
      · have HB5 := Lib.hid (HB4.out.trans (hb5.mono HB4.out.size))
        have HM5 := Lib.hid (HM4.out.below hb5)
        clear hb5
        go_wp2_with fail
        refine (sameB_any w5 none none 0 0 0 0 (fun _ => 0) (fun _ => 0) true (fun _ => by decide) (fun _ => by decide) (HZS.out _) (HZS.out _) ⟨fun _ => ⟨rfl, fun _ _ => rfl⟩, fun _ => rfl⟩).mono ?_
        rintro e w6 ⟨rfl, rfl⟩
        go_wp2_with fail
        refine (sameE_any s3 len c3 E a len cap E true w5 (by omega) (fun j hj => by have := HN.out j hj; omega) HM5.out (HS.out.below HB5.out) ⟨fun _ => sameEv_refl len E, fun _ => rfl⟩).mono ?_
        rintro e w6 ⟨rfl, q6, hq6⟩
        have HB6 : Hid (Below w.heap.size w w6) := Lib.hid (by rw [hq6]; exact bel_drewN HB5.out _)
        clear hq6
        go_wp2
        go_ret
        exact ⟨rfl, HB6.out⟩
      · obtain ⟨i, hi, hn⟩ := hno
        exact absurd (hall i hi) hn
    · have HE := Lib.hid hE
      have HFT := Lib.hid hfit
      have HLB : Hid (n ≤ 100000) := Lib.hid (by
        have h1 := evsL_le E len hfit
        have h2 := numL_le len (by omega)
        have h3 := hE.2.2.1
        unfold BL at h3; rw [List.length_append] at h3; omega)
      clear hE hfit
      go_wp2_with fail
      refine (renc_any a len cap E F w4 hl4 (HS.out.below HB4.out) (fun _ => ⟨HE.out.2.2.2.2, HE.out.2.2.2.1⟩)).mono ?_
      rintro e w5 ⟨hb5, ⟨hno, _⟩ | ⟨_, g5, c5, rfl, hs5⟩⟩
      · obtain ⟨i, hi, hn⟩ := hno
        exact absurd (HFT.out i hi) hn
      · have HB5 := Lib.hid (HB4.out.trans (hb5.mono HB4.out.size))
        have HM5 := Lib.hid (HM4.out.below hb5)
        have HS5 := Lib.hid hs5
        have HQ5 := Lib.hid ((enc_src HE.out).below hb5)
        clear hb5 hs5
        go_wp2_with fail
        refine (sameB_any w5 _ _ n _ _ _ F F true HE.out.2.2.2.1.1 HE.out.2.2.2.1.1 HQ5.out HS5.out ⟨fun _ => ⟨HE.out.2.2.1, fun _ _ => rfl⟩, fun _ => rfl⟩).mono ?_
        rintro e w6 ⟨rfl, rfl⟩
        go_wp2_with fail
        refine (sameE_any s3 len c3 E a len cap E true w5 (by omega) (fun j hj => by have := HN.out j hj; omega) HM5.out (HS.out.below HB5.out) ⟨fun _ => sameEv_refl len E, fun _ => rfl⟩).mono ?_
        rintro e w6 ⟨rfl, q6, hq6⟩
        have HB6 : Hid (Below w.heap.size w w6) := Lib.hid (by rw [hq6]; exact bel_drewN HB5.out _)
        have HQ6 : Hid (Src w6 (some ⟨g, 0, none⟩) n F) := Lib.hid (by rw [hq6]; exact HQ5.out.below (bel_drewN (Below.refl _ _) _))
        clear hq6
        go_wp2_with fail
        refine (decode_any _ n n F w6 HLB.out HE.out.2.2.2.1.1 HQ6.out).mono ?_
        rintro e w7 ⟨hb7, hres7⟩
        have HB7 := Lib.hid (HB6.out.trans (hb7.mono HB6.out.size))
        clear hb7
        rcases hres7 with ⟨E7, len7, sp7, cap7, V7, rfl, hG⟩ | ⟨er, her, rfl, hnb⟩
        · have HG := Lib.hid hG
          have hl7 := hG.1
          clear hG
          go_wp2_with fail
          refine (sameE_any sp7 len7 cap7 E7 a len cap E true w7 (by omega) (fun j hj => by have := (HG.out.bk.2.1 j hj).2.2.2.2.1; omega) HG.out.2.1.evs (HS.out.below HB7.out) ⟨fun _ => bl_inj HG.out.bk.2.2.1 HE.out.2.2.2.2 HG.out.bk.2.1 HFT.out, fun _ => rfl⟩).mono ?_
          rintro e w8 ⟨rfl, q8, hq8⟩
          have HB8 : Hid (Below w.heap.size w w8) := Lib.hid (by rw [hq8]; exact bel_drewN HB7.out _)
          clear hq8
          go_wp2
          go_ret
          exact ⟨rfl, HB8.out⟩
        · exact (form_whole hl4 HFT.out HE.out.2.2.2.2 HE.out.2.2.2.1 HE.out.2.2.1 hnb).elim
  · go_wp2
    go_ret
    exact ⟨rfl, HB2.out⟩
end Go.Proofs.Ytaddmegghikhpaa
