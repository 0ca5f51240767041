/-
  BookReads' walk.
-/
import Derived.Test.YtaddmegghikhpaaFc
import Derived.IntWalk
namespace Go.Proofs.Ytaddmegghikhpaa
open Go.ChangeShapes Go.WideShapes Go.ChangeAt Go.RowKit

theorem evs_none (W : World) (E : Nat → Ev) : EvS W none 0 E := fun h => absurd h (by decide)
set_option maxRecDepth 100000 in
set_option maxHeartbeats 8000000 in
theorem reads_main (a : Option Addr) (n cap : Nat) (f : Nat → Nat) (w : World) (hm : n ≤ 9223372036854775807) (hf : ∀ j, f j < 256) (hs : Src w a n f) (hnil : a = none → n = 0 ∧ cap = 0) :
    Calls Try.prog 4 #[.slice a n cap] w fun e w' => e = .returned (.bool true) ∧ Below w.heap.size w w' := by
  have HS := Lib.hid hs
  have HF := Lib.hid hf
  have HNIL := Lib.hid hnil
  clear hs hf hnil
  by_cases hn3 : 2000 < n
  · have hn3' : (2000 : Int) < (n : Int) := by omega
    go_enter Try.func4, Try.ntmps4
    go_wp2_with fail
    refine (head_any _).mono ?_
    rintro e w1 ⟨rfl, hb1⟩
    have HB1 := Lib.hid hb1
    clear hb1
    go_wp2
    go_ret
    exact ⟨rfl, HB1.out⟩
  have hn3' : ¬ (2000 : Int) < (n : Int) := by omega
  go_enter Try.func4, Try.ntmps4
  go_wp2_with fail
  refine (head_any _).mono ?_
  rintro e w1 ⟨rfl, hb1⟩
  have HB1 := Lib.hid hb1
  clear hb1
  go_wp2_with fail
  refine (rcopy_own a n cap f w1 (by omega) (HS.out.below HB1.out) HNIL.out).mono ?_
  rintro e w2 ⟨s2, c2, rfl, ho2, hb2⟩
  have HB2 := Lib.hid (HB1.out.trans (hb2.mono HB1.out.size))
  have HO2 := Lib.hid (own_src ho2)
  clear hb2 ho2 HB1
  go_wp2_with fail
  refine (decode_any s2 n c2 f w2 (by omega) HF.out HO2.out).mono ?_
  rintro e w3 ⟨hb3, hres3⟩
  have HB3 := Lib.hid (HB2.out.trans (hb3.mono HB2.out.size))
  have HO3 := Lib.hid (HO2.out.below hb3)
  clear hb3 HB2 HO2
  have HSM : Hid (∃ (E : Nat → Ev) (len : Nat) (s3 : Option Addr) (c3 : Nat) (er : Int), e = .returned (.tuple #[.slice s3 len c3, .int .i64 er]) ∧ EvS w3 s3 len E ∧ len ≤ 400 ∧ (∀ i, i < len → Fit (E i)) ∧ ((er = 0 ∧ Bk f n E len) ∨ (¬ er = 0 ∧ len = 0 ∧ ErrB f n er))) := Lib.hid (by
    rcases hres3 with ⟨E, len, sp3, cap3, V, rfl, hG⟩ | ⟨er, her, rfl, hno⟩
    · exact ⟨E, len, sp3, cap3, 0, rfl, hG.2.1.evs, hG.1, hG.bk.2.1, .inl ⟨rfl, hG.bk⟩⟩
    · exact ⟨fun _ => ⟨0, 0, 0, fun _ => ⟨0, 0, 0⟩⟩, 0, none, 0, er, rfl, evs_none _ _, by omega, fun i hi => absurd hi (Nat.not_lt_zero _), .inr ⟨her, rfl, hno.1⟩⟩)
  clear hres3
  obtain ⟨E, len, s3, c3, er, rfl, hEv, hlen, hfit, hans⟩ := HSM.out
  have HEV := Lib.hid hEv
  have HFT := Lib.hid hfit
  have HAN := Lib.hid hans
  clear hEv hfit hans HSM
  go_wp2_with fail
  refine (rdec_any a n cap f w3 (by omega) HF.out (HS.out.below HB3.out)).mono ?_
  rintro e w4 ⟨hb4, hres4⟩
  have HB4 := Lib.hid (HB3.out.trans (hb4.mono HB3.out.size))
  have HO4 := Lib.hid (HO3.out.below hb4)
  have HEV4 := Lib.hid (HEV.out.below hb4)
  clear hb4 HB3 HO3 HEV
  have HSM : Hid (∃ (E' : Nat → Ev) (len' : Nat) (s4 : Option Addr) (c4 : Nat), e = .returned (.tuple #[.slice s4 len' c4, .int .i64 er]) ∧ EvS w4 s4 len' E' ∧ SameEv len len' E E') := Lib.hid (by
    rcases hres4 with ⟨E', len', sp4, cap4, V, rfl, hG⟩ | ⟨er', her', rfl, hno⟩
    · rcases HAN.out with ⟨rfl, hbk⟩ | ⟨_, _, hbad⟩
      · exact ⟨E', len', sp4, cap4, rfl, hG.2.1.evs, bl_inj hbk.2.2.1 hG.bk.2.2.1 hbk.2.1 hG.bk.2.1⟩
      · exact (errB_bk hbad hG.bk).elim
    · rcases HAN.out with ⟨_, hbk⟩ | ⟨_, hl, hbad⟩
      · exact (errB_bk hno.1 hbk).elim
      · obtain rfl := errB_one hbad hno.1
        exact ⟨fun _ => ⟨0, 0, 0, fun _ => ⟨0, 0, 0⟩⟩, 0, none, 0, rfl, evs_none _ _, hl, fun i hi => by omega⟩)
  clear hres4
  obtain ⟨E', len', s4, c4, rfl, hEv', hsame⟩ := HSM.out
  have HEV' := Lib.hid hEv'
  have HSA := Lib.hid hsame
  clear hEv' hsame HSM HAN
  have hrr : (er == er) = true := by simp
  go_wp2_with fail
  refine (sameE_any s3 len c3 E s4 len' c4 E' true w4 (by omega) (fun j hj => by have := (HFT.out j hj).2.2.2.2.1; omega) HEV4.out HEV'.out ⟨fun _ => HSA.out, fun _ => rfl⟩).mono ?_
  rintro e w6 ⟨rfl, q6, hq6⟩
  have HB6 : Hid (Below w.heap.size w w6) := Lib.hid (by rw [hq6]; exact bel_drewN HB4.out _)
  have HO6 : Hid (Src w6 s2 n f) := Lib.hid (by rw [hq6]; exact HO4.out.below (bel_drewN (Below.refl _ _) _))
  clear hq6 HB4 HO4
  go_wp2_with fail
  refine (sameB_any w6 s2 a n n c2 cap f f true HF.out HF.out HO6.out (HS.out.below HB6.out) ⟨fun _ => ⟨rfl, fun _ _ => rfl⟩, fun _ => rfl⟩).mono ?_
  rintro e w7 ⟨rfl, rfl⟩
  go_wp2
  go_ret
  exact ⟨rfl, HB6.out⟩
end Go.Proofs.Ytaddmegghikhpaa
