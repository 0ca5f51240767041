/-
  FlawsSources' walk.
-/
import Derived.Test.YteobndfkkpfnlaaFl
namespace Go.Proofs.Yteobndfkkpfnlaa
open Go.ChangeShapes Go.WideShapes Go.ChangeAt Go.RowKit
set_option linter.unusedVariables false

theorem not_big {len : Nat} {E : Nat → Ev} {b : Bool} (hb : b = true ↔ Big len E) (h : b = false) : len ≤ 120 ∧ ∀ i, i < len → (E i).n ≤ 12 := by
  subst h
  have hn : ¬ Big len E := fun h => by have := hb.2 h; cases this
  refine ⟨?_, fun i hi => ?_⟩
  · rcases Nat.lt_or_ge 120 len with h | h
    · exact absurd (.inl h) hn
    · exact h
  · rcases Nat.lt_or_ge 12 (E i).n with h | h
    · exact absurd (.inr ⟨i, hi, h⟩) hn
    · exact h

set_option maxRecDepth 100000 in
set_option maxHeartbeats 4000000 in
theorem sources_law (a : Option Addr) (len cap : Nat) (E : Nat → Ev) (key val : Int) (w : World) (hs : EvS w a len E) :
    Calls Try.prog 4 #[.slice a len cap, .int .i64 key, .int .i64 val] w (fun e w' => e = .returned (.bool true) ∧ Below w.heap.size w w') := by
  have HS := Lib.hid hs
  have HO := Lib.hid (head_any w)
  clear hs
  go_enter Try.func4, Try.ntmps4
  go_wp2_with fail
  refine HO.out.mono ?_
  rintro e w1 ⟨rfl, hb⟩
  have HB1 := Lib.hid hb
  have HG := Lib.hid (big_any a len cap E w1 (HS.out.below hb))
  clear hb HO
  go_wp2_with fail
  refine HG.out.mono ?_
  rintro e w2 ⟨bg, rfl, hbg, hb⟩
  have HB2 := Lib.hid (HB1.out.trans (hb.mono HB1.out.size))
  clear hb HG HB1
  cases bg with
  | true =>
    go_wp2
    go_ret
    exact ⟨rfl, HB2.out⟩
  | false =>
    obtain ⟨hl, hn⟩ := not_big hbg rfl
    have HOF := Lib.hid (of_r a len cap E w2 (fun i hi => Nat.le_trans (hn i hi) (by omega)) (HS.out.below HB2.out))
    clear hbg hn
    go_wp2_with fail
    refine HOF.out.mono ?_
    rintro e w3 ⟨m, sp, cp, ix, er, rfl, hb, hg⟩
    have HB3 := Lib.hid (HB2.out.trans (hb.mono HB2.out.size))
    clear hb HOF HB2
    by_cases her : er = 0
    · subst her
      obtain ⟨_, hm, hx, ht, _⟩ := hg rfl
      have HT := Lib.hid ht
      have HX := Lib.hid hx
      clear hg ht hx hm
      generalize (stateAt E len).T = T at *
      by_cases hv : val = 0
      · subst hv
        have HSZ := Lib.hid (source_zero sp m cp key w3)
        go_wp2_with fail
        refine HSZ.out.mono ?_
        rintro e w4 ⟨rfl, hb⟩
        have HB4 := Lib.hid (HB3.out.trans (hb.mono HB3.out.size))
        have HW := Lib.hid (writer_any sp m cp T key 0 w4 (HT.out.below hb) HX.out.ok)
        clear hb HSZ
        go_wp2_with fail
        refine HW.out.mono ?_
        rintro e w5 ⟨r, hr, rfl, hb⟩
        have HB5 := Lib.hid (HB4.out.trans (hb.mono HB4.out.size))
        clear hb HW hr
        rcases r with _ | i <;> (go_wp2; go_ret; exact ⟨rfl, HB5.out⟩)
      · have hvb : (val == 0) = false := beq_eq_false_iff_ne.2 hv
        have HSZ := Lib.hid (source_any sp m cp T key val w3 hv HT.out HX.out.ok)
        go_wp2_with fail
        refine HSZ.out.mono ?_
        rintro e w4 ⟨r, hr, rfl, hb⟩
        have HB4 := Lib.hid (HB3.out.trans (hb.mono HB3.out.size))
        have HW := Lib.hid (writer_any sp m cp T key val w4 (HT.out.below hb) HX.out.ok)
        have HR := Lib.hid hr
        clear hb HSZ hr
        go_wp2_with fail
        refine HW.out.mono ?_
        rintro e w5 ⟨q, hq, rfl, hb⟩
        have HB5 := Lib.hid (HB4.out.trans (hb.mono HB4.out.size))
        obtain rfl : q = r := hq.one HR.out
        clear hb HW hq HR
        cases q with
        | none =>
          go_wp2
          go_ret
          exact ⟨rfl, HB5.out⟩
        | some i =>
          have h0 : (0 : Int) ≤ (i : Int) := by omega
          have hii : ((i : Int) == (i : Int)) = true := by simp
          go_wp2
          go_ret
          exact ⟨rfl, HB5.out⟩
    · have heb : (er != 0) = true := bne_iff_ne.2 her
      clear hg
      go_wp2
      go_ret
      exact ⟨rfl, HB3.out⟩
end Go.Proofs.Yteobndfkkpfnlaa
