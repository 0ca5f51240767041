/-
  HistReads' walk.
-/
import Derived.Test.YtgpnjgpbblookaaRh
namespace Go.Proofs.Ytgpnjgpbblookaa
open Go.ChangeShapes Go.WideShapes Go.ChangeAt Go.RowKit

theorem fact_one {E : Nat → Ev} {len m m' i i' : Nat} {T T' : Nat → Tx} {er er' : Int} (h : Fact E len m T i er) (h' : Fact E len m' T' i' er') :
    m' = m ∧ i' = i ∧ er' = er ∧ ∀ j, j < m → T' j = T j := by
  rcases h with ⟨h4, rfl, rfl, rfl⟩ | ⟨h4, h⟩
  · rcases h' with ⟨_, rfl, rfl, rfl⟩ | ⟨g4, _⟩
    · exact ⟨rfl, rfl, rfl, fun j hj => absurd hj (Nat.not_lt_zero _)⟩
    · omega
  · rcases h' with ⟨g4, _⟩ | ⟨_, h'⟩
    · omega
    · rcases h with ⟨hi, hg, he, hne, rfl⟩ | ⟨hg, rfl, rfl, rfl, rfl⟩
      · rcases h' with ⟨hi', hg', he', hne', rfl⟩ | ⟨hg', rfl, rfl, rfl, rfl⟩
        · have hii : i' = i := by
            rcases Nat.lt_trichotomy i' i with h | h | h
            · exact absurd (err_one he' (hg i' h)) hne'
            · exact h
            · exact absurd (err_one he (hg' i h)) hne
          subst hii
          exact ⟨rfl, rfl, err_one he' he, fun j hj => absurd hj (Nat.not_lt_zero _)⟩
        · exact absurd (err_one he (hg' i hi)) hne
      · rcases h' with ⟨hi', hg', he', hne', rfl⟩ | ⟨hg', rfl, rfl, rfl, rfl⟩
        · exact absurd (err_one he' (hg i' hi')) hne'
        · exact ⟨rfl, rfl, rfl, fun j hj => rfl⟩

set_option maxRecDepth 100000 in
set_option maxHeartbeats 4000000 in
theorem reads_main (a : Option Addr) (len cap : Nat) (E : Nat → Ev) (w : World) (hs : EvS w a len E) :
    Calls Try.prog 3 #[.slice a len cap] w fun e w' => e = .returned (.bool true) ∧ Below w.heap.size w w' := by
  have HS := Lib.hid hs
  clear hs
  go_enter Try.func3, Try.ntmps3
  go_wp2_with fail
  refine (head_any _).mono ?_
  rintro e w1 ⟨rfl, hb1⟩
  have HB1 := Lib.hid hb1
  clear hb1
  go_wp2_with fail
  refine (big_any a len cap E w1 (HS.out.below HB1.out)).mono ?_
  rintro e w2 ⟨bb, rfl, hiff, hb2⟩
  have HB2 := Lib.hid (HB1.out.trans (hb2.mono HB1.out.size))
  have HIF := Lib.hid hiff
  clear hb2 hiff HB1
  cases bb
  · have hl5 : len ≤ 500 := by
      rcases Nat.lt_or_ge 500 len with h | h
      · have := HIF.out.2 (.inl h); cases this
      · exact h
    have HNB : Hid (∀ i, i < len → (E i).n ≤ 1000) := Lib.hid fun i hi => by
      rcases Nat.lt_or_ge 30 (E i).n with h | h
      · have := HIF.out.2 (.inr ⟨i, hi, h⟩); cases this
      · omega
    go_wp2_with fail
    refine (copy_any a len cap E w2 (by omega) HNB.out (HS.out.below HB2.out)).mono ?_
    rintro e w3 ⟨v5, V5, rfl, hE3, hb3⟩
    have HB3 := Lib.hid (HB2.out.trans (hb3.mono HB2.out.size))
    obtain ⟨s5, c5, rfl⟩ := own_form' hE3.row
    have HE3 := Lib.hid hE3.evs
    clear hb3 hE3
    go_wp2_with fail
    refine (of_q s5 len c5 E w3 (by omega) HE3.out).mono ?_
    rintro e w4 ⟨m, sp, cp, i, er, T, V, rfl, hm4, hi4, hrow, hops, hb4, hfact⟩
    have HB4 := Lib.hid (HB3.out.trans (hb4.mono HB3.out.size))
    have HE4 := Lib.hid (HE3.out.below hb4)
    have HX4 := Lib.hid (row_e3 (T' := T) hrow hops (fun j _ => rfl))
    have HF := Lib.hid hfact
    have HTN : Hid (∀ j, j < m → (asE (T j)).n ≤ 1000000) := Lib.hid fun j hj => by obtain ⟨_, _, _, _, h⟩ := hops j hj; show (T j).n ≤ 1000000; omega
    clear hb4 hrow hops hfact HE3
    go_wp2_with fail
    refine (refof_any a len cap E w4 HNB.out (HS.out.below HB4.out)).mono ?_
    rintro e w5 ⟨m', sp', cp', i', er', T', V', rfl, hm4', hi4', hrow', hops', hb5, hfact'⟩
    obtain ⟨em, ei, eer, hT⟩ := fact_one HF.out hfact'
    obtain rfl : m = m' := em.symm
    obtain rfl : i = i' := ei.symm
    obtain rfl : er = er' := eer.symm
    have HB5 := Lib.hid (HB4.out.trans (hb5.mono HB4.out.size))
    have HE5 := Lib.hid (HE4.out.below hb5)
    have HX5 := Lib.hid (HX4.out.below hb5)
    have HY5 := Lib.hid (row_e3 (T' := T) hrow' hops' hT)
    clear hrow' hops' hT hfact' hb5 em ei eer
    have e1 : (er == er) = true := by simp
    have e2 : ((i : Int) == (i : Int)) = true := by simp
    go_wp2_with fail
    refine (sameT_true sp m cp (fun j => asE (T j)) sp' cp' w5 (by omega) HTN.out HX5.out HY5.out).mono ?_
    rintro e w6 ⟨rfl, q6, hq6⟩
    have HB6 : Hid (Below w.heap.size w w6) := Lib.hid (by rw [hq6]; exact below_drewN HB5.out _)
    have HE6 : Hid (E3 w6 s5 len E) := Lib.hid (by rw [hq6]; exact (HE5.out.below (below_drewN (Below.refl _ _) _)).e3)
    clear hq6
    go_wp2_with fail
    refine (sameE_true s5 len c5 E a cap w6 (by omega) (fun j hj => by have := HNB.out j hj; omega) HE6.out (HS.out.below HB6.out).e3).mono ?_
    rintro e w7 ⟨rfl, q7, hq7⟩
    have HB7 : Hid (Below w.heap.size w w7) := Lib.hid (by rw [hq7]; exact below_drewN HB6.out _)
    clear hq7
    go_wp2
    go_ret
    exact ⟨rfl, HB7.out⟩
  · go_wp2
    go_ret
    exact ⟨rfl, HB2.out⟩
end Go.Proofs.Ytgpnjgpbblookaa
