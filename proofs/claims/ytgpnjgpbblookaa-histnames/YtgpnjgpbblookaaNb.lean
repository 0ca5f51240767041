/-
  HistNames' walk.
-/
import Derived.Test.YtgpnjgpbblookaaNa
import Derived.IntWalk
namespace Go.Proofs.Ytgpnjgpbblookaa
open Go.ChangeShapes Go.WideShapes Go.ChangeAt Go.RowKit

theorem and15 (x : Int) : 0 ≤ bits .and .i64 x 15 ∧ bits .and .i64 x 15 ≤ 15 := by
  have hle : ((BitVec.ofInt 64 x).toNat &&& 15) ≤ 15 := Nat.and_le_right
  have h : bits .and .i64 x 15 = (((BitVec.ofInt 64 x).toNat &&& 15 : Nat) : Int) := by
    unfold bits
    show IntKind.i64.wrap (((BitVec.ofInt 64 x) &&& (BitVec.ofInt 64 15)).toNat : Int) = _
    rw [BitVec.toNat_and, show (BitVec.ofInt 64 15).toNat = 15 by decide]
    exact IntWalk.i64_in _ (by omega)
  rw [h]
  omega

set_option maxRecDepth 100000 in
set_option maxHeartbeats 4000000 in
theorem names_main (a : Option Addr) (len cap : Nat) (E : Nat → Ev) (turn : Int) (w : World) (hlen : len ≤ 9223372036854775807) (hs : EvS w a len E) :
    Calls Try.prog 6 #[.slice a len cap, .int .i64 turn] w fun e w' => e = .returned (.bool true) ∧ Below w.heap.size w w' := by
  have HS := Lib.hid hs
  clear hs
  go_enter Try.func6, Try.ntmps6
  go_wp2_with fail
  refine (head_any _).mono ?_
  rintro e w1 ⟨rfl, hb1⟩
  have HB1 := Lib.hid hb1
  clear hb1
  go_wp2_with fail
  refine (big_any a len cap E w1 (HS.out.below HB1.out)).mono ?_
  rintro e w2 ⟨bb, rfl, hiff, hb2⟩
  have HB2 := Lib.hid (HB1.out.trans (hb2.mono HB1.out.size))
  have HIF := Lib.hid hiff
  clear hb2 hiff HB1
  cases bb
  · have hl5 : len ≤ 500 := by
      rcases Nat.lt_or_ge 500 len with h | h
      · have := HIF.out.2 (.inl h); cases this
      · exact h
    have HNB : Hid (∀ i, i < len → (E i).n ≤ 1000) := Lib.hid fun i hi => by
      rcases Nat.lt_or_ge 30 (E i).n with h | h
      · have := HIF.out.2 (.inr ⟨i, hi, h⟩); cases this
      · omega
    go_wp2_with fail
    refine (of_q a len cap E w2 hlen (HS.out.below HB2.out)).mono ?_
    rintro e w3 ⟨m, sp, cp, i, er, T, V, rfl, hm4, hi4, hrow, hops, hb3, hfact⟩
    have HB3 := Lib.hid (HB2.out.trans (hb3.mono HB2.out.size))
    have HRW := Lib.hid hrow
    have HOP := Lib.hid hops
    have HF := Lib.hid hfact
    clear hb3 hrow hops hfact
    go_wp2_with fail
    refine (copy_any a len cap E w3 (by omega) HNB.out (HS.out.below HB3.out)).mono ?_
    rintro e w4 ⟨v5, V5, rfl, hE4, hb4⟩
    have HW4 := Lib.hid hb4
    have HB4 := Lib.hid (HB3.out.trans (hb4.mono HB3.out.size))
    obtain ⟨s5, c5, rfl⟩ := own_form' hE4.row
    have HE4 := Lib.hid hE4
    clear hb4 hE4
    obtain ⟨d, hd, hd0, hd1⟩ : ∃ d : Int, bits BinOp.and IntKind.i64 turn 15 = d ∧ 0 ≤ d ∧ d ≤ 15 := ⟨_, rfl, and15 turn⟩
    go_wp2
    go_loopw [9, 28] (fun _ x ws => ∃ t : Nat, t ≤ len ∧ x = .int .i64 (t : Int) ∧ Hid (Below w3.heap.size w3 ws ∧ EvO ws w3.heap.size (.slice s5 len c5) len (mixE d E t) V5)) (fun _ x _ => len - (intOf x).toNat)
    case atStart => exact ⟨0, Nat.zero_le _, rfl, Lib.hid ⟨HW4.out, HE4.out.congr fun j _ => by unfold mixE; rw [if_neg (by omega)]⟩⟩
    case round =>
      obtain ⟨t, ht, rfl, HT⟩ := hrel
      by_cases hlt : t < len
      · obtain ⟨g, cg, evg, hgb, hgl⟩ := HT.out.2.row.form (by omega)
        injection evg with ev1 ev2 ev3
        subst ev1
        clear ev2 ev3
        obtain ⟨_, r1, _⟩ := rowT_get (fun i => asT (mixE d E t i)) V5 len t hlt
        have y1 := (HT.out.2.row.cellAt (t * 3 + 1) (by omega)).trans r1
        have f1 := HT.out.2.row.frozenAt (t * 3 + 1)
        have hmc : (asT (mixE d E t t)).st = (E t).c := by unfold mixE asT; rw [if_neg (by omega)]
        rw [hmc] at y1
        have hlt' : (t : Int) < (len : Int) := by omega
        clear r1 hmc
        by_cases hc : 1 ≤ (E t).c ∧ (E t).c ≤ 16
        · have HN : Hid (ren d (E t).c = 1 + ((E t).c - 1 + d) % 16) := Lib.hid (if_pos hc)
          obtain ⟨h1, h2⟩ := hc
          generalize hec : (E t).c = ec at *
          have HEC := Lib.hid hec
          clear hec
          have hte : (ec - 1 + d).tmod 16 = (ec - 1 + d) % 16 := Int.tmod_eq_emod_of_nonneg (by omega)
          go_wp2
          go_roundw
          case rel => exact ⟨t + 1, by omega, by go_num, Lib.hid ⟨HT.out.1.setCell hgb _, by
            have h := HT.out.2.client t (ren d ec)
            rw [← HEC.out, mixE_step] at h
            rw [HEC.out, HN.out] at h
            exact h⟩⟩
          case measure => simp [intOf]; omega
        · have HN := Lib.hid (mixE_stay d E t hc)
          by_cases h1 : 1 ≤ (E t).c
          · have h2 : ¬ (E t).c ≤ 16 := fun h => hc ⟨h1, h⟩
            clear hc
            generalize (E t).c = ec at *
            go_wp2
            go_roundw
            case rel => exact ⟨t + 1, by omega, by go_num, Lib.hid ⟨HT.out.1, by rw [HN.out]; exact HT.out.2⟩⟩
            case measure => simp [intOf]; omega
          · clear hc
            generalize (E t).c = ec at *
            go_wp2
            go_roundw
            case rel => exact ⟨t + 1, by omega, by go_num, Lib.hid ⟨HT.out.1, by rw [HN.out]; exact HT.out.2⟩⟩
            case measure => simp [intOf]; omega
      · obtain rfl : len = t := by omega
        obtain ⟨wq, hwq⟩ : ∃ wq, wq = wr := ⟨_, rfl⟩
        subst hwq
        have HEQ : Hid (EvS wq s5 len (renE d E)) := Lib.hid ((HT.out.2.congr fun j hj => by unfold mixE; rw [if_pos hj]).evs)
        have HWQ := Lib.hid HT.out.1
        clear HT
        go_wp2_with fail
        refine (of_q s5 len c5 (renE d E) wq (by omega) HEQ.out).mono ?_
        rintro e w5 ⟨m', sp', cp', i', er', T', V', rfl, hm4', hi4', hrow', hops', hb5, hfact'⟩
        obtain ⟨em, ei, eer, hT⟩ := fact_ren HF.out hfact'
        obtain rfl : m = m' := em.symm
        obtain rfl : i = i' := ei.symm
        obtain rfl : er = er' := eer.symm
        have HRW' := Lib.hid hrow'
        have HOP' := Lib.hid hops'
        have HTT := Lib.hid hT
        have HW5 := Lib.hid (HWQ.out.trans (hb5.mono HWQ.out.size))
        have HB5 := Lib.hid (HB3.out.trans (HW5.out.mono HB3.out.size))
        clear hrow' hops' hT hfact' hb5 em ei eer
        have e1 : (er != er) = false := by simp
        have e2 : ((i : Int) != (i : Int)) = false := by simp
        have e3 : ((m : Int) != (m : Int)) = false := by simp
        go_wp2
        go_loopw [13, 84] (fun _ x ws => ∃ u : Nat, u ≤ m ∧ x = .int .i64 (u : Int) ∧ Hid (Below w5.heap.size w5 ws)) (fun _ x _ => m - (intOf x).toNat)
        case atStart => exact ⟨0, Nat.zero_le _, rfl, Lib.hid (Below.refl _ _)⟩
        case round =>
          obtain ⟨u, hu, rfl, HU⟩ := hrel
          by_cases hul : u < m
          · obtain ⟨g, cg, evg, _, hgl⟩ := HRW.out.form (by omega)
            injection evg with ev1 ev2 ev3
            subst ev1
            clear ev2 ev3
            obtain ⟨g', cg', evg, _, hgl'⟩ := HRW'.out.form (by omega)
            injection evg with ev1 ev2 ev3
            subst ev1
            clear ev2 ev3
            obtain ⟨r0, r1, r2⟩ := rowT_get T V m u hul
            obtain ⟨r0', r1', r2'⟩ := rowT_get T' V' m u hul
            obtain ⟨⟨hc1, hc2⟩, hren⟩ := HTT.out u hul
            obtain ⟨spa, cpa, ea, hoa, hna⟩ := HOP.out u hul
            obtain ⟨spb, cpb, eb, hob, hnb⟩ := HOP'.out u hul
            rw [hren] at r0' r1' eb hob
            rw [ea] at r2
            rw [eb] at r2'
            have hWU := HW5.out.trans (HU.out.mono HW5.out.size)
            have y0 := (hWU.cell (p := ⟨g, u * 3, none⟩) hgl).trans ((HRW.out.cellAt (u * 3) (by omega)).trans r0)
            have y1 := (hWU.cell (p := ⟨g, u * 3 + 1, none⟩) hgl).trans ((HRW.out.cellAt (u * 3 + 1) (by omega)).trans r1)
            have y2 := (hWU.cell (p := ⟨g, u * 3 + 2, none⟩) hgl).trans ((HRW.out.cellAt (u * 3 + 2) (by omega)).trans r2)
            have z0 := (HU.out.cell (p := ⟨g', u * 3, none⟩) hgl').trans ((HRW'.out.cellAt (u * 3) (by omega)).trans r0')
            have z1 := (HU.out.cell (p := ⟨g', u * 3 + 1, none⟩) hgl').trans ((HRW'.out.cellAt (u * 3 + 1) (by omega)).trans r1')
            have z2 := (HU.out.cell (p := ⟨g', u * 3 + 2, none⟩) hgl').trans ((HRW'.out.cellAt (u * 3 + 2) (by omega)).trans r2')
            have HOA := Lib.hid (hoa.below hWU)
            have HOB := Lib.hid (hob.below HU.out)
            have hrc : (renT d (T u)).c = 1 + ((T u).c - 1 + d) % 16 := if_pos ⟨hc1, hc2⟩
            rw [hrc] at z0
            have hul1 : (u : Int) < (m : Int) := by omega
            unfold renT at z1 z2 HOB
            dsimp only at z1 z2 HOB
            clear r0 r1 r2 r0' r1' r2' ea eb hoa hob hren hrc hnb hWU
            generalize (T u).c = tc at *
            generalize (T u).st = ts at *
            generalize (T u).n = tn at *
            generalize (T u).o = to at *
            have hw1 : IntKind.i64.wrap (tc - 1) = tc - 1 := IntWalk.i64_in _ (by omega)
            have hw2 : IntKind.i64.wrap (tc - 1 + d) = tc - 1 + d := IntWalk.i64_in _ (by omega)
            have hte : (tc - 1 + d).tmod 16 = (tc - 1 + d) % 16 := Int.tmod_eq_emod_of_nonneg (by omega)
            have hw3 : IntKind.i64.wrap (1 + (tc - 1 + d) % 16) = 1 + (tc - 1 + d) % 16 := IntWalk.i64_in _ (by omega)
            have hsb : (ts != ts) = false := by simp
            have hcb : ((1 + (tc - 1 + d) % 16) != (1 + (tc - 1 + d) % 16)) = false := by simp
            go_wp2
            go_quiet ((go_at_call 17; refine Calls.quiet_of (same_true _ _ _ to _ _ _ (by omega) (HOA.out.drewN _) (HOB.out.drewN _))))
            go_wp2
            go_roundw
            case rel => exact ⟨u + 1, by omega, by go_num, Lib.hid (below_drewN HU.out _)⟩
            case measure => simp [intOf]; omega
          · have hul1 : ¬ (u : Int) < (m : Int) := by omega
            go_wp2
            go_ret
            exact ⟨rfl, HB5.out.trans (HU.out.mono HB5.out.size)⟩
  · go_wp2
    go_ret
    exact ⟨rfl, HB2.out⟩
end Go.Proofs.Ytgpnjgpbblookaa
