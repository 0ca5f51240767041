/-
  FlawsAll's walk.
-/
import Derived.Test.YteobndfkkpfnlaaFs
import Derived.Test.YteobndfkkpfnlaaFm
namespace Go.Proofs.Yteobndfkkpfnlaa
open Go.ChangeShapes Go.WideShapes Go.ChangeAt Go.RowKit
set_option linter.unusedVariables false

theorem own34_ops {w : World} {base n cap : Nat} {sp : Option Addr} {o : Nat → O3} (h : w.ownsRow base 34 3 (.slice sp n cap) n (rowO o n)) : OpS w sp n o := by
  intro hn
  obtain ⟨g, cap', e, _, hl⟩ := h.form hn
  injection e with e1 e2 e3
  subst e1
  refine ⟨g, 0, rfl, hl, fun i hi => ?_⟩
  obtain ⟨g0, g1, g2⟩ := rowO_get o n i hi
  have h0 := (h.cellAt (i * 3) (by omega)).trans g0
  have h1 := (h.cellAt (i * 3 + 1) (by omega)).trans g1
  have h2 := (h.cellAt (i * 3 + 2) (by omega)).trans g2
  simp only [Nat.zero_add]
  exact ⟨h0, h1, h2⟩
/-- bools in a slice that may be anybody's -/
def BoS (w : World) (a : Option Addr) (n : Nat) (S : Nat → Bool) : Prop :=
  0 < n → ∃ b off, a = some ⟨b, off, none⟩ ∧ b < w.heap.size ∧ ∀ i, i < n → w.cell? ⟨b, off + i, none⟩ = some (.bool (S i))
theorem own4_bools {w : World} {base n cap : Nat} {sp : Option Addr} {S : Nat → Bool} (h : w.ownsRow base 4 1 (.slice sp n cap) n (rowB S n)) : BoS w sp n S := by
  intro hn
  obtain ⟨g, cap', e, _, hl⟩ := h.form hn
  injection e with e1 e2 e3
  subst e1
  refine ⟨g, 0, rfl, hl, fun i hi => ?_⟩
  have h0 := (h.cellAt i (by omega)).trans (rowW_get _ _ _ hi)
  simpa using h0

set_option maxRecDepth 100000 in
set_option maxHeartbeats 4000000 in
theorem fall_law (a : Option Addr) (len cap : Nat) (E : Nat → Ev) (w : World) (hs : EvS w a len E) :
    Calls Try.prog 3 #[.slice a len cap] w (fun e w' => e = .returned (.bool true) ∧ Below w.heap.size w w') := by
  have HS := Lib.hid hs
  have HO := Lib.hid (head_any w)
  clear hs
  go_enter Try.func3, Try.ntmps3
  go_wp2_with fail
  refine HO.out.mono ?_
  rintro e w1 ⟨rfl, hb⟩
  have HB1 := Lib.hid hb
  have HG := Lib.hid (big_any a len cap E w1 (HS.out.below hb))
  clear hb HO
  go_wp2_with fail
  refine HG.out.mono ?_
  rintro e w2 ⟨bg, rfl, hbg, hb⟩
  have HB2 := Lib.hid (HB1.out.trans (hb.mono HB1.out.size))
  clear hb HG HB1
  cases bg with
  | true =>
    go_wp2
    go_ret
    exact ⟨rfl, HB2.out⟩
  | false =>
    obtain ⟨hl, hn⟩ := not_big hbg rfl
    have HOF := Lib.hid (of_r a len cap E w2 (fun i hi => Nat.le_trans (hn i hi) (by omega)) (HS.out.below HB2.out))
    clear hbg hn
    go_wp2_with fail
    refine HOF.out.mono ?_
    rintro e w3 ⟨m, sp, cp, ix, er, rfl, hb, hg⟩
    have HB3 := Lib.hid (HB2.out.trans (hb.mono HB2.out.size))
    clear hb HOF HB2
    by_cases her : er = 0
    · subst her
      obtain ⟨hgood, hm, hx, ht, _⟩ := hg rfl
      have hu := uq_of hgood
      rw [← hm] at hu
      have HT := Lib.hid ht
      have HX := Lib.hid hx
      have HU := Lib.hid hu
      clear hg ht hx hm hu hgood
      generalize (stateAt E len).T = T at *
      have hm4 := HX.out.ok.cnt
      have hlf : (flL T m).length ≤ 40000 := Nat.le_trans (flT_le T m _ _ HX.out.ok.n) (by omega)
      have HA := Lib.hid (all_any sp m cp T w3 HT.out HX.out.ok)
      go_wp2_with fail
      refine HA.out.mono ?_
      rintro e w4 ⟨sb, cb, rfl, ho, hb⟩
      have HB4 := Lib.hid (HB3.out.trans (hb.mono HB3.out.size))
      have HT4 := Lib.hid (HT.out.below hb)
      have HO4 := Lib.hid (own33_ops ho)
      have HRF := Lib.hid (rflaws_any sp m cp T w4 HT4.out HX.out HU.out)
      clear ho hb HA HT HB3
      go_wp2_with fail
      refine HRF.out.mono ?_
      rintro e w5 ⟨sa, ca, rfl, ho, hb⟩
      have HB5 := Lib.hid (HB4.out.trans (hb.mono HB4.out.size))
      have HT5 := Lib.hid (HT4.out.below hb)
      have HO5 := Lib.hid (HO4.out.below hb)
      have HP5 := Lib.hid (own34_ops ho)
      clear ho hb HRF HT4 HO4 HB4
      generalize flL T m = l at *
      have hll : ((l.length : Int) != (l.length : Int)) = false := by simp
      go_wp2
      go_loopw [2, 8, 35] (fun _ _ x wr => ∃ p : Nat, p ≤ l.length ∧ x = .int .i64 (p : Int) ∧ Hid (Below w5.heap.size w5 wr)) (fun _ _ x _ => l.length - (intOf x).toNat)
      case atStart => exact ⟨0, Nat.zero_le _, rfl, Lib.hid (Below.refl _ _)⟩
      case round =>
        obtain ⟨p, hp, rfl, HP⟩ := hrel
        by_cases hpl : p < l.length
        · obtain ⟨bb, ob, rfl, hbb, hcb⟩ := HO5.out (by omega)
          obtain ⟨ba, oa, rfl, hba, hca⟩ := HP5.out (by omega)
          obtain ⟨d0, d1, d2⟩ := hcb p hpl
          obtain ⟨e0, e1, e2⟩ := hca p hpl
          have x0 := (HP.out.cell (p := ⟨bb, ob + p * 3, none⟩) hbb).trans d0
          have x1 := (HP.out.cell (p := ⟨bb, ob + p * 3 + 1, none⟩) hbb).trans d1
          have x2 := (HP.out.cell (p := ⟨bb, ob + p * 3 + 2, none⟩) hbb).trans d2
          have y0 := (HP.out.cell (p := ⟨ba, oa + p * 3, none⟩) hba).trans e0
          have y1 := (HP.out.cell (p := ⟨ba, oa + p * 3 + 1, none⟩) hba).trans e1
          have y2 := (HP.out.cell (p := ⟨ba, oa + p * 3 + 2, none⟩) hba).trans e2
          have hpl' : (p : Int) < (l.length : Int) := by omega
          clear d0 d1 d2 e0 e1 e2 hcb hca
          generalize lf l p = fo at *
          obtain ⟨fk, fkey, fv⟩ := fo
          dsimp only at x0 x1 x2 y0 y1 y2
          have n0 : (fk != fk) = false := by simp
          have n1 : (fkey != fkey) = false := by simp
          have n2 : (fv != fv) = false := by simp
          go_wp2
          go_quiet (fail)
          go_wp2
          go_roundw
          case rel => exact ⟨p + 1, by omega, by go_num, Lib.hid (below_drewN HP.out _)⟩
          case measure => simp [intOf]; omega
        · obtain rfl : p = l.length := by omega
          have HBP := Lib.hid (HB5.out.trans (HP.out.mono HB5.out.size))
          have HTP := Lib.hid (HT5.out.below HP.out)
          clear HP HT5 HO5 HP5 HB5
          obtain ⟨wz, ewz⟩ : ∃ wz, wz = wr := ⟨_, rfl⟩
          rw [← ewz] at HBP HTP ⊢
          clear ewz
          have HSU := Lib.hid (sure_any sp m cp T wz HTP.out HX.out.ok)
          go_wp2_with fail
          refine HSU.out.mono ?_
          rintro e w7 ⟨gs, rfl, hm7, hb⟩
          have HB7 := Lib.hid (HBP.out.trans (hb.mono HBP.out.size))
          have HM7 := Lib.hid hm7
          have HRS := Lib.hid (rsure_any sp m cp T w7 (HTP.out.below hb) HX.out HU.out)
          clear hm7 hb HSU HBP HTP
          go_wp2_with fail
          refine HRS.out.mono ?_
          rintro e w8 ⟨sr, cr, rfl, ho, hb⟩
          have HB8 := Lib.hid (HB7.out.trans (hb.mono HB7.out.size))
          have HM8 := Lib.hid (HM7.out.keep (hb.block _ HM7.out.lt.2))
          have HR8 := Lib.hid (own4_bools ho)
          clear ho hb HRS HM7 HB7
          generalize suL T m = SU at *
          have hmm : ((m : Int) != (m : Int)) = false := by simp
          go_wp2
          go_loopw [2, 11, 87] (fun _ _ x wr => ∃ r : Nat, r ≤ m ∧ x = .int .i64 (r : Int) ∧ Hid (Below w8.heap.size w8 wr)) (fun _ _ x _ => m - (intOf x).toNat)
          case atStart => exact ⟨0, Nat.zero_le _, rfl, Lib.hid (Below.refl _ _)⟩
          case round =>
            obtain ⟨r, hr, rfl, HR⟩ := hrel
            by_cases hrm : r < m
            · obtain ⟨bb, ob, rfl, hbb, hcb⟩ := HR8.out (by omega)
              have y0 := (HR.out.cell (p := ⟨bb, ob + r, none⟩) hbb).trans (hcb r hrm)
              have x0 := (HM8.out.keep (HR.out.block _ HM8.out.lt.2)).cell hrm
              have hrm' : (r : Int) < (m : Int) := by omega
              clear hcb
              generalize SU r = sb_ at *
              have n0 : (sb_ != sb_) = false := by simp
              go_wp2
              go_quiet (fail)
              go_wp2
              go_roundw
              case rel => exact ⟨r + 1, by omega, by go_num, Lib.hid (below_drewN HR.out _)⟩
              case measure => simp [intOf]; omega
            · obtain rfl : r = m := by omega
              have HBE := Lib.hid (HB8.out.trans (HR.out.mono HB8.out.size))
              clear HR
              go_wp2
              go_ret
              exact ⟨rfl, HBE.out⟩
    · have heb : (er != 0) = true := bne_iff_ne.2 her
      clear hg
      go_wp2
      go_ret
      exact ⟨rfl, HB3.out⟩
end Go.Proofs.Yteobndfkkpfnlaa
