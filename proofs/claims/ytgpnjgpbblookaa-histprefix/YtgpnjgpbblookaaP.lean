/-
  HistPrefix' walk.
-/
import Derived.Test.YtgpnjgpbblookaaO
import Derived.Test.YtgpnjgpbblookaaL
namespace Go.Proofs.Ytgpnjgpbblookaa
open Go.ChangeShapes Go.WideShapes Go.ChangeAt Go.RowKit

theorem EvS.front {w : World} {a : Option Addr} {len p : Nat} {E : Nat → Ev} (h : EvS w a len E) (hp : p ≤ len) : EvS w a p E := by
  intro hpos
  obtain ⟨b, off, e, hl, hc⟩ := h (by omega)
  exact ⟨b, off, e, hl, fun j hj => hc j (by omega)⟩

set_option maxRecDepth 100000 in
set_option maxHeartbeats 4000000 in
theorem prefix_main (a : Option Addr) (len cap : Nat) (E : Nat → Ev) (n : Int) (w : World) (hlen : len ≤ 9223372036854775807) (hcap : len ≤ cap) (hnil : a = none → len = 0 ∧ cap = 0) (hs : EvS w a len E) :
    Calls Try.prog 5 #[.slice a len cap, .int .i64 n] w fun e w' => e = .returned (.bool true) ∧ Below w.heap.size w w' := by
  have HS := Lib.hid hs
  have HNIL := Lib.hid hnil
  clear hs hnil
  go_enter Try.func5, Try.ntmps5
  go_wp2_with fail
  refine (head_any _).mono ?_
  rintro e w1 ⟨rfl, hb1⟩
  have HB1 := Lib.hid hb1
  clear hb1
  go_wp2_with fail
  refine (big_any a len cap E w1 (HS.out.below HB1.out)).mono ?_
  rintro e w2 ⟨bb, rfl, hiff, hb2⟩
  have HB2 := Lib.hid (HB1.out.trans (hb2.mono HB1.out.size))
  clear hb2 hiff HB1
  cases bb
  · go_wp2_with fail
    refine (of_any a len cap E w2 hlen (HS.out.below HB2.out)).mono ?_
    rintro e w3 ⟨hb3, hres⟩
    have HB3 := Lib.hid (HB2.out.trans (hb3.mono HB2.out.size))
    have HW3 := Lib.hid hb3.size
    clear hb3
    rcases hres with ⟨_, rfl⟩ | ⟨hl4, ⟨i, er, _, _, _, hne, rfl⟩ | ⟨hgood, v, hb, mb, mw, V, rfl, hst⟩⟩
    · go_wp2
      go_ret
      exact ⟨rfl, HB3.out⟩
    · have hq2 : (er != 0) = true := by rw [bne_iff_ne]; exact hne
      clear hne
      go_wp2
      go_ret
      exact ⟨rfl, HB3.out⟩
    · have HG := Lib.hid hgood
      obtain ⟨m, em⟩ : ∃ m, m = (stateAt E len).m := ⟨_, rfl⟩
      obtain ⟨T, eT⟩ : ∃ T, T = (stateAt E len).T := ⟨_, rfl⟩
      have hrow := hst.row
      rw [← em, ← eT] at hrow
      have hm4 : m ≤ 400 := by have := (kept_at E len hgood).m; have := cnt_le E 1 len; omega
      obtain ⟨spv, cpv, ev⟩ := own_form' hrow
      subst ev
      have HRW := Lib.hid hrow
      have EM := Lib.hid em
      have ET := Lib.hid eT
      clear hgood hst hrow em eT
      by_cases hn0 : n < 0
      · have hl0 : (0 : Int) ≤ (len : Int) := by omega
        have hc0 : (0 : Int) ≤ (cap : Int) := by omega
        go_wp2_with fail
        refine (of_any a 0 cap E w3 (by omega) ((HS.out.below HB3.out).front (by omega))).mono ?_
        rintro e w4 ⟨hb4, hres⟩
        have HW4 := Lib.hid hb4
        have HB4 := Lib.hid (HB3.out.trans (hb4.mono HB3.out.size))
        clear hb4
        rcases hres with ⟨h, _⟩ | ⟨_, ⟨i, er, hi, _, he, hne, _⟩ | ⟨_, v', hb', mb', mw', V', rfl, hst'⟩⟩
        · omega
        · exact absurd (err_one he (HG.out i (by omega))) hne
        · obtain ⟨m', em'⟩ : ∃ m', m' = (stateAt E 0).m := ⟨_, rfl⟩
          obtain ⟨T', eT'⟩ : ∃ T', T' = (stateAt E 0).T := ⟨_, rfl⟩
          have hrow' := hst'.row
          obtain ⟨hmle, hpre⟩ := pre_at E 0 len (by omega) HG.out
          rw [← em', ← eT'] at hrow'
          have hmle2 : m' ≤ m := by rw [em', EM.out]; exact hmle
          have hpre2 : ∀ j, j < m' → (T j).c = (T' j).c ∧ (¬ (T' j).st = 0 → (T j).st = (T' j).st) := by rw [em', eT', ET.out]; exact hpre
          have HKM : Hid (m' = cnt E 1 0) := Lib.hid (by rw [em']; exact (kept_at E 0 (fun j hj => HG.out j (by omega))).m)
          have HPRE := Lib.hid hpre2
          obtain ⟨spw, cpw, ev⟩ := own_form' hrow'
          subst ev
          have HRW' := Lib.hid hrow'
          clear hst' hrow' hpre hpre2 hmle em' eT'
          have hmle' : decide ((m : Int) < (m' : Int)) = false := decide_eq_false (by omega)
          have hmle3 : decide (m < m') = false := decide_eq_false (by omega)
          have hmle4 : ¬ m < m' := by omega
          go_wp2
          go_loopw [11, 12, 13, 51] (fun bg _ _ x ws => ∃ t : Nat, t ≤ len ∧ x = .int .i64 (t : Int) ∧ bg = .int .i64 ((cnt E 1 (min t 0) : Nat) : Int) ∧ Hid (Below w4.heap.size w4 ws)) (fun _ _ _ x _ => len - (intOf x).toNat)
          case atStart => exact ⟨0, Nat.zero_le _, rfl, by rw [Nat.zero_min]; rfl, Lib.hid (Below.refl _ _)⟩
          case round =>
            obtain ⟨t, ht, rfl, rfl, HT⟩ := hrel
            by_cases hlt : t < len
            · obtain ⟨b, off, rfl, hbl, hci⟩ := HS.out (by omega)
              obtain ⟨sp, cp, c0, c1, c2, _⟩ := hci t hlt
              have HBT := Lib.hid (HB4.out.trans (HT.out.mono HB4.out.size))
              have x0 := (HBT.out.cell (p := ⟨b, off + t * 3, none⟩) hbl).trans c0
              have x1 := (HBT.out.cell (p := ⟨b, off + t * 3 + 1, none⟩) hbl).trans c1
              have x2 := (HBT.out.cell (p := ⟨b, off + t * 3 + 2, none⟩) hbl).trans c2
              have hlt' : (t : Int) < (len : Int) := by omega
              have HC1 : Hid (cnt E 1 (t + 1) = cnt E 1 t + (if (E t).k = 1 then 1 else 0)) := Lib.hid rfl
              have hbc := cnt_le E 1 (min t 0)
              obtain ⟨bg, ebg⟩ : ∃ bg, bg = cnt E 1 (min t 0) := ⟨_, rfl⟩
              rw [← ebg] at hbc ⊢
              have HBG := Lib.hid ebg
              have HAL : Hid (∀ ob, Below w4.heap.size w4 (wr.alloc ob)) := Lib.hid fun ob => HT.out.alloc HT.out.size _
              clear c0 c1 c2 hci ebg
              obtain ⟨ek, eek⟩ : ∃ ek, ek = (E t).k := ⟨_, rfl⟩
              rw [← eek] at x0 HC1
              clear eek
              generalize (E t).c = ec at *
              generalize (E t).n = en at *
              by_cases hk : ek = 1
              · subst hk
                by_cases htp : t < 0
                · exact absurd htp (Nat.not_lt_zero _)
                · have htp' : ¬ (t : Int) < (0 : Int) := by omega
                  have HN : Hid (cnt E 1 (min (t + 1) 0) = bg) := Lib.hid (by
                    rw [HBG.out, show min (t + 1) 0 = min t 0 by omega])
                  go_wp2
                  go_roundw
                  case rel => exact ⟨t + 1, by omega, by go_num, val_int (by rw [HN.out]), Lib.hid (HAL.out _)⟩
                  case measure => simp [intOf]; omega
              · have hkb : (ek == 1) = false := by rw [beq_eq_false_iff_ne]; exact hk
                have HN : Hid (cnt E 1 (min (t + 1) 0) = bg) := Lib.hid (by
                  rw [HBG.out]
                  by_cases htp : t < 0
                  · exact absurd htp (Nat.not_lt_zero _)
                  · rw [show min (t + 1) 0 = min t 0 by omega])
                clear hk
                go_wp2
                go_roundw
                case rel => exact ⟨t + 1, by omega, by go_num, val_int (by rw [HN.out]), Lib.hid (HAL.out _)⟩
                case measure => simp [intOf]; omega
            · obtain rfl : len = t := by omega
              have hmE : cnt E 1 (min len 0) = m' := by rw [HKM.out, show min len 0 = 0 by omega]
              rw [hmE]
              clear hmE
              obtain ⟨wq, hwq⟩ : ∃ wq, wq = wr := ⟨_, rfl⟩
              subst hwq
              have HWQ := Lib.hid (HW4.out.trans (HT.out.mono HW4.out.size))
              have HBQ := Lib.hid (HB4.out.trans (HT.out.mono HB4.out.size))
              go_wp2
              go_loopw [14, 73] (fun _ x ws => ∃ u : Nat, u ≤ m' ∧ x = .int .i64 (u : Int) ∧ Hid (Below wq.heap.size wq ws)) (fun _ x _ => m' - (intOf x).toNat)
              case atStart => exact ⟨0, Nat.zero_le _, rfl, Lib.hid (Below.refl _ _)⟩
              case round =>
                obtain ⟨u, hu, rfl, HU⟩ := hrel
                by_cases hul : u < m'
                · obtain ⟨g, cg, ev, _, hgl⟩ := HRW.out.form (by omega)
                  injection ev with ev1 ev2 ev3
                  subst ev1
                  clear ev2 ev3
                  obtain ⟨g', cg', ev, _, hgl'⟩ := HRW'.out.form (by omega)
                  injection ev with ev1 ev2 ev3
                  subst ev1
                  clear ev2 ev3
                  obtain ⟨r0, r1, _⟩ := rowT_get T V m u (by omega)
                  obtain ⟨r0', r1', _⟩ := rowT_get T' V' m' u hul
                  obtain ⟨ec, est⟩ := HPRE.out u hul
                  have hgq' : g' < wq.heap.size := Nat.lt_of_lt_of_le hgl' HT.out.size
                  have y0 := ((HWQ.out.trans (HU.out.mono HWQ.out.size)).cell (p := ⟨g, u * 3, none⟩) hgl).trans ((HRW.out.cellAt (u * 3) (by omega)).trans r0)
                  have y1 := ((HWQ.out.trans (HU.out.mono HWQ.out.size)).cell (p := ⟨g, u * 3 + 1, none⟩) hgl).trans ((HRW.out.cellAt (u * 3 + 1) (by omega)).trans r1)
                  have z0 := ((HT.out.trans (HU.out.mono HT.out.size)).cell (p := ⟨g', u * 3, none⟩) hgl').trans ((HRW'.out.cellAt (u * 3) (by omega)).trans r0')
                  have z1 := ((HT.out.trans (HU.out.mono HT.out.size)).cell (p := ⟨g', u * 3 + 1, none⟩) hgl').trans ((HRW'.out.cellAt (u * 3 + 1) (by omega)).trans r1')
                  rw [ec] at y0
                  have hul1 : (u : Int) < (m' : Int) := by omega
                  have hul2 : (u : Int) < (m : Int) := by omega
                  clear r0 r1 r0' r1' ec
                  generalize (T' u).c = tc at *
                  by_cases hz : (T' u).st = 0
                  · rw [hz] at z1
                    clear hz est
                    have hcb : (tc != tc) = false := by simp
                    go_wp2
                    go_quiet (fail)
                    go_wp2
                    go_roundw
                    case rel => exact ⟨u + 1, by omega, by go_num, Lib.hid (below_drewN HU.out _)⟩
                    case measure => simp [intOf]; omega
                  · rw [est hz] at y1
                    have hzb : ((T' u).st != 0) = true := by rw [bne_iff_ne]; exact hz
                    clear hz est
                    generalize (T' u).st = ts at *
                    have hcb : (tc != tc) = false := by simp
                    have hsb : (ts != ts) = false := by simp
                    go_wp2
                    go_quiet (fail)
                    go_wp2
                    go_roundw
                    case rel => exact ⟨u + 1, by omega, by go_num, Lib.hid (below_drewN HU.out _)⟩
                    case measure => simp [intOf]; omega
                · have hue : u = m' := by omega
                  have hul1 : ¬ (u : Int) < (m' : Int) := by omega
                  clear hue
                  go_wp2
                  go_ret
                  exact ⟨rfl, HBQ.out.trans (HU.out.mono HBQ.out.size)⟩
      · by_cases hnl : n ≤ (len : Int)
        · obtain ⟨p, rfl⟩ : ∃ p : Nat, n = (p : Int) := ⟨n.toNat, by omega⟩
          have hpl : p ≤ len := by omega
          have h0p : (0 : Int) ≤ (p : Int) := by omega
          have hpc : (p : Int) ≤ (cap : Int) := by omega
          have hpl' : (p : Int) ≤ (len : Int) := by omega
          go_wp2_with fail
          refine (of_any a p cap E w3 (by omega) ((HS.out.below HB3.out).front (by omega))).mono ?_
          rintro e w4 ⟨hb4, hres⟩
          have HW4 := Lib.hid hb4
          have HB4 := Lib.hid (HB3.out.trans (hb4.mono HB3.out.size))
          clear hb4
          rcases hres with ⟨h, _⟩ | ⟨_, ⟨i, er, hi, _, he, hne, _⟩ | ⟨_, v', hb', mb', mw', V', rfl, hst'⟩⟩
          · omega
          · exact absurd (err_one he (HG.out i (by omega))) hne
          · obtain ⟨m', em'⟩ : ∃ m', m' = (stateAt E p).m := ⟨_, rfl⟩
            obtain ⟨T', eT'⟩ : ∃ T', T' = (stateAt E p).T := ⟨_, rfl⟩
            have hrow' := hst'.row
            obtain ⟨hmle, hpre⟩ := pre_at E p len (by omega) HG.out
            rw [← em', ← eT'] at hrow'
            have hmle2 : m' ≤ m := by rw [em', EM.out]; exact hmle
            have hpre2 : ∀ j, j < m' → (T j).c = (T' j).c ∧ (¬ (T' j).st = 0 → (T j).st = (T' j).st) := by rw [em', eT', ET.out]; exact hpre
            have HKM : Hid (m' = cnt E 1 p) := Lib.hid (by rw [em']; exact (kept_at E p (fun j hj => HG.out j (by omega))).m)
            have HPRE := Lib.hid hpre2
            obtain ⟨spw, cpw, ev⟩ := own_form' hrow'
            subst ev
            have HRW' := Lib.hid hrow'
            clear hst' hrow' hpre hpre2 hmle em' eT'
            have hmle' : decide ((m : Int) < (m' : Int)) = false := decide_eq_false (by omega)
            have hmle3 : decide (m < m') = false := decide_eq_false (by omega)
            have hmle4 : ¬ m < m' := by omega
            go_wp2
            go_loopw [11, 12, 13, 51] (fun bg _ _ x ws => ∃ t : Nat, t ≤ len ∧ x = .int .i64 (t : Int) ∧ bg = .int .i64 ((cnt E 1 (min t p) : Nat) : Int) ∧ Hid (Below w4.heap.size w4 ws)) (fun _ _ _ x _ => len - (intOf x).toNat)
            case atStart => exact ⟨0, Nat.zero_le _, rfl, by rw [Nat.zero_min]; rfl, Lib.hid (Below.refl _ _)⟩
            case round =>
              obtain ⟨t, ht, rfl, rfl, HT⟩ := hrel
              by_cases hlt : t < len
              · obtain ⟨b, off, rfl, hbl, hci⟩ := HS.out (by omega)
                obtain ⟨sp, cp, c0, c1, c2, _⟩ := hci t hlt
                have HBT := Lib.hid (HB4.out.trans (HT.out.mono HB4.out.size))
                have x0 := (HBT.out.cell (p := ⟨b, off + t * 3, none⟩) hbl).trans c0
                have x1 := (HBT.out.cell (p := ⟨b, off + t * 3 + 1, none⟩) hbl).trans c1
                have x2 := (HBT.out.cell (p := ⟨b, off + t * 3 + 2, none⟩) hbl).trans c2
                have hlt' : (t : Int) < (len : Int) := by omega
                have HC1 : Hid (cnt E 1 (t + 1) = cnt E 1 t + (if (E t).k = 1 then 1 else 0)) := Lib.hid rfl
                have hbc := cnt_le E 1 (min t p)
                obtain ⟨bg, ebg⟩ : ∃ bg, bg = cnt E 1 (min t p) := ⟨_, rfl⟩
                rw [← ebg] at hbc ⊢
                have HBG := Lib.hid ebg
                have HAL : Hid (∀ ob, Below w4.heap.size w4 (wr.alloc ob)) := Lib.hid fun ob => HT.out.alloc HT.out.size _
                clear c0 c1 c2 hci ebg
                obtain ⟨ek, eek⟩ : ∃ ek, ek = (E t).k := ⟨_, rfl⟩
                rw [← eek] at x0 HC1
                clear eek
                generalize (E t).c = ec at *
                generalize (E t).n = en at *
                by_cases hk : ek = 1
                · subst hk
                  by_cases htp : t < p
                  · have htp' : (t : Int) < (p : Int) := by omega
                    have HN : Hid (cnt E 1 (min (t + 1) p) = bg + 1) := Lib.hid (by
                      rw [HBG.out, show min (t + 1) p = t + 1 by omega, show min t p = t by omega, HC1.out]; simp)
                    go_wp2
                    go_roundw
                    case rel => exact ⟨t + 1, by omega, by go_num, val_int (by rw [HN.out]; omega), Lib.hid (HAL.out _)⟩
                    case measure => simp [intOf]; omega
                  · have htp' : ¬ (t : Int) < (p : Int) := by omega
                    have HN : Hid (cnt E 1 (min (t + 1) p) = bg) := Lib.hid (by
                      rw [HBG.out, show min (t + 1) p = min t p by omega])
                    go_wp2
                    go_roundw
                    case rel => exact ⟨t + 1, by omega, by go_num, val_int (by rw [HN.out]), Lib.hid (HAL.out _)⟩
                    case measure => simp [intOf]; omega
                · have hkb : (ek == 1) = false := by rw [beq_eq_false_iff_ne]; exact hk
                  have HN : Hid (cnt E 1 (min (t + 1) p) = bg) := Lib.hid (by
                    rw [HBG.out]
                    by_cases htp : t < p
                    · rw [show min (t + 1) p = t + 1 by omega, show min t p = t by omega, HC1.out, if_neg hk, Nat.add_zero]
                    · rw [show min (t + 1) p = min t p by omega])
                  clear hk
                  go_wp2
                  go_roundw
                  case rel => exact ⟨t + 1, by omega, by go_num, val_int (by rw [HN.out]), Lib.hid (HAL.out _)⟩
                  case measure => simp [intOf]; omega
              · obtain rfl : len = t := by omega
                have hmE : cnt E 1 (min len p) = m' := by rw [HKM.out, show min len p = p by omega]
                rw [hmE]
                clear hmE
                obtain ⟨wq, hwq⟩ : ∃ wq, wq = wr := ⟨_, rfl⟩
                subst hwq
                have HWQ := Lib.hid (HW4.out.trans (HT.out.mono HW4.out.size))
                have HBQ := Lib.hid (HB4.out.trans (HT.out.mono HB4.out.size))
                go_wp2
                go_loopw [14, 73] (fun _ x ws => ∃ u : Nat, u ≤ m' ∧ x = .int .i64 (u : Int) ∧ Hid (Below wq.heap.size wq ws)) (fun _ x _ => m' - (intOf x).toNat)
                case atStart => exact ⟨0, Nat.zero_le _, rfl, Lib.hid (Below.refl _ _)⟩
                case round =>
                  obtain ⟨u, hu, rfl, HU⟩ := hrel
                  by_cases hul : u < m'
                  · obtain ⟨g, cg, ev, _, hgl⟩ := HRW.out.form (by omega)
                    injection ev with ev1 ev2 ev3
                    subst ev1
                    clear ev2 ev3
                    obtain ⟨g', cg', ev, _, hgl'⟩ := HRW'.out.form (by omega)
                    injection ev with ev1 ev2 ev3
                    subst ev1
                    clear ev2 ev3
                    obtain ⟨r0, r1, _⟩ := rowT_get T V m u (by omega)
                    obtain ⟨r0', r1', _⟩ := rowT_get T' V' m' u hul
                    obtain ⟨ec, est⟩ := HPRE.out u hul
                    have hgq' : g' < wq.heap.size := Nat.lt_of_lt_of_le hgl' HT.out.size
                    have y0 := ((HWQ.out.trans (HU.out.mono HWQ.out.size)).cell (p := ⟨g, u * 3, none⟩) hgl).trans ((HRW.out.cellAt (u * 3) (by omega)).trans r0)
                    have y1 := ((HWQ.out.trans (HU.out.mono HWQ.out.size)).cell (p := ⟨g, u * 3 + 1, none⟩) hgl).trans ((HRW.out.cellAt (u * 3 + 1) (by omega)).trans r1)
                    have z0 := ((HT.out.trans (HU.out.mono HT.out.size)).cell (p := ⟨g', u * 3, none⟩) hgl').trans ((HRW'.out.cellAt (u * 3) (by omega)).trans r0')
                    have z1 := ((HT.out.trans (HU.out.mono HT.out.size)).cell (p := ⟨g', u * 3 + 1, none⟩) hgl').trans ((HRW'.out.cellAt (u * 3 + 1) (by omega)).trans r1')
                    rw [ec] at y0
                    have hul1 : (u : Int) < (m' : Int) := by omega
                    have hul2 : (u : Int) < (m : Int) := by omega
                    clear r0 r1 r0' r1' ec
                    generalize (T' u).c = tc at *
                    by_cases hz : (T' u).st = 0
                    · rw [hz] at z1
                      clear hz est
                      have hcb : (tc != tc) = false := by simp
                      go_wp2
                      go_quiet (fail)
                      go_wp2
                      go_roundw
                      case rel => exact ⟨u + 1, by omega, by go_num, Lib.hid (below_drewN HU.out _)⟩
                      case measure => simp [intOf]; omega
                    · rw [est hz] at y1
                      have hzb : ((T' u).st != 0) = true := by rw [bne_iff_ne]; exact hz
                      clear hz est
                      generalize (T' u).st = ts at *
                      have hcb : (tc != tc) = false := by simp
                      have hsb : (ts != ts) = false := by simp
                      go_wp2
                      go_quiet (fail)
                      go_wp2
                      go_roundw
                      case rel => exact ⟨u + 1, by omega, by go_num, Lib.hid (below_drewN HU.out _)⟩
                      case measure => simp [intOf]; omega
                  · have hue : u = m' := by omega
                    have hul1 : ¬ (u : Int) < (m' : Int) := by omega
                    clear hue
                    go_wp2
                    go_ret
                    exact ⟨rfl, HBQ.out.trans (HU.out.mono HBQ.out.size)⟩
        · have hnl' : (len : Int) < n := by omega
          have hpc : (len : Int) ≤ (cap : Int) := by omega
          have h0p : (0 : Int) ≤ (len : Int) := by omega
          go_wp2_with fail
          refine (of_any a len cap E w3 (by omega) ((HS.out.below HB3.out).front (by omega))).mono ?_
          rintro e w4 ⟨hb4, hres⟩
          have HW4 := Lib.hid hb4
          have HB4 := Lib.hid (HB3.out.trans (hb4.mono HB3.out.size))
          clear hb4
          rcases hres with ⟨h, _⟩ | ⟨_, ⟨i, er, hi, _, he, hne, _⟩ | ⟨_, v', hb', mb', mw', V', rfl, hst'⟩⟩
          · omega
          · exact absurd (err_one he (HG.out i (by omega))) hne
          · obtain ⟨m', em'⟩ : ∃ m', m' = (stateAt E len).m := ⟨_, rfl⟩
            obtain ⟨T', eT'⟩ : ∃ T', T' = (stateAt E len).T := ⟨_, rfl⟩
            have hrow' := hst'.row
            obtain ⟨hmle, hpre⟩ := pre_at E len len (by omega) HG.out
            rw [← em', ← eT'] at hrow'
            have hmle2 : m' ≤ m := by rw [em', EM.out]; exact hmle
            have hpre2 : ∀ j, j < m' → (T j).c = (T' j).c ∧ (¬ (T' j).st = 0 → (T j).st = (T' j).st) := by rw [em', eT', ET.out]; exact hpre
            have HKM : Hid (m' = cnt E 1 len) := Lib.hid (by rw [em']; exact (kept_at E len (fun j hj => HG.out j (by omega))).m)
            have HPRE := Lib.hid hpre2
            obtain ⟨spw, cpw, ev⟩ := own_form' hrow'
            subst ev
            have HRW' := Lib.hid hrow'
            clear hst' hrow' hpre hpre2 hmle em' eT'
            have hmle' : decide ((m : Int) < (m' : Int)) = false := decide_eq_false (by omega)
            have hmle3 : decide (m < m') = false := decide_eq_false (by omega)
            have hmle4 : ¬ m < m' := by omega
            go_wp2
            go_loopw [11, 12, 13, 51] (fun bg _ _ x ws => ∃ t : Nat, t ≤ len ∧ x = .int .i64 (t : Int) ∧ bg = .int .i64 ((cnt E 1 (min t len) : Nat) : Int) ∧ Hid (Below w4.heap.size w4 ws)) (fun _ _ _ x _ => len - (intOf x).toNat)
            case atStart => exact ⟨0, Nat.zero_le _, rfl, by rw [Nat.zero_min]; rfl, Lib.hid (Below.refl _ _)⟩
            case round =>
              obtain ⟨t, ht, rfl, rfl, HT⟩ := hrel
              by_cases hlt : t < len
              · obtain ⟨b, off, rfl, hbl, hci⟩ := HS.out (by omega)
                obtain ⟨sp, cp, c0, c1, c2, _⟩ := hci t hlt
                have HBT := Lib.hid (HB4.out.trans (HT.out.mono HB4.out.size))
                have x0 := (HBT.out.cell (p := ⟨b, off + t * 3, none⟩) hbl).trans c0
                have x1 := (HBT.out.cell (p := ⟨b, off + t * 3 + 1, none⟩) hbl).trans c1
                have x2 := (HBT.out.cell (p := ⟨b, off + t * 3 + 2, none⟩) hbl).trans c2
                have hlt' : (t : Int) < (len : Int) := by omega
                have HC1 : Hid (cnt E 1 (t + 1) = cnt E 1 t + (if (E t).k = 1 then 1 else 0)) := Lib.hid rfl
                have hbc := cnt_le E 1 (min t len)
                obtain ⟨bg, ebg⟩ : ∃ bg, bg = cnt E 1 (min t len) := ⟨_, rfl⟩
                rw [← ebg] at hbc ⊢
                have HBG := Lib.hid ebg
                have HAL : Hid (∀ ob, Below w4.heap.size w4 (wr.alloc ob)) := Lib.hid fun ob => HT.out.alloc HT.out.size _
                clear c0 c1 c2 hci ebg
                obtain ⟨ek, eek⟩ : ∃ ek, ek = (E t).k := ⟨_, rfl⟩
                rw [← eek] at x0 HC1
                clear eek
                generalize (E t).c = ec at *
                generalize (E t).n = en at *
                by_cases hk : ek = 1
                · subst hk
                  by_cases htp : t < len
                  · have htp' : (t : Int) < (len : Int) := by omega
                    have HN : Hid (cnt E 1 (min (t + 1) len) = bg + 1) := Lib.hid (by
                      rw [HBG.out, show min (t + 1) len = t + 1 by omega, show min t len = t by omega, HC1.out]; simp)
                    go_wp2
                    go_roundw
                    case rel => exact ⟨t + 1, by omega, by go_num, val_int (by rw [HN.out]; omega), Lib.hid (HAL.out _)⟩
                    case measure => simp [intOf]; omega
                  · exact absurd hlt htp
                · have hkb : (ek == 1) = false := by rw [beq_eq_false_iff_ne]; exact hk
                  have HN : Hid (cnt E 1 (min (t + 1) len) = bg) := Lib.hid (by
                    rw [HBG.out]
                    by_cases htp : t < len
                    · rw [show min (t + 1) len = t + 1 by omega, show min t len = t by omega, HC1.out, if_neg hk, Nat.add_zero]
                    · exact absurd hlt htp)
                  clear hk
                  go_wp2
                  go_roundw
                  case rel => exact ⟨t + 1, by omega, by go_num, val_int (by rw [HN.out]), Lib.hid (HAL.out _)⟩
                  case measure => simp [intOf]; omega
              · obtain rfl : len = t := by omega
                have hmE : cnt E 1 (min len len) = m' := by rw [HKM.out, show min len len = len by omega]
                rw [hmE]
                clear hmE
                obtain ⟨wq, hwq⟩ : ∃ wq, wq = wr := ⟨_, rfl⟩
                subst hwq
                have HWQ := Lib.hid (HW4.out.trans (HT.out.mono HW4.out.size))
                have HBQ := Lib.hid (HB4.out.trans (HT.out.mono HB4.out.size))
                go_wp2
                go_loopw [14, 73] (fun _ x ws => ∃ u : Nat, u ≤ m' ∧ x = .int .i64 (u : Int) ∧ Hid (Below wq.heap.size wq ws)) (fun _ x _ => m' - (intOf x).toNat)
                case atStart => exact ⟨0, Nat.zero_le _, rfl, Lib.hid (Below.refl _ _)⟩
                case round =>
                  obtain ⟨u, hu, rfl, HU⟩ := hrel
                  by_cases hul : u < m'
                  · obtain ⟨g, cg, ev, _, hgl⟩ := HRW.out.form (by omega)
                    injection ev with ev1 ev2 ev3
                    subst ev1
                    clear ev2 ev3
                    obtain ⟨g', cg', ev, _, hgl'⟩ := HRW'.out.form (by omega)
                    injection ev with ev1 ev2 ev3
                    subst ev1
                    clear ev2 ev3
                    obtain ⟨r0, r1, _⟩ := rowT_get T V m u (by omega)
                    obtain ⟨r0', r1', _⟩ := rowT_get T' V' m' u hul
                    obtain ⟨ec, est⟩ := HPRE.out u hul
                    have hgq' : g' < wq.heap.size := Nat.lt_of_lt_of_le hgl' HT.out.size
                    have y0 := ((HWQ.out.trans (HU.out.mono HWQ.out.size)).cell (p := ⟨g, u * 3, none⟩) hgl).trans ((HRW.out.cellAt (u * 3) (by omega)).trans r0)
                    have y1 := ((HWQ.out.trans (HU.out.mono HWQ.out.size)).cell (p := ⟨g, u * 3 + 1, none⟩) hgl).trans ((HRW.out.cellAt (u * 3 + 1) (by omega)).trans r1)
                    have z0 := ((HT.out.trans (HU.out.mono HT.out.size)).cell (p := ⟨g', u * 3, none⟩) hgl').trans ((HRW'.out.cellAt (u * 3) (by omega)).trans r0')
                    have z1 := ((HT.out.trans (HU.out.mono HT.out.size)).cell (p := ⟨g', u * 3 + 1, none⟩) hgl').trans ((HRW'.out.cellAt (u * 3 + 1) (by omega)).trans r1')
                    rw [ec] at y0
                    have hul1 : (u : Int) < (m' : Int) := by omega
                    have hul2 : (u : Int) < (m : Int) := by omega
                    clear r0 r1 r0' r1' ec
                    generalize (T' u).c = tc at *
                    by_cases hz : (T' u).st = 0
                    · rw [hz] at z1
                      clear hz est
                      have hcb : (tc != tc) = false := by simp
                      go_wp2
                      go_quiet (fail)
                      go_wp2
                      go_roundw
                      case rel => exact ⟨u + 1, by omega, by go_num, Lib.hid (below_drewN HU.out _)⟩
                      case measure => simp [intOf]; omega
                    · rw [est hz] at y1
                      have hzb : ((T' u).st != 0) = true := by rw [bne_iff_ne]; exact hz
                      clear hz est
                      generalize (T' u).st = ts at *
                      have hcb : (tc != tc) = false := by simp
                      have hsb : (ts != ts) = false := by simp
                      go_wp2
                      go_quiet (fail)
                      go_wp2
                      go_roundw
                      case rel => exact ⟨u + 1, by omega, by go_num, Lib.hid (below_drewN HU.out _)⟩
                      case measure => simp [intOf]; omega
                  · have hue : u = m' := by omega
                    have hul1 : ¬ (u : Int) < (m' : Int) := by omega
                    clear hue
                    go_wp2
                    go_ret
                    exact ⟨rfl, HBQ.out.trans (HU.out.mono HBQ.out.size)⟩
  · go_wp2
    go_ret
    exact ⟨rfl, HB2.out⟩
end Go.Proofs.Ytgpnjgpbblookaa
