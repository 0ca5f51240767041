/-
  HistEnds' walk.
-/
import Derived.Test.YtgpnjgpbblookaaXb
namespace Go.Proofs.Ytgpnjgpbblookaa
open Go.ChangeShapes Go.WideShapes Go.ChangeAt Go.RowKit

set_option maxRecDepth 100000 in
set_option maxHeartbeats 8000000 in
theorem ends_main (a : Option Addr) (len cap : Nat) (E : Nat → Ev) (w : World) (hlen : len ≤ 9223372036854775807) (hs : EvS w a len E) :
    Calls Try.prog 7 #[.slice a len cap] w fun e w' => e = .returned (.bool true) ∧ Below w.heap.size w w' := by
  have HS := Lib.hid hs
  clear hs
  go_enter Try.func7, Try.ntmps7
  go_wp2_with fail
  refine (head_any _).mono ?_
  rintro e w1 ⟨rfl, hb1⟩
  have HB1 := Lib.hid hb1
  clear hb1
  go_wp2_with fail
  refine (big_any a len cap E w1 (HS.out.below HB1.out)).mono ?_
  rintro e w2 ⟨bb, rfl, hiff, hb2⟩
  have HB2 := Lib.hid (HB1.out.trans (hb2.mono HB1.out.size))
  clear hb2 hiff HB1
  cases bb
  · go_wp2_with fail
    refine (of_q a len cap E w2 hlen (HS.out.below HB2.out)).mono ?_
    rintro e w3 ⟨m, sp, cp, i, er, T, V, rfl, hm4, hi4, hrow, hops, hb3, hfact⟩
    have HB3 := Lib.hid (HB2.out.trans (hb3.mono HB2.out.size))
    have HRW := Lib.hid hrow
    have HOP := Lib.hid hops
    clear hb3 hrow hops
    rcases hfact with ⟨_, rfl, rfl, rfl⟩ | ⟨_, ⟨_, _, _, hne, rfl⟩ | ⟨hg, rfl, rfl, rfl, rfl⟩⟩
    · go_wp2
      go_ret
      exact ⟨rfl, HB3.out⟩
    · have hq2 : (er != 0) = true := by rw [bne_iff_ne]; exact hne
      clear hne
      go_wp2
      go_ret
      exact ⟨rfl, HB3.out⟩
    · have HHO := Lib.hid (hops_at E len hg)
      generalize (stateAt E len).m = m at *
      generalize (stateAt E len).T = T at *
      clear hg
      go_wp2
      go_loopw [7, 9, 10, 12, 14, 16, 34] (fun _ _ _ _ _ _ x wr => ∃ t : Nat, t ≤ m ∧ x = .int .i64 (t : Int) ∧ Hid (Below w3.heap.size w3 wr)) (fun _ _ _ _ _ _ x _ => m - (intOf x).toNat)
      case atStart => exact ⟨0, Nat.zero_le _, rfl, Lib.hid (Below.refl _ _)⟩
      case round =>
        obtain ⟨t, ht, rfl, HT⟩ := hrel
        by_cases hlt : t < m
        · obtain ⟨g, cg, evg, _, hgl⟩ := HRW.out.form (by omega)
          injection evg with ev1 ev2 ev3
          subst ev1
          clear ev2 ev3
          obtain ⟨r0, r1, r2⟩ := rowT_get T V m t hlt
          obtain ⟨spt, cpt, et, hot, hnt⟩ := HOP.out t hlt
          rw [et] at r2
          have x0 := (HT.out.cell (p := ⟨g, t * 3, none⟩) hgl).trans ((HRW.out.cellAt (t * 3) (by omega)).trans r0)
          have x1 := (HT.out.cell (p := ⟨g, t * 3 + 1, none⟩) hgl).trans ((HRW.out.cellAt (t * 3 + 1) (by omega)).trans r1)
          have x2 := (HT.out.cell (p := ⟨g, t * 3 + 2, none⟩) hgl).trans ((HRW.out.cellAt (t * 3 + 2) (by omega)).trans r2)
          have HOT := Lib.hid (hot.below HT.out)
          have HH := Lib.hid (HHO.out t hlt)
          have hlt' : (t : Int) < (m : Int) := by omega
          clear r0 r1 r2 et hot
          generalize (T t).c = tc at *
          generalize (T t).st = ts at *
          generalize (T t).n = n at *
          generalize (T t).o = o at *
          obtain ⟨wz, ewz⟩ : ∃ wz, wz = wr.alloc (.cells #[.int .i64 tc, .int .i64 ts, .slice spt n cpt] 36) := ⟨_, rfl⟩
          have hzb : Below wr.heap.size wr wz := by rw [ewz]; exact (Below.refl _ _).alloc (Nat.le_refl _) _
          have hzl : wr.heap.size < wz.heap.size := by rw [ewz]; simp
          have hzz : wz.heap[wr.heap.size]? = some (.cells #[.int .i64 tc, .int .i64 ts, .slice spt n cpt] 36 (0, 0)) := by rw [ewz]; exact heap_alloc_new wr _
          have HBZ := Lib.hid (HT.out.trans (hzb.mono HT.out.size))
          have HOZ := Lib.hid (HOT.out.below hzb)
          obtain ⟨Z, eZ⟩ : ∃ Z, Z = wr.heap.size := ⟨_, rfl⟩
          rw [← eZ] at hzl hzz
          have HZZ := Lib.hid hzz
          have HWR : Hid (∀ W, Below wz.heap.size wz W → Calls Try.prog 20 #[.agg #[.int .i64 tc, .int .i64 ts, .slice spt n cpt]] W (OpsP (wrl o n 16) W)) := Lib.hid fun W hb => hwrites_any tc ts spt n cpt o W (by omega) (fun i hi => (HH.out i hi).1.2) (HOZ.out.below hb)
          have HRD : Hid (∀ W, Below wz.heap.size wz W → Calls Try.prog 18 #[.agg #[.int .i64 tc, .int .i64 ts, .slice spt n cpt]] W (OpsP (rdS ts o n) W)) := Lib.hid fun W hb => hreads_any tc ts spt n cpt o W (by omega) (fun i hi => (HH.out i hi).1.2) (fun i hi => by have := (HH.out i hi).2; omega) (HOZ.out.below hb)
          have hrl : (rdS ts o n).length ≤ 1000 := by
            unfold rdS
            split
            · have := rd_le o n; omega
            · simp
          have hwl : (wrl o n 16).length ≤ 1000 := by have := wrl_le o n 16; omega
          have HWM : Hid (∀ y, y < (wrl o n 16).length → ∃ i, i < n ∧ o i = lf (wrl o n 16) y ∧ (o i).k = 2) := Lib.hid fun y hy => wrl_mem (lf_mem hy)
          have HRM : Hid (∀ y, y < (rdS ts o n).length → ∃ i, i < n ∧ lf (rdS ts o n) y = o i ∧ (o i).k = 1 ∧ ∀ j, j < i → ¬ ((o j).k = 2 ∧ (o j).key = (lf (rdS ts o n) y).key)) := Lib.hid fun y hy => by
            have h := lf_mem hy
            generalize lf (rdS ts o n) y = x at *
            by_cases hts : ts = 1
            · rw [hts, rdS_one] at h; exact rd_mem h
            · rw [rdS_ne hts] at h; cases h
          generalize wrl o n 16 = WL at *
          generalize rdS ts o n = RL at *
          clear hzz hzb
          go_wp2_with fail
          rw [← ewz, ← eZ]
          clear ewz eZ x0 x1 x2
          refine (HWR.out _ (Below.refl _ _)).mono ?_
          rintro e w5 ⟨s5, c5, rfl, ho5, hb5⟩
          have HO5 := Lib.hid (own38_ops ho5)
          have HZ5 := Lib.hid hb5
          clear ho5 hb5
          go_wp2
          go_loopw [9, 10, 12, 41] (fun _ _ _ x ws => ∃ y : Nat, y ≤ WL.length ∧ x = .int .i64 (y : Int) ∧ Hid (Below w5.heap.size w5 ws)) (fun _ _ _ x _ => WL.length - (intOf x).toNat)
          case atStart => exact ⟨0, Nat.zero_le _, rfl, Lib.hid (Below.refl _ _)⟩
          case round =>
            obtain ⟨y, hy, rfl, HY⟩ := hrel
            have HZY := Lib.hid (HZ5.out.trans (HY.out.mono HZ5.out.size))
            by_cases hyl : y < WL.length
            · obtain ⟨b, off, rfl, hbl, hci⟩ := HO5.out (by omega)
              obtain ⟨c0, c1, c2⟩ := hci y hyl
              have x0 := (HY.out.cell (p := ⟨b, off + y * 3, none⟩) hbl).trans c0
              have x1 := (HY.out.cell (p := ⟨b, off + y * 3 + 1, none⟩) hbl).trans c1
              have x2 := (HY.out.cell (p := ⟨b, off + y * 3 + 2, none⟩) hbl).trans c2
              have hyl' : (y : Int) < (WL.length : Int) := by omega
              have HM := Lib.hid (HWM.out y hyl)
              clear c0 c1 c2 hci
              generalize lf WL y = xo at *
              obtain ⟨xk, xkey, xv⟩ := xo
              dsimp only at x0 x1 x2
              obtain ⟨wv, ewv⟩ : ∃ wv, wv = wr.alloc (.cells #[.int .i64 xk, .int .i64 xkey, .int .i64 xv] 38) := ⟨_, rfl⟩
              have hvb : Below wr.heap.size wr wv := by rw [ewv]; exact (Below.refl _ _).alloc (Nat.le_refl _) _
              have hvl : wr.heap.size < wv.heap.size := by rw [ewv]; simp
              have hvv : wv.heap[wr.heap.size]? = some (.cells #[.int .i64 xk, .int .i64 xkey, .int .i64 xv] 38 (0, 0)) := by rw [ewv]; exact heap_alloc_new wr _
              have HZV := Lib.hid (HZY.out.trans (hvb.mono HZY.out.size))
              have H5V := Lib.hid (HY.out.trans (hvb.mono HY.out.size))
              obtain ⟨Y, eY⟩ : ∃ Y, Y = wr.heap.size := ⟨_, rfl⟩
              rw [← eY] at hvl hvv
              have HVV := Lib.hid hvv
              have q2 : (wr.alloc (.cells #[.int .i64 xk, .int .i64 xkey, .int .i64 xv] 38)).cell? ⟨Z, 2, none⟩ = some (.slice spt n cpt) := by rw [← ewv]; exact (cells3 ((HZV.out.block _ hzl).trans HZZ.out)).1.2.2
              clear hvv hvb
              go_wp2
              rw [← ewv, ← eY]
              clear ewv eY x0 x1 x2 q2
              go_loopw [10, 12, 48] (fun fv _ x wt => ∃ (z : Nat) (fb : Bool), z ≤ n ∧ x = .int .i64 (z : Int) ∧ fv = .bool fb ∧ Hid (Below wv.heap.size wv wt ∧ ((∃ j, j < z ∧ o j = ⟨xk, xkey, xv⟩ ∧ (o j).k = 2) → fb = true))) (fun _ _ x _ => n - (intOf x).toNat)
              case atStart => exact ⟨0, false, Nat.zero_le _, rfl, rfl, Lib.hid ⟨Below.refl _ _, fun ⟨j, hj, _⟩ => absurd hj (Nat.not_lt_zero _)⟩⟩
              case round =>
                obtain ⟨z, fb, hz, rfl, rfl, HF⟩ := hrel
                by_cases hzn : z < n
                · obtain ⟨b2, off2, rfl, hbl2, hci2⟩ := HOZ.out (by omega)
                  obtain ⟨c0, c1, c2⟩ := hci2 z hzn
                  have hBF := HZV.out.trans (HF.out.1.mono HZV.out.size)
                  have x0 := (hBF.cell (p := ⟨b2, off2 + z * 3, none⟩) hbl2).trans c0
                  have x1 := (hBF.cell (p := ⟨b2, off2 + z * 3 + 1, none⟩) hbl2).trans c1
                  have x2 := (hBF.cell (p := ⟨b2, off2 + z * 3 + 2, none⟩) hbl2).trans c2
                  have hzn' : (z : Int) < (n : Int) := by omega
                  have HFN : Hid (∀ fb', ((fb = true ∨ (o z = ⟨xk, xkey, xv⟩ ∧ (o z).k = 2)) → fb' = true) → (∃ j, j < z + 1 ∧ o j = ⟨xk, xkey, xv⟩ ∧ (o j).k = 2) → fb' = true) := Lib.hid fun fb' h ⟨j, hj, h1, h2⟩ => by
                    by_cases hjz : j = z
                    · subst hjz; exact h (.inr ⟨h1, h2⟩)
                    · exact h (.inl (HF.out.2 ⟨j, by omega, h1, h2⟩))
                  clear c0 c1 c2 hci2 hBF
                  generalize o z = oz at *
                  obtain ⟨zk, zkey, zv⟩ := oz
                  dsimp only at x0 x1 x2
                  have HAL : Hid (Below wv.heap.size wv (wr.alloc (.cells #[.int .i64 zk, .int .i64 zkey, .int .i64 zv] 38))) := Lib.hid (HF.out.1.alloc HF.out.1.size _)
                  obtain ⟨⟨f0, f1, f2⟩, _⟩ := cells3 ((HAL.out.block _ hvl).trans HVV.out)
                  have heq : ∀ u : World, (Op.equalIn 10000 38 (.agg #[.int .i64 zk, .int .i64 zkey, .int .i64 zv]) (.agg #[.int .i64 xk, .int .i64 xkey, .int .i64 xv])).run Try.prog u = .ok (zk == xk && (zkey == xkey && zv == xv)) u := fun u => eqO _ _ _ _ _ _ u
                  have hgd := guardO
                  cases fb
                  · by_cases he : (⟨zk, zkey, zv⟩ : O3) = ⟨xk, xkey, xv⟩
                    · have HE := Lib.hid he
                      injection he with e0 e1 e2
                      subst e0 e1 e2
                      simp only [BEq.rfl, Bool.and_self] at heq
                      by_cases hk2 : zk = 2
                      · subst hk2
                        have HR := Lib.hid (HFN.out true fun _ => rfl)
                        go_wp2
                        go_roundw
                        case rel => exact ⟨z + 1, true, by omega, by go_num, rfl, Lib.hid ⟨HAL.out, HR.out⟩⟩
                        case measure => simp [intOf]; omega
                      · have HR := Lib.hid (HFN.out false fun h => by
                          rcases h with h | h
                          · exact h
                          · exact absurd h.2 hk2)
                        have hkb : (zk == 2) = false := by rw [beq_eq_false_iff_ne]; exact hk2
                        clear hk2
                        go_wp2
                        go_roundw
                        case rel => exact ⟨z + 1, false, by omega, by go_num, rfl, Lib.hid ⟨HAL.out, HR.out⟩⟩
                        case measure => simp [intOf]; omega
                    · have HR := Lib.hid (HFN.out false fun h => by
                        rcases h with h | h
                        · exact h
                        · exact absurd h.1 he)
                      have hb : (zk == xk && (zkey == xkey && zv == xv)) = false := by
                        rw [Bool.eq_false_iff]
                        intro h
                        simp at h
                        exact he (by rw [h.1, h.2.1, h.2.2])
                      rw [hb] at heq
                      clear he hb
                      go_wp2
                      go_roundw
                      case rel => exact ⟨z + 1, false, by omega, by go_num, rfl, Lib.hid ⟨HAL.out, HR.out⟩⟩
                      case measure => simp [intOf]; omega
                  · have HR := Lib.hid (HFN.out true fun _ => rfl)
                    clear heq
                    go_wp2
                    go_roundw
                    case rel => exact ⟨z + 1, true, by omega, by go_num, rfl, Lib.hid ⟨HAL.out, HR.out⟩⟩
                    case measure => simp [intOf]; omega
                · obtain rfl : z = n := by omega
                  obtain rfl : fb = true := HF.out.2 HM.out
                  have HR := Lib.hid (H5V.out.trans (HF.out.1.mono H5V.out.size))
                  go_wp2
                  go_roundw
                  case rel => exact ⟨y + 1, by omega, by go_num, Lib.hid HR.out⟩
                  case measure => simp [intOf]; omega
            · obtain rfl : WL.length = y := by omega
              obtain ⟨⟨q0, q1, q2⟩, _⟩ := cells3 ((HZY.out.block _ hzl).trans HZZ.out)
              go_wp2_with fail
              refine (HRD.out _ HZY.out).mono ?_
              rintro e w6 ⟨s6, c6, rfl, ho6, hb6⟩
              have HO6 := Lib.hid (own38_ops ho6)
              have HZ6 := Lib.hid (HZY.out.trans (hb6.mono HZY.out.size))
              clear ho6 hb6 q0 q1 q2
              go_wp2
              go_loopw [14, 16, 70] (fun _ _ x ws => ∃ y : Nat, y ≤ RL.length ∧ x = .int .i64 (y : Int) ∧ Hid (Below w6.heap.size w6 ws)) (fun _ _ x _ => RL.length - (intOf x).toNat)
              case atStart => exact ⟨0, Nat.zero_le _, rfl, Lib.hid (Below.refl _ _)⟩
              case round =>
                obtain ⟨y, hy, rfl, HU⟩ := hrel
                have HZU := Lib.hid (HZ6.out.trans (HU.out.mono HZ6.out.size))
                by_cases hyl : y < RL.length
                · obtain ⟨b, off, rfl, hbl, hci⟩ := HO6.out (by omega)
                  obtain ⟨c0, c1, c2⟩ := hci y hyl
                  have x0 := (HU.out.cell (p := ⟨b, off + y * 3, none⟩) hbl).trans c0
                  have x1 := (HU.out.cell (p := ⟨b, off + y * 3 + 1, none⟩) hbl).trans c1
                  have x2 := (HU.out.cell (p := ⟨b, off + y * 3 + 2, none⟩) hbl).trans c2
                  have hyl' : (y : Int) < (RL.length : Int) := by omega
                  obtain ⟨i, hin, hxi, hik, hij⟩ := HRM.out y hyl
                  have HXI := Lib.hid hxi
                  have HIK := Lib.hid hik
                  have HIJ := Lib.hid hij
                  clear c0 c1 c2 hci hxi hik hij
                  generalize lf RL y = xo at *
                  obtain ⟨xk, xkey, xv⟩ := xo
                  dsimp only at x0 x1 x2 HIJ
                  obtain ⟨wv, ewv⟩ : ∃ wv, wv = wr.alloc (.cells #[.int .i64 xk, .int .i64 xkey, .int .i64 xv] 38) := ⟨_, rfl⟩
                  have hvb : Below wr.heap.size wr wv := by rw [ewv]; exact (Below.refl _ _).alloc (Nat.le_refl _) _
                  have hvl : wr.heap.size < wv.heap.size := by rw [ewv]; simp
                  have hvv : wv.heap[wr.heap.size]? = some (.cells #[.int .i64 xk, .int .i64 xkey, .int .i64 xv] 38 (0, 0)) := by rw [ewv]; exact heap_alloc_new wr _
                  have HZV := Lib.hid (HZU.out.trans (hvb.mono HZU.out.size))
                  have H6V := Lib.hid (HU.out.trans (hvb.mono HU.out.size))
                  obtain ⟨Y, eY⟩ : ∃ Y, Y = wr.heap.size := ⟨_, rfl⟩
                  rw [← eY] at hvl hvv
                  have HVV := Lib.hid hvv
                  have q2 : (wr.alloc (.cells #[.int .i64 xk, .int .i64 xkey, .int .i64 xv] 38)).cell? ⟨Z, 2, none⟩ = some (.slice spt n cpt) := by rw [← ewv]; exact (cells3 ((HZV.out.block _ hzl).trans HZZ.out)).1.2.2
                  clear hvv hvb
                  go_wp2
                  rw [← ewv, ← eY]
                  clear ewv eY x0 x1 x2 q2
                  go_loopw [16, 77] (fun _ x wt => ∃ z : Nat, z ≤ i ∧ x = .int .i64 (z : Int) ∧ Hid (Below wv.heap.size wv wt)) (fun _ x _ => n - (intOf x).toNat)
                  case atStart => exact ⟨0, Nat.zero_le _, rfl, Lib.hid (Below.refl _ _)⟩
                  case round =>
                    obtain ⟨z, hz, rfl, HF⟩ := hrel
                    obtain ⟨b2, off2, rfl, hbl2, hci2⟩ := HOZ.out (by omega)
                    obtain ⟨c0, c1, c2⟩ := hci2 z (by omega)
                    have hBF := HZV.out.trans (HF.out.mono HZV.out.size)
                    have x0 := (hBF.cell (p := ⟨b2, off2 + z * 3, none⟩) hbl2).trans c0
                    have x1 := (hBF.cell (p := ⟨b2, off2 + z * 3 + 1, none⟩) hbl2).trans c1
                    have x2 := (hBF.cell (p := ⟨b2, off2 + z * 3 + 2, none⟩) hbl2).trans c2
                    have hzn' : (z : Int) < (n : Int) := by omega
                    have HIJZ : Hid (z < i → ¬ ((o z).k = 2 ∧ (o z).key = xkey)) := Lib.hid (HIJ.out z)
                    have HZI : Hid (z = i → o z = ⟨xk, xkey, xv⟩ ∧ (o z).k = 1) := Lib.hid fun h => by subst h; exact ⟨HXI.out.symm, HIK.out⟩
                    clear c0 c1 c2 hci2 hBF
                    generalize o z = oz at *
                    obtain ⟨zk, zkey, zv⟩ := oz
                    dsimp only at x0 x1 x2 HIJZ HZI
                    have HAL : Hid (Below wv.heap.size wv (wr.alloc (.cells #[.int .i64 zk, .int .i64 zkey, .int .i64 zv] 38))) := Lib.hid (HF.out.alloc HF.out.size _)
                    have HEND := Lib.hid (H6V.out.trans (HAL.out.mono H6V.out.size))
                    obtain ⟨⟨f0, f1, f2⟩, _⟩ := cells3 ((HAL.out.block _ hvl).trans HVV.out)
                    have heq : ∀ u : World, (Op.equalIn 10000 38 (.agg #[.int .i64 zk, .int .i64 zkey, .int .i64 zv]) (.agg #[.int .i64 xk, .int .i64 xkey, .int .i64 xv])).run Try.prog u = .ok (zk == xk && (zkey == xkey && zv == xv)) u := fun u => eqO _ _ _ _ _ _ u
                    have hgd := guardO
                    by_cases hbr : zk = 1 ∧ (⟨zk, zkey, zv⟩ : O3) = ⟨xk, xkey, xv⟩
                    · obtain ⟨rfl, he⟩ := hbr
                      injection he with e0 e1 e2
                      subst e0 e1 e2
                      simp only [BEq.rfl, Bool.and_self] at heq
                      go_wp2
                      go_roundw
                      case rel => exact ⟨y + 1, by omega, by go_num, Lib.hid HEND.out⟩
                      case measure => simp [intOf]; omega
                    · have hzi : z < i := by
                        rcases Nat.lt_or_ge z i with h | h
                        · exact h
                        · exact absurd ⟨(HZI.out (by omega)).2, (HZI.out (by omega)).1⟩ hbr
                      have hno := HIJZ.out hzi
                      have hcs : ((zk == 1) = false ∧ (zk == 2) = true ∧ (zkey == xkey) = false) ∨ ((zk == 1) = false ∧ (zk == 2) = false) ∨ ((zk == 1) = true ∧ (zk == 2) = false ∧ (zk == xk && (zkey == xkey && zv == xv)) = false) := by
                        by_cases h1 : zk = 1
                        · right; right
                          refine ⟨by rw [h1]; rfl, by rw [h1]; rfl, ?_⟩
                          rw [Bool.eq_false_iff]
                          intro h
                          simp at h
                          exact hbr ⟨h1, by rw [h.1, h.2.1, h.2.2]⟩
                        · by_cases h2 : zk = 2
                          · left
                            exact ⟨by rw [beq_eq_false_iff_ne]; exact h1, by rw [h2]; rfl, by rw [beq_eq_false_iff_ne]; exact fun h => hno ⟨h2, h⟩⟩
                          · right; left
                            exact ⟨by rw [beq_eq_false_iff_ne]; exact h1, by rw [beq_eq_false_iff_ne]; exact h2⟩
                      clear hbr hno HIJZ HZI
                      rcases hcs with ⟨h1, h2, h3⟩ | ⟨h1, h2⟩ | ⟨h1, h2, h3⟩
                      · clear heq
                        go_wp2
                        go_roundw
                        case rel => exact ⟨z + 1, by omega, by go_num, Lib.hid HAL.out⟩
                        case measure => simp [intOf]; omega
                      · clear heq
                        go_wp2
                        go_roundw
                        case rel => exact ⟨z + 1, by omega, by go_num, Lib.hid HAL.out⟩
                        case measure => simp [intOf]; omega
                      · rw [h3] at heq
                        clear h3
                        go_wp2
                        go_roundw
                        case rel => exact ⟨z + 1, by omega, by go_num, Lib.hid HAL.out⟩
                        case measure => simp [intOf]; omega
                · obtain rfl : RL.length = y := by omega
                  have HR := Lib.hid (HBZ.out.trans (HZU.out.mono HBZ.out.size))
                  go_wp2
                  go_roundw
                  case rel => exact ⟨t + 1, by omega, by go_num, Lib.hid HR.out⟩
                  case measure => simp [intOf]; omega
        · have hlt' : ¬ (t : Int) < (m : Int) := by omega
          go_wp2
          go_ret
          exact ⟨rfl, HB3.out.trans (HT.out.mono HB3.out.size)⟩
  · go_wp2
    go_ret
    exact ⟨rfl, HB2.out⟩
end Go.Proofs.Ytgpnjgpbblookaa
