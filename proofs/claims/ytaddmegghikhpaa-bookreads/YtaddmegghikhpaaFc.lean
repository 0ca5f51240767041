/-
  The reference's Decode.
-/
import Derived.Test.YtaddmegghikhpaaFb
import Derived.IntWalk
import Derived.Deep.CutRange
import Derived.Deep.CutBlock
namespace Go.Proofs.Ytaddmegghikhpaa
open Go.ChangeShapes Go.WideShapes Go.ChangeAt Go.RowKit

theorem short_here {f : Nat → Nat} {n a : Nat} (h : a = 8 * n) : IsShort f n a := .inl ⟨by omega, fun i hi => by omega⟩

set_option maxRecDepth 100000 in
set_option maxHeartbeats 8000000 in
theorem rdec_any (sp : Option Addr) (n cap : Nat) (f : Nat → Nat) (w : World) (hn : n ≤ 2000) (hf : ∀ j, f j < 256) (hs : Src w sp n f) : Calls Try.prog 16 #[.slice sp n cap] w (DecP w n f) := by
  obtain ⟨i1, hi1, hz0, hz1, hz2⟩ := info_parts info43
  obtain ⟨i2, hi2, hy0, hy1, hy2⟩ := info_parts info38
  have HS := Lib.hid hs
  have HF := Lib.hid hf
  have hn2 : wn 2 = 2 := by decide
  have hn4 : wn 4 = 4 := by decide
  have HN2 := Lib.hid hn2
  have HN4 := Lib.hid hn4
  clear hs hf hn2 hn4
  go_enter Try.func16, Try.ntmps16
  go_wp2_with fail
  refine (rbits_any sp n cap f w (by omega) HF.out HS.out).mono ?_
  rintro e w1 ⟨q, cpq, rfl, hq, hown, hb1⟩
  have HB1 := Lib.hid hb1
  have HBS : Hid (BS w1 q 0 (8 * n) 0 f ∧ 8 * n ≤ cpq) := Lib.hid (by
    refine ⟨⟨(hown.lt q rfl).2, fun j hj => ?_⟩, ?_⟩
    · simp only [Nat.zero_add]; rw [hown.cellAt j (by omega)]; exact rowB_get _ _ j hj
    · rcases hown.2 with ⟨e, _⟩ | ⟨g', cp', cur, e, _, _, hle, _⟩
      · cases e
      · injection e with e1 e2 e3; omega)
  have hql : q < w1.heap.size := HBS.out.1.lt
  have hcpq : 8 * n ≤ cpq := HBS.out.2
  have HDN : Hid (∀ W, Below w1.heap.size w1 W → Below w.heap.size w W) := Lib.hid fun W hg => hb1.trans (hg.mono hb1.size)
  clear hown hb1 hq
  go_wp2_with fail
  refine (rnum_any q 0 (8 * n) cpq n 0 f w1 HBS.out.1 hcpq (by omega)).mono ?_
  rintro e w2 ⟨rfl, ⟨z, hz, rfl⟩ | ⟨hs, rfl⟩ | ⟨hs, rfl⟩⟩
  · obtain ⟨m, em, hm, hsp, hlen, hle⟩ := num_read hz
    rw [← em]
    rw [Nat.zero_add] at hle
    have HSP := Lib.hid hsp
    have HLN := Lib.hid hlen
    clear hz em hsp hlen
    by_cases hm4 : 400 < m
    · obtain ⟨M, eM⟩ : ∃ M : Int, M = (m : Int) := ⟨_, rfl⟩
      have hm4' : (400 : Int) < M := by omega
      have HEB : Hid (ErrB f n 4) := Lib.hid (.inr (.inl ⟨rfl, m, hm4, hm, HSP.out, by rw [HLN.out]; exact hle⟩))
      rw [← eM]
      clear eM hm hm4
      go_wp2
      go_ret2
      exact ⟨HDN.out _ (Below.refl _ _), .inr ⟨4, by decide, rfl, errB_no HEB.out⟩⟩
    · have hm4' : ¬ (400 : Int) < (m : Int) := by omega
      generalize 2 * z + 1 = l at *
      have HS0 : Hid (∀ o : Nat, (l < 8 * n → o = l) → RkS w1 (w1.alloc (.cells #[] 43)) q n f m (.slice (some ⟨w1.heap.size, 0, none⟩) 0 0) 0 (8 * n - l) o) := Lib.hid fun o ho => by
        refine ⟨(Below.refl _ _).alloc (Nat.le_refl _) _, fun _ => ⟨0, 0, 0, fun _ => ⟨0, 0, 0⟩⟩, fun _ => .slice none 0 0, ⟨by omega, HSP.out, fun i hi => absurd hi (Nat.not_lt_zero _), ?_, fun i hi => absurd hi (Nat.not_lt_zero _)⟩, ?_, ?_, ⟨World.ownsRow_lit w1 #[] 0 (Nat.le_refl _) (Nat.zero_le _) rfl, fun i hi => absurd hi (Nat.not_lt_zero _)⟩⟩
        · rw [HLN.out]; show l + 0 ≤ _; omega
        · rw [HLN.out]; show l + 0 + _ = _; omega
        · rw [HLN.out]
          show BS _ q o (8 * n - l) (l + 0) f
          have h1 := HBS.out.1.below ((Below.refl _ _).alloc (Nat.le_refl _) (.cells #[] 43))
          by_cases hl : l < 8 * n
          · rw [ho hl]
            have := h1.part l (8 * n - l) (by omega)
            rw [Nat.zero_add] at this
            exact this
          · rw [show 8 * n - l = 0 by omega]
            exact (h1.front 0 (by omega)).none
      clear HSP HLN
      have hl0 : l ≤ 8 * n := hle
      go_upto_region 7 with (fail)
      go_cut [4] from 29 (fun r wc => ∃ o cp : Nat, r = .slice (some ⟨q, o, none⟩) (8 * n - l) cp ∧ 8 * n - l ≤ cp ∧ w1 = wc ∧ Hid (l < 8 * n → o = l))
      case first =>
        by_cases hcl : cpq = l
        · go_wp2
          go_meet
          exact ⟨0, 0, rfl, by omega, rfl, Lib.hid (fun h => by omega)⟩
        · go_wp2
          go_meet
          exact ⟨l, cpq - l, rfl, by omega, rfl, Lib.hid (fun _ => rfl)⟩
      case rest =>
        obtain ⟨o1, cp1, rfl, hcp1, rfl, HO1⟩ := hcut
        have HR0 := Lib.hid (HS0.out o1 HO1.out)
        clear HS0 HO1
        go_wp2_with fail
        go_loopw [4, 8, 9] (fun r v x wr => ∃ j L o cp : Nat, j ≤ m ∧ x = .int .u64 (j : Int) ∧ r = .slice (some ⟨q, o, none⟩) L cp ∧ L ≤ cp ∧ L ≤ 8 * n ∧ Hid (RkS w1 wr q n f m v j L o)) (fun _ _ x _ => m - (intOf x).toNat)
        case atStart => exact ⟨0, 8 * n - l, o1, cp1, Nat.zero_le _, rfl, rfl, hcp1, by omega, HR0⟩
        case round =>
          obtain ⟨j, L, o, cp, hj, rfl, rfl, hcp, hLn, HT⟩ := hrel
          obtain ⟨wE, rfl⟩ : ∃ wE, wE = wr := ⟨_, rfl⟩
          obtain ⟨hb0, E, V, hG, hL, hbs, hEv⟩ := HT.out
          obtain ⟨spv, cpv, ev⟩ := own_form' hEv.row
          subst ev
          obtain ⟨A, eA⟩ : ∃ A, (numL m).length + (evsL E j).length = A := ⟨_, rfl⟩
          rw [eA] at hL hbs
          have HA := Lib.hid eA
          have HB0 := Lib.hid hb0
          have HG := Lib.hid hG
          have HBR := Lib.hid hbs
          have HEV := Lib.hid hEv
          clear HT HR0 hb0 hG hbs hEv eA hl0 hle hcp1
          have hql2 : q < wE.heap.size := HBR.out.lt
          by_cases hjm : j < m
          · have hjm' : (j : Int) < (m : Int) := by omega
            by_cases h10 : L < 10
            · have h10' : (L : Int) < 10 := by omega
              have HEB : Hid (ErrB f n 10) := Lib.hid (err_ev HA.out hjm HG.out (.inl ⟨by omega, rfl⟩))
              go_wp2
              go_ret2
              exact ⟨HDN.out _ HB0.out, .inr ⟨10, by decide, rfl, errB_no HEB.out⟩⟩
            · have h10' : ¬ (L : Int) < 10 := by omega
              have hc2 : ¬ cp = 2 := by omega
              have hc6 : ¬ cp = 6 := by omega
              go_wp2_with fail
              refine (rget_ok q o L cp A f 2 2 wE HN2.out HBR.out (by omega) hcp (by omega)).mono ?_
              rintro e w' ⟨rfl, rfl⟩
              go_wp2_with fail
              refine (rget_ok q (o + 2) (L - 2) (cp - 2) (A + 2) f 4 4 wE HN4.out (HBR.out.part 2 (L - 2) (by omega)) (by omega) (by omega) (by omega)).mono ?_
              rintro e w' ⟨rfl, rfl⟩
              go_wp2_with fail
              refine (rget_ok q (o + 6) (L - 6) (cp - 6) (A + 6) f 4 4 wE HN4.out (HBR.out.part 6 (L - 6) (by omega)) (by omega) (by omega) (by omega)).mono ?_
              rintro e w' ⟨rfl, rfl⟩
              have hK := gv_lt f A 2
              have hC := gv_lt f (A + 2) 4
              have hN := gv_lt f (A + 6) 4
              obtain ⟨K, eK⟩ : ∃ K, K = gv f A 2 := ⟨_, rfl⟩
              obtain ⟨C, eC⟩ : ∃ C, C = gv f (A + 2) 4 := ⟨_, rfl⟩
              obtain ⟨N, eN⟩ : ∃ N, N = gv f (A + 6) 4 := ⟨_, rfl⟩
              rw [← eK] at hK ⊢
              rw [← eC] at hC ⊢
              rw [← eN] at hN ⊢
              have HK := Lib.hid eK
              have HC := Lib.hid eC
              have HN := Lib.hid eN
              clear eK eC eN
              go_upto_region 17 with (fail)
              go_cut [4] from 46 to 134 (fun r wc => ∃ o2 cp2 : Nat, r = .slice (some ⟨q, o2, none⟩) (L - 10) cp2 ∧ L - 10 ≤ cp2 ∧ wE = wc ∧ Hid (10 < L → o2 = o + 10))
              case first =>
                by_cases hc10 : cp = 10
                · go_wp2
                  go_meet
                  exact ⟨o, 0, by go_num, by omega, rfl, Lib.hid (fun h => by omega)⟩
                · go_wp2
                  go_meet
                  exact ⟨o + 10, cp - 10, rfl, by omega, rfl, Lib.hid (fun _ => rfl)⟩
              case rest =>
                obtain ⟨o2, cp2, rfl, hcp2, rfl, HO2⟩ := hcut
                by_cases hN12 : 12 < N
                · have hN12' : (12 : Int) < (N : Int) := by omega
                  have HEB : Hid (ErrB f n 11) := Lib.hid (err_ev HA.out hjm HG.out (.inr (.inl ⟨by omega, by rw [← HN.out]; exact hN12, rfl⟩)))
                  go_wp2
                  go_ret2
                  exact ⟨HDN.out _ HB0.out, .inr ⟨11, by decide, rfl, errB_no HEB.out⟩⟩
                · have hN12' : ¬ (12 : Int) < (N : Int) := by omega
                  have HI0 : Hid (IkS wE (wE.alloc (.cells #[.int .i64 ((K : Int) + 1), .int .i64 ((C : Int) + 1), .slice none 0 0] 43)) q n f A ((K : Int) + 1) ((C : Int) + 1) 0 (L - 10) o2) := Lib.hid (ik_start (by omega) (by
                    by_cases h : 10 < L
                    · rw [HO2.out h]; exact HBR.out.part 10 (L - 10) (by omega)
                    · rw [show L - 10 = 0 by omega]; exact (HBR.out.front 0 (by omega)).none))
                  clear HO2
                  go_wp2
                  go_loopw [4, 20] (fun r x wr => ∃ jj L' o' cp' : Nat, jj ≤ N ∧ x = .int .u64 (jj : Int) ∧ r = .slice (some ⟨q, o', none⟩) L' cp' ∧ L' ≤ cp' ∧ L' ≤ 8 * n ∧ Hid (IkS wE wr q n f A ((K : Int) + 1) ((C : Int) + 1) jj L' o')) (fun _ x _ => N - (intOf x).toNat)
                  case atStart => exact ⟨0, L - 10, o2, cp2, Nat.zero_le _, rfl, rfl, hcp2, by omega, HI0⟩
                  case round =>
                    obtain ⟨jj, L', o', cp', hjj, rfl, rfl, hcp', hLn', HI⟩ := hrel
                    obtain ⟨hi0, sp6, cap6, op, hQ, how, hfo, hso, hLo, hbo⟩ := HI.out
                    obtain ⟨A', eA'⟩ : ∃ A', A + 10 + (opsL op jj).length = A' := ⟨_, rfl⟩
                    have HLO := Lib.hid hLo
                    rw [eA'] at hLo hbo
                    have HA' := Lib.hid eA'
                    have HI1 := Lib.hid hi0
                    have HQ := Lib.hid hQ
                    have HOW := Lib.hid how
                    have HFO := Lib.hid hfo
                    have HSO := Lib.hid hso
                    have HBO := Lib.hid hbo
                    clear HI HI0 hi0 hQ how hfo hso hbo eA' hcp2
                    have HDR : Hid (Below w.heap.size w wr) := Lib.hid (HDN.out _ (HB0.out.trans (HI1.out.mono HB0.out.size)))
                    by_cases hjn : jj < N
                    · have hjn' : (jj : Int) < (N : Int) := by omega
                      have HEO : Hid (∀ er : Int, ErrO f n A' er → ErrB f n er) := Lib.hid fun er he => err_op HA.out hjm HG.out HN.out (by omega) hjn HFO.out HSO.out HLO.out (by rw [HA'.out]; exact he)
                      by_cases h5 : L' < 5
                      · have h5' : (L' : Int) < 5 := by omega
                        have HEB : Hid (ErrB f n 10) := Lib.hid (HEO.out 10 (.inl ⟨by omega, rfl⟩))
                        go_wp2
                        go_ret2
                        exact ⟨HDR.out, .inr ⟨10, by decide, rfl, errB_no HEB.out⟩⟩
                      · have h5' : ¬ (L' : Int) < 5 := by omega
                        have hc1 : ¬ cp' = 1 := by omega
                        by_cases hc5 : cp' = 5
                        · obtain rfl : L' = 5 := by omega
                          subst hc5
                          have HEB : Hid (ErrB f n 10) := Lib.hid (HEO.out 10 (.inr ⟨by omega, .inl (.inl ⟨short_here (by omega), rfl⟩)⟩))
                          go_wp2_with fail
                          refine (rget_ok q (o' + 1) _ _ (A' + 1) f 4 4 wr HN4.out (HBO.out.part 1 4 (by omega)) (by omega) (by omega) (by omega)).mono ?_
                          rintro e w' ⟨rfl, rfl⟩
                          go_wp2_with fail
                          refine (rnum_any q o' _ _ n (A' + 5) f wr (HBO.out.front 0 (by omega)).none (by omega) (by omega)).mono ?_
                          rintro e w' ⟨rfl, ⟨z, hz, rfl⟩ | ⟨_, rfl⟩ | ⟨hz, rfl⟩⟩
                          · have := hz.2.1; omega
                          · go_wp2
                            go_ret2
                            exact ⟨HDR.out, .inr ⟨10, by decide, rfl, errB_no HEB.out⟩⟩
                          · exact (short_form (short_here (by omega)) hz).elim
                        · go_wp2_with fail
                          refine (rget_ok q (o' + 1) (L' - 1) (cp' - 1) (A' + 1) f 4 4 wr HN4.out (HBO.out.part 1 (L' - 1) (by omega)) (by omega) (by omega) (by omega)).mono ?_
                          rintro e w' ⟨rfl, rfl⟩
                          go_wp2_with fail
                          refine (rnum_any q (o' + 5) (L' - 5) (cp' - 5) n (A' + 5) f wr (HBO.out.part 5 (L' - 5) (by omega)) (by omega) (by omega)).mono ?_
                          rintro e w' ⟨rfl, ⟨z, hz, rfl⟩ | ⟨hz, rfl⟩ | ⟨hz, rfl⟩⟩
                          · obtain ⟨x, ex, hx, hsx, hlx, hlex⟩ := num_read hz
                            by_cases hx4 : 1099511627776 ≤ x
                            · obtain ⟨X, eX⟩ : ∃ X : Int, X = (x : Int) := ⟨_, rfl⟩
                              have hX4 : (1099511627776 : Int) ≤ X := by omega
                              have HEB : Hid (ErrB f n 11) := Lib.hid (HEO.out 11 (.inr ⟨by omega, .inr ⟨rfl, x, hx4, hx, hsx, by rw [hlx]; exact hlex⟩⟩))
                              rw [← ex, ← eX]
                              clear eX hx hx4 hz ex hsx hlx
                              go_wp2
                              go_ret2
                              exact ⟨HDR.out, .inr ⟨11, by decide, rfl, errB_no HEB.out⟩⟩
                            · have hop := op_read hz (by rw [← ex]; omega)
                              rw [← ex] at hop ⊢
                              obtain ⟨X, eX⟩ : ∃ X : Int, X = (x : Int) := ⟨_, rfl⟩
                              rw [← eX] at hop ⊢
                              have hX0 : 0 ≤ X := by omega
                              have hX4 : X < 1099511627776 := by omega
                              have hX4' : ¬ (1099511627776 : Int) ≤ X := by omega
                              have hkb := bitAt_lt f A'
                              have hkv := gv_lt f (A' + 1) 4
                              have c0 := HBO.out.cb 0 (by omega)
                              rw [Nat.add_zero, Nat.add_zero] at c0
                              obtain ⟨kb, ekb⟩ : ∃ kb, kb = bitAt f A' := ⟨_, rfl⟩
                              obtain ⟨kv, ekv⟩ : ∃ kv, kv = gv f (A' + 1) 4 := ⟨_, rfl⟩
                              rw [← ekb] at hkb hop c0
                              rw [← ekv] at hkv hop ⊢
                              obtain ⟨l2, el2⟩ : ∃ l2, l2 = 2 * z + 1 := ⟨_, rfl⟩
                              rw [← el2] at hop hlex ⊢
                              have HOP := Lib.hid hop
                              have hl2 : 5 + l2 ≤ L' := by omega
                              clear ekb ekv el2 eX hx hx4 hz ex hsx hlx hop hlex HEO
                              obtain ⟨⟨q0, q1, q2⟩, hqf⟩ := cells3 HQ.out
                              have hqf2 := hqf 2
                              clear hqf
                              have hqr : q < wr.heap.size := HBO.out.lt
                              have hL0 : 0 < L' := by omega
                              have hL0' : (0 : Int) < (L' : Int) := by omega
                              have hQr : wE.heap.size < wr.heap.size := by
                                rcases Nat.lt_or_ge wE.heap.size wr.heap.size with h' | h'
                                · exact h'
                                · have := HQ.out; rw [Array.getElem?_eq_none h'] at this; cases this
                              have HKO : Hid ((wr.drew.alloc (.cells #[.int .i64 ((kb : Int) + 1), .int .i64 (kv : Int), .int .i64 X] 53)).ownsRow (wE.heap.size + 1) 53 3 (.slice sp6 jj cap6) jj (rowO op jj)) := Lib.hid ((own_keep (w' := wr.drew) HOW.out fun _ _ => rfl).alloc _)
                              have HNW : Hid (∀ (i : Nat) (u : Value), [Value.int .i64 ((kb : Int) + 1), .int .i64 (kv : Int), .int .i64 X][i]? = some u → (wr.drew.alloc (.cells #[.int .i64 ((kb : Int) + 1), .int .i64 (kv : Int), .int .i64 X] 53)).cell? ((⟨wr.drew.heap.size, 0, none⟩ : Addr).add i) = some u) := Lib.hid fun i u hu => by
                                rw [Go.WideShapes.add_plain, cell_of_row _ _ _ _ 53 (0, 0) (heap_alloc_new wr.drew _), Nat.zero_add]
                                simpa using hu
                              have HQA : Hid ((wr.drew.alloc (.cells #[.int .i64 ((kb : Int) + 1), .int .i64 (kv : Int), .int .i64 X] 53)).heap[wE.heap.size]? = some (.cells #[.int .i64 ((K : Int) + 1), .int .i64 ((C : Int) + 1), .slice sp6 jj cap6] 43 (0, 0))) := Lib.hid ((((Below.refl wr.drew.heap.size wr.drew).alloc (Nat.le_refl _) _).block wE.heap.size hQr).trans HQ.out)
                              have hw0 : IntKind.i64.wrap (kb : Int) = (kb : Int) := IntWalk.i64_in _ (by omega)
                              have hw1 : IntKind.i64.wrap ((kb : Int) + 1) = (kb : Int) + 1 := IntWalk.i64_in _ (by omega)
                              have hw2 : IntKind.i64.wrap (kv : Int) = (kv : Int) := IntWalk.i64_in _ (by omega)
                              have hw3 : IntKind.i64.wrap X = X := IntWalk.i64_in _ (by omega)
                              go_wp2
                              go_region_law (first
                                | (refine step_append_lies _ (by rfl) _ _ 41 (by rfl) (wE.heap.size + 1) 53 i2 (.agg #[.int .i64 0, .int .i64 0, .int .i64 0]) 3 24 Try.underlying41 hi2 hy0 hy1 hy2 rfl (by decide) _ jj (rowO op jj) (by rfl) HKO.out ⟨wr.drew.heap.size, 0, none⟩ 1 1 [.int .i64 ((kb : Int) + 1), .int .i64 (kv : Int), .int .i64 X] (by rfl) (by rfl) HNW.out (by intro u hu; simp at hu; rcases hu with rfl | rfl | rfl <;> rfl) (by omega) (by unfold maxLen; omega) (by omega) (Nat.le_trans hQr (by simp)) _ rfl ?_; intro g7 c7 w7 ho7 hg7 hat7 hl7; obtain ⟨⟨z0, z1, z2⟩, fz7⟩ := cells3 (blk_keepQ HKO.out HQA.out hg7); have fz70 := fz7 2))
                              all_goals
                                have HIK : Hid (∀ o3 : Nat, (5 + l2 < L' → o3 = o' + (5 + l2)) → IkS wE (w7.setCell ⟨wE.heap.size, 2, none⟩ (.slice (some ⟨g7, 0, none⟩) (jj + 1) c7)) q n f A ((K : Int) + 1) ((C : Int) + 1) (jj + 1) (L' - (5 + l2)) o3) := Lib.hid fun o3 h3 => by
                                  have := ik_next (t := ⟨(kb : Int) + 1, (kv : Int), X⟩) (o' := o3) hql2 HI1.out HQ.out HOW.out HFO.out HSO.out HLO.out (by rw [HA'.out]; exact HBO.out) HOP.out.1 (by rw [HA'.out]; exact HOP.out.2.1) (by rw [HOP.out.2.2]; exact hl2) (by rw [HOP.out.2.2]; exact h3) (show wr.drew.heap = wr.heap from rfl) (Below.refl _ _).drew ho7 hg7
                                  rw [HOP.out.2.2] at this
                                  exact this
                                clear ho7 hg7 hat7 hl7 z0 z1 z2 fz7 fz70 hw0 hw1 hw2 hw3 q0 q1 q2 hqf2 c0 HKO HNW HQA
                                have hs1 : ((5 : Int) + (l2 : Int)).toNat = 5 + l2 := by omega
                                have hs2 : (0 : Int) ≤ 5 + (l2 : Int) := by omega
                                have hs3 : (5 : Int) + (l2 : Int) ≤ (L' : Int) := by omega
                                have hs4 : (5 : Int) + (l2 : Int) ≤ (cp' : Int) := by omega
                                by_cases hcm : cp' = 5 + l2
                                · have hLm : L' = 5 + l2 := by omega
                                  have HLM := Lib.hid hLm
                                  clear hLm
                                  go_wp2
                                  go_roundw
                                  case rel => exact ⟨jj + 1, L' - (5 + l2), o', _, by omega, by go_num, rfl, by have := HLM.out; omega, by omega, Lib.hid (HIK.out o' (fun h => by have := HLM.out; omega))⟩
                                  case measure => simp [intOf]; omega
                                · go_wp2
                                  go_roundw
                                  case rel => exact ⟨jj + 1, L' - (5 + l2), o' + (5 + l2), cp' - (5 + l2), by omega, by go_num, rfl, by omega, by omega, Lib.hid (HIK.out _ (fun _ => rfl))⟩
                                  case measure => simp [intOf]; omega
                          · have HEB : Hid (ErrB f n 10) := Lib.hid (HEO.out 10 (.inr ⟨by omega, .inl (.inl ⟨hz, rfl⟩)⟩))
                            clear hz
                            go_wp2
                            go_ret2
                            exact ⟨HDR.out, .inr ⟨10, by decide, rfl, errB_no HEB.out⟩⟩
                          · have HEB : Hid (ErrB f n 11) := Lib.hid (HEO.out 11 (.inr ⟨by omega, .inl (.inr ⟨hz, rfl⟩)⟩))
                            clear hz
                            go_wp2
                            go_ret2
                            exact ⟨HDR.out, .inr ⟨11, by decide, rfl, errB_no HEB.out⟩⟩
                    · obtain rfl : N = jj := by omega
                      obtain ⟨⟨q0, q1, q2⟩, _⟩ := cells3 HQ.out
                      have HRW : Hid ((wr.alloc (.cells #[.int .i64 ((K : Int) + 1), .int .i64 ((C : Int) + 1), .slice sp6 N cap6] 43)).ownsRow w1.heap.size 43 3 (.slice spv j cpv) j (rowT (fun i => asT (E i)) V j)) := Lib.hid ((HEV.out.below HI1.out).row.alloc _)
                      have HNW : Hid (∀ (i : Nat) (u : Value), [Value.int .i64 ((K : Int) + 1), .int .i64 ((C : Int) + 1), .slice sp6 N cap6][i]? = some u → (wr.alloc (.cells #[.int .i64 ((K : Int) + 1), .int .i64 ((C : Int) + 1), .slice sp6 N cap6] 43)).cell? ((⟨wr.heap.size, 0, none⟩ : Addr).add i) = some u) := Lib.hid fun i u hu => by
                        rw [Go.WideShapes.add_plain, cell_of_row _ _ _ _ 43 (0, 0) (heap_alloc_new wr _), Nat.zero_add]
                        simpa using hu
                      have HZ6 : Hid (w1.heap.size ≤ wr.heap.size) := Lib.hid (Nat.le_trans HB0.out.size HI1.out.size)
                      go_wp2_with (at_builtin; refine wpList_append_lies _ rfl _ _ 22 rfl w1.heap.size 43 i1 (.agg #[.int .i64 0, .int .i64 0, .slice none 0 0]) 3 40 Try.underlying22 hi1 hz0 hz1 hz2 rfl (by decide) _ j _ rfl HRW.out ⟨wr.heap.size, 0, none⟩ 1 1 [.int .i64 ((K : Int) + 1), .int .i64 ((C : Int) + 1), .slice sp6 N cap6] rfl rfl HNW.out (by intro u hu; simp at hu; rcases hu with rfl | rfl | rfl <;> rfl) (by omega) (by unfold maxLen; omega) (by omega) (Nat.le_trans HZ6.out (by simp)) _ rfl ?_)
                      intro g7 c7 w7 ho7 hg7 hat7 hl7
                      have HD7 : Hid (RkS w1 w7 q n f m (.slice (some ⟨g7, 0, none⟩) (j + 1) c7) (j + 1) L' o') := Lib.hid (rk_next HA.out hql HB0.out HG.out HEV.out HN.out (by omega) HI1.out HOW.out HFO.out HSO.out HLO.out (by rw [HA'.out]; exact HBO.out) (by rw [← HK.out, ← HC.out]; exact ho7) (by rw [← HK.out, ← HC.out]; exact hg7))
                      clear ho7 hg7 hat7 hl7 HRW HNW
                      go_wp2
                      go_roundw
                      case rel => exact ⟨j + 1, L', o', cp', by omega, by go_num, rfl, hcp', hLn', HD7⟩
                      case measure => simp [intOf]; omega
          · obtain rfl : m = j := by omega
            by_cases h7 : 7 < L
            · have h7' : (7 : Int) < (L : Int) := by omega
              have HEB : Hid (ErrB f n 12) := Lib.hid (.inr (.inr (.inr ⟨rfl, m, E, HG.out, end_bad (L := L) (by rw [HA.out]; exact hL) (by unfold endOf; rw [if_pos (.inl h7)])⟩)))
              go_wp2
              go_ret2
              exact ⟨HDN.out _ HB0.out, .inr ⟨12, by decide, rfl, errB_no HEB.out⟩⟩
            · have h7' : ¬ (7 : Int) < (L : Int) := by omega
              go_wp2
              go_loopw [28, 140] (fun _ x wr => ∃ t : Nat, t ≤ L ∧ x = .int .i64 (t : Int) ∧ wE = wr ∧ Hid (∀ i, i < t → bitAt f (A + i) = 0)) (fun _ x _ => L - (intOf x).toNat)
              case atStart => exact ⟨0, Nat.zero_le _, rfl, rfl, Lib.hid (fun i hi => absurd hi (Nat.not_lt_zero _))⟩
              case round =>
                obtain ⟨t, ht, rfl, rfl, HZ⟩ := hrel
                by_cases htL : t < L
                · have htL' : (t : Int) < (L : Int) := by omega
                  have c1 := HBR.out.cb t htL
                  have hb := bitAt_lt f (A + t)
                  obtain ⟨b, eb⟩ : ∃ b, b = bitAt f (A + t) := ⟨_, rfl⟩
                  rw [← eb] at hb c1
                  have HE := Lib.hid eb
                  clear eb
                  by_cases hb0 : b = 0
                  · have b1 : ((b : Int) != 0) = false := by rw [hb0]; rfl
                    have HZ2 : Hid (∀ i, i < t + 1 → bitAt f (A + i) = 0) := Lib.hid (fun i hi => by
                      by_cases e : i = t
                      · subst e; rw [← HE.out]; exact hb0
                      · exact HZ.out i (by omega))
                    clear hb0
                    go_wp2
                    go_roundw
                    case rel => exact ⟨t + 1, by omega, by go_num, by first | rfl | trivial, HZ2⟩
                    case measure => simp [intOf]; omega
                  · have b1 : ((b : Int) != 0) = true := by rw [bne_iff_ne]; omega
                    have HEB : Hid (ErrB f n 12) := Lib.hid (.inr (.inr (.inr ⟨rfl, m, E, HG.out, end_bad (L := L) (by rw [HA.out]; exact hL) (by unfold endOf; rw [if_pos (.inr (by rw [HA.out]; exact gv_some f A L t htL (by rw [← HE.out]; exact hb0)))])⟩)))
                    clear hb0
                    go_wp2
                    go_ret2
                    exact ⟨HDN.out _ HB0.out, .inr ⟨12, by decide, rfl, errB_no HEB.out⟩⟩
                · obtain rfl : t = L := by omega
                  have HE0 : Hid (8 * n < A + 8 ∧ Ends f A) := Lib.hid (end_zero (L := t) HF.out (by omega) (by unfold endOf; rw [if_neg (fun h => by rcases h with h | h; omega; exact h (gv_noughts f A t HZ.out))]))
                  go_wp2
                  go_ret2
                  refine ⟨HDN.out _ HB0.out, .inl ⟨E, m, spv, cpv, V, rfl, ?_⟩⟩
                  obtain ⟨s1, s2, s3, s4, s5⟩ := HG.out
                  have hBL : (BL E m).length = A := by unfold BL; rw [List.length_append]; exact HA.out
                  exact ⟨s1, HEV.out.low HB1.out.size, s5, Sp.app.2 ⟨s2, by rw [Nat.zero_add]; exact s3⟩, by rw [hBL]; omega, by rw [hBL]; exact HE0.out.1, by rw [hBL]; exact HE0.out.2⟩
  · have HEB : Hid (ErrB f n 10) := Lib.hid (.inl (.inl ⟨hs, rfl⟩))
    clear hs
    go_wp2
    go_ret2
    exact ⟨HDN.out _ (Below.refl _ _), .inr ⟨10, by decide, rfl, errB_no HEB.out⟩⟩
  · have HEB : Hid (ErrB f n 11) := Lib.hid (.inl (.inr ⟨hs, rfl⟩))
    clear hs
    go_wp2
    go_ret2
    exact ⟨HDN.out _ (Below.refl _ _), .inr ⟨11, by decide, rfl, errB_no HEB.out⟩⟩
end Go.Proofs.Ytaddmegghikhpaa
