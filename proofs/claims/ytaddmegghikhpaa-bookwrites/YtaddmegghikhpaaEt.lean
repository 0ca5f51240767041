/-
  The reference's Bits of a history.
-/
import Derived.Test.YtaddmegghikhpaaEs
import Derived.IntWalk
namespace Go.Proofs.Ytaddmegghikhpaa
open Go.ChangeShapes Go.WideShapes Go.ChangeAt Go.RowKit

theorem blk_lt {w : World} {Q : Nat} {x : Obj} (h : w.heap[Q]? = some x) : Q < w.heap.size := by
  rcases Nat.lt_or_ge Q w.heap.size with h' | h'
  · exact h'
  · rw [Array.getElem?_eq_none h'] at h; cases h
theorem stepL {w0 w1 w2 : World} {B g cap Q t : Nat} {L : List Nat} {cs : Array Value} (hB : Below B w0 w1) (hR : RowS w1 B L g cap) (hBl : B ≤ w1.heap.size) (hg : w1.grownBy w2 (some g)) (hQ : w1.heap[Q]? = some (.cells cs t (0, 0))) (ht : t ≠ 5) :
    Below B w0 w2 ∧ w2.heap[Q]? = some (.cells cs t (0, 0)) := by
  refine ⟨hB.grown hg hBl (fun q hq => by injection hq with hq; subst hq; exact (hR.lt _ rfl).1), ?_⟩
  have hq : Q < w1.heap.size := by
    rcases Nat.lt_or_ge Q w1.heap.size with h' | h'
    · exact h'
    · rw [Array.getElem?_eq_none h'] at hQ; cases hQ
  refine (hg.block Q hq (fun e => ?_)).trans hQ
  injection e with e
  obtain ⟨cur, e3⟩ := own_cells hR (g := g) rfl
  rw [← e, hQ] at e3
  injection e3 with e3
  injection e3 with _ e3
  exact ht e3

set_option maxRecDepth 100000 in
set_option maxHeartbeats 8000000 in
theorem rbook_any (a : Option Addr) (len cap : Nat) (E : Nat → Ev) (w : World) (hl4 : len ≤ 400) (hs : EvS w a len E) (hfit : ∀ i, i < len → Fit (E i)) : Calls Try.prog 22 #[.slice a len cap] w (LP (BL E len) w) := by
  have HS := Lib.hid hs
  have HFT := Lib.hid hfit
  have hw2 : wn 2 = 2 := by decide
  have hw4 : wn 4 = 4 := by decide
  have hw1 : wn 1 = 1 := by decide
  have HN2 := Lib.hid hw2
  have HN4 := Lib.hid hw4
  have HN1 := Lib.hid hw1
  obtain ⟨B, eB⟩ : ∃ B, B = w.heap.size := ⟨_, rfl⟩
  have HEB := Lib.hid eB
  have HNL := Lib.hid (numL_le len (by omega))
  clear hs hfit hw2 hw4 hw1 eB
  go_enter Try.func22, Try.ntmps22
  go_wp2_with fail
  refine (rnum_L len w (by omega)).mono ?_
  rintro e w1 ⟨g1, c1, rfl, hr1, hb1⟩
  rw [← HEB.out] at hr1 hb1
  have HR1 := Lib.hid hr1
  have HB1 := Lib.hid hb1
  clear hr1 hb1
  go_wp2
  go_loopw [3, 5, 7, 14] (fun v _ _ x wr => ∃ (i g c : Nat), i ≤ len ∧ x = .int .i64 (i : Int) ∧ v = .slice (some ⟨g, 0, none⟩) (numL len ++ evsL E i).length c ∧ Hid (RowS wr B (numL len ++ evsL E i) g c ∧ Below B w wr ∧ B ≤ wr.heap.size)) (fun _ _ _ x _ => len - (intOf x).toNat)
  case atStart => exact ⟨0, g1, c1, Nat.zero_le _, rfl, by rw [show evsL E 0 = [] from rfl, List.append_nil], Lib.hid ⟨by rw [show evsL E 0 = [] from rfl, List.append_nil]; exact HR1.out, HB1.out, by have := HB1.out.size; have := HEB.out; omega⟩⟩
  case round =>
    obtain ⟨i, g, c, hi, rfl, rfl, HT⟩ := hrel
    by_cases hlt : i < len
    · obtain ⟨b, off, rfl, hbl, hci⟩ := HS.out (by omega)
      obtain ⟨sp, cp, c0, c1, c2, ho, hp, hnn⟩ := hci i hlt
      have hbB : b < B := by have := HEB.out; omega
      have x0 := (HT.out.2.1.cell (p := ⟨b, off + i * 3, none⟩) hbB).trans c0
      have x1 := (HT.out.2.1.cell (p := ⟨b, off + i * 3 + 1, none⟩) hbB).trans c1
      have x2 := (HT.out.2.1.cell (p := ⟨b, off + i * 3 + 2, none⟩) hbB).trans c2
      have hlt' : (i : Int) < (len : Int) := by omega
      have HO := Lib.hid ho
      have hle := evsL_le E i fun j hj => HFT.out j (by omega)
      have HNX : Hid (evsL E (i + 1) = evsL E i ++ evL (E i)) := Lib.hid rfl
      have hft := HFT.out i hlt
      obtain ⟨L0, eL⟩ : ∃ L0, L0 = numL len ++ evsL E i := ⟨_, rfl⟩
      have hLl : L0.length ≤ 129 + 1618 * i := by rw [eL, List.length_append]; have := HNL.out; omega
      have HEL := Lib.hid eL
      rw [← eL] at HT ⊢
      clear c0 c1 c2 ho hp hci eL hle
      generalize E i = ev at *
      obtain ⟨k, cl, n, o⟩ := ev
      obtain ⟨hk1, hk4, hc1, hc16, hn12, hfo⟩ := hft
      dsimp only at x0 x1 x2 hnn HO hk1 hk4 hc1 hc16 hn12 hfo
      have HFO := Lib.hid hfo
      clear hfo
      obtain ⟨y0, ewy⟩ : ∃ y0, y0 = wr.alloc (.cells #[.int .i64 k, .int .i64 cl, .slice sp n cp] 43) := ⟨_, rfl⟩
      have hyb : Below wr.heap.size wr y0 := by rw [ewy]; exact (Below.refl _ _).alloc (Nat.le_refl _) _
      have hyy : y0.heap[wr.heap.size]? = some (.cells #[.int .i64 k, .int .i64 cl, .slice sp n cp] 43 (0, 0)) := by rw [ewy]; exact heap_alloc_new wr _
      have HC0 := Lib.hid (HT.out.1.below hyb)
      have HD0 := Lib.hid (HT.out.2.1.trans (hyb.mono HT.out.2.2))
      have HZ0 : Hid (B ≤ y0.heap.size) := Lib.hid (Nat.le_trans HT.out.2.2 hyb.size)
      obtain ⟨P, eP⟩ : ∃ P, P = wr.heap.size := ⟨_, rfl⟩
      rw [← eP] at hyy
      have hPB : B ≤ P := by have := HT.out.2.2; omega
      obtain ⟨k', ek⟩ : ∃ k' : Nat, k = (k' : Int) + 1 := ⟨(k - 1).toNat, by omega⟩
      obtain ⟨cl', ecl⟩ : ∃ cl' : Nat, cl = (cl' : Int) + 1 := ⟨(cl - 1).toNat, by omega⟩
      subst ek ecl
      have HX0 := Lib.hid hyy
      clear hyb hyy HT
      obtain ⟨⟨q0, q1, q2⟩, _⟩ := cells3 HX0.out
      go_wp2_with fail
      rw [← ewy, ← eP]
      clear ewy eP x0 x1 x2
      refine (rput_L k' 2 2 y0 (by omega) HN2.out).mono ?_
      rintro e z1 ⟨p1, d1, rfl, hr, hb⟩
      have HA1 := Lib.hid hr
      have HB1 := Lib.hid (HC0.out.below hb)
      have HE1 := Lib.hid (HD0.out.trans (hb.mono HZ0.out))
      have HY1 : Hid (B ≤ z1.heap.size) := Lib.hid (Nat.le_trans HZ0.out hb.size)
      have HW1 := Lib.hid ((hb.block P (blk_lt HX0.out)).trans HX0.out)
      clear hr hb q0 q1 q2 HC0 HD0 HZ0 HX0
      go_wp2_with (at_builtin; refine wpList_append_L rfl _ _ rfl B _ L0 (bitsL k' 2) g c p1 d1 rfl HB1.out rfl HA1.out (by omega) (by rw [bitsL_length]; omega) HY1.out ?_)
      intro g1 c1 y1 hr hg
      obtain ⟨L1, eL⟩ : ∃ L1, L1 = L0 ++ bitsL k' 2 := ⟨_, rfl⟩
      have hl1 : L1.length ≤ 650002 := by rw [eL, List.length_append, bitsL_length]; omega
      have HL1 := Lib.hid eL
      rw [← List.length_append, ← eL]
      rw [← eL] at hr
      have HC1 := Lib.hid hr
      have hst := stepL HE1.out HB1.out HY1.out hg HW1.out (by decide)
      have HD1 := Lib.hid hst.1
      have HX1 := Lib.hid hst.2
      have HZ1 : Hid (B ≤ y1.heap.size) := Lib.hid (Nat.le_trans HY1.out hg.size)
      clear hr hg hst eL HA1 HB1 HE1 HY1 HW1
      obtain ⟨⟨q0, q1, q2⟩, _⟩ := cells3 HX1.out
      go_wp2_with fail
      refine (rput_L cl' 4 4 y1 (by omega) HN4.out).mono ?_
      rintro e z2 ⟨p2, d2, rfl, hr, hb⟩
      have HA2 := Lib.hid hr
      have HB2 := Lib.hid (HC1.out.below hb)
      have HE2 := Lib.hid (HD1.out.trans (hb.mono HZ1.out))
      have HY2 : Hid (B ≤ z2.heap.size) := Lib.hid (Nat.le_trans HZ1.out hb.size)
      have HW2 := Lib.hid ((hb.block P (blk_lt HX1.out)).trans HX1.out)
      clear hr hb q0 q1 q2 HC1 HD1 HZ1 HX1
      go_wp2_with (at_builtin; refine wpList_append_L rfl _ _ rfl B _ L1 (bitsL cl' 4) g1 c1 p2 d2 rfl HB2.out rfl HA2.out (by omega) (by rw [bitsL_length]; omega) HY2.out ?_)
      intro g2 c2 y2 hr hg
      obtain ⟨L2, eL⟩ : ∃ L2, L2 = L1 ++ bitsL cl' 4 := ⟨_, rfl⟩
      have hl2 : L2.length ≤ 650006 := by rw [eL, List.length_append, bitsL_length]; omega
      have HL2 := Lib.hid eL
      rw [← List.length_append, ← eL]
      rw [← eL] at hr
      have HC2 := Lib.hid hr
      have hst := stepL HE2.out HB2.out HY2.out hg HW2.out (by decide)
      have HD2 := Lib.hid hst.1
      have HX2 := Lib.hid hst.2
      have HZ2 : Hid (B ≤ y2.heap.size) := Lib.hid (Nat.le_trans HY2.out hg.size)
      clear hr hg hst eL HA2 HB2 HE2 HY2 HW2
      obtain ⟨⟨q0, q1, q2⟩, _⟩ := cells3 HX2.out
      go_wp2_with fail
      refine (rput_L n 4 4 y2 (by omega) HN4.out).mono ?_
      rintro e z3 ⟨p3, d3, rfl, hr, hb⟩
      have HA3 := Lib.hid hr
      have HB3 := Lib.hid (HC2.out.below hb)
      have HE3 := Lib.hid (HD2.out.trans (hb.mono HZ2.out))
      have HY3 : Hid (B ≤ z3.heap.size) := Lib.hid (Nat.le_trans HZ2.out hb.size)
      have HW3 := Lib.hid ((hb.block P (blk_lt HX2.out)).trans HX2.out)
      clear hr hb q0 q1 q2 HC2 HD2 HZ2 HX2
      go_wp2_with (at_builtin; refine wpList_append_L rfl _ _ rfl B _ L2 (bitsL n 4) g2 c2 p3 d3 rfl HB3.out rfl HA3.out (by omega) (by rw [bitsL_length]; omega) HY3.out ?_)
      intro g3 c3 y3 hr hg
      obtain ⟨L3, eL⟩ : ∃ L3, L3 = L2 ++ bitsL n 4 := ⟨_, rfl⟩
      have hl3 : L3.length ≤ 650010 := by rw [eL, List.length_append, bitsL_length]; omega
      have HL3 := Lib.hid eL
      rw [← List.length_append, ← eL]
      rw [← eL] at hr
      have HC3 := Lib.hid hr
      have hst := stepL HE3.out HB3.out HY3.out hg HW3.out (by decide)
      have HD3 := Lib.hid hst.1
      have HX3 := Lib.hid hst.2
      have HZ3 : Hid (B ≤ y3.heap.size) := Lib.hid (Nat.le_trans HY3.out hg.size)
      clear hr hg hst eL HA3 HB3 HE3 HY3 HW3
      obtain ⟨⟨q0, q1, q2⟩, _⟩ := cells3 HX3.out
      go_wp2
      clear q0 q1 q2
      go_loopw [3, 7, 42] (fun v _ x ws => ∃ (t g c : Nat), t ≤ n ∧ x = .int .i64 (t : Int) ∧ v = .slice (some ⟨g, 0, none⟩) (L3 ++ opsL o t).length c ∧ Hid (RowS ws B (L3 ++ opsL o t) g c ∧ Below B w ws ∧ B ≤ ws.heap.size)) (fun _ _ x _ => n - (intOf x).toNat)
      case atStart => exact ⟨0, g3, c3, Nat.zero_le _, rfl, by rw [show opsL o 0 = [] from rfl, List.append_nil], Lib.hid ⟨by rw [show opsL o 0 = [] from rfl, List.append_nil]; exact HC3.out, HD3.out, HZ3.out⟩⟩
      case round =>
        obtain ⟨t, g4, c4, ht, rfl, rfl, HU⟩ := hrel
        by_cases hlt2 : t < n
        · obtain ⟨b2, off2, rfl, hbl2, hci2⟩ := HO.out (by omega)
          obtain ⟨o0, o1, o2⟩ := hci2 t hlt2
          have hbB2 : b2 < B := by have := HEB.out; omega
          have x0 := (HU.out.2.1.cell (p := ⟨b2, off2 + t * 3, none⟩) hbB2).trans o0
          have x1 := (HU.out.2.1.cell (p := ⟨b2, off2 + t * 3 + 1, none⟩) hbB2).trans o1
          have x2 := (HU.out.2.1.cell (p := ⟨b2, off2 + t * 3 + 2, none⟩) hbB2).trans o2
          have hlt2' : (t : Int) < (n : Int) := by omega
          have hfo := HFO.out t hlt2
          have hol : (opsL o t).length ≤ 134 * t := opsL_le o t fun i hi => HFO.out i (by omega)
          have HOL : Hid (opsL o (t + 1) = opsL o t ++ (bitsL ((o t).k - 1).toNat 1 ++ (bitsL (o t).key.toNat 4 ++ numL (o t).v.toNat))) := Lib.hid rfl
          obtain ⟨L4, eL4⟩ : ∃ L4, L4 = L3 ++ opsL o t := ⟨_, rfl⟩
          have hl4' : L4.length ≤ 652000 := by rw [eL4, List.length_append]; omega
          have HL4 := Lib.hid eL4
          rw [← eL4] at HU ⊢
          clear o0 o1 o2 hci2 eL4 hol
          generalize o t = ot at *
          obtain ⟨ok, okey, ov⟩ := ot
          obtain ⟨hf1, hf2, hf3, hf4, hf5⟩ := hfo
          dsimp only at x0 x1 x2 hf1 hf2 hf3 hf4 hf5 HOL
          obtain ⟨ok', eok⟩ : ∃ ok' : Nat, ok = (ok' : Int) + 1 := ⟨(ok - 1).toNat, by omega⟩
          obtain ⟨ky, eky⟩ : ∃ ky : Nat, okey = (ky : Int) := ⟨okey.toNat, by omega⟩
          obtain ⟨xv, exv⟩ : ∃ xv : Nat, ov = (xv : Int) := ⟨ov.toNat, by omega⟩
          subst eok eky exv
          have hok : ok' ≤ 1 := by omega
          have hky : ky ≤ 15 := by omega
          have hxv : xv < 1099511627776 := by omega
          rw [show ((ok' : Int) + 1 - 1).toNat = ok' by omega, Int.toNat_natCast, Int.toNat_natCast] at HOL
          have HXL := Lib.hid (numL_le xv (by omega))
          clear hf1 hf2 hf3 hf4 hf5
          obtain ⟨y4, ewz⟩ : ∃ y4, y4 = wr.alloc (.cells #[.int .i64 ((ok' : Int) + 1), .int .i64 (ky : Int), .int .i64 (xv : Int)] 53) := ⟨_, rfl⟩
          have hyb : Below wr.heap.size wr y4 := by rw [ewz]; exact (Below.refl _ _).alloc (Nat.le_refl _) _
          have hyy : y4.heap[wr.heap.size]? = some (.cells #[.int .i64 ((ok' : Int) + 1), .int .i64 (ky : Int), .int .i64 (xv : Int)] 53 (0, 0)) := by rw [ewz]; exact heap_alloc_new wr _
          have HC4 := Lib.hid (HU.out.1.below hyb)
          have HD4 := Lib.hid (HU.out.2.1.trans (hyb.mono HU.out.2.2))
          have HZ4 : Hid (B ≤ y4.heap.size) := Lib.hid (Nat.le_trans HU.out.2.2 hyb.size)
          obtain ⟨P2, eP2⟩ : ∃ P2, P2 = wr.heap.size := ⟨_, rfl⟩
          rw [← eP2] at hyy
          have HX4 := Lib.hid hyy
          clear hyb hyy HU
          obtain ⟨⟨q0, q1, q2⟩, _⟩ := cells3 HX4.out
          go_wp2_with fail
          rw [← ewz, ← eP2]
          clear ewz eP2 x0 x1 x2
          refine (rput_L ok' 1 1 y4 (by omega) HN1.out).mono ?_
          rintro e z5 ⟨p5, d5, rfl, hr, hb⟩
          have HA5 := Lib.hid hr
          have HB5 := Lib.hid (HC4.out.below hb)
          have HE5 := Lib.hid (HD4.out.trans (hb.mono HZ4.out))
          have HY5 : Hid (B ≤ z5.heap.size) := Lib.hid (Nat.le_trans HZ4.out hb.size)
          have HW5 := Lib.hid ((hb.block P2 (blk_lt HX4.out)).trans HX4.out)
          clear hr hb q0 q1 q2 HC4 HD4 HZ4 HX4
          go_wp2_with (at_builtin; refine wpList_append_L rfl _ _ rfl B _ L4 (bitsL ok' 1) g4 c4 p5 d5 rfl HB5.out rfl HA5.out (by omega) (by rw [bitsL_length]; omega) HY5.out ?_)
          intro g5 c5 y5 hr hg
          obtain ⟨L5, eL⟩ : ∃ L5, L5 = L4 ++ bitsL ok' 1 := ⟨_, rfl⟩
          have hl5 : L5.length ≤ 652001 := by rw [eL, List.length_append, bitsL_length]; omega
          have HL5 := Lib.hid eL
          rw [← List.length_append, ← eL]
          rw [← eL] at hr
          have HC5 := Lib.hid hr
          have hst := stepL HE5.out HB5.out HY5.out hg HW5.out (by decide)
          have HD5 := Lib.hid hst.1
          have HX5 := Lib.hid hst.2
          have HZ5 : Hid (B ≤ y5.heap.size) := Lib.hid (Nat.le_trans HY5.out hg.size)
          clear hr hg hst eL HA5 HB5 HE5 HY5 HW5
          obtain ⟨⟨q0, q1, q2⟩, _⟩ := cells3 HX5.out
          go_wp2_with fail
          refine (rput_L ky 4 4 y5 (by omega) HN4.out).mono ?_
          rintro e z6 ⟨p6, d6, rfl, hr, hb⟩
          have HA6 := Lib.hid hr
          have HB6 := Lib.hid (HC5.out.below hb)
          have HE6 := Lib.hid (HD5.out.trans (hb.mono HZ5.out))
          have HY6 : Hid (B ≤ z6.heap.size) := Lib.hid (Nat.le_trans HZ5.out hb.size)
          have HW6 := Lib.hid ((hb.block P2 (blk_lt HX5.out)).trans HX5.out)
          clear hr hb q0 q1 q2 HC5 HD5 HZ5 HX5
          go_wp2_with (at_builtin; refine wpList_append_L rfl _ _ rfl B _ L5 (bitsL ky 4) g5 c5 p6 d6 rfl HB6.out rfl HA6.out (by omega) (by rw [bitsL_length]; omega) HY6.out ?_)
          intro g6 c6 y6 hr hg
          obtain ⟨L6, eL⟩ : ∃ L6, L6 = L5 ++ bitsL ky 4 := ⟨_, rfl⟩
          have hl6 : L6.length ≤ 652005 := by rw [eL, List.length_append, bitsL_length]; omega
          have HL6 := Lib.hid eL
          rw [← List.length_append, ← eL]
          rw [← eL] at hr
          have HC6 := Lib.hid hr
          have hst := stepL HE6.out HB6.out HY6.out hg HW6.out (by decide)
          have HD6 := Lib.hid hst.1
          have HX6 := Lib.hid hst.2
          have HZ6 : Hid (B ≤ y6.heap.size) := Lib.hid (Nat.le_trans HY6.out hg.size)
          clear hr hg hst eL HA6 HB6 HE6 HY6 HW6
          obtain ⟨⟨q0, q1, q2⟩, _⟩ := cells3 HX6.out
          go_wp2_with fail
          refine (rnum_L xv y6 (by omega)).mono ?_
          rintro e z7 ⟨p7, d7, rfl, hr, hb⟩
          have HA7 := Lib.hid hr
          have HB7 := Lib.hid (HC6.out.below hb)
          have HE7 := Lib.hid (HD6.out.trans (hb.mono HZ6.out))
          have HY7 : Hid (B ≤ z7.heap.size) := Lib.hid (Nat.le_trans HZ6.out hb.size)
          have HW7 := Lib.hid ((hb.block P2 (blk_lt HX6.out)).trans HX6.out)
          clear hr hb q0 q1 q2 HC6 HD6 HZ6 HX6
          go_wp2_with (at_builtin; refine wpList_append_L rfl _ _ rfl B _ L6 (numL xv) g6 c6 p7 d7 rfl HB7.out rfl HA7.out (by omega) (by have := HXL.out; omega) HY7.out ?_)
          intro g7 c7 y7 hr hg
          obtain ⟨L7, eL⟩ : ∃ L7, L7 = L6 ++ numL xv := ⟨_, rfl⟩
          have hl7 : L7.length ≤ 653000 := by rw [eL, List.length_append]; have := HXL.out; omega
          have HL7 := Lib.hid eL
          rw [← List.length_append, ← eL]
          rw [← eL] at hr
          have HC7 := Lib.hid hr
          have hst := stepL HE7.out HB7.out HY7.out hg HW7.out (by decide)
          have HD7 := Lib.hid hst.1
          have HX7 := Lib.hid hst.2
          have HZ7 : Hid (B ≤ y7.heap.size) := Lib.hid (Nat.le_trans HY7.out hg.size)
          clear hr hg hst eL HA7 HB7 HE7 HY7 HW7
          have HEQ : Hid (L7 = L3 ++ opsL o (t + 1)) := Lib.hid (by rw [HOL.out, HL7.out, HL6.out, HL5.out, HL4.out]; simp only [List.append_assoc])
          clear HOL HL4 HL5 HL6 HL7
          go_wp2
          go_roundw
          case rel => exact ⟨t + 1, g7, c7, by omega, by go_num, by rw [HEQ.out], Lib.hid ⟨by rw [← HEQ.out]; exact HC7.out, HD7.out, HZ7.out⟩⟩
          case measure => simp [intOf]; omega
        · obtain rfl : n = t := by omega
          have HEQ : Hid (L3 ++ opsL o n = numL len ++ evsL E (i + 1)) := Lib.hid (by rw [HNX.out, HL3.out, HL2.out, HL1.out, HEL.out]; unfold evL; dsimp only; rw [show ((k' : Int) + 1 - 1).toNat = k' by omega, show ((cl' : Int) + 1 - 1).toNat = cl' by omega]; simp only [List.append_assoc])
          have HUU := HU
          rw [HEQ.out] at HUU ⊢
          go_wp2
          go_roundw
          case rel => exact ⟨i + 1, g4, c4, by omega, by go_num, rfl, HUU⟩
          case measure => simp [intOf]; omega
    · obtain rfl : len = i := by omega
      go_wp2
      go_ret
      exact ⟨g, c, rfl, by have := HT.out.1; rw [HEB.out] at this; exact this, by have := HT.out.2.1; rw [HEB.out] at this; exact this⟩
end Go.Proofs.Ytaddmegghikhpaa
