/-
  The law DrawSeeds' walk.
-/
import Derived.Test.YtbdpinfiicpmhaaP10
namespace Go.Proofs.Ytbdpinfiicpmhaa
open Go.ChangeShapes Go.WideShapes Go.ChangeAt Go.RowKit RefMath
set_option linter.unusedVariables false

/-- three generators, all of our own -/
structure Gens (w0 : World) (ga gb go : Nat) (p : Pl) (c c' : Int) (wr : World) (st n st' n' : Nat) : Prop where
  a : GenS wr ga p c st n
  b : GenS wr gb p c st n
  o : GenS wr go p c' st' n'
  bel : Below w0.heap.size w0 wr
theorem Gens.keep {w0 wr wr' : World} {ga gb go : Nat} {p : Pl} {c c' : Int} {st n st' n' : Nat} (h : Gens w0 ga gb go p c c' wr st n st' n') (hb : Below wr.heap.size wr wr') : Gens w0 ga gb go p c c' wr' st n st' n' :=
  ⟨h.a.below hb, h.b.below hb, h.o.below hb, h.bel.trans (hb.mono h.bel.size)⟩
theorem GenS.chg {w w' : World} {g g' : Nat} {p : Pl} {c : Int} {st n : Nat} (h : GenS w g p c st n) (hc : Chg w g' w') (hne : g ≠ g') : GenS w' g p c st n :=
  (hc.block g (heap_lt h) (fun e => by injection e with e; exact hne e)).trans h
theorem own_chg {w w' : World} {g base n : Nat} {v : Value} {l : List O3} (h : w.ownsRow base 45 3 v n (rowL l)) (hc : Chg w g w') (hg : g < base) : w'.ownsRow base 45 3 v n (rowL l) :=
  own_keep h fun q hq => hc.block q (h.lt q hq).2 (fun e => by injection e with e; have := (h.lt q hq).1; omega)

theorem row_face {w : World} {base n cap : Nat} {sp : Option Addr} {xs : List Value} (h : w.ownsRow base 45 3 (.slice sp n cap) n xs) (hn : 0 < n) :
    ∃ b cur, sp = some ⟨b, 0, none⟩ ∧ base ≤ b ∧ w.heap[b]? = some (.cells cur 45 (0, 0)) ∧ n * 3 ≤ cur.size := by
  rcases h.2 with ⟨_, h0⟩ | ⟨g, cp, cur, e, hg, hh, hc, _, hs, _⟩
  · omega
  · injection e with e1 e2 e3
    exact ⟨g, cur, e1, hg, hh, by rw [hs]; exact Nat.mul_le_mul_right 3 hc⟩
theorem cell_some {w : World} {b i t : Nat} {cur : Array Value} (h : w.heap[b]? = some (.cells cur t (0, 0))) (hi : i < cur.size) : ∃ v, w.cell? ⟨b, i, none⟩ = some v :=
  ⟨cur[i], by simp [World.cell?, h, Array.getElem?_eq_getElem hi]⟩
theorem Gens.stored {w0 wr : World} {ga gb go : Nat} {p : Pl} {c c' : Int} {st n st' n' b : Nat} (h : Gens w0 ga gb go p c c' wr st n st' n') (h1 : ga ≠ b) (h2 : gb ≠ b) (h3 : go ≠ b) (h4 : w0.heap.size ≤ b) (i : Nat) (v : Value) : Gens w0 ga gb go p c c' (wr.setCell ⟨b, i, none⟩ v) st n st' n' :=
  ⟨(heap_setCell_other wr ⟨b, i, none⟩ ga v h1).trans h.a, (heap_setCell_other wr ⟨b, i, none⟩ gb v h2).trans h.b, (heap_setCell_other wr ⟨b, i, none⟩ go v h3).trans h.o, h.bel.setCell h4 _⟩
set_option maxRecDepth 100000 in
set_option maxHeartbeats 4000000 in
theorem seeds_main (p : Pl) (c z : Int) (seed : Nat) (w : World) (hs : seed < 18446744073709551616) :
    Calls Try.prog 6 #[plV p, .int .i64 c, .int .u64 (seed : Int), .int .i64 z] w (fun e w' => e = .returned (.bool true) ∧ Below w.heap.size w w') := by
  have HB0 : Hid (Below w.heap.size w (w.alloc (.cells #[.int .i64 p.keys, .int .i64 p.most, .int .i64 p.r, .int .i64 p.w, .int .i64 p.b, .int .i64 p.s] 23))) := Lib.hid ((Below.refl _ _).alloc (Nat.le_refl _) _)
  have HPl : Hid ((w.alloc (.cells #[.int .i64 p.keys, .int .i64 p.most, .int .i64 p.r, .int .i64 p.w, .int .i64 p.b, .int .i64 p.s] 23)).heap[w.heap.size]? = some (.cells #[.int .i64 p.keys, .int .i64 p.most, .int .i64 p.r, .int .i64 p.w, .int .i64 p.b, .int .i64 p.s] 23 (0, 0))) := Lib.hid (heap_alloc_new w _)
  have HNw : Hid (∀ c w, Calls Try.prog 10 #[.agg #[.int .i64 p.keys, .int .i64 p.most, .int .i64 p.r, .int .i64 p.w, .int .i64 p.b, .int .i64 p.s], .int .i64 c, .int .u64 (seed : Int)] w (NewP p c seed w)) := Lib.hid fun c w => gnew_any p c seed w hs
  obtain ⟨k, hk, hkv⟩ := and_mask c 15 15 (by decide) (by omega)
  obtain ⟨m, hm, hmv⟩ := and_mask z 15 15 (by decide) (by omega)
  have hkv' : bits .and .i64 c 15 = (k : Int) := hkv
  have hmv' : bits .and .i64 z 15 = (m : Int) := hmv
  clear hs hkv hmv
  show Calls Try.prog 6 #[.agg #[.int .i64 p.keys, .int .i64 p.most, .int .i64 p.r, .int .i64 p.w, .int .i64 p.b, .int .i64 p.s], .int .i64 c, .int .u64 (seed : Int), .int .i64 z] w _
  generalize p.keys = x0 at *
  generalize p.most = x1 at *
  generalize p.r = x2 at *
  generalize p.w = x3 at *
  generalize p.b = x4 at *
  generalize p.s = x5 at *
  go_enter Try.func6, Try.ntmps6
  go_wp2_with fail
  refine (head_any _).mono ?_
  rintro e w1 ⟨rfl, hb1⟩
  have HB1 := Lib.hid (HB0.out.trans (hb1.mono HB0.out.size))
  have HP1 := Lib.hid ((hb1.block _ (heap_lt HPl.out)).trans HPl.out)
  clear hb1 HB0 HPl
  obtain ⟨d0, d1, d2, d3, d4, d5⟩ := cells6 HP1.out
  go_wp2_with fail
  refine (HNw.out _ _).mono ?_
  rintro e w2 hn2
  have hb2 : Below w1.heap.size w1 w2 := by
    rcases hn2 with ⟨_, _, _, g, _, _, _, hb⟩ | ⟨_, _, hb⟩ <;> exact hb
  have HB2 := Lib.hid (HB1.out.trans (hb2.mono HB1.out.size))
  have HP2 := Lib.hid ((hb2.block _ (heap_lt HP1.out)).trans HP1.out)
  clear hb2 HP1 d0 d1 d2 d3 d4 d5
  obtain ⟨d0, d1, d2, d3, d4, d5⟩ := cells6 HP2.out
  rcases hn2 with ⟨hr, h1, h2, ga, rfl, hga, hGa, _⟩ | ⟨hno, rfl, _⟩
  · have HGa := Lib.hid hGa
    have HLa : Hid (w.heap.size ≤ ga) := Lib.hid (Nat.le_trans HB1.out.size hga)
    clear hGa hga HB1
    go_wp2_with fail
    refine (HNw.out _ _).mono ?_
    rintro e w3 (⟨_, _, _, gb, rfl, hgb, hGb, hb3⟩ | ⟨hno, _, _⟩)
    · have HB3 := Lib.hid (HB2.out.trans (hb3.mono HB2.out.size))
      have HP3 := Lib.hid ((hb3.block _ (heap_lt HP2.out)).trans HP2.out)
      have HGa3 := Lib.hid (HGa.out.below hb3)
      have HGb := Lib.hid hGb
      have HLb : Hid (ga < gb ∧ w.heap.size ≤ gb) := Lib.hid ⟨Nat.lt_of_lt_of_le (heap_lt HGa.out) hgb, Nat.le_trans HB2.out.size hgb⟩
      clear hb3 HP2 HB2 hGb hgb HGa d0 d1 d2 d3 d4 d5
      obtain ⟨d0, d1, d2, d3, d4, d5⟩ := cells6 HP3.out
      go_wp2_with fail
      refine (HNw.out (1 + (k : Int)) _).mono ?_
      rintro e w4 (⟨_, _, _, go, rfl, hgo, hGo, hb4⟩ | ⟨hno, _, _⟩)
      · have HB4 := Lib.hid (HB3.out.trans (hb4.mono HB3.out.size))
        have HL : Hid ((w.heap.size ≤ ga ∧ w.heap.size ≤ gb ∧ w.heap.size ≤ go) ∧ ga < gb ∧ gb < go) := Lib.hid ⟨⟨HLa.out, HLb.out.2, Nat.le_trans HB3.out.size hgo⟩, HLb.out.1, Nat.lt_of_lt_of_le (heap_lt HGb.out) hgo⟩
        have HGS : Hid (Gens w ga gb go p c (1 + (k : Int)) w4 (seedN seed c) 0 (seedN seed (1 + (k : Int))) 0) := Lib.hid ⟨HGa3.out.below hb4, HGb.out.below hb4, hGo, HB4.out⟩
        have HR := Lib.hid hr
        clear hb4 HP3 HB3 hGo hgo HGa3 HGb HB4 HLa HLb HNw d0 d1 d2 d3 d4 d5 hr hk
        go_wp2
        go_loopw [15] (fun i wr => ∃ (t st n st' n' : Nat), t ≤ m ∧ i = .int .i64 (t : Int) ∧ n ≤ 12 * t ∧ n' ≤ 12 * t ∧ Hid (Gens w ga gb go p c (1 + (k : Int)) wr st n st' n')) (fun i _ => m - (intOf i).toNat)
        case atStart => exact ⟨0, _, 0, _, 0, Nat.zero_le _, rfl, Nat.zero_le _, Nat.zero_le _, HGS⟩
        case round =>
          clear HGS
          obtain ⟨t, st, n, st', n', ht, rfl, hn, hn', HG⟩ := hrel
          by_cases hlt : t < m
          · have hlt' : (t : Int) < (m : Int) := by omega
            have hr1 := nx_rnd HR.out c st n
            have hr2 := nx_rnd HR.out (1 + (k : Int)) st' n'
            have hw1 := wants_in HR.out st
            have hw2 := wants_in HR.out st'
            have hln := nx_len HR.out c st n
            have hi1 := hr1.hi
            have hi2 := hr2.hi
            have hlA := hr1.len
            have hlB := hr2.len
            obtain ⟨R, hR⟩ : ∃ R, nx p c st n = R := ⟨_, rfl⟩
            obtain ⟨R', hR'⟩ : ∃ R, nx p (1 + (k : Int)) st' n' = R := ⟨_, rfl⟩
            have HNa : Hid (∀ W, GenS W ga p c st n → Calls Try.prog 12 #[.pointer (some ⟨ga, 0, none⟩)] W (SmP ga p c R W)) := Lib.hid fun W h => by rw [← hR]; exact gnext_any ga p c st n W HR.out h1 h2 (by omega) h
            have HNb : Hid (∀ W, GenS W gb p c st n → Calls Try.prog 12 #[.pointer (some ⟨gb, 0, none⟩)] W (SmP gb p c R W)) := Lib.hid fun W h => by rw [← hR]; exact gnext_any gb p c st n W HR.out h1 h2 (by omega) h
            have HNo : Hid (∀ W, GenS W go p (1 + (k : Int)) st' n' → Calls Try.prog 12 #[.pointer (some ⟨go, 0, none⟩)] W (SmP go p (1 + (k : Int)) R' W)) := Lib.hid fun W h => by rw [← hR']; exact gnext_any go p (1 + (k : Int)) st' n' W HR.out (by omega) (by omega) (by omega) h
            rw [hR] at hln hi1 hlA
            rw [hR'] at hi2 hlB
            obtain ⟨l, s1, n1⟩ := R
            obtain ⟨l', s1', n1'⟩ := R'
            dsimp only at hln hi1 hlA hi2 hlB
            have hn1 : n1 ≤ 12 * (t + 1) := by omega
            have hn1' : n1' ≤ 12 * (t + 1) := by omega
            have HLL := Lib.hid (show l.length ≤ 1000 by omega)
            have hl1 : 0 < l.length := by omega
            have hl12 : l.length ≤ 12 := by omega
            clear hr1 hr2 hw1 hw2 hln hi1 hi2 hlA hlB hR hR'
            go_wp2_with fail
            refine (HNa.out _ HG.out.a).mono ?_
            rintro e W1 ⟨sx, cx, rfl, hox, hA1, hC1⟩
            dsimp only at hox hA1
            have HX1 := Lib.hid hox
            have HA1 := Lib.hid hA1
            have HC1 := Lib.hid hC1
            have HBb : Hid (GenS W1 gb p c st n) := Lib.hid (HG.out.b.chg hC1 (by have := HL.out.2.1; omega))
            have HBo : Hid (GenS W1 go p (1 + (k : Int)) st' n') := Lib.hid (HG.out.o.chg hC1 (by have := HL.out.2; omega))
            have HE1 : Hid (Below w.heap.size w W1) := Lib.hid (HG.out.bel.trans (hC1.below HL.out.1.1 HG.out.bel.size))
            have HS1 : Hid (ga < wr.heap.size ∧ gb < wr.heap.size ∧ go < wr.heap.size ∧ w.heap.size ≤ wr.heap.size) := Lib.hid ⟨heap_lt HG.out.a, heap_lt HG.out.b, heap_lt HG.out.o, HG.out.bel.size⟩
            clear hox hA1 hC1 HG
            go_wp2_with fail
            refine (HNo.out _ HBo.out).mono ?_
            rintro e W2 ⟨sz, cz, rfl, hoz, hO2, hC2⟩
            dsimp only at hoz hO2
            have HX2 := Lib.hid (own_chg HX1.out hC2 HS1.out.2.2.1)
            have HA2 := Lib.hid (HA1.out.chg hC2 (by have := HL.out.2; omega))
            have HB2 := Lib.hid (HBb.out.chg hC2 (by have := HL.out.2; omega))
            have HO2 := Lib.hid hO2
            have HE2 : Hid (Below w.heap.size w W2) := Lib.hid (HE1.out.trans (hC2.below HL.out.1.2.2 HE1.out.size))
            clear hoz hO2 hC2 HX1 HA1 HBb HBo HE1
            go_wp2_with fail
            refine (HNb.out _ HB2.out).mono ?_
            rintro e W3 ⟨sy, cy, rfl, hoy, hB3, hC3⟩
            dsimp only at hoy hB3
            have HX3 := Lib.hid (own_chg HX2.out hC3 HS1.out.2.1)
            have HG3 : Hid (Gens w ga gb go p c (1 + (k : Int)) W3 s1 n1 s1' n1') := Lib.hid ⟨HA2.out.chg hC3 (by have := HL.out.2; omega), hB3, HO2.out.chg hC3 (by have := HL.out.2; omega), HE2.out.trans (hC3.below HL.out.1.2.1 HE2.out.size)⟩
            have HY3 := Lib.hid hoy
            clear hoy hB3 hC3 HX2 HA2 HB2 HO2 HE2
            go_wp2_with fail
            refine (same_any sx l.length cx (lf l) sy l.length cy (lf l) _ (Nat.le_trans HLL.out (by decide)) (own_ops HX3.out) (own_ops HY3.out)).mono ?_
            rintro e W4 ⟨b, rfl, hbt, hb4⟩
            obtain rfl : b = true := hbt.2 ⟨rfl, fun _ _ => rfl⟩
            have HG4 := Lib.hid (HG3.out.keep hb4)
            have HX4 := Lib.hid (own_keep HX3.out fun q hq => hb4.block q (HX3.out.lt q hq).2)
            clear hbt hb4 HX3 HG3 HY3
            obtain ⟨bx, cur, rfl, hbx, hcur, hsz⟩ := row_face HX4.out hl1
            have HBX : Hid (ga < bx ∧ gb < bx ∧ go < bx ∧ w.heap.size ≤ bx) := Lib.hid (by have := HS1.out; omega)
            have HCU := Lib.hid hcur
            clear hbx HX4 hcur
            generalize l.length = L at *
            go_wp2
            go_loopw [73] (fun x wr' => ∃ (q : Nat) (cur' : Array Value), q ≤ L ∧ x = .int .i64 (q : Int) ∧ Hid (Gens w ga gb go p c (1 + (k : Int)) wr' s1 n1 s1' n1' ∧ wr'.heap[bx]? = some (.cells cur' 45 (0, 0)) ∧ cur'.size = cur.size)) (fun x _ => L - (intOf x).toNat)
            case atStart => exact ⟨0, cur, Nat.zero_le _, rfl, Lib.hid ⟨HG4.out, HCU.out, rfl⟩⟩
            case round =>
              clear HG4 HCU
              obtain ⟨q, cur', hq, rfl, HI⟩ := hrel
              by_cases hlq : q < L
              · have hlq' : (q : Int) < (L : Int) := by omega
                obtain ⟨v, hv⟩ : ∃ v, wr.cell? ⟨bx, q * 3 + 2, none⟩ = some v := cell_some HI.out.2.1 (by have := HI.out.2.2; omega)
                have hfz := frozen_of_row wr bx (q * 3 + 2) _ _ HI.out.2.1
                have HI2 : Hid (Gens w ga gb go p c (1 + (k : Int)) (wr.setCell ⟨bx, q * 3 + 2, none⟩ (.int .i64 (-1))) s1 n1 s1' n1' ∧ (wr.setCell ⟨bx, q * 3 + 2, none⟩ (.int .i64 (-1))).heap[bx]? = some (.cells (cur'.setIfInBounds (q * 3 + 2) (.int .i64 (-1))) 45 (0, 0)) ∧ (cur'.setIfInBounds (q * 3 + 2) (.int .i64 (-1))).size = cur.size) := Lib.hid ⟨HI.out.1.stored (by have := HBX.out; omega) (by have := HBX.out; omega) (by have := HBX.out; omega) (by have := HBX.out; omega) _ _, heap_setCell_same wr bx _ _ 45 _ HI.out.2.1, by rw [Array.size_setIfInBounds]; exact HI.out.2.2⟩
                clear HI
                go_wp2
                go_roundw
                case rel => exact ⟨q + 1, _, by omega, by go_num, HI2⟩
                case measure => simp [intOf]; omega
              · obtain rfl : q = L := by omega
                have HI2 := Lib.hid HI.out.1
                clear HI
                go_wp2
                go_roundw
                case rel => exact ⟨t + 1, s1, n1, s1', n1', by omega, by go_num, hn1, hn1', HI2⟩
                case measure => simp [intOf]; omega
          · obtain rfl : t = m := by omega
            go_wp2
            go_ret
            exact ⟨rfl, HG.out.bel⟩
      · exact absurd ⟨hr, by omega, by omega⟩ hno
    · exact absurd ⟨hr, h1, h2⟩ hno
  · clear HB1
    go_wp2_with fail
    refine (HNw.out _ _).mono ?_
    rintro e w3 (⟨hr, h1, h2, _⟩ | ⟨_, rfl, hb3⟩)
    · exact absurd ⟨hr, h1, h2⟩ hno
    · have HB3 := Lib.hid (HB2.out.trans (hb3.mono HB2.out.size))
      have HP3 := Lib.hid ((hb3.block _ (heap_lt HP2.out)).trans HP2.out)
      clear hb3 HP2 HB2 d0 d1 d2 d3 d4 d5
      obtain ⟨d0, d1, d2, d3, d4, d5⟩ := cells6 HP3.out
      go_wp2_with fail
      refine (HNw.out (1 + (k : Int)) _).mono ?_
      rintro e w4 hn4
      have hb4 : Below w3.heap.size w3 w4 := by
        rcases hn4 with ⟨_, _, _, g, _, _, _, hb⟩ | ⟨_, _, hb⟩ <;> exact hb
      have HB4 := Lib.hid (HB3.out.trans (hb4.mono HB3.out.size))
      rcases hn4 with ⟨_, _, _, g, rfl, _, _, _⟩ | ⟨_, rfl, _⟩
      all_goals
        clear hb4
        go_wp2
        go_ret
        exact ⟨rfl, HB4.out⟩
end Go.Proofs.Ytbdpinfiicpmhaa
