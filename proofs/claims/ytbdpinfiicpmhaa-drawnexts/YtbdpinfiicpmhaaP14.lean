/-
  The law DrawNexts' walk.
-/
import Derived.Test.YtbdpinfiicpmhaaP13
import Derived.Test.YtbdpinfiicpmhaaP11
namespace Go.Proofs.Ytbdpinfiicpmhaa
open Go.ChangeShapes Go.WideShapes Go.ChangeAt Go.RowKit RefMath
set_option linter.unusedVariables false

/-- the law's memory: the plan, the generator, where the reference stands -/
structure NxS (w wr : World) (g b : Nat) (p : Pl) (c : Int) (st n st' n' : Nat) : Prop where
  plan : wr.heap[w.heap.size]? = some (.cells #[.int .i64 p.keys, .int .i64 p.most, .int .i64 p.r, .int .i64 p.w, .int .i64 p.b, .int .i64 p.s] 23 (0, 0))
  gen : GenS wr g p c st n
  stt : wr.heap[b]? = some (.cells #[.int .u64 (st' : Int), .int .i64 (n' : Int)] 37 (0, 0))
  bel : Below w.heap.size w wr
theorem NxS.keep {w wr wr' : World} {g b : Nat} {p : Pl} {c : Int} {st n st' n' : Nat} (h : NxS w wr g b p c st n st' n') (hb : Below wr.heap.size wr wr') : NxS w wr' g b p c st n st' n' :=
  ⟨(hb.block _ (heap_lt h.plan)).trans h.plan, h.gen.below hb, (hb.block _ (heap_lt h.stt)).trans h.stt, h.bel.trans (hb.mono h.bel.size)⟩
theorem NxS.set {w wr : World} {g b : Nat} {p : Pl} {c : Int} {st n st' n' : Nat} (h : NxS w wr g b p c st n st' n') (h1 : w.heap.size < b) (h2 : g ≠ b) (s2 n2 : Nat) (o : Obj) :
    NxS w (((wr.setCell ⟨b, 0, none⟩ (.int .u64 (s2 : Int))).setCell ⟨b, 1, none⟩ (.int .i64 (n2 : Int))).alloc o) g b p c st n s2 n2 := by
  have hne : w.heap.size ≠ b := by omega
  have k1 := heap_setCell_same wr b 0 _ 37 (.int .u64 (s2 : Int)) h.stt
  have k2 := heap_setCell_same _ b 1 _ 37 (.int .i64 (n2 : Int)) k1
  have hh : NxS w ((wr.setCell ⟨b, 0, none⟩ (.int .u64 (s2 : Int))).setCell ⟨b, 1, none⟩ (.int .i64 (n2 : Int))) g b p c st n s2 n2 :=
    ⟨((heap_setCell_other _ ⟨b, 1, none⟩ _ _ hne).trans (heap_setCell_other wr ⟨b, 0, none⟩ _ _ hne)).trans h.plan,
     ((heap_setCell_other _ ⟨b, 1, none⟩ _ _ h2).trans (heap_setCell_other wr ⟨b, 0, none⟩ _ _ h2)).trans h.gen, k2,
     (h.bel.setCell (by dsimp only; omega) _).setCell (by dsimp only; omega) _⟩
  exact hh.keep ((Below.refl _ _).alloc (Nat.le_refl _) _)
theorem NxS.next {w wr wr' : World} {g b : Nat} {p : Pl} {c : Int} {st n st' n' s2 n2 : Nat} (h : NxS w wr g b p c st n st' n') (hc : Chg wr g wr') (hg : GenS wr' g p c s2 n2) (h1 : w.heap.size < g) (h2 : g ≠ b) : NxS w wr' g b p c s2 n2 st' n' :=
  ⟨(hc.block _ (heap_lt h.plan) (fun e => by injection e with e; omega)).trans h.plan, hg, (hc.block _ (heap_lt h.stt) (fun e => by injection e with e; exact h2 e.symm)).trans h.stt, h.bel.trans (hc.below (by omega) h.bel.size)⟩
theorem row_set {wr : World} {base b s t n : Nat} {v : Value} {l : List O3} (h : wr.ownsRow base 45 3 v n (rowL l)) (hb : wr.heap[b]? = some (.cells #[.int .u64 (s : Int), .int .i64 (t : Int)] 37 (0, 0))) (u u' : Value) (o : Obj) :
    (((wr.setCell ⟨b, 0, none⟩ u).setCell ⟨b, 1, none⟩ u').alloc o).ownsRow base 45 3 v n (rowL l) := by
  have hk : ((wr.setCell ⟨b, 0, none⟩ u).setCell ⟨b, 1, none⟩ u').ownsRow base 45 3 v n (rowL l) := own_keep h fun q hq => by
    have hne : q ≠ b := fun e => by
      obtain ⟨cur, hc⟩ := own_cells h hq
      rw [e, hb] at hc
      injection hc with hc
      injection hc with _ hc _
      cases hc
    exact (heap_setCell_other _ ⟨b, 1, none⟩ q _ hne).trans (heap_setCell_other wr ⟨b, 0, none⟩ q _ hne)
  exact hk.alloc _

set_option maxRecDepth 100000 in
set_option maxHeartbeats 4000000 in
theorem nexts_main (p : Pl) (c z : Int) (seed : Nat) (w : World) (hs : seed < 18446744073709551616) :
    Calls Try.prog 4 #[plV p, .int .i64 c, .int .u64 (seed : Int), .int .i64 z] w (fun e w' => e = .returned (.bool true) ∧ Below w.heap.size w w') := by
  have HB0 : Hid (Below w.heap.size w (w.alloc (.cells #[.int .i64 p.keys, .int .i64 p.most, .int .i64 p.r, .int .i64 p.w, .int .i64 p.b, .int .i64 p.s] 23))) := Lib.hid ((Below.refl _ _).alloc (Nat.le_refl _) _)
  have HPl : Hid ((w.alloc (.cells #[.int .i64 p.keys, .int .i64 p.most, .int .i64 p.r, .int .i64 p.w, .int .i64 p.b, .int .i64 p.s] 23)).heap[w.heap.size]? = some (.cells #[.int .i64 p.keys, .int .i64 p.most, .int .i64 p.r, .int .i64 p.w, .int .i64 p.b, .int .i64 p.s] 23 (0, 0))) := Lib.hid (heap_alloc_new w _)
  have HNw : Hid (∀ c w, Calls Try.prog 10 #[.agg #[.int .i64 p.keys, .int .i64 p.most, .int .i64 p.r, .int .i64 p.w, .int .i64 p.b, .int .i64 p.s], .int .i64 c, .int .u64 (seed : Int)] w (NewP p c seed w)) := Lib.hid fun c w => gnew_any p c seed w hs
  obtain ⟨m, hm, hmv⟩ := and_mask z 31 31 (by decide) (by omega)
  have hmv' : bits .and .i64 z 31 = (m : Int) := hmv
  have HSD := Lib.hid hs
  clear hs hmv
  show Calls Try.prog 4 #[.agg #[.int .i64 p.keys, .int .i64 p.most, .int .i64 p.r, .int .i64 p.w, .int .i64 p.b, .int .i64 p.s], .int .i64 c, .int .u64 (seed : Int), .int .i64 z] w _
  go_enter Try.func4, Try.ntmps4
  go_wp2_with fail
  refine (head_any _).mono ?_
  rintro e w1 ⟨rfl, hb1⟩
  have HB1 := Lib.hid (HB0.out.trans (hb1.mono HB0.out.size))
  have HP1 := Lib.hid ((hb1.block _ (heap_lt HPl.out)).trans HPl.out)
  have hz1 := heap_lt HP1.out
  clear hb1 HB0 HPl
  obtain ⟨d0, d1, d2, d3, d4, d5⟩ := cells6 HP1.out
  go_wp2_with fail
  refine (HNw.out _ _).mono ?_
  rintro e w2 (⟨hr, h1, h2, g, rfl, hgl, hG, hb2⟩ | ⟨_, rfl, hb2⟩)
  · have HB2 := Lib.hid (HB1.out.trans (hb2.mono HB1.out.size))
    have HP2 := Lib.hid ((hb2.block _ (heap_lt HP1.out)).trans HP1.out)
    have HG2 := Lib.hid hG
    have HR := Lib.hid hr
    have hwg : w.heap.size < g := by omega
    have HRN := Lib.hid fun w => rnew_any c seed w h1 h2 HSD.out
    clear hb2 hG hr hgl HB1 HP1 HNw d0 d1 d2 d3 d4 d5
    go_wp2_with fail
    refine (HRN.out _).mono ?_
    rintro e w3 ⟨rfl, hb3⟩
    have hgb : g < w3.heap.size := Nat.lt_of_lt_of_le (heap_lt HG2.out) hb3.size
    have HN3 : Hid (NxS w (w3.alloc (.cells #[.int .u64 ((seedN seed c : Nat) : Int), .int .i64 0] 37)) g w3.heap.size p c (seedN seed c) 0 (seedN seed c) 0) := Lib.hid
      (by
        have hB : Below w3.heap.size w3 (w3.alloc (.cells #[.int .u64 ((seedN seed c : Nat) : Int), .int .i64 0] 37)) := (Below.refl _ _).alloc (Nat.le_refl _) _
        have hP3 := (hb3.block _ (heap_lt HP2.out)).trans HP2.out
        have hG3 := HG2.out.below hb3
        exact ⟨(hB.block _ (heap_lt hP3)).trans hP3, hG3.below hB, heap_alloc_new w3 _, (HB2.out.trans (hb3.mono HB2.out.size)).trans (hB.mono (Nat.le_trans HB2.out.size hb3.size))⟩)
    have hsl : seedN seed c < 18446744073709551616 := forkN_lt _ _
    have hbw : w.heap.size < w3.heap.size := by omega
    clear hb3 HB2 HP2 HG2
    generalize seedN seed c = sd at *
    go_wp2
    generalize w3.alloc (.cells #[.int .u64 (sd : Int), .int .i64 0] 37) = w4 at *
    generalize w3.heap.size = b at *
    go_loopw [12] (fun i wr => ∃ (t st n : Nat), t ≤ m ∧ i = .int .i64 (t : Int) ∧ n ≤ 12 * t ∧ st < 18446744073709551616 ∧ Hid (NxS w wr g b p c st n st n)) (fun i _ => m - (intOf i).toNat)
    case atStart => exact ⟨0, sd, 0, Nat.zero_le _, rfl, Nat.zero_le _, hsl, HN3⟩
    case round =>
      clear HN3
      obtain ⟨t, st, n, ht, rfl, hn, hst, HG⟩ := hrel
      by_cases hlt : t < m
      · have hlt' : (t : Int) < (m : Int) := by omega
        have hr1 := nx_rnd HR.out c st n
        have hw1 := wants_in HR.out st
        have hln := nx_len HR.out c st n
        have hi1 := hr1.hi
        have hlA := hr1.len
        have hsA := hr1.st
        obtain ⟨R, hR⟩ : ∃ R, nx p c st n = R := ⟨_, rfl⟩
        have HNa : Hid (∀ W, GenS W g p c st n → Calls Try.prog 12 #[.pointer (some ⟨g, 0, none⟩)] W (SmP g p c R W)) := Lib.hid fun W h => by rw [← hR]; exact gnext_any g p c st n W HR.out h1 h2 (by omega) h
        have HNr : Hid (∀ W, Calls Try.prog 14 #[.agg #[.int .i64 p.keys, .int .i64 p.most, .int .i64 p.r, .int .i64 p.w, .int .i64 p.b, .int .i64 p.s], .int .i64 c, .agg #[.int .u64 (st : Int), .int .i64 (n : Int)]] W (RnP R W)) := Lib.hid fun W => by rw [← hR]; exact rnext13_any p c st n W HR.out h1 h2 (by omega) hst
        rw [hR] at hln hi1 hlA hsA
        obtain ⟨l, s1, n1⟩ := R
        dsimp only at hln hi1 hlA hsA
        have hn1 : n1 ≤ 12 * (t + 1) := by omega
        have HLL := Lib.hid (show l.length ≤ 1000 by omega)
        clear hr1 hw1 hln hi1 hlA hR
        obtain ⟨d0, d1, d2, d3, d4, d5⟩ := cells6 HG.out.plan
        obtain ⟨⟨c0, c1⟩, hf⟩ := cells2 HG.out.stt
        clear hf
        go_wp2_with fail
        refine (HNr.out _).mono ?_
        rintro e W1 ⟨sr, cr, rfl, hor, hbr⟩
        dsimp only at hor
        have HG1 := Lib.hid (HG.out.keep hbr)
        have HW1 := Lib.hid hor
        have hgr : g < wr.heap.size := heap_lt HG.out.gen
        clear hor hbr HG d0 d1 d2 d3 d4 d5 c0 c1
        obtain ⟨⟨c0, c1⟩, hf⟩ := cells2 HG1.out.stt
        have hf0 := hf 0
        have hf1 := hf 1
        have hzb := heap_lt HG1.out.stt
        clear hf
        have HG2 := Lib.hid (HG1.out.set hbw (by omega) s1 n1 (.cells #[.int .u64 (s1 : Int), .int .i64 (n1 : Int)] 37))
        have HW2 := Lib.hid (row_set HW1.out HG1.out.stt (.int .u64 (s1 : Int)) (.int .i64 (n1 : Int)) (.cells #[.int .u64 (s1 : Int), .int .i64 (n1 : Int)] 37))
        have HNa' := Lib.hid (HNa.out _ HG2.out.gen)
        go_wp2_with fail
        refine HNa'.out.mono ?_
        rintro e W3 ⟨sx, cx, rfl, hox, hA, hC⟩
        dsimp only at hox hA
        have HG3 := Lib.hid (HG2.out.next hC hA hwg (by omega))
        have HW3 := Lib.hid (own_chg HW2.out hC hgr)
        have HX3 := Lib.hid hox
        clear hox hA hC HG1 HW1 HG2 HW2 HNa' c0 c1 hf0 hf1 hzb
        go_wp2_with fail
        refine (same_any sx l.length cx (lf l) sr l.length cr (lf l) _ (Nat.le_trans HLL.out (by decide)) (own_ops HX3.out) (own_ops HW3.out)).mono ?_
        rintro e W4 ⟨bb, rfl, hbt, hb4⟩
        obtain rfl : bb = true := hbt.2 ⟨rfl, fun _ _ => rfl⟩
        have HG4 := Lib.hid (HG3.out.keep hb4)
        clear hbt hb4 HG3 HX3 HW3
        go_wp2
        go_roundw
        case rel => exact ⟨t + 1, s1, n1, by omega, by go_num, hn1, hsA, HG4⟩
        case measure => simp [intOf]; omega
      · obtain rfl : t = m := by omega
        go_wp2
        go_ret
        exact ⟨rfl, HG.out.bel⟩
  · have HB2 := Lib.hid (HB1.out.trans (hb2.mono HB1.out.size))
    clear hb2
    go_wp2
    go_ret
    exact ⟨rfl, HB2.out⟩
end Go.Proofs.Ytbdpinfiicpmhaa
