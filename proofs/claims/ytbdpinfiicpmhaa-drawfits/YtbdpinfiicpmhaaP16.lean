/-
  The law DrawFits' walk.
-/
import Derived.Test.YtbdpinfiicpmhaaP15
namespace Go.Proofs.Ytbdpinfiicpmhaa
open Go.ChangeShapes Go.WideShapes Go.ChangeAt Go.RowKit Go.Maps RefMath
set_option linter.unusedVariables false

/-- the law's memory: the plan, the set of what was written -/
structure FtP (w wr : World) (mb : Nat) (p : Pl) (K : Nat) (M : Int → Bool) : Prop where
  plan : wr.heap[w.heap.size]? = some (.cells #[.int .i64 p.keys, .int .i64 p.most, .int .i64 p.r, .int .i64 p.w, .int .i64 p.b, .int .i64 p.s] 23 (0, 0))
  map : MapB wr mb K M
  bel : Below w.heap.size w wr
theorem FtP.keep {w wr wr' : World} {mb K : Nat} {p : Pl} {M : Int → Bool} (h : FtP w wr mb p K M) (hb : Below wr.heap.size wr wr') : FtP w wr' mb p K M :=
  ⟨(hb.block _ (heap_lt h.plan)).trans h.plan, h.map.kept (hb.block _ h.map.lt), h.bel.trans (hb.mono h.bel.size)⟩
theorem FtP.next {w wr wr' : World} {mb K g : Nat} {p : Pl} {M : Int → Bool} (h : FtP w wr mb p K M) (hc : Chg wr g wr') (h1 : mb < g) (h2 : w.heap.size < mb) : FtP w wr' mb p K M :=
  ⟨(hc.block _ (heap_lt h.plan) (fun e => by injection e with e; omega)).trans h.plan, h.map.kept (hc.block _ h.map.lt (fun e => by injection e with e; omega)), h.bel.trans (hc.below (by omega) h.bel.size)⟩
theorem FtP.put {w wr wr' : World} {mb K K' : Nat} {p : Pl} {M M' : Int → Bool} (h : FtP w wr mb p K M) (hm : MapB wr' mb K' M') (hg : wr.grownBy wr' (some mb)) (h2 : w.heap.size < mb) : FtP w wr' mb p K' M' :=
  ⟨(hg.block _ (heap_lt h.plan) (fun e => by injection e with e; omega)).trans h.plan, hm, h.bel.grown hg h.bel.size (fun q hq => by injection hq with hq; omega)⟩
theorem row_put {wr wr' : World} {base mb n : Nat} {v : Value} {l : List O3} (h : wr.ownsRow base 45 3 v n (rowL l)) (hm : ∃ es cl, wr.heap[mb]? = some (.map es cl)) (hg : wr.grownBy wr' (some mb)) : wr'.ownsRow base 45 3 v n (rowL l) :=
  own_keep h fun q hq => hg.block q (h.lt q hq).2 fun e => by
    injection e with e
    obtain ⟨cur, hc⟩ := own_cells h hq
    obtain ⟨es, cl, hm⟩ := hm
    rw [e, hm] at hc
    cases hc
theorem wcO_ge : ∀ (l : List O3) (n : Nat), n ≤ wcO n l := by
  intro l
  induction l with
  | nil => intro n; exact Nat.le_refl _
  | cons x l ih =>
    intro n
    unfold wcO
    split
    · exact Nat.le_trans (Nat.le_succ n) (ih (n + 1))
    · exact ih n
theorem drop_lf {l : List O3} {r : Nat} (h : r < l.length) : l.drop r = lf l r :: l.drop (r + 1) := by
  rw [List.drop_eq_getElem_cons h]
  unfold lf
  rw [List.getD_eq_getElem?_getD, List.getElem?_eq_getElem h]
  rfl

set_option maxRecDepth 100000 in
set_option maxHeartbeats 4000000 in
theorem fits_main (p : Pl) (z : Int) (seed : Nat) (w : World) (hs : seed < 18446744073709551616) :
    Calls Try.prog 5 #[plV p, .int .u64 (seed : Int), .int .i64 z] w (fun e w' => e = .returned (.bool true) ∧ Below w.heap.size w w') := by
  have HB0 : Hid (Below w.heap.size w (w.alloc (.cells #[.int .i64 p.keys, .int .i64 p.most, .int .i64 p.r, .int .i64 p.w, .int .i64 p.b, .int .i64 p.s] 23))) := Lib.hid ((Below.refl _ _).alloc (Nat.le_refl _) _)
  have HPl : Hid ((w.alloc (.cells #[.int .i64 p.keys, .int .i64 p.most, .int .i64 p.r, .int .i64 p.w, .int .i64 p.b, .int .i64 p.s] 23)).heap[w.heap.size]? = some (.cells #[.int .i64 p.keys, .int .i64 p.most, .int .i64 p.r, .int .i64 p.w, .int .i64 p.b, .int .i64 p.s] 23 (0, 0))) := Lib.hid (heap_alloc_new w _)
  have HNw : Hid (∀ c w, Calls Try.prog 10 #[.agg #[.int .i64 p.keys, .int .i64 p.most, .int .i64 p.r, .int .i64 p.w, .int .i64 p.b, .int .i64 p.s], .int .i64 c, .int .u64 (seed : Int)] w (NewP p c seed w)) := Lib.hid fun c w => gnew_any p c seed w hs
  obtain ⟨m, hm, hmv⟩ := and_mask z 15 15 (by decide) (by omega)
  have hmv' : bits .and .i64 z 15 = (m : Int) := hmv
  have hmm := @run_makeMap Try.prog
  clear hs hmv
  show Calls Try.prog 5 #[.agg #[.int .i64 p.keys, .int .i64 p.most, .int .i64 p.r, .int .i64 p.w, .int .i64 p.b, .int .i64 p.s], .int .u64 (seed : Int), .int .i64 z] w _
  go_enter Try.func5, Try.ntmps5
  go_wp2_with fail
  refine (head_any _).mono ?_
  rintro e w1 ⟨rfl, hb1⟩
  have HF1 : Hid (FtP w (w1.alloc (.map #[] 0)) w1.heap.size p 0 (fun _ => false)) := Lib.hid
    (by
      have hP1 := (hb1.block _ (heap_lt HPl.out)).trans HPl.out
      have hB : Below w1.heap.size w1 (w1.alloc (.map #[] 0)) := (Below.refl _ _).alloc (Nat.le_refl _) _
      have hB1 := HB0.out.trans (hb1.mono HB0.out.size)
      exact ⟨(hB.block _ (heap_lt hP1)).trans hP1, MapB.made w1, hB1.trans (hB.mono hB1.size)⟩)
  have hwm : w.heap.size < w1.heap.size := heap_lt ((hb1.block _ (heap_lt HPl.out)).trans HPl.out)
  clear hb1 HB0 HPl
  go_wp2
  generalize w1.alloc (.map #[] 0) = w2 at *
  generalize w1.heap.size = mb at *
  go_loopw [8] (fun i wr => ∃ (t K : Nat) (M : Int → Bool), t ≤ 4 ∧ i = .int .i64 ((t : Int) + 1) ∧ K ≤ 200 * t ∧ Hid (Wrt ((t : Int) + 1) 0 M ∧ FtP w wr mb p K M)) (fun i _ => 5 - (intOf i).toNat)
  case atStart => exact ⟨0, 0, _, Nat.zero_le _, rfl, Nat.zero_le _, Lib.hid ⟨fun x hx => by simp at hx, HF1.out⟩⟩
  case round =>
    clear HF1
    obtain ⟨t, K, M, ht, rfl, hK, HI⟩ := hrel
    by_cases hlt : t < 4
    · have hlt' : (t : Int) + 1 ≤ 4 := by omega
      obtain ⟨d0, d1, d2, d3, d4, d5⟩ := cells6 HI.out.2.plan
      go_wp2_with fail
      refine (HNw.out _ _).mono ?_
      rintro e w3 (⟨hr, h1, h2, g, rfl, hgl, hG, hb3⟩ | ⟨_, rfl, hb3⟩)
      · have HI3 : Hid (Wrt ((t : Int) + 1) 0 M ∧ FtP w w3 mb p K M ∧ GenS w3 g p ((t : Int) + 1) (seedN seed ((t : Int) + 1)) 0) := Lib.hid ⟨HI.out.1, HI.out.2.keep hb3, hG⟩
        have HR := Lib.hid hr
        have hmg : mb < g := Nat.lt_of_lt_of_le HI.out.2.map.lt hgl
        clear hb3 hG hr hgl HI d0 d1 d2 d3 d4 d5
        go_wp2
        go_loopw [11] (fun i wr => ∃ (q st n K : Nat) (M : Int → Bool), q ≤ m ∧ i = .int .i64 (q : Int) ∧ n ≤ 12 * q ∧ K ≤ 200 * t + 12 * q ∧ Hid (Wrt ((t : Int) + 1) n M ∧ FtP w wr mb p K M ∧ GenS wr g p ((t : Int) + 1) st n)) (fun i _ => m - (intOf i).toNat)
        case atStart => exact ⟨0, _, 0, K, M, Nat.zero_le _, rfl, Nat.zero_le _, by omega, HI3⟩
        case round =>
          clear HI3 hK
          obtain ⟨q, st, n, K, M, hq, rfl, hn, hK, HI⟩ := hrel
          by_cases hlq : q < m
          · have hlq' : (q : Int) < (m : Int) := by omega
            have hr1 := nx_rnd HR.out ((t : Int) + 1) st n
            have hln := nx_len HR.out ((t : Int) + 1) st n
            have hls := nx_ls HR.out ((t : Int) + 1) st n
            have hw1 := wants_in HR.out st
            have hlA := hr1.len
            have hi1 := hr1.hi
            obtain ⟨R, hR⟩ : ∃ R, nx p ((t : Int) + 1) st n = R := ⟨_, rfl⟩
            have HNa := Lib.hid (gnext_any g p ((t : Int) + 1) st n wr HR.out h1 h2 (by omega) HI.out.2.2)
            rw [hR] at hln hls hlA hi1 HNa
            obtain ⟨l, s1, n1⟩ := R
            dsimp only at hln hls hlA hi1
            obtain ⟨hl1, hl12, hlm⟩ := hln
            have hn1 : n1 ≤ 12 * (q + 1) := by omega
            have HLS := Lib.hid hls
            have hgr := heap_lt HI.out.2.2
            clear hr1 hls hw1 hlA hi1 hR
            go_wp2_with fail
            refine HNa.out.mono ?_
            rintro e W1 ⟨sx, cx, rfl, hox, hA, hC⟩
            dsimp only at hox hA
            have HI1 : Hid (Wrt ((t : Int) + 1) n M ∧ FtP w W1 mb p K M ∧ GenS W1 g p ((t : Int) + 1) s1 n1 ∧ W1.ownsRow wr.heap.size 45 3 (.slice sx l.length cx) l.length (rowL l)) := Lib.hid ⟨HI.out.1, HI.out.2.1.next hC hmg hwm, hA, hox⟩
            clear hox hA hC HNa HI
            obtain ⟨d0, d1, d2, d3, d4, d5⟩ := cells6 HI1.out.2.1.plan
            obtain ⟨L, hL⟩ : ∃ L, l.length = L := ⟨_, rfl⟩
            rw [hL] at HI1 hl1 hl12 hlm ⊢
            have HL := Lib.hid hL
            clear hL
            have hl1' : ¬ (L : Int) < 1 := by omega
            have hlm' : ¬ p.most < (L : Int) := by omega
            go_wp2
            clear d0 d1 d2 d3 d4 d5
            generalize wr.heap.size = base at *
            go_loopw [51] (fun i wr => ∃ (r K cnt : Nat) (M : Int → Bool), r ≤ L ∧ i = .int .i64 (r : Int) ∧ K ≤ 200 * t + 12 * q + r ∧ Hid (LsO p ((t : Int) + 1) cnt (l.drop r) ∧ wcO cnt (l.drop r) = n1) ∧ Hid (Wrt ((t : Int) + 1) cnt M ∧ FtP w wr mb p K M ∧ GenS wr g p ((t : Int) + 1) s1 n1 ∧ wr.ownsRow base 45 3 (.slice sx L cx) L (rowL l))) (fun i _ => L - (intOf i).toNat)
            case atStart => exact ⟨0, K, n, M, Nat.zero_le _, rfl, by omega, HLS, HI1⟩
            case round =>
              clear HI1 hK
              obtain ⟨r, K, cnt, M, hr, rfl, hK, HQ, HI⟩ := hrel
              by_cases hlr : r < L
              · have hlr' : (r : Int) < (L : Int) := by omega
                have hdr := drop_lf (l := l) (r := r) (by rw [HL.out]; exact hlr)
                obtain ⟨b, off, rfl, hbl, hci⟩ := (own_ops (by rw [HL.out]; exact HI.out.2.2.2)) (by rw [HL.out]; omega)
                obtain ⟨c0, c1, c2⟩ := hci r (by rw [HL.out]; exact hlr)
                obtain ⟨d0, d1, d2, d3, d4, d5⟩ := cells6 HI.out.2.1.plan
                have hwz := heap_lt HI.out.2.1.plan
                have hQ := HQ.out
                rw [hdr] at hQ
                obtain ⟨⟨⟨hk0, hk1⟩, hop⟩, hwc⟩ := hQ
                have hcn : cnt ≤ n1 := by rw [← hwc]; exact wcO_ge _ _
                obtain ⟨x, hx⟩ : ∃ x, lf l r = x := ⟨_, rfl⟩
                rw [hx] at c0 c1 c2 hk0 hk1 hop hwc
                obtain ⟨xk, xkey, xv⟩ := x
                dsimp only at c0 c1 c2 hk0 hk1 hop
                clear hci hdr hx HQ
                have hk0' : ¬ xkey < 0 := by omega
                have hk1' : ¬ p.keys ≤ xkey := by omega
                rcases hop with ⟨rfl, rfl, hpos, hls⟩ | ⟨rfl, hv, hpos, hls⟩
                · have hsb : (p.r + p.b + p.s == 0) = false := by rw [beq_eq_false_iff_ne]; omega
                  have HQ2 : Hid (LsO p ((t : Int) + 1) cnt (l.drop (r + 1)) ∧ wcO cnt (l.drop (r + 1)) = n1) := Lib.hid ⟨hls, hwc⟩
                  have hB : Below wr.heap.size wr (wr.alloc (.cells #[.int .i64 1, .int .i64 xkey, .int .i64 0] 45)) := (Below.refl _ _).alloc (Nat.le_refl _) _
                  have HI2 : Hid (Wrt ((t : Int) + 1) cnt M ∧ FtP w (wr.alloc (.cells #[.int .i64 1, .int .i64 xkey, .int .i64 0] 45)) mb p K M ∧ GenS (wr.alloc (.cells #[.int .i64 1, .int .i64 xkey, .int .i64 0] 45)) g p ((t : Int) + 1) s1 n1 ∧ (wr.alloc (.cells #[.int .i64 1, .int .i64 xkey, .int .i64 0] 45)).ownsRow base 45 3 (.slice (some ⟨b, off, none⟩) L cx) L (rowL l)) := Lib.hid ⟨HI.out.1, HI.out.2.1.keep hB, HI.out.2.2.1.below hB, HI.out.2.2.2.alloc _⟩
                  clear hB HI hls hwc hpos hk0 hk1
                  obtain ⟨bw0, bw1⟩ : 0 ≤ p.w ∧ p.w ≤ 1000 := HR.out.w
                  obtain ⟨br0, br1⟩ : 0 ≤ p.r ∧ p.r ≤ 1000 := HR.out.r
                  obtain ⟨bb0, bb1⟩ : 0 ≤ p.b ∧ p.b ≤ 1000 := HR.out.b
                  obtain ⟨bs0, bs1⟩ : 0 ≤ p.s ∧ p.s ≤ 1000 := HR.out.s
                  go_wp2
                  exact ⟨⟨r + 1, K, cnt, M, by omega, val_int (by omega), by omega, HQ2, HI2⟩, by simp [intOf]; omega⟩
                · have hsb : (p.w + p.b == 0) = false := by rw [beq_eq_false_iff_ne]; omega
                  have HQ2 : Hid (LsO p ((t : Int) + 1) (cnt + 1) (l.drop (r + 1)) ∧ wcO (cnt + 1) (l.drop (r + 1)) = n1) := Lib.hid ⟨hls, hwc⟩
                  obtain ⟨V, hV⟩ : ∃ V, V = 16 * (cnt + 1) + t := ⟨_, rfl⟩
                  have hvV : xv = (V : Int) := by omega
                  have hVb : V ≤ 1000000 := by omega
                  have hfr := HI.out.1.free (by omega) (by omega)
                  have HAD := Lib.hid (HI.out.1.add (by omega) (by omega))
                  have hveq : 16 * ((cnt + 1 : Nat) : Int) + ((t : Int) + 1) - 1 = (V : Int) := by omega
                  rw [hveq] at hfr HAD
                  subst hvV
                  have hB : Below wr.heap.size wr (wr.alloc (.cells #[.int .i64 2, .int .i64 xkey, .int .i64 (V : Int)] 45)) := (Below.refl _ _).alloc (Nat.le_refl _) _
                  have HI2 : Hid (FtP w (wr.alloc (.cells #[.int .i64 2, .int .i64 xkey, .int .i64 (V : Int)] 45)) mb p K M ∧ GenS (wr.alloc (.cells #[.int .i64 2, .int .i64 xkey, .int .i64 (V : Int)] 45)) g p ((t : Int) + 1) s1 n1 ∧ (wr.alloc (.cells #[.int .i64 2, .int .i64 xkey, .int .i64 (V : Int)] 45)).ownsRow base 45 3 (.slice (some ⟨b, off, none⟩) L cx) L (rowL l)) := Lib.hid ⟨HI.out.2.1.keep hB, HI.out.2.2.1.below hB, HI.out.2.2.2.alloc _⟩
                  have hget := HI2.out.1.map.get (V : Int) (by omega)
                  rw [hfr] at hget
                  obtain ⟨w5, hrun, hm5, hg5⟩ := HI2.out.1.map.update (V : Int) (by omega) (by omega)
                  have HI5 : Hid (Wrt ((t : Int) + 1) (cnt + 1) (fun y => if y = (V : Int) then true else M y) ∧ FtP w w5 mb p (K + 1) (fun y => if y = (V : Int) then true else M y) ∧ GenS w5 g p ((t : Int) + 1) s1 n1 ∧ w5.ownsRow base 45 3 (.slice (some ⟨b, off, none⟩) L cx) L (rowL l)) := Lib.hid ⟨HAD.out, HI2.out.1.put hm5 hg5 hwm, (hg5.block g (heap_lt HI2.out.2.1) (fun e => by injection e with e; omega)).trans HI2.out.2.1, row_put HI2.out.2.2 HI2.out.1.map.isMap hg5⟩
                  have HWH : Hid (((V % 16 + 1 : Nat) : Int) = (t : Int) + 1) := Lib.hid (by omega)
                  have hV1 : ¬ (V : Int) < 1 := by omega
                  clear hB HI hls hwc hpos hk0 hk1 hv hV hfr hveq hm5 hg5 HAD HI2
                  obtain ⟨bw0, bw1⟩ : 0 ≤ p.w ∧ p.w ≤ 1000 := HR.out.w
                  obtain ⟨br0, br1⟩ : 0 ≤ p.r ∧ p.r ≤ 1000 := HR.out.r
                  obtain ⟨bb0, bb1⟩ : 0 ≤ p.b ∧ p.b ≤ 1000 := HR.out.b
                  obtain ⟨bs0, bs1⟩ : 0 ≤ p.s ∧ p.s ≤ 1000 := HR.out.s
                  go_wp2_with (go_at_call 16; refine (who_any V _ (by omega)).mono ?_; rw [HWH.out]; rintro e w4 ⟨rfl, rfl⟩)
                  exact ⟨⟨r + 1, K + 1, cnt + 1, _, by omega, val_int (by omega), by omega, HQ2, HI5⟩, by simp [intOf]; omega⟩
              · obtain rfl : r = L := by omega
                have hcnt : cnt = n1 := by
                  have h := HQ.out.2
                  rw [List.drop_eq_nil_of_le (by rw [HL.out]; exact Nat.le_refl _)] at h
                  exact h
                subst hcnt
                have HI2 : Hid (Wrt ((t : Int) + 1) cnt M ∧ FtP w wr mb p K M ∧ GenS wr g p ((t : Int) + 1) s1 cnt) := Lib.hid ⟨HI.out.1, HI.out.2.1, HI.out.2.2.1⟩
                clear HI HQ
                go_wp2
                go_roundw
                case rel => exact ⟨q + 1, s1, cnt, K, M, by omega, by go_num, hn1, by omega, HI2⟩
                case measure => simp [intOf]; omega
          · obtain rfl : q = m := by omega
            have HI2 : Hid (Wrt ((t : Int) + 1 + 1) 0 M ∧ FtP w wr mb p K M) := Lib.hid ⟨HI.out.1.next, HI.out.2.1⟩
            clear HI
            go_wp2
            go_roundw
            case rel => exact ⟨t + 1, K, M, by omega, by go_num, by omega, by rw [show ((t + 1 : Nat) : Int) + 1 = (t : Int) + 1 + 1 by omega]; exact HI2⟩
            case measure => simp [intOf]; omega
      · have hb := HI.out.2.bel.trans (hb3.mono HI.out.2.bel.size)
        clear hb3
        have HB := Lib.hid hb
        clear hb HI
        go_wp2
        go_ret
        exact ⟨rfl, HB.out⟩
    · obtain rfl : t = 4 := by omega
      go_wp2
      go_ret
      exact ⟨rfl, HI.out.2.bel⟩
end Go.Proofs.Ytbdpinfiicpmhaa
