/-
  take.
-/
import Derived.Test.YtaddmegghikhpaaEk
import Derived.IntWalk
namespace Go.Proofs.Ytaddmegghikhpaa
open Go.ChangeShapes Go.WideShapes Go.ChangeAt Go.RowKit

set_option maxRecDepth 100000 in
set_option maxHeartbeats 4000000 in
theorem take_any (w : World) (g rb n a : Nat) (f : Nat → Nat) (ha : a ≤ 8 * n) (h : RD w g rb n f a) : Calls Try.prog 28 #[.pointer (some ⟨rb, 0, none⟩)] w (TakeQ w g rb n f a) := by
  have hrl := h.lt
  have hgl := h.glt
  obtain ⟨wi, ewi⟩ : ∃ wi, wi = w.alloc (.cells #[.int .i64 0, .int .i64 0, .slice none 0 0] 43) := ⟨_, rfl⟩
  have hib : Below w.heap.size w wi := by rw [ewi]; exact (Below.refl _ _).alloc (Nat.le_refl _) _
  have hiq : wi.heap[w.heap.size]? = some (.cells #[.int .i64 0, .int .i64 0, .slice none 0 0] 43 (0, 0)) := by rw [ewi]; exact heap_alloc_new w _
  have hil : wi.heap.size = w.heap.size + 1 := by rw [ewi]; simp
  have HG0 : Hid (w.grownBy wi (some rb)) := Lib.hid (by rw [ewi]; exact World.grownBy_alloc w _ _)
  have HR0 : Hid (RR wi g rb n f a) := Lib.hid (.inl ⟨ha, h.below hib⟩)
  obtain ⟨R, eR⟩ : ∃ R, R = w.heap.size := ⟨_, rfl⟩
  rw [← eR] at hiq
  have hR : R ≠ rb := by omega
  have hRw : w.heap.size ≤ R := by omega
  have HQ0 := Lib.hid hiq
  have HIL := Lib.hid hil
  have hn2 : wn 2 = 2 := by decide
  have hn4 : wn 4 = 4 := by decide
  have HN2 := Lib.hid hn2
  have HN4 := Lib.hid hn4
  have HKP : Hid (∀ (q : Nat) (W W' : World) (cs : Array Value) (t : Nat), q ≠ rb → W.heap[q]? = some (.cells cs t (0, 0)) → W.grownBy W' (some rb) → W'.heap[q]? = some (.cells cs t (0, 0))) := Lib.hid fun q W W' cs t hqr h hg => (hg.block q (by
    rcases Nat.lt_or_ge q W.heap.size with h' | h'
    · exact h'
    · rw [Array.getElem?_eq_none h'] at h; cases h) (fun e => by injection e with e; exact hqr e)).trans h
  have HRL := Lib.hid hrl
  have HGL := Lib.hid hgl
  have HER := Lib.hid eR
  clear hib hiq h hn2 hn4 hil ha
  go_enter Try.func28, Try.ntmps28
  go_wp2_with fail
  rw [← ewi, ← eR]
  clear ewi eR
  refine (get_r wi g rb n a f 2 2 HN2.out HR0.out).mono ?_
  rintro e w1 ⟨hg1, K, hK, hK1, hK2, rfl, hr1⟩
  have HG1 := Lib.hid (grown_trans HG0.out hg1)
  have HQ1 := Lib.hid (HKP.out R _ _ _ _ hR HQ0.out hg1)
  have HR1 := Lib.hid hr1
  have HK1 := Lib.hid hK1
  have HZ1 := Lib.hid hg1.size
  clear hg1 hr1 hK1 hK2
  go_wp2_with fail
  refine (get_r w1 g rb n (a + 2) f 4 4 HN4.out HR1.out).mono ?_
  rintro e w2 ⟨hg2, C, hC, hC1, hC2, rfl, hr2⟩
  have HG2 := Lib.hid (grown_trans HG1.out hg2)
  have HQ2 := Lib.hid (HKP.out R _ _ _ _ hR HQ1.out hg2)
  have HC1 := Lib.hid hC1
  have HZ2 : Hid (R + 1 ≤ w2.heap.size) := Lib.hid (by have := HIL.out; have := HZ1.out; have := hg2.size; have := HER.out; omega)
  obtain ⟨wq, ewq⟩ : ∃ wq, wq = w2.alloc (.cells #[.int .i64 ((K : Int) + 1), .int .i64 ((C : Int) + 1), .slice none 0 0] 43) := ⟨_, rfl⟩
  have hqb : Below w2.heap.size w2 wq := by rw [ewq]; exact (Below.refl _ _).alloc (Nat.le_refl _) _
  have hqq : wq.heap[w2.heap.size]? = some (.cells #[.int .i64 ((K : Int) + 1), .int .i64 ((C : Int) + 1), .slice none 0 0] 43 (0, 0)) := by rw [ewq]; exact heap_alloc_new w2 _
  have hgq : w2.grownBy wq (some rb) := by rw [ewq]; exact World.grownBy_alloc w2 _ _
  have HGQ := Lib.hid (grown_trans HG2.out hgq)
  have HRQ := Lib.hid (hr2.below hqb)
  have HQQ := Lib.hid hqq
  have HQ3 := Lib.hid (HKP.out R _ _ _ _ hR HQ2.out hgq)
  obtain ⟨Q, eQ⟩ : ∃ Q, Q = w2.heap.size := ⟨_, rfl⟩
  rw [← eQ] at HQQ HZ2
  clear hg2 hr2 hC1 hC2 hqb hqq hgq
  go_wp2_with fail
  rw [← ewq, ← eQ]
  clear ewq eQ
  refine (get_r wq g rb n (a + 2 + 4) f 4 4 HN4.out HRQ.out).mono ?_
  rintro e w3 ⟨hg3, m, hm, hm1, hm2, rfl, hr3⟩
  have hQr : Q ≠ rb := by have := HZ2.out; have := HER.out; omega
  have hQR : Q ≠ R := by have := HZ2.out; omega
  have HG3 := Lib.hid (grown_trans HGQ.out hg3)
  have HQ4 := Lib.hid (HKP.out R _ _ _ _ hR HQ3.out hg3)
  have HQQ4 := Lib.hid (HKP.out Q _ _ _ _ hQr HQQ.out hg3)
  have HR3 := Lib.hid hr3
  have HM1 := Lib.hid hm1
  have HM2 := Lib.hid hm2
  clear hg3 hr3 hm1 hm2
  obtain ⟨i1, hi1, hz0, hz1, hz2⟩ := info_parts info38
  have hRQ : R < Q := by have := HZ2.out; omega
  by_cases hm12 : 12 < m
  · have hm12' : (12 : Int) < (m : Int) := by omega
    have hl10 : a + 10 ≤ 8 * n := by
      rcases Nat.lt_or_ge (8 * n) (a + 2 + 4 + 4) with h | h
      · have := HM2.out h; omega
      · omega
    have hrd : RD w3 g rb n f (a + 2 + 4 + 4) := by
      rcases HR3.out with ⟨_, h⟩ | ⟨h, _⟩
      · exact h
      · omega
    have HNE : Hid (NoEv f n a 11) := Lib.hid (noEv_many hl10 (by have e : m = gv f (a + 6) 4 := HM1.out (by omega); omega))
    go_wp2_with fail
    refine (fail_any w3 g rb n _ f 11 hrd).mono ?_
    rintro e w4 ⟨rfl, hr4, hg4⟩
    have HG5 := Lib.hid (grown_trans HG3.out hg4)
    have HQ5 := Lib.hid (HKP.out R _ _ _ _ hR HQ4.out hg4)
    have HQQ5 := Lib.hid (HKP.out Q _ _ _ _ hQr HQQ4.out hg4)
    have HR5 := Lib.hid hr4
    clear hrd hr4 hg4
    go_wp2_with fail
    refine wp_loop_rounds 1 ?_
    rw [rounds_succ]
    have hm0 : (0 : Int) < (m : Int) := by omega
    go_wp2_with fail
    refine (err_any w4 rb 11 HR5.out.c2).mono ?_
    rintro e w5 ⟨rfl, rfl⟩
    obtain ⟨⟨q0, q1, q2⟩, _⟩ := cells3 HQQ5.out
    obtain ⟨⟨r0, r1, r2⟩, hqf⟩ := cells3 HQ5.out
    have hqf0 := hqf 0
    have hqf1 := hqf 1
    have hqf2 := hqf 2
    clear hqf
    go_wp2
    obtain ⟨W5, eW5⟩ : ∃ W5, W5 = ((w4.setCell ⟨R, 0, none⟩ (.int .i64 ((K : Int) + 1))).setCell ⟨R, 1, none⟩ (.int .i64 ((C : Int) + 1))).setCell ⟨R, 2, none⟩ (.slice none 0 0) := ⟨_, rfl⟩
    obtain ⟨h5, hg5⟩ := set3 (A := (.int .i64 ((K : Int) + 1))) (B := (.int .i64 ((C : Int) + 1))) (C := (.slice none 0 0)) HQ5.out
    rw [← eW5] at h5 hg5 ⊢
    obtain ⟨⟨p0, p1, p2⟩, _⟩ := cells3 h5
    exact bodyPost_ret (v := .agg #[.int .i64 ((K : Int) + 1), .int .i64 ((C : Int) + 1), .slice none 0 0]) (by simp [results, Try.results28, go_sem, p0, p1, p2]) rfl (take_end (m := m) (o := fun _ => ⟨0, 0, 0⟩) HRL.out HGL.out hRw hRQ HK1.out HC1.out HG5.out (World.ownsRow_nil _ _ _ _) hg5 (.inr ⟨11, .inr rfl, HR5.out, HNE.out⟩))
  · have hm12' : ¬ (12 : Int) < (m : Int) := by omega
    have HS0 : Hid (TkS w w3 g rb Q n f a m ((K : Int) + 1) ((C : Int) + 1) 0 ∧ w3.heap[R]? = some (.cells #[.int .i64 0, .int .i64 0, .slice none 0 0] 43 (0, 0))) := Lib.hid ⟨⟨HG3.out, none, 0, fun _ => ⟨0, 0, 0⟩, HQQ4.out, World.ownsRow_nil _ _ _ _, by
      rcases HR3.out with ⟨h, hr⟩ | ⟨h, hr⟩
      · exact .inl ⟨by omega, HM1.out (by omega), by omega, fun i hi => absurd hi (Nat.not_lt_zero _), fun i hi => absurd hi (Nat.not_lt_zero _), by show a + 10 + 0 ≤ _; omega, hr⟩
      · exact .inr ⟨10, .inl rfl, hr, noEv_head (by omega)⟩⟩, HQ4.out⟩
    clear HQ4 HQQ4 HR3 HG3 HM1 HM2 HQ3 HQQ HRQ HGQ HQ2 HG2 HR1 HQ1 HG1 HR0 HG0 HQ0
    go_wp2_with fail
    go_loopw [5] (fun x wr => ∃ j : Nat, j ≤ m ∧ x = .int .u64 (j : Int) ∧ Hid (TkS w wr g rb Q n f a m ((K : Int) + 1) ((C : Int) + 1) j ∧ wr.heap[R]? = some (.cells #[.int .i64 0, .int .i64 0, .slice none 0 0] 43 (0, 0)))) (fun x _ => m - (intOf x).toNat)
    case atStart => exact ⟨0, Nat.zero_le _, rfl, HS0⟩
    case round =>
      obtain ⟨j, hj, rfl, HT⟩ := hrel
      obtain ⟨hg0, sp, cap, o, hQb, how, htk⟩ := HT.out.1
      have HRB := Lib.hid HT.out.2
      have HGW := Lib.hid hg0
      have HQB := Lib.hid hQb
      have HOW := Lib.hid how
      rcases htk with ⟨s1, s2, s3, s4, s5, s6, s7⟩ | ⟨er, her, hr, hno⟩
      · have HSS : Hid (a + 10 ≤ 8 * n ∧ m = gv f (a + 6) 4 ∧ m ≤ 12 ∧ (∀ i, i < j → FitO (o i)) ∧ Sp f (a + 10) (opsL o j) ∧ a + 10 + (opsL o j).length ≤ 8 * n) := Lib.hid ⟨s1, s2, s3, s4, s5, s6⟩
        have HRD := Lib.hid s7
        clear hg0 hQb how s1 s2 s3 s4 s5 s6 s7 HT HS0
        by_cases hjm : j < m
        · have hjm' : (j : Int) < (m : Int) := by omega
          go_wp2_with fail
          refine (err_any wr rb 0 HRD.out.c2).mono ?_
          rintro e w5 ⟨rfl, rfl⟩
          obtain ⟨⟨q0, q1, q2⟩, hqf⟩ := cells3 HQB.out
          have hqf0 := hqf 0
          clear hqf
          have hB0 : Below wr.heap.size wr wr.drew := (Below.refl _ _).drew
          have HCL : Hid (Calls Try.prog 43 #[.pointer (some ⟨rb, 0, none⟩)] wr.drew (OpQ wr.drew g rb n f (a + 10 + (opsL o j).length))) := Lib.hid (takeOp_any wr.drew g rb n _ f (HRD.out.below hB0))
          have HKQ : Hid (∀ W, wr.drew.grownBy W (some rb) → W.heap[Q]? = some (.cells #[.int .i64 ((K : Int) + 1), .int .i64 ((C : Int) + 1), .slice sp j cap] 43 (0, 0))) := Lib.hid fun W hg => HKP.out Q wr.drew W _ _ hQr HQB.out hg
          have HKO : Hid (∀ W ob, wr.drew.grownBy W (some rb) → (W.alloc ob).ownsRow (Q + 1) 53 3 (.slice sp j cap) j (rowO o j)) := Lib.hid fun W ob hg => (own_keep HOW.out fun q e => hg.block q (HOW.out.lt q e).2 (fun e' => by injection e' with e'; have := (HOW.out.lt q e).1; have := HRL.out; have := HER.out; omega)).alloc _
          have HNW : Hid (∀ (W : World) (t : O3) (i : Nat) (u : Value), [Value.int .i64 t.k, .int .i64 t.key, .int .i64 t.v][i]? = some u → (W.alloc (.cells #[.int .i64 t.k, .int .i64 t.key, .int .i64 t.v] 53)).cell? ((⟨W.heap.size, 0, none⟩ : Addr).add i) = some u) := Lib.hid fun W t i u hu => by
            rw [Go.WideShapes.add_plain, cell_of_row _ _ _ _ 53 (0, 0) (heap_alloc_new W _), Nat.zero_add]
            simpa using hu
          have HQL : Hid (Q + 1 ≤ wr.heap.size) := Lib.hid (by
            rcases Nat.lt_or_ge Q wr.heap.size with h' | h'
            · exact h'
            · have := HQB.out; rw [Array.getElem?_eq_none h'] at this; cases this)
          go_wp2
          go_region_law (first
            | (refine step_append_lies _ (by rfl) _ _ 41 (by rfl) (Q + 1) 53 i1 (.agg #[.int .i64 0, .int .i64 0, .int .i64 0]) 3 24 Try.underlying41 hi1 hz0 hz1 hz2 rfl (by decide) _ j (rowO o j) (by rfl) (HKO.out w6 _ h6) ⟨w6.heap.size, 0, none⟩ 1 1 [.int .i64 t.k, .int .i64 t.key, .int .i64 t.v] (by rfl) (by rfl) (HNW.out w6 t) (by intro u hu; simp at hu; rcases hu with rfl | rfl | rfl <;> rfl) (by omega) (by unfold maxLen; omega) (by omega) (Nat.le_trans HQL.out (Nat.le_trans h6.size (by simp))) _ rfl ?_; intro g7 c7 w7 ho7 hg7 hat7 hl7; obtain ⟨⟨z0, z1, z2⟩, fz7⟩ := cells3 (blk_keepQ (HKO.out w6 _ h6) (((Below.refl _ _).alloc (Nat.le_refl _) (.cells #[.int .i64 t.k, .int .i64 t.key, .int .i64 t.v] 53)).block Q (Nat.lt_of_lt_of_le HQL.out h6.size) |>.trans (HKQ.out _ h6)) hg7); have fz70 := fz7 0)
            | (go_simp; refine HCL.out.mono ?_; rintro e w6 ⟨h6, t, rfl, ht⟩; obtain ⟨⟨y0, y1, y2⟩, fz6⟩ := cells3 (HKQ.out _ h6); obtain ⟨⟨x0, x1, x2⟩, fx6⟩ := cells3 ((((Below.refl _ _).alloc (Nat.le_refl _) (.cells #[.int .i64 t.k, .int .i64 t.key, .int .i64 t.v] 53)).block Q (Nat.lt_of_lt_of_le HQL.out h6.size)).trans (HKQ.out _ h6))))
          all_goals
            have HTF := Lib.hid (take_fin (k := (K : Int) + 1) (c := (C : Int) + 1) HRL.out HGL.out (by have := HER.out; omega) hjm (show wr.drew.heap = wr.heap from rfl) HQB.out HOW.out HSS.out h6 ht ((Below.refl w6.heap.size w6).alloc (Nat.le_refl _) _) ho7 hg7 (grown_trans (grown_trans HGW.out (show wr.grownBy wr.drew (some rb) from ⟨rfl, rfl, rfl, Nat.le_refl _, fun _ _ _ => rfl⟩)) (grown_trans h6 (World.grownBy_alloc w6 _ _))))
            have HRF : Hid ((w7.setCell ⟨Q, 2, none⟩ (.slice (some ⟨g7, 0, none⟩) (j + 1) c7)).heap[R]? = some (.cells #[.int .i64 0, .int .i64 0, .slice none 0 0] 43 (0, 0))) := Lib.hid ((take_keep (show wr.drew.heap = wr.heap from rfl) HOW.out hRQ hR (by have := HQL.out; omega) h6 ((Below.refl w6.heap.size w6).alloc (Nat.le_refl _) _) hg7).trans HRB.out)
            clear ho7 hg7 hat7 ht h6 z0 z1 z2 y0 y1 y2 x0 x1 x2 fz7 fz6 fx6 fz70 q0 q1 q2 hqf0 HCL HKQ HKO HNW hB0
            go_wp2
            go_roundw
            case rel => exact ⟨j + 1, by omega, by go_num, Lib.hid ⟨HTF.out, HRF.out⟩⟩
            case measure => simp [intOf]; omega
        · obtain rfl : m = j := by omega
          have HTR : Hid (TkR wr g rb n f a m m o) := Lib.hid (.inl ⟨HSS.out.1, HSS.out.2.1, HSS.out.2.2.1, HSS.out.2.2.2.1, HSS.out.2.2.2.2.1, HSS.out.2.2.2.2.2, HRD.out⟩)
          obtain ⟨⟨q0, q1, q2⟩, _⟩ := cells3 HQB.out
          obtain ⟨⟨r0, r1, r2⟩, hqf⟩ := cells3 HRB.out
          have hqf0 := hqf 0
          have hqf1 := hqf 1
          have hqf2 := hqf 2
          clear hqf
          go_wp2
          obtain ⟨W5, eW5⟩ : ∃ W5, W5 = ((wr.setCell ⟨R, 0, none⟩ (.int .i64 ((K : Int) + 1))).setCell ⟨R, 1, none⟩ (.int .i64 ((C : Int) + 1))).setCell ⟨R, 2, none⟩ (.slice sp m cap) := ⟨_, rfl⟩
          obtain ⟨h5, hg5⟩ := set3 (A := (.int .i64 ((K : Int) + 1))) (B := (.int .i64 ((C : Int) + 1))) (C := (.slice sp m cap)) HRB.out
          rw [← eW5] at h5 hg5 ⊢
          obtain ⟨⟨p0, p1, p2⟩, _⟩ := cells3 h5
          exact bodyPost_ret (v := .agg #[.int .i64 ((K : Int) + 1), .int .i64 ((C : Int) + 1), .slice sp m cap]) (by simp [results, Try.results28, go_sem, p0, p1, p2]) rfl (take_end (m := m) HRL.out HGL.out hRw hRQ HK1.out HC1.out HGW.out HOW.out hg5 (.inl ⟨rfl, HTR.out⟩))
      · have HRS := Lib.hid hr
        have HNE := Lib.hid hno
        have HEE := Lib.hid her
        clear hg0 hQb how HT HS0 hno
        have her0 : (er == 0) = false := by rcases her with rfl | rfl <;> rfl
        have her1 : ¬ er = 0 := by rcases her with rfl | rfl <;> decide
        clear her hr
        by_cases hjm : j < m
        · have hjm' : (j : Int) < (m : Int) := by omega
          go_wp2_with fail
          refine (err_any wr rb er HRS.out.c2).mono ?_
          rintro e w5 ⟨rfl, rfl⟩
          obtain ⟨⟨q0, q1, q2⟩, _⟩ := cells3 HQB.out
          obtain ⟨⟨r0, r1, r2⟩, hqf⟩ := cells3 HRB.out
          have hqf0 := hqf 0
          have hqf1 := hqf 1
          have hqf2 := hqf 2
          clear hqf
          go_wp2
          obtain ⟨W5, eW5⟩ : ∃ W5, W5 = ((wr.setCell ⟨R, 0, none⟩ (.int .i64 ((K : Int) + 1))).setCell ⟨R, 1, none⟩ (.int .i64 ((C : Int) + 1))).setCell ⟨R, 2, none⟩ (.slice sp j cap) := ⟨_, rfl⟩
          obtain ⟨h5, hg5⟩ := set3 (A := (.int .i64 ((K : Int) + 1))) (B := (.int .i64 ((C : Int) + 1))) (C := (.slice sp j cap)) HRB.out
          rw [← eW5] at h5 hg5 ⊢
          obtain ⟨⟨p0, p1, p2⟩, _⟩ := cells3 h5
          exact bodyPost_ret (v := .agg #[.int .i64 ((K : Int) + 1), .int .i64 ((C : Int) + 1), .slice sp j cap]) (by simp [results, Try.results28, go_sem, p0, p1, p2]) rfl (take_end (m := m) HRL.out HGL.out hRw hRQ HK1.out HC1.out HGW.out HOW.out hg5 (.inr ⟨er, HEE.out, HRS.out, HNE.out⟩))
        · obtain rfl : m = j := by omega
          obtain ⟨⟨q0, q1, q2⟩, _⟩ := cells3 HQB.out
          obtain ⟨⟨r0, r1, r2⟩, hqf⟩ := cells3 HRB.out
          have hqf0 := hqf 0
          have hqf1 := hqf 1
          have hqf2 := hqf 2
          clear hqf
          go_wp2
          obtain ⟨W5, eW5⟩ : ∃ W5, W5 = ((wr.setCell ⟨R, 0, none⟩ (.int .i64 ((K : Int) + 1))).setCell ⟨R, 1, none⟩ (.int .i64 ((C : Int) + 1))).setCell ⟨R, 2, none⟩ (.slice sp m cap) := ⟨_, rfl⟩
          obtain ⟨h5, hg5⟩ := set3 (A := (.int .i64 ((K : Int) + 1))) (B := (.int .i64 ((C : Int) + 1))) (C := (.slice sp m cap)) HRB.out
          rw [← eW5] at h5 hg5 ⊢
          obtain ⟨⟨p0, p1, p2⟩, _⟩ := cells3 h5
          exact bodyPost_ret (v := .agg #[.int .i64 ((K : Int) + 1), .int .i64 ((C : Int) + 1), .slice sp m cap]) (by simp [results, Try.results28, go_sem, p0, p1, p2]) rfl (take_end (m := m) HRL.out HGL.out hRw hRQ HK1.out HC1.out HGW.out HOW.out hg5 (.inr ⟨er, HEE.out, HRS.out, HNE.out⟩))
end Go.Proofs.Ytaddmegghikhpaa
