/-
  HistOne's walk.
-/
import Derived.Test.YtgpnjgpbblookaaU
import Derived.IntWalk
namespace Go.Proofs.Ytgpnjgpbblookaa
open Go.ChangeShapes Go.WideShapes Go.ChangeAt Go.RowKit

set_option maxRecDepth 100000 in
set_option maxHeartbeats 4000000 in
theorem one_main (a : Option Addr) (len cap : Nat) (E : Nat → Ev) (ev : Ev) (sp : Option Addr) (ecap : Nat) (w : World) (hlen : len ≤ 9223372036854775807) (hs : EvS w a len E)
    (ho : OpS w sp ev.n ev.o) (hsp : sp = none → ev.n = 0 ∧ ecap = 0) (hnn : ev.n ≤ 9223372036854775807) :
    Calls Try.prog 8 #[.slice a len cap, .agg #[.int .i64 ev.k, .int .i64 ev.c, .slice sp ev.n ecap]] w fun e w' => e = .returned (.bool true) ∧ Below w.heap.size w w' := by
  obtain ⟨i1, hi1, hz0, hz1, hz2⟩ := info_parts info43
  obtain ⟨k, c, n, o, rfl⟩ : ∃ k c n o, ev = ⟨k, c, n, o⟩ := ⟨_, _, _, _, rfl⟩
  dsimp only at *
  obtain ⟨Q, eQ⟩ : ∃ Q, Q = w.heap.size := ⟨_, rfl⟩
  have hxx := heap_alloc_new w (.cells #[.int .i64 k, .int .i64 c, .slice sp n ecap] 43)
  have hb0 : Below w.heap.size w (w.alloc (.cells #[.int .i64 k, .int .i64 c, .slice sp n ecap] 43)) := (Below.refl _ _).alloc (Nat.le_refl _) _
  have hl0 : w.heap.size < (w.alloc (.cells #[.int .i64 k, .int .i64 c, .slice sp n ecap] 43)).heap.size := by simp
  have HS := Lib.hid (hs.below hb0)
  have HO := Lib.hid (ho.below hb0)
  have HSP := Lib.hid hsp
  have HX := Lib.hid hxx
  have HB0 := Lib.hid hb0
  have HNN := Lib.hid hnn
  clear hs ho hsp hxx hb0 hnn
  rw [← eQ] at HX hl0
  go_enter Try.func8, Try.ntmps8
  go_wp2_with fail
  rw [← eQ]
  obtain ⟨wx, ewx⟩ : ∃ wx, wx = w.alloc (.cells #[.int .i64 k, .int .i64 c, .slice sp n ecap] 43) := ⟨_, rfl⟩
  rw [← ewx] at HS HO HX HB0 hl0 ⊢
  clear ewx eQ
  refine (head_any _).mono ?_
  rintro e w1 ⟨rfl, hb1⟩
  have HB1 := Lib.hid hb1
  clear hb1
  go_wp2_with fail
  refine (big_any a len cap E w1 (HS.out.below HB1.out)).mono ?_
  rintro e w2 ⟨bb, rfl, hiff, hb2⟩
  have HB2 := Lib.hid (HB1.out.trans (hb2.mono HB1.out.size))
  have HIF := Lib.hid hiff
  clear hb2 hiff HB1
  cases bb
  · obtain ⟨⟨c0, c1, c2⟩, _⟩ := cells3 ((HB2.out.block _ hl0).trans HX.out)
    by_cases h30 : 30 < n
    · have h30' : (30 : Int) < (n : Int) := by omega
      have h30b : decide ((30 : Int) < (n : Int)) = true := decide_eq_true h30'
      go_wp2
      go_ret
      exact ⟨rfl, HB0.out.trans (HB2.out.mono HB0.out.size)⟩
    · have h30' : ¬ (30 : Int) < (n : Int) := by omega
      by_cases h39 : 390 < len
      · have h39' : (390 : Int) < (len : Int) := by omega
        go_wp2
        go_ret
        exact ⟨rfl, HB0.out.trans (HB2.out.mono HB0.out.size)⟩
      · have h39' : ¬ (390 : Int) < (len : Int) := by omega
        have HL39 : Hid (len ≤ 390) := Lib.hid (by omega)
        have HNB : Hid (∀ i, i < len → (E i).n ≤ 1000) := Lib.hid fun i hi => by
          rcases Nat.lt_or_ge 30 (E i).n with h | h
          · have := HIF.out.2 (.inr ⟨i, hi, h⟩); cases this
          · omega
        go_wp2_with fail
        refine (of_any a len cap E w2 hlen (HS.out.below HB2.out)).mono ?_
        rintro e w3 ⟨hb3, hres⟩
        have HB3 := Lib.hid (HB2.out.trans (hb3.mono HB2.out.size))
        have HW3 := Lib.hid hb3.size
        clear hb3
        rcases hres with ⟨_, rfl⟩ | ⟨hl4, ⟨i, er, _, _, _, hne, rfl⟩ | ⟨hgood, v, hb, mb, mw, V, rfl, hst⟩⟩
        · go_wp2
          go_ret
          exact ⟨rfl, HB0.out.trans (HB3.out.mono HB0.out.size)⟩
        · have hq2 : (er != 0) = true := by rw [bne_iff_ne]; exact hne
          clear hne
          go_wp2
          go_ret
          exact ⟨rfl, HB0.out.trans (HB3.out.mono HB0.out.size)⟩
        · have HG := Lib.hid hgood
          obtain ⟨m, em⟩ : ∃ m, m = (stateAt E len).m := ⟨_, rfl⟩
          obtain ⟨T, eT⟩ : ∃ T, T = (stateAt E len).T := ⟨_, rfl⟩
          have hrow := hst.row
          rw [← em, ← eT] at hrow
          have hm4 : m ≤ 400 := by have := (kept_at E len hgood).m; have := cnt_le E 1 len; omega
          obtain ⟨spv, cpv, evv⟩ := own_form' hrow
          subst evv
          have HRW := Lib.hid hrow
          have EM := Lib.hid em
          have ET := Lib.hid eT
          have hQ3 : Q < w3.heap.size := Nat.lt_of_lt_of_le hl0 HB3.out.size
          have hB : Below wx.heap.size wx w3.drew := HB3.out.drew
          have hBw : Below w3.heap.size w3 w3.drew := (Below.refl _ _).drew
          have HKK : Hid (∀ W, Below wx.heap.size wx W → W.cell? ⟨Q, 0, none⟩ = some (.int .i64 k) ∧ W.cell? ⟨Q, 1, none⟩ = some (.int .i64 c) ∧ W.cell? ⟨Q, 2, none⟩ = some (.slice sp n ecap)) := Lib.hid fun W hb => (cells3 ((hb.block _ hl0).trans HX.out)).1
          have HKG : Hid (∀ (W W' : World) (v : Value), Below wx.heap.size wx W → (∀ g, v.ownBlock = some g → w3.heap.size ≤ g ∧ g < W.heap.size) → W.grownBy W' v.ownBlock → Below w3.heap.size w3 W → Below w3.heap.size w3 W') := Lib.hid fun W W' v hb hv hg hw => hw.grown hg hw.size (fun q hq => (hv q hq).1)
          have HCP : Hid (∀ W, Below wx.heap.size wx W → Calls Try.prog 12 #[.slice a len cap] W (CopyP len E W)) := Lib.hid fun W hb => copy_any a len cap E W (by have := HL39.out; omega) HNB.out (HS.out.below hb)
          have HTR : Hid (∀ W, Below w3.heap.size w3 W → Below wx.heap.size wx W) := Lib.hid fun W hb => HB3.out.trans (hb.mono HB3.out.size)
          have HNW : Hid (∀ (W : World) (j : Nat) (u : Value), [Value.int .i64 k, .int .i64 c, .slice sp n ecap][j]? = some u → (W.alloc (.cells #[.int .i64 k, .int .i64 c, .slice sp n ecap] 43)).cell? ((⟨W.heap.size, 0, none⟩ : Addr).add j) = some u) := Lib.hid fun W j u hj => by
            rw [Go.WideShapes.add_plain, cell_of_row _ _ _ _ 43 (0, 0) (heap_alloc_new W _), Nat.zero_add]
            simpa using hj
          have HNB2 : Hid (∀ (W : World), Below (w3.drew.alloc (.cells #[.int .i64 k, .int .i64 c, .slice sp n ecap] 43)).heap.size (w3.drew.alloc (.cells #[.int .i64 k, .int .i64 c, .slice sp n ecap] 43)) W → ∀ (j : Nat) (u : Value), [Value.int .i64 k, .int .i64 c, .slice sp n ecap][j]? = some u → W.cell? ((⟨w3.heap.size, 0, none⟩ : Addr).add j) = some u) := Lib.hid fun W hb j u hj => by
            have h := HNW.out w3.drew j u hj
            have hlt : (⟨w3.heap.size, 0, none⟩ : Addr).add j = ⟨w3.heap.size, 0 + j, none⟩ := Go.WideShapes.add_plain _ _ _
            have h' : (w3.drew.alloc (.cells #[.int .i64 k, .int .i64 c, .slice sp n ecap] 43)).cell? ((⟨w3.heap.size, 0, none⟩ : Addr).add j) = some u := h
            rw [hlt] at h' ⊢
            exact (hb.cell (by simp)).trans h'
          clear hgood hst hrow em eT c0 c1 c2
          go_wp2
          go_region_held3 (fun W => W.cell? ⟨Q, 0, none⟩ = some (.int .i64 k) ∧ W.cell? ⟨Q, 1, none⟩ = some (.int .i64 c) ∧ W.cell? ⟨Q, 2, none⟩ = some (.slice sp n ecap))
            (first | exact HKK.out _ hB | exact HKK.out _ (hB.alloc hB.size _) | exact HKK.out _ hB5 | exact HKK.out _ (hB5.alloc hB5.size _) | exact HKK.out _ hB7)
            (first
              | (refine step_append_lies _ (by rfl) _ _ 22 (by rfl) w3.heap.size 43 i1 (.agg #[.int .i64 0, .int .i64 0, .slice none 0 0]) 3 40 Try.underlying22 hi1 hz0 hz1 hz2 rfl (by decide) _ len (rowT (fun i => asT (E i)) V5 len) (by rfl) (hE5.below ((Below.refl _ _).alloc (Nat.le_refl _) _)).row ⟨w5.heap.size, 0, none⟩ 1 1 [.int .i64 k, .int .i64 c, .slice sp n ecap] (by rfl) (by rfl) (HNW.out w5) (by intro u hu; simp at hu; rcases hu with rfl | rfl | rfl <;> rfl) (by omega) (by unfold maxLen; omega) (by omega) (Nat.le_trans hb5.size (by simp)) _ rfl ?_; intro g7 c7 w7 ho7 hg7 hat7 hl7; have hB7 : Below wx.heap.size wx w7 := HTR.out _ (HKG.out _ _ _ (hB5.alloc hB5.size _) (fun g hg => hE5.row.lt g hg |>.imp id (fun h => Nat.lt_of_lt_of_le h (by simp))) hg7 ((hbw5.alloc hbw5.size _))))
              | (go_at_call 12; refine (HCP.out _ hB).mono ?_; rintro e w5 ⟨v5, V5, rfl, hE5, hb5⟩; have hB5 := hB.trans (hb5.mono hB.size); have hbw5 := hBw.trans hb5; obtain ⟨s5, c5, rfl⟩ := own_form' hE5.row)
              | (go_at_call 12; refine (HCP.out _ (hB.alloc hB.size _)).mono ?_; rintro e w5 ⟨v5, V5, rfl, hE5, hb5⟩; have hB5 := (hB.alloc hB.size _).trans (hb5.mono (hB.alloc hB.size _).size); have hbw6 := (hBw.alloc hBw.size _).trans (hb5.mono (by simp)); obtain ⟨s5, c5, rfl⟩ := own_form' hE5.row; have hr5 : w5.ownsRow (w3.heap.size + 1) 43 3 (.slice s5 len c5) len (rowT (fun i => asT (E i)) V5 len) := by simpa using hE5.row)
              | (refine step_append_lies _ (by rfl) _ _ 22 (by rfl) (w3.heap.size + 1) 43 i1 (.agg #[.int .i64 0, .int .i64 0, .slice none 0 0]) 3 40 Try.underlying22 hi1 hz0 hz1 hz2 rfl (by decide) _ len (rowT (fun i => asT (E i)) V5 len) (by rfl) hr5 ⟨w3.heap.size, 0, none⟩ 1 1 [.int .i64 k, .int .i64 c, .slice sp n ecap] (by rfl) (by rfl) (HNB2.out w5 hb5) (by intro u hu; simp at hu; rcases hu with rfl | rfl | rfl <;> rfl) (by omega) (by unfold maxLen; omega) (by omega) (by simpa using hb5.size) _ rfl ?_; intro g7 c7 w7 ho7 hg7 hat7 hl7; have hB7 : Below wx.heap.size wx w7 := HTR.out _ (HKG.out _ _ _ hB5 (fun g hg => hE5.row.lt g hg |>.imp (fun h => Nat.le_trans (by simp) h) id) hg7 hbw6)))
          all_goals
            have HES : Hid (EvS w7 (some ⟨g7, 0, none⟩) (len + 1) (more len E ⟨k, c, n, o⟩)) := Lib.hid (by
              first
                | exact (hE5.below ((Below.refl _ _).alloc (Nat.le_refl _) _)).behind ho7 hg7 (HO.out.below hB7) HSP.out HNN.out
                | exact hE5.behind (by simpa using ho7) hg7 (HO.out.below hB7) HSP.out HNN.out)
            have HB7 := Lib.hid hB7
            have HW7 : Hid (Below w3.heap.size w3 w7) := Lib.hid (by
              first
                | exact HKG.out _ _ _ (hB5.alloc hB5.size _) (fun g hg => hE5.row.lt g hg |>.imp id (fun h => Nat.lt_of_lt_of_le h (by simp))) hg7 ((hbw5.alloc hbw5.size _))
                | exact HKG.out _ _ _ hB5 (fun g hg => hE5.row.lt g hg |>.imp (fun h => Nat.le_trans (by simp) h) id) hg7 hbw6)
            (try clear hr5)
            (try clear hbw5)
            (try clear hbw6)
            clear hB7 hB5 hE5 hb5 ho7 hg7 hat7 hB hBw HKG HTR HNW HNB2 HCP
            go_wp2_with fail
            refine (of_any _ (len + 1) c7 (more len E ⟨k, c, n, o⟩) w7 (by omega) HES.out).mono ?_
            rintro e w8 ⟨hb8, hres⟩
            have HB8 := Lib.hid (HB7.out.trans (hb8.mono HB7.out.size))
            have HW8 := Lib.hid (HW7.out.trans (hb8.mono HW7.out.size))
            have HZ8 := Lib.hid hb8.size
            clear hb8
            rcases hres with ⟨h, _⟩ | ⟨_, ⟨i, er, hi, hgi, he, hne, rfl⟩ | ⟨hgood, v', hb', mb', mw', V', rfl, hst'⟩⟩
            · have := HL39.out
              omega
            · have hil : i = len := by
                by_cases h : i < len
                · rw [state_more len E _ i (by omega), more_lo h] at he
                  exact absurd (err_one he (HG.out i h)) hne
                · omega
              obtain rfl : len = i := hil.symm
              obtain ⟨h20, h24⟩ := err_range he hne
              have hq2 : (er != 0) = true := by rw [bne_iff_ne]; exact hne
              clear hne he hgi hi hil
              go_wp2
              go_ret
              exact ⟨rfl, HB0.out.trans (HB8.out.mono HB0.out.size)⟩
            · have he := hgood len (by omega)
              rw [state_more len E _ len (Nat.le_refl _), more_at] at he
              have hnx : stateAt (more len E ⟨k, c, n, o⟩) (len + 1) = nextS (stateAt E len) ⟨k, c, n, o⟩ := by
                show nextS (stateAt (more len E ⟨k, c, n, o⟩) len) (more len E ⟨k, c, n, o⟩ len) = _
                rw [state_more len E _ len (Nat.le_refl _), more_at]
              have hrow' := hst'.row
              have hops' := hst'.ops
              rw [hnx] at hrow' hops'
              obtain ⟨m', em'⟩ : ∃ m', m' = (nextS (stateAt E len) ⟨k, c, n, o⟩).m := ⟨_, rfl⟩
              obtain ⟨T', eT'⟩ : ∃ T', T' = (nextS (stateAt E len) ⟨k, c, n, o⟩).T := ⟨_, rfl⟩
              rw [← em', ← eT'] at hrow' hops'
              obtain ⟨spw, cpw, evw⟩ := own_form' hrow'
              subst evw
              have HRW' := Lib.hid hrow'
              have HOP' := Lib.hid hops'
              have hsnd := err0_snd he
              obtain ⟨⟨x0, x1, x2⟩, _⟩ := cells3 ((HB8.out.block _ hl0).trans HX.out)
              by_cases hk : k = 1
              · obtain ⟨b1, b2⟩ := one_begin (s := stateAt E len) (e := ⟨k, c, n, o⟩) hk
                rw [← em', ← EM.out] at b1
                rw [← eT', ← EM.out] at b2
                subst hk
                obtain ⟨g, cg, evg, _, hgl⟩ := HRW'.out.form (by omega)
                injection evg with ev1 ev2 ev3
                subst ev1
                obtain ⟨r0, r1, r2⟩ := rowT_get T' V' m' m (by omega)
                obtain ⟨sp1, cp1, e1, ho1, _⟩ := HOP'.out m (by omega)
                rw [b2] at r0 r1 e1 ho1
                rw [e1] at r2
                have y0 := (HRW'.out.cellAt (m * 3) (by omega)).trans r0
                have y1 := (HRW'.out.cellAt (m * 3 + 1) (by omega)).trans r1
                have y2 := (HRW'.out.cellAt (m * 3 + 2) (by omega)).trans r2
                dsimp only at y0 y1 y2
                have HO1 := Lib.hid (own38_ops ho1)
                have hm1 : (m : Int) < (m' : Int) := by omega
                have hm2 : IntKind.i64.wrap ((m : Int) + 1) = (m' : Int) := by rw [IntWalk.i64_in _ (by omega)]; omega
                have hm3 : ((m' : Int) == (m' : Int)) = true := by simp
                have hc3 : (c == c) = true := by simp
                clear hst' hrow' hops' hgood he hnx em' eT' b1 b2 r0 r1 r2 e1 ho1 ev2 ev3
                go_wp2
                go_quiet ((go_at_call 17; refine Calls.quiet_of (same_true _ _ _ o _ _ _ (by omega) (HO1.out.drewN _) ((HO.out.below HB8.out).drewN _))))
                go_wp2
                go_ret
                exact ⟨rfl, HB0.out.trans ((below_drewN HB8.out _).mono HB0.out.size)⟩
              · obtain ⟨b1, j, hj, hj0, hj1, hjx⟩ := one_end HG.out he hk
                rw [← em', ← EM.out] at b1
                rw [← EM.out] at hj
                rw [← ET.out] at hj0
                rw [← eT'] at hj1
                dsimp only at hj1
                obtain ⟨d, hd⟩ : ∃ d : Nat, (k = 4 ∧ d = 0 ∧ (T' j).st = (T j).st) ∨ (¬ k = 4 ∧ d = 1 ∧ ¬ (T' j).st = (T j).st) := by
                  by_cases h4 : k = 4
                  · exact ⟨0, .inl ⟨h4, rfl, by rw [hj1, hj0, if_neg (by omega), if_neg (by omega)]⟩⟩
                  · refine ⟨1, .inr ⟨h4, rfl, ?_⟩⟩
                    rw [hj1, hj0]
                    have h2 := hsnd.1
                    have h3 := hsnd.2.1
                    dsimp only at h2 h3
                    by_cases h5 : k = 2
                    · rw [if_pos h5]; decide
                    · rw [if_neg h5, if_pos (by omega)]; decide
                have HJX : Hid (∀ x, ¬ x = j → (T' x).st = (T x).st) := Lib.hid (by rw [eT', ET.out]; exact hjx)
                have HD := Lib.hid hd
                obtain rfl : m = m' := b1.symm
                have hkb : (k == 1) = false := by rw [beq_eq_false_iff_ne]; exact hk
                clear hst' hrow' hops' hgood he hnx em' eT' hj0 hj1 hjx hd hk HOP' hsnd
                go_wp2
                go_loopw [12, 13, 109] (fun nn _ x ws => ∃ t z : Nat, t ≤ m ∧ x = .int .i64 (t : Int) ∧ nn = .int .i64 (z : Int) ∧ z ≤ 1 ∧ Hid (z = if j < t then d else 0) ∧ Hid (Below w8.heap.size w8 ws)) (fun _ _ x _ => m - (intOf x).toNat)
                case atStart => exact ⟨0, 0, Nat.zero_le _, rfl, rfl, by omega, Lib.hid (by rw [if_neg (by omega)]), Lib.hid (Below.refl _ _)⟩
                case round =>
                  obtain ⟨t, z, ht, rfl, rfl, hz, HZ, HU⟩ := hrel
                  by_cases hul : t < m
                  · obtain ⟨g, cg, evg, _, hgl⟩ := HRW.out.form (by omega)
                    injection evg with ev1 ev2 ev3
                    subst ev1
                    clear ev2 ev3
                    obtain ⟨g', cg', evg, _, hgl'⟩ := HRW'.out.form (by omega)
                    injection evg with ev1 ev2 ev3
                    subst ev1
                    clear ev2 ev3
                    obtain ⟨_, r1, _⟩ := rowT_get T V m t hul
                    obtain ⟨_, r1', _⟩ := rowT_get T' V' m t hul
                    have y1 := ((HW8.out.trans (HU.out.mono HW8.out.size)).cell (p := ⟨g, t * 3 + 1, none⟩) hgl).trans ((HRW.out.cellAt (t * 3 + 1) (by omega)).trans r1)
                    have z1 := (HU.out.cell (p := ⟨g', t * 3 + 1, none⟩) hgl').trans ((HRW'.out.cellAt (t * 3 + 1) (by omega)).trans r1')
                    have hul1 : (t : Int) < (m : Int) := by omega
                    clear r1 r1'
                    by_cases hst : (T' t).st = (T t).st
                    · have HZ1 : Hid (z = if j < t + 1 then d else 0) := Lib.hid (by
                        rw [HZ.out]
                        by_cases htj : t = j
                        · subst htj
                          rcases HD.out with ⟨_, h, _⟩ | ⟨_, _, h⟩
                          · rw [h]; simp
                          · exact absurd hst h
                        · by_cases hlt : j < t
                          · rw [if_pos hlt, if_pos (by omega)]
                          · rw [if_neg hlt, if_neg (by omega)])
                      rw [hst] at z1
                      clear hst
                      generalize (T t).st = ts at *
                      have hsb : (ts != ts) = false := by simp
                      go_wp2
                      go_quiet (fail)
                      go_wp2
                      go_roundw
                      case rel => exact ⟨t + 1, z, by omega, by go_num, rfl, hz, HZ1, Lib.hid (below_drewN HU.out _)⟩
                      case measure => simp [intOf]; omega
                    · obtain rfl : t = j := by
                        by_cases htj : t = j
                        · exact htj
                        · exact absurd (HJX.out t htj) hst
                      obtain ⟨hk4, rfl, _⟩ : ¬ k = 4 ∧ d = 1 ∧ True := by
                        rcases HD.out with ⟨_, _, h⟩ | ⟨h1, h2, _⟩
                        · exact absurd h hst
                        · exact ⟨h1, h2, trivial⟩
                      obtain rfl : z = 0 := by rw [HZ.out, if_neg (by omega)]
                      have hsb : ((T' t).st != (T t).st) = true := by rw [bne_iff_ne]; exact hst
                      clear hst hk4
                      generalize (T t).st = ts at *
                      generalize (T' t).st = ts' at *
                      go_wp2
                      go_quiet (fail)
                      go_wp2
                      go_roundw
                      case rel => exact ⟨t + 1, 1, by omega, by go_num, rfl, by omega, Lib.hid (by rw [if_pos (by omega)]), Lib.hid (below_drewN HU.out _)⟩
                      case measure => simp [intOf]; omega
                  · obtain rfl : m = t := by omega
                    obtain rfl : z = d := by rw [HZ.out, if_pos hj]
                    obtain ⟨⟨u0, u1, u2⟩, _⟩ := cells3 (((HB8.out.trans (HU.out.mono HB8.out.size)).block _ hl0).trans HX.out)
                    rcases HD.out with ⟨rfl, rfl, _⟩ | ⟨h4, rfl, _⟩
                    · go_wp2
                      go_ret
                      exact ⟨rfl, HB0.out.trans ((HB8.out.trans (HU.out.mono HB8.out.size)).mono HB0.out.size)⟩
                    · have h4b : (k == 4) = false := by rw [beq_eq_false_iff_ne]; exact h4
                      have h4c : (k != 4) = true := by rw [bne_iff_ne]; exact h4
                      clear h4
                      go_wp2
                      go_ret
                      exact ⟨rfl, HB0.out.trans ((HB8.out.trans (HU.out.mono HB8.out.size)).mono HB0.out.size)⟩
  · go_wp2
    go_ret
    exact ⟨rfl, HB0.out.trans (HB2.out.mono HB0.out.size)⟩
end Go.Proofs.Ytgpnjgpbblookaa
