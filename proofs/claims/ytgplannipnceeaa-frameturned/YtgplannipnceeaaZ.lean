/-
  FrameTurned's walk, where there are not too many frames.
-/
import Derived.Test.YtgplannipnceeaaY
import Derived.Deep.AppendLies
namespace Go.Proofs.Ytgplannipnceeaa
open Go.ChangeShapes Go.WideShapes Go.ChangeAt Go.RowKit

theorem FSI.below {w w' : World} {sp : Option Addr} {c : Nat} {K : Nat → Int} {z : Nat → Nat} {d : Nat → Nat → Nat} (h : FSI w sp c K z d) (hb : Below w.heap.size w w') : FSI w' sp c K z d := by
  intro hc
  obtain ⟨b, off, e, hl, hi⟩ := h hc
  refine ⟨b, off, e, Nat.lt_of_lt_of_le hl hb.size, fun i hic => ?_⟩
  obtain ⟨spi, capi, c0, c1, hs, hp⟩ := hi i hic
  exact ⟨spi, capi, (hb.cell hl).trans c0, (hb.cell hl).trans c1, hs.below hb, hp⟩
theorem first_bad (la : Nat) (K : Nat → Int) (h : ∃ x, x < la ∧ (K x < 0 ∨ 255 < K x)) : ∃ x, x < la ∧ (K x < 0 ∨ 255 < K x) ∧ ∀ i, i < x → 0 ≤ K i ∧ K i ≤ 255 := by
  obtain ⟨x, hx⟩ := h
  induction x using Nat.strongRecOn with
  | ind x ih =>
    by_cases hb : ∃ i, i < x ∧ (K i < 0 ∨ 255 < K i)
    · obtain ⟨i, hi, hk⟩ := hb
      exact ih i hi ⟨by omega, hk⟩
    · refine ⟨x, hx.1, hx.2, fun i hi => ?_⟩
      by_cases h : K i < 0 ∨ 255 < K i
      · exact absurd ⟨i, hi, h⟩ hb
      · omega

set_option maxRecDepth 100000 in
set_option maxHeartbeats 4000000 in
theorem turned_main (a0 : Option Addr) (la ca : Nat) (K : Nat → Int) (z : Nat → Nat) (d : Nat → Nat → Nat) (at_ : Int) (bt : Nat) (ins : Bool) (w : World)
    (hla : la ≤ 10) (hfa : FSI w a0 la K z d) (hda : ∀ i, i < la → ∀ j, d i j < 256) :
    Calls Try.prog 6 #[.slice a0 la ca, .int .i64 at_, .int .u32 (bt : Int), .bool ins] w fun e w' => e = .returned (.bool true) ∧ Below w.heap.size w w' := by
  obtain ⟨i0, hi, hz0, hz1, hz2⟩ := info_parts info3
  have HFA := Lib.hid hfa
  have HDA := Lib.hid hda
  clear hfa hda
  have h1 : ¬ (10 : Int) < (la : Int) := by omega
  go_enter Try.func6, Try.ntmps6
  go_wp2_with fail
  refine (head_any _).mono ?_
  rintro e w1 ⟨rfl, hb⟩
  have HB1 := Lib.hid hb
  clear hb
  have HO1 : Hid ((w1.alloc (.cells #[.int .i64 0] 3)).ownsRow w1.heap.size 3 1 (.slice (some ⟨w1.heap.size, 0, none⟩) 1 1) 1 (rowN (tot z) 1)) := Lib.hid (World.ownsRow_lit w1 #[.int .i64 0] 1 (Nat.le_refl _) (by unfold maxLen; omega) rfl)
  have HBA : Hid (Below w1.heap.size w1 (w1.alloc (.cells #[.int .i64 0] 3))) := Lib.hid ((Below.refl _ _).alloc (Nat.le_refl _) _)
  go_wp2
  go_loopw [9, 11, 29] (fun v _ i wr => ∃ t m g cp : Nat, t ≤ la ∧ i = .int .i64 (t : Int) ∧ v = .slice (some ⟨g, 0, none⟩) m cp ∧ Hid (m = t + 1) ∧ Hid (Below w1.heap.size w1 wr ∧ wr.ownsRow w1.heap.size 3 1 (.slice (some ⟨g, 0, none⟩) m cp) m (rowN (tot z) m) ∧ ∀ i, i < t → z i ≤ 300)) (fun _ _ i _ => la - (intOf i).toNat)
  case atStart => exact ⟨0, 1, w1.heap.size, 1, Nat.zero_le _, rfl, rfl, Lib.hid rfl, Lib.hid ⟨HBA.out, HO1.out, fun i hi => absurd hi (Nat.not_lt_zero _)⟩⟩
  case round =>
    obtain ⟨t, m, g, cp, ht, rfl, rfl, HM, HA⟩ := hrel
    by_cases hlt : t < la
    · obtain ⟨b, off, rfl, hbl, hci⟩ := HFA.out (by omega)
      obtain ⟨spi, capi, c0, c1, _, _⟩ := hci t hlt
      have HBT := Lib.hid (HB1.out.trans (HA.out.1.mono HB1.out.size))
      have x0 := (HBT.out.cell (p := ⟨b, off + t * 2, none⟩) hbl).trans c0
      have x1 := (HBT.out.cell (p := ⟨b, off + t * 2 + 1, none⟩) hbl).trans c1
      have hti : (t : Int) < (la : Int) := by omega
      have HZT : Hid (z t ≤ 300 → ∀ i, i < t + 1 → z i ≤ 300) := Lib.hid fun hh i hi => by
        by_cases h : i < t
        · exact HA.out.2.2 i h
        · obtain rfl : i = t := by omega
          exact hh
      have htm : tot z t ≤ 3120 := by have := tot_le300 z t HA.out.2.2; omega
      have HTS : Hid (tot z (t + 1) = tot z t + (12 + z t)) := Lib.hid rfl
      have hlast := (HA.out.2.1.cellAt t (by have := HM.out; omega)).trans (rowN_get (tot z) m t (by have := HM.out; omega))
      have hgl := (HA.out.2.1.lt g rfl).2
      obtain ⟨s, es⟩ : ∃ s, s = tot z t := ⟨_, rfl⟩
      rw [← es] at htm hlast HTS
      have HES := Lib.hid es
      clear es c0 c1 hci
      generalize hzt : z t = zz at x1 HZT HTS
      have HZZ := Lib.hid hzt
      clear hzt
      generalize K t = kk at *
      by_cases hz3 : 300 < zz
      · have hz3' : (300 : Int) < (zz : Int) := by omega
        clear hlast
        go_wp2
        go_ret
        exact ⟨rfl, HBT.out.alloc HBT.out.size _⟩
      · have hz3' : ¬ (300 : Int) < (zz : Int) := by omega
        obtain ⟨q, eq⟩ : ∃ q : Nat, q = s + 12 + zz := ⟨_, rfl⟩
        have hw1 : IntKind.i64.wrap ((s : Int) + 12) = (s : Int) + 12 := by rw [IntKind.wrap_i64]; omega
        have hw2 : IntKind.i64.wrap ((s : Int) + 12 + (zz : Int)) = (q : Int) := by rw [IntKind.wrap_i64]; omega
        have hw4 : IntKind.i64.wrap (q : Int) = (q : Int) := by rw [IntKind.wrap_i64]; omega
        have hw3 : (s : Int) + 12 + (zz : Int) = (q : Int) := by omega
        have hm6 : IntKind.i64.wrap (t : Int) = (t : Int) := by rw [IntKind.wrap_i64]; omega
        have hm2 : IntKind.i64.wrap ((m : Int) - 1) = (t : Int) := by have := HM.out; rw [IntKind.wrap_i64]; omega
        have hm3 : (t : Int) < (m : Int) := by have := HM.out; omega
        have hm4 : (0 : Int) ≤ (t : Int) := by omega
        have hm5 : m ≤ 11 := by have := HM.out; omega
        have HEQ := Lib.hid eq
        clear eq
        go_wp2
        obtain ⟨wx, ewx⟩ : ∃ wx, wx = wr.alloc (.cells #[.int .i64 kk, .slice spi zz capi] 24) := ⟨_, rfl⟩
        rw [← ewx]
        have hbx : Below wr.heap.size wr wx := by rw [ewx]; exact (Below.refl _ _).alloc (Nat.le_refl _) _
        have hxl : wr.heap.size < wx.heap.size := by rw [ewx]; simp
        have hxx : wx.heap[wr.heap.size]? = some (.cells #[.int .i64 kk, .slice spi zz capi] 24 (0, 0)) := by rw [ewx]; exact heap_alloc_new wr _
        obtain ⟨⟨y0, y1⟩, _⟩ := zcells hxx
        have l1 := (hbx.cell (p := ⟨g, t, none⟩) hgl).trans hlast
        have HOX := Lib.hid (own_below HA.out.2.1 hbx)
        have hglx : g < wx.heap.size := Nat.lt_of_lt_of_le hgl hbx.size
        have HBX := Lib.hid (HA.out.1.trans (hbx.mono HA.out.1.size))
        have HKK : Hid (∀ W, Below wx.heap.size wx W → W.cell? ⟨g, t, none⟩ = some (.int .i64 (s : Int)) ∧ W.cell? ⟨wr.heap.size, 1, none⟩ = some (.slice spi zz capi)) := Lib.hid fun W hb => ⟨(hb.cell hglx).trans l1, (hb.cell hxl).trans y1⟩
        clear hbx hxx ewx x0 x1 y0 hlast
        have HOD : Hid ((wx.drew.alloc (.cells #[.int .i64 (q : Int)] 3)).ownsRow w1.heap.size 3 1 (.slice (some ⟨g, 0, none⟩) m cp) m (rowN (tot z) m)) := Lib.hid (own_below HOX.out ((Below.refl _ _).drew.alloc (Nat.le_refl _) _))
        have HNEW : Hid (∀ j u, [Value.int .i64 (q : Int)][j]? = some u → (wx.drew.alloc (.cells #[.int .i64 (q : Int)] 3)).cell? ((⟨wx.heap.size, 0, none⟩ : Addr).add j) = some u) := Lib.hid (by
          intro j u hj
          obtain rfl : j = 0 := by
            rcases j with _ | j
            · rfl
            · simp at hj
          injection hj with hj
          rw [← hj, Go.WideShapes.add_plain, cell_of_row _ wx.heap.size _ _ 3 (0, 0) (heap_alloc_new wx.drew _)]
          rfl)
        have HSZ : Hid (w1.heap.size ≤ (wx.drew.alloc (.cells #[.int .i64 (q : Int)] 3)).heap.size) := Lib.hid (Nat.le_trans HBX.out.size (by simp))
        have hB0 : Below wx.heap.size wx wx := Below.refl _ _
        have hB : Below wx.heap.size wx wx.drew := (Below.refl _ _).drew
        have hBn : Below wx.heap.size wx (wx.drew.alloc (.cells #[.int .i64 (q : Int)] 3)) := hB.alloc (Nat.le_refl _) _
        have hBm : Below wx.heap.size wx (wx.alloc (.cells #[.int .i64 (q : Int)] 3)).drew := (hB0.alloc (Nat.le_refl _) _).drew
        have HKG : Hid (∀ W, (∀ j, j < m → W.cell? ⟨g, j, none⟩ = (wx.drew.alloc (.cells #[.int .i64 (q : Int)] 3)).cell? ⟨g, j, none⟩) → (wx.drew.alloc (.cells #[.int .i64 (q : Int)] 3)).grownBy W (some g) → W.cell? ⟨g, t, none⟩ = some (.int .i64 (s : Int)) ∧ W.cell? ⟨wr.heap.size, 1, none⟩ = some (.slice spi zz capi)) := Lib.hid fun W hk hgr => ⟨(hk t (by have := HM.out; omega)).trans (HKK.out _ hBn).1, (World.cell?_of_block (hgr.block wr.heap.size (Nat.lt_of_lt_of_le hxl hBn.size) (fun e => by have e' : wr.heap.size = g := Option.some.inj e; omega))).trans (HKK.out _ hBn).2⟩
        go_region_held3 (fun W => W.cell? ⟨g, t, none⟩ = some (.int .i64 (s : Int)) ∧ W.cell? ⟨wr.heap.size, 1, none⟩ = some (.slice spi zz capi))
          (first | exact HKK.out _ hB | exact HKK.out _ hB0 | exact HKK.out _ hBm | exact HKK.out _ hBn | exact HKG.out _ hkeep5 hgrow5)
          (first
            | (refine step_append_keeps (by rfl) _ _ (by rfl) w1.heap.size g m cp (rowN (tot z) m) (by rfl) HOD.out ⟨wx.heap.size, 0, none⟩ (.int .i64 (q : Int)) (by rfl) (by intro u hu; simp at hu; subst hu; rfl) HNEW.out (by omega) HSZ.out ?_; intro g5 cap5 w5 hown5 hgrow5 hlt5 hkeep5))
        have HB5 : Hid (Below w1.heap.size w1 w5) := Lib.hid ((HBX.out.trans (hBn.mono HBX.out.size)).grown hgrow5 HSZ.out (fun q hq => (HOD.out.lt q hq).1))
        have HO5 : Hid (w5.ownsRow w1.heap.size 3 1 (.slice (some ⟨g5, 0, none⟩) (m + 1) cap5) (m + 1) (rowN (tot z) (m + 1))) := Lib.hid (by
          have e : tot z m = q := by have h1 := HTS.out; have h2 := HEQ.out; rw [HM.out, h1, h2]; omega
          rw [rowN_succ, e]; exact hown5)
        clear hown5 hgrow5 hkeep5 hB hB0 hBn hBm HKK HKG HNEW HOD HOX y1 l1
        go_wp2
        go_roundw
        case rel => exact ⟨t + 1, m + 1, g5, cap5, by omega, by go_num, rfl, Lib.hid (by rw [HM.out]), Lib.hid ⟨HB5.out, HO5.out, HZT.out (by omega)⟩⟩
        case measure => simp [intOf]; omega
    · obtain rfl : la = t := by omega
      have HZ : Hid (∀ i, i < la → z i ≤ 300) := Lib.hid HA.out.2.2
      have HBR := Lib.hid (HB1.out.trans (HA.out.1.mono HB1.out.size))
      have HEN := Lib.hid HA.out.2.1
      have hgl := (HA.out.2.1.lt g rfl).2
      have hm0 := HM.out
      obtain ⟨wq, hwq⟩ : ∃ wq, wq = wr := ⟨_, rfl⟩
      subst hwq
      have HEC : Hid (∀ i, i < m → wq.cell? ⟨g, i, none⟩ = some (.int .i64 ((tot z i : Nat) : Int))) := Lib.hid fun i hi => (HEN.out.cellAt i (by omega)).trans (rowN_get (tot z) m i hi)
      obtain ⟨n, en⟩ : ∃ n, n = tot z la := ⟨_, rfl⟩
      have hn : n ≤ 3120 := by have := tot_le300 z la HZ.out; omega
      have EN := Lib.hid en
      clear en HA HEN hm0
      have HFQ := Lib.hid (HFA.out.below HBR.out)
      by_cases hbad : ∃ x, x < la ∧ (K x < 0 ∨ 255 < K x)
      · obtain ⟨x, hx, hx1, hx2⟩ := first_bad la K hbad
        have HX1 := Lib.hid hx1
        have HX2 := Lib.hid hx2
        clear hbad hx1 hx2
        go_wp2_with fail
        refine (all_bad a0 la ca x K z d wq (by omega) (by rw [← EN.out]; omega) hx HX1.out HX2.out (fun i hi => by have := HZ.out i hi; omega) HFQ.out).mono ?_
        rintro e w4 ⟨rfl, hb4⟩
        have HB4 := Lib.hid (HBR.out.trans (hb4.mono HBR.out.size))
        clear hb4
        go_wp2
        go_ret
        exact ⟨rfl, HB4.out⟩
      · have HK : Hid (∀ i, i < la → 0 ≤ K i ∧ K i ≤ 255) := Lib.hid fun i hi => by
          by_cases h : K i < 0 ∨ 255 < K i
          · exact absurd ⟨i, hi, h⟩ hbad
          · omega
        clear hbad
        have HFS := Lib.hid (HFQ.out.fs (fun i hi => (HK.out i hi).1))
        obtain ⟨F, eF⟩ : ∃ F, F = allF (fun i => (K i).toNat) z d la := ⟨_, rfl⟩
        have EF := Lib.hid eF
        have HFL : Hid (∀ j, F j < 256) := Lib.hid (by rw [EF.out]; exact allF_lt _ _ _ _ HDA.out)
        clear eF
        go_wp2_with fail
        refine (all_ok a0 la ca (fun i => (K i).toNat) z d wq (by omega) (by rw [← EN.out]; omega) (fun i hi => by have := HK.out i hi; show (K i).toNat < 256; omega) (fun i hi => by have := HZ.out i hi; omega) HDA.out HFS.out).mono ?_
        rintro e w4 ⟨g4, cp4, rfl, ho4, hb4⟩
        rw [← EN.out] at ho4 ⊢
        rw [← EF.out] at ho4
        have HS4 := Lib.hid (own_src ho4)
        have HB4 := Lib.hid (HBR.out.trans (hb4.mono HBR.out.size))
        have HEC4 : Hid (∀ i, i < m → w4.cell? ⟨g, i, none⟩ = some (.int .i64 ((tot z i : Nat) : Int))) := Lib.hid fun i hi => (hb4.cell (p := ⟨g, i, none⟩) hgl).trans (HEC.out i hi)
        have hgl4 : g < w4.heap.size := Nat.lt_of_lt_of_le hgl hb4.size
        have HFS4 := Lib.hid (HFS.out.below hb4)
        have HFI4 := Lib.hid (HFA.out.below HB4.out)
        clear ho4 hb4 HFS HFQ HBR HEC hgl HB1
        by_cases hneg : at_ < 0
        · go_wp2
          go_ret
          exact ⟨rfl, HB4.out⟩
        · obtain ⟨a, rfl⟩ : ∃ a : Nat, at_ = (a : Int) := ⟨at_.toNat, by omega⟩
          by_cases han : a < n
          · have han' : (a : Int) < (n : Int) := by omega
            have hl0 : 0 < la := by
              rcases Nat.eq_zero_or_pos la with h | h
              · have := EN.out; rw [h] at this; have h0 : tot z 0 = 0 := rfl; omega
              · exact h
            go_wp2
            go_loopw [14] (fun i ws => ∃ x : Nat, i = .int .i64 (x : Int) ∧ x < la ∧ ws = w4 ∧ Hid (tot z x ≤ a)) (fun i _ => la - (intOf i).toNat)
            case atStart => exact ⟨0, rfl, hl0, rfl, Lib.hid (Nat.zero_le _)⟩
            case round =>
              obtain ⟨x, rfl, hxl, hws, HXA⟩ := hrel
              subst hws
              have cx := HEC4.out x (by have := HM.out; omega)
              have cx1 := HEC4.out (x + 1) (by have := HM.out; omega)
              have HT1 : Hid (tot z (x + 1) = tot z x + (12 + z x)) := Lib.hid rfl
              have HNX : Hid (tot z (x + 1) ≤ n) := Lib.hid (by rw [EN.out]; exact tot_mono z (x + 1) la hxl)
              have hzx := HZ.out x hxl
              obtain ⟨p, ep⟩ : ∃ p, p = tot z x := ⟨_, rfl⟩
              obtain ⟨p1, ep1⟩ : ∃ p1, p1 = tot z (x + 1) := ⟨_, rfl⟩
              rw [← ep] at cx HXA HT1
              rw [← ep1] at cx1 HT1 HNX
              have HP := Lib.hid ep
              have HP1 := Lib.hid ep1
              clear ep ep1
              have hpa := HXA.out
              have hpn := HNX.out
              have hi1 : (x : Int) + 1 < (m : Int) := by have := HM.out; omega
              have hi2 : IntKind.i64.wrap ((x : Int) + 1) = (x : Int) + 1 := by rw [IntKind.wrap_i64]; omega
              have hi3 : (x : Int) < (m : Int) := by have := HM.out; omega
              by_cases hle : p1 ≤ a
              · have hle' : (p1 : Int) ≤ (a : Int) := by omega
                have hxx : x + 1 < la := by
                  rcases Nat.lt_or_ge (x + 1) la with h | h
                  · exact h
                  · have h1 := EN.out; have h2 := HP1.out; rw [show x + 1 = la by omega] at h2; omega
                clear cx
                go_wp2
                go_roundw
                case rel => exact ⟨x + 1, by go_num, hxx, by first | rfl | trivial, Lib.hid (by rw [← HP1.out]; exact hle)⟩
                case measure => simp [intOf]; omega
              · have hle' : ¬ (p1 : Int) ≤ (a : Int) := by omega
                go_wp2_with fail
                refine (rcopy_some _ n cp4 F wr (by omega) HS4.out (fun h => by cases h)).mono ?_
                rintro e w5 ⟨g6, cp6, rfl, hg6, ho6, hb6⟩
                obtain hcp6 := (own_cap ho6).1
                have HO6 := Lib.hid ho6
                have HB6 := Lib.hid hb6
                have hg65 := (ho6.lt g6 rfl).2
                have e0 := (hb6.cell (p := ⟨g, x, none⟩) hgl4).trans cx
                have e1 := (hb6.cell (p := ⟨g, x + 1, none⟩) hgl4).trans cx1
                have hcA := (ho6.cellAt a (by omega)).trans (rowB_get F n a han)
                have hfa := HFL.out a
                have hw12 : IntKind.i64.wrap ((p : Int) + 12) = (p : Int) + 12 := by rw [IntKind.wrap_i64]; omega
                clear ho6 hb6 cx cx1
                generalize hFa : F a = fa at hcA hfa
                have HFa := Lib.hid hFa
                clear hFa
                by_cases hone : ins = false ∨ a < p + 12
                · have hone' : (ins = true → (a : Int) < (p : Int) + 12) := fun h => by rcases hone with h' | h' <;> first | omega | (rw [h] at h'; cases h')
                  cases ins
                  · clear hone'
                    have fz := HO6.out.frozenAt a
                    go_wp2_with fail
                    have hval : bits .xor .u8 (fa : Int) ((bt : Int) % 256) = ((fa ^^^ bt % 256 : Nat) : Int) := by
                      have h := u8_xor_nat fa (bt % 256) hfa (Nat.mod_lt _ (by decide))
                      rw [← h]; rfl
                    rw [hval]
                    have hst := HO6.out.stored a (.int .u8 ((fa ^^^ bt % 256 : Nat) : Int))
                    rw [rowB_set'] at hst
                    obtain ⟨wc, ewc⟩ : ∃ wc, wc = w5.setCell ⟨g6, a, none⟩ (.int .u8 ((fa ^^^ bt % 256 : Nat) : Int)) := ⟨_, rfl⟩
                    obtain ⟨G, eG⟩ : ∃ G : Nat → Nat, G = fun i => if i = a then fa ^^^ bt % 256 else F i := ⟨_, rfl⟩
                    rw [← ewc] at hst ⊢
                    rw [← eG] at hst
                    have HOC := Lib.hid hst.1
                    have HBC := Lib.hid (HB6.out.grown hst.2 HB6.out.size (fun q hq => by injection hq with hq; omega))
                    have HGL : Hid (∀ j, G j < 256) := Lib.hid fun j => by
                      rw [eG]
                      show (if j = a then fa ^^^ bt % 256 else F j) < 256
                      split
                      · exact Nat.xor_lt_two_pow (n := 8) hfa (Nat.mod_lt _ (by decide))
                      · exact HFL.out j
                    have HGW : Hid ((∀ j, j < tot z la → ¬ j = a → G j = F j) ∨ (tot z x + 12 ≤ a ∧ ∀ j, j < tot z la → (j < a ∨ a + 4 ≤ j ∨ tot z (x + 1) ≤ j) → G j = F j)) := Lib.hid (.inl fun j _ hj => by rw [eG]; exact if_neg hj)
                    clear hst ewc eG hval HO6 HB6 fz e0 e1 hcA
                    obtain ⟨wv, hwv⟩ : ∃ wv, wv = wr := ⟨_, rfl⟩
                    subst hwv
                    have HSB := Lib.hid (HS4.out.below HBC.out)
                    have HSC := Lib.hid (own_src HOC.out)
                    by_cases hsame : ∀ j, j < n → F j = G j
                    · refine (same_any wc _ _ n cp4 cp6 F G true (fun j _ => HFL.out j) (fun j _ => HGL.out j) HSB.out HSC.out ⟨fun _ => hsame, fun _ => rfl⟩).mono ?_
                      rintro e w' ⟨rfl, rfl⟩
                      clear hsame
                      go_wp2
                      go_ret
                      exact ⟨rfl, HB4.out.trans (HBC.out.mono HB4.out.size)⟩
                    · refine (same_any wc _ _ n cp4 cp6 F G false (fun j _ => HFL.out j) (fun j _ => HGL.out j) HSB.out HSC.out ⟨fun h => (by cases h), fun h => absurd h hsame⟩).mono ?_
                      rintro e w' ⟨rfl, rfl⟩
                      have HNE := Lib.hid hsame
                      clear hsame
                      go_wp2_with fail
                      refine (scan_any _ n cp6 G wc (by omega) hcp6 HGL.out HSC.out).mono ?_
                      rintro e w9 ⟨hb9, c9, er, v9, rfl, hwh, hend, hfr⟩
                      obtain ⟨V9, hoV, _⟩ := hfr.row
                      obtain ⟨spv, cpv, ev, _⟩ := own24_form hoV
                      subst ev
                      clear hoV
                      obtain ⟨q1, q2, q3, q4⟩ := turned_math la x a (fun i => (K i).toNat) z d F G hxl (fun i hi => by have := HK.out i hi; show (K i).toNat < 256; omega) HZ.out HDA.out EF.out HGL.out (by rw [← HP.out]; exact hpa) (by rw [← HP1.out]; omega) HGW.out (by rw [← EN.out]; exact HNE.out) c9 er (by rw [← EN.out]; exact hwh) (by rw [← EN.out]; exact hend)
                      rw [q2, ← HP.out]
                      have q1' := q1.symm
                      clear q1
                      subst q1'
                      have hq : ((er : Int) == 0) = false := by rw [beq_eq_false_iff_ne]; omega
                      have HFV := Lib.hid hfr.fs
                      have HQ4 := Lib.hid q4
                      have HB9 := Lib.hid (HBC.out.trans (hb9.mono HBC.out.size))
                      have e9 := (HB9.out.cell (p := ⟨g, x, none⟩) hgl4).trans (HEC4.out x (by have := HM.out; omega))
                      rw [← HP.out] at e9
                      clear hb9 hwh hend hfr q2 q3 q4 HSB HSC HOC HBC HNE HGW
                      go_wp2
                      go_loopw [20, 155] (fun _ y ws => ∃ t : Nat, t ≤ x ∧ y = .int .i64 (t : Int) ∧ Hid (Below w9.heap.size w9 ws)) (fun _ y _ => x - (intOf y).toNat)
                      case atStart => exact ⟨0, Nat.zero_le _, rfl, Lib.hid (Below.refl _ _)⟩
                      case round =>
                        obtain ⟨t, ht, rfl, HT⟩ := hrel
                        by_cases hti : t < x
                        · obtain ⟨bv, ov, rfl, hbv, hcv⟩ := HFV.out (by omega)
                          obtain ⟨sv, cv, v0, v1, hsv, hpv⟩ := hcv t hti
                          obtain ⟨q1, q2, q3⟩ := HQ4.out t hti
                          have htl : t < la := by omega
                          have hk0 := (HK.out t htl).1
                          dsimp only at v0 v1 hsv q1
                          rw [q1, Int.toNat_of_nonneg hk0] at v0
                          rw [q2] at v1 hsv
                          have HBT := Lib.hid (HB9.out.trans (HT.out.mono HB9.out.size))
                          have a0' := (HT.out.cell (p := ⟨bv, ov + t * 2, none⟩) hbv).trans v0
                          have a1' := (HT.out.cell (p := ⟨bv, ov + t * 2 + 1, none⟩) hbv).trans v1
                          obtain ⟨gd, egd⟩ : ∃ gd : Nat → Nat, gd = fun j => sh G (scanP G t) (12 + j) := ⟨_, rfl⟩
                          rw [← egd] at hsv
                          have HGD : Hid (∀ j, j < z t → gd j < 256) := Lib.hid fun j _ => by rw [egd]; exact HGL.out _
                          have HGE : Hid (∀ j, j < z t → gd j = d t j) := Lib.hid fun j hj => by rw [egd]; exact q3 j hj
                          have HDD : Hid (∀ j, j < z t → d t j < 256) := Lib.hid fun j _ => HDA.out t htl j
                          have HSV := Lib.hid (hsv.below HT.out)
                          obtain ⟨ba, oa, rfl, hba, hca⟩ := HFI4.out (by omega)
                          obtain ⟨sa, cca, u0, u1, hsa, hpa'⟩ := hca t htl
                          have b0' := (HBT.out.cell (p := ⟨ba, oa + t * 2, none⟩) hba).trans u0
                          have b1' := (HBT.out.cell (p := ⟨ba, oa + t * 2 + 1, none⟩) hba).trans u1
                          have HSA := Lib.hid (hsa.below HBT.out)
                          have hti' : (t : Int) < (x : Int) := by omega
                          have htl' : (t : Int) < (la : Int) := by omega
                          clear u0 u1 hsa hpa' hca v0 v1 hsv hpv hcv q1 q2 q3 egd
                          generalize K t = kk at *
                          generalize z t = zz at *
                          generalize d t = dd at *
                          have HLS : Hid (∀ W, Below wr.heap.size wr W → Calls Try.prog 14 #[.agg #[.int .i64 kk, .slice sv zz cv], .agg #[.int .i64 kk, .slice sa zz cca]] W fun e w' => e = .returned (.bool true) ∧ Below W.heap.size W w') :=
                            Lib.hid fun W hb => lsame_any kk kk sv sa zz cv cca gd dd W HGD.out HDD.out (HSV.out.below hb) (HSA.out.below hb) rfl HGE.out
                          have hbvl : bv < wr.heap.size := Nat.lt_of_lt_of_le hbv HT.out.size
                          have hbal : ba < wr.heap.size := Nat.lt_of_lt_of_le hba HBT.out.size
                          have HKK : Hid (∀ W, Below wr.heap.size wr W → W.cell? ⟨bv, ov + t * 2, none⟩ = some (.int .i64 kk) ∧ W.cell? ⟨bv, ov + t * 2 + 1, none⟩ = some (.slice sv zz cv) ∧ W.cell? ⟨ba, oa + t * 2, none⟩ = some (.int .i64 kk) ∧ W.cell? ⟨ba, oa + t * 2 + 1, none⟩ = some (.slice sa zz cca)) :=
                            Lib.hid fun W hb => ⟨(hb.cell hbvl).trans a0', (hb.cell hbvl).trans a1', (hb.cell hbal).trans b0', (hb.cell hbal).trans b1'⟩
                          have hB0 : Below wr.heap.size wr wr := Below.refl _ _
                          have hB : Below wr.heap.size wr wr.drew := (Below.refl _ _).drew
                          clear HGD HGE HDD HSV HSA
                          go_wp2
                          go_region_held3 (fun W => W.cell? ⟨bv, ov + t * 2, none⟩ = some (.int .i64 kk) ∧ W.cell? ⟨bv, ov + t * 2 + 1, none⟩ = some (.slice sv zz cv) ∧ W.cell? ⟨ba, oa + t * 2, none⟩ = some (.int .i64 kk) ∧ W.cell? ⟨ba, oa + t * 2 + 1, none⟩ = some (.slice sa zz cca))
                            (first | exact HKK.out _ hB | exact HKK.out _ hB0)
                            (first | (go_at_call 14; refine (HLS.out _ hB).mono ?_; rintro e w8' ⟨rfl, hb8⟩; replace hB := hB.trans (hb8.mono hB.size)))
                          have HT8 := Lib.hid (HT.out.trans (hB.mono HT.out.size))
                          clear hb8 hB hB0 a0' a1' b0' b1' HLS HKK
                          go_wp2
                          go_roundw
                          case rel => exact ⟨t + 1, by omega, by go_num, HT8⟩
                          case measure => simp [intOf]; omega
                        · obtain rfl : x = t := by omega
                          go_wp2
                          go_ret
                          exact ⟨rfl, HB4.out.trans ((HB9.out.trans (HT.out.mono HB9.out.size)).mono HB4.out.size)⟩
                  · have hlt12 := hone' rfl
                    clear hone'
                    have fz := HO6.out.frozenAt a
                    go_wp2_with fail
                    have hval : bits .xor .u8 (fa : Int) ((bt : Int) % 256) = ((fa ^^^ bt % 256 : Nat) : Int) := by
                      have h := u8_xor_nat fa (bt % 256) hfa (Nat.mod_lt _ (by decide))
                      rw [← h]; rfl
                    rw [hval]
                    have hst := HO6.out.stored a (.int .u8 ((fa ^^^ bt % 256 : Nat) : Int))
                    rw [rowB_set'] at hst
                    obtain ⟨wc, ewc⟩ : ∃ wc, wc = w5.setCell ⟨g6, a, none⟩ (.int .u8 ((fa ^^^ bt % 256 : Nat) : Int)) := ⟨_, rfl⟩
                    obtain ⟨G, eG⟩ : ∃ G : Nat → Nat, G = fun i => if i = a then fa ^^^ bt % 256 else F i := ⟨_, rfl⟩
                    rw [← ewc] at hst ⊢
                    rw [← eG] at hst
                    have HOC := Lib.hid hst.1
                    have HBC := Lib.hid (HB6.out.grown hst.2 HB6.out.size (fun q hq => by injection hq with hq; omega))
                    have HGL : Hid (∀ j, G j < 256) := Lib.hid fun j => by
                      rw [eG]
                      show (if j = a then fa ^^^ bt % 256 else F j) < 256
                      split
                      · exact Nat.xor_lt_two_pow (n := 8) hfa (Nat.mod_lt _ (by decide))
                      · exact HFL.out j
                    have HGW : Hid ((∀ j, j < tot z la → ¬ j = a → G j = F j) ∨ (tot z x + 12 ≤ a ∧ ∀ j, j < tot z la → (j < a ∨ a + 4 ≤ j ∨ tot z (x + 1) ≤ j) → G j = F j)) := Lib.hid (.inl fun j _ hj => by rw [eG]; exact if_neg hj)
                    clear hst ewc eG hval HO6 HB6 fz e0 e1 hcA
                    obtain ⟨wv, hwv⟩ : ∃ wv, wv = wr := ⟨_, rfl⟩
                    subst hwv
                    have HSB := Lib.hid (HS4.out.below HBC.out)
                    have HSC := Lib.hid (own_src HOC.out)
                    by_cases hsame : ∀ j, j < n → F j = G j
                    · refine (same_any wc _ _ n cp4 cp6 F G true (fun j _ => HFL.out j) (fun j _ => HGL.out j) HSB.out HSC.out ⟨fun _ => hsame, fun _ => rfl⟩).mono ?_
                      rintro e w' ⟨rfl, rfl⟩
                      clear hsame
                      go_wp2
                      go_ret
                      exact ⟨rfl, HB4.out.trans (HBC.out.mono HB4.out.size)⟩
                    · refine (same_any wc _ _ n cp4 cp6 F G false (fun j _ => HFL.out j) (fun j _ => HGL.out j) HSB.out HSC.out ⟨fun h => (by cases h), fun h => absurd h hsame⟩).mono ?_
                      rintro e w' ⟨rfl, rfl⟩
                      have HNE := Lib.hid hsame
                      clear hsame
                      go_wp2_with fail
                      refine (scan_any _ n cp6 G wc (by omega) hcp6 HGL.out HSC.out).mono ?_
                      rintro e w9 ⟨hb9, c9, er, v9, rfl, hwh, hend, hfr⟩
                      obtain ⟨V9, hoV, _⟩ := hfr.row
                      obtain ⟨spv, cpv, ev, _⟩ := own24_form hoV
                      subst ev
                      clear hoV
                      obtain ⟨q1, q2, q3, q4⟩ := turned_math la x a (fun i => (K i).toNat) z d F G hxl (fun i hi => by have := HK.out i hi; show (K i).toNat < 256; omega) HZ.out HDA.out EF.out HGL.out (by rw [← HP.out]; exact hpa) (by rw [← HP1.out]; omega) HGW.out (by rw [← EN.out]; exact HNE.out) c9 er (by rw [← EN.out]; exact hwh) (by rw [← EN.out]; exact hend)
                      rw [q2, ← HP.out]
                      have q1' := q1.symm
                      clear q1
                      subst q1'
                      have hq : ((er : Int) == 0) = false := by rw [beq_eq_false_iff_ne]; omega
                      have HFV := Lib.hid hfr.fs
                      have HQ4 := Lib.hid q4
                      have HB9 := Lib.hid (HBC.out.trans (hb9.mono HBC.out.size))
                      have e9 := (HB9.out.cell (p := ⟨g, x, none⟩) hgl4).trans (HEC4.out x (by have := HM.out; omega))
                      rw [← HP.out] at e9
                      clear hb9 hwh hend hfr q2 q3 q4 HSB HSC HOC HBC HNE HGW
                      go_wp2
                      go_loopw [20, 155] (fun _ y ws => ∃ t : Nat, t ≤ x ∧ y = .int .i64 (t : Int) ∧ Hid (Below w9.heap.size w9 ws)) (fun _ y _ => x - (intOf y).toNat)
                      case atStart => exact ⟨0, Nat.zero_le _, rfl, Lib.hid (Below.refl _ _)⟩
                      case round =>
                        obtain ⟨t, ht, rfl, HT⟩ := hrel
                        by_cases hti : t < x
                        · obtain ⟨bv, ov, rfl, hbv, hcv⟩ := HFV.out (by omega)
                          obtain ⟨sv, cv, v0, v1, hsv, hpv⟩ := hcv t hti
                          obtain ⟨q1, q2, q3⟩ := HQ4.out t hti
                          have htl : t < la := by omega
                          have hk0 := (HK.out t htl).1
                          dsimp only at v0 v1 hsv q1
                          rw [q1, Int.toNat_of_nonneg hk0] at v0
                          rw [q2] at v1 hsv
                          have HBT := Lib.hid (HB9.out.trans (HT.out.mono HB9.out.size))
                          have a0' := (HT.out.cell (p := ⟨bv, ov + t * 2, none⟩) hbv).trans v0
                          have a1' := (HT.out.cell (p := ⟨bv, ov + t * 2 + 1, none⟩) hbv).trans v1
                          obtain ⟨gd, egd⟩ : ∃ gd : Nat → Nat, gd = fun j => sh G (scanP G t) (12 + j) := ⟨_, rfl⟩
                          rw [← egd] at hsv
                          have HGD : Hid (∀ j, j < z t → gd j < 256) := Lib.hid fun j _ => by rw [egd]; exact HGL.out _
                          have HGE : Hid (∀ j, j < z t → gd j = d t j) := Lib.hid fun j hj => by rw [egd]; exact q3 j hj
                          have HDD : Hid (∀ j, j < z t → d t j < 256) := Lib.hid fun j _ => HDA.out t htl j
                          have HSV := Lib.hid (hsv.below HT.out)
                          obtain ⟨ba, oa, rfl, hba, hca⟩ := HFI4.out (by omega)
                          obtain ⟨sa, cca, u0, u1, hsa, hpa'⟩ := hca t htl
                          have b0' := (HBT.out.cell (p := ⟨ba, oa + t * 2, none⟩) hba).trans u0
                          have b1' := (HBT.out.cell (p := ⟨ba, oa + t * 2 + 1, none⟩) hba).trans u1
                          have HSA := Lib.hid (hsa.below HBT.out)
                          have hti' : (t : Int) < (x : Int) := by omega
                          have htl' : (t : Int) < (la : Int) := by omega
                          clear u0 u1 hsa hpa' hca v0 v1 hsv hpv hcv q1 q2 q3 egd
                          generalize K t = kk at *
                          generalize z t = zz at *
                          generalize d t = dd at *
                          have HLS : Hid (∀ W, Below wr.heap.size wr W → Calls Try.prog 14 #[.agg #[.int .i64 kk, .slice sv zz cv], .agg #[.int .i64 kk, .slice sa zz cca]] W fun e w' => e = .returned (.bool true) ∧ Below W.heap.size W w') :=
                            Lib.hid fun W hb => lsame_any kk kk sv sa zz cv cca gd dd W HGD.out HDD.out (HSV.out.below hb) (HSA.out.below hb) rfl HGE.out
                          have hbvl : bv < wr.heap.size := Nat.lt_of_lt_of_le hbv HT.out.size
                          have hbal : ba < wr.heap.size := Nat.lt_of_lt_of_le hba HBT.out.size
                          have HKK : Hid (∀ W, Below wr.heap.size wr W → W.cell? ⟨bv, ov + t * 2, none⟩ = some (.int .i64 kk) ∧ W.cell? ⟨bv, ov + t * 2 + 1, none⟩ = some (.slice sv zz cv) ∧ W.cell? ⟨ba, oa + t * 2, none⟩ = some (.int .i64 kk) ∧ W.cell? ⟨ba, oa + t * 2 + 1, none⟩ = some (.slice sa zz cca)) :=
                            Lib.hid fun W hb => ⟨(hb.cell hbvl).trans a0', (hb.cell hbvl).trans a1', (hb.cell hbal).trans b0', (hb.cell hbal).trans b1'⟩
                          have hB0 : Below wr.heap.size wr wr := Below.refl _ _
                          have hB : Below wr.heap.size wr wr.drew := (Below.refl _ _).drew
                          clear HGD HGE HDD HSV HSA
                          go_wp2
                          go_region_held3 (fun W => W.cell? ⟨bv, ov + t * 2, none⟩ = some (.int .i64 kk) ∧ W.cell? ⟨bv, ov + t * 2 + 1, none⟩ = some (.slice sv zz cv) ∧ W.cell? ⟨ba, oa + t * 2, none⟩ = some (.int .i64 kk) ∧ W.cell? ⟨ba, oa + t * 2 + 1, none⟩ = some (.slice sa zz cca))
                            (first | exact HKK.out _ hB | exact HKK.out _ hB0)
                            (first | (go_at_call 14; refine (HLS.out _ hB).mono ?_; rintro e w8' ⟨rfl, hb8⟩; replace hB := hB.trans (hb8.mono hB.size)))
                          have HT8 := Lib.hid (HT.out.trans (hB.mono HT.out.size))
                          clear hb8 hB hB0 a0' a1' b0' b1' HLS HKK
                          go_wp2
                          go_roundw
                          case rel => exact ⟨t + 1, by omega, by go_num, HT8⟩
                          case measure => simp [intOf]; omega
                        · obtain rfl : x = t := by omega
                          go_wp2
                          go_ret
                          exact ⟨rfl, HB4.out.trans ((HB9.out.trans (HT.out.mono HB9.out.size)).mono HB4.out.size)⟩
                · have hins : ins = true := by cases ins <;> simp_all
                  have hge0 : p + 12 ≤ a := by omega
                  subst hins
                  have hge : ¬ (a : Int) < (p : Int) + 12 := by omega
                  clear hone
                  obtain ⟨wv, hwv⟩ : ∃ wv, wv = wr := ⟨_, rfl⟩
                  subst hwv
                  have hp1n : p1 ≤ n := hpn
                  go_wp2
                  go_loopw [16] (fun y ws => ∃ (t : Nat) (G : Nat → Nat), y = .int .i64 (t : Int) ∧ t ≤ 4 ∧ a + t ≤ p1 ∧ Hid (ws.ownsRow wv.heap.size 5 1 (.slice (some ⟨g6, 0, none⟩) n cp6) n (rowB G n) ∧ Below wv.heap.size wv ws ∧ (∀ j, G j < 256) ∧ (∀ j, j < n → (j < a ∨ a + t ≤ j) → G j = F j))) (fun y _ => 4 - (intOf y).toNat)
                  case atStart => exact ⟨0, F, rfl, by omega, by omega, Lib.hid ⟨HO6.out, HB6.out, HFL.out, fun _ _ _ => rfl⟩⟩
                  case round =>
                    obtain ⟨t, G, rfl, ht4, hatp, HA⟩ := hrel
                    have cx1 := (HA.out.2.1.cell (p := ⟨g, x + 1, none⟩) hgl4).trans (HEC4.out (x + 1) (by have := HM.out; omega))
                    rw [← HP1.out] at cx1
                    obtain ⟨y, ey⟩ : ∃ y, y = a + t := ⟨_, rfl⟩
                    have hy1 : (a : Int) + (t : Int) = (y : Int) := by omega
                    have hy2 : IntKind.i64.wrap (y : Int) = (y : Int) := by rw [IntKind.wrap_i64]; omega
                    by_cases hgo : t < 4 ∧ y < p1
                    · have ht' : (t : Int) < 4 := by omega
                      have hyp : (y : Int) < (p1 : Int) := by omega
                      have hyn : (y : Int) < (n : Int) := by omega
                      have hyy : y < n := by omega
                      have hcy := (HA.out.1.cellAt y (by omega)).trans (rowB_get G n y hyy)
                      have hgy := HA.out.2.2.1 y
                      have fz := HA.out.1.frozenAt y
                      generalize hGy : G y = gy at hcy hgy
                      have HEY := Lib.hid ey
                      clear ey
                      have hm8 : IntKind.i64.wrap (8 * (t : Int)) = 8 * (t : Int) := by rw [IntKind.wrap_i64]; omega
                      have hm9 : IntKind.u64.wrap (8 * (t : Int)) = 8 * (t : Int) := by rw [IntKind.wrap_u64]; omega
                      go_wp2
                      have hval : bits .xor .u8 (gy : Int) ((bt : Int) / 2 ^ (8 * t) % 256) = ((gy ^^^ bt / 2 ^ (8 * t) % 256 : Nat) : Int) := by
                        have h := u8_xor_nat gy (bt / 2 ^ (8 * t) % 256) hgy (Nat.mod_lt _ (by decide))
                        rw [← h]; simp
                      rw [hval]
                      have hst := HA.out.1.stored y (.int .u8 ((gy ^^^ bt / 2 ^ (8 * t) % 256 : Nat) : Int))
                      rw [rowB_set'] at hst
                      go_roundw
                      case rel =>
                        refine ⟨t + 1, fun i => if i = y then gy ^^^ bt / 2 ^ (8 * t) % 256 else G i, by go_num, by omega, by have := HEY.out; omega, Lib.hid ⟨hst.1, HA.out.2.1.grown hst.2 HA.out.2.1.size (fun q hq => by injection hq with hq; omega), fun j => ?_, fun j hj hor => ?_⟩⟩
                        · show (if j = y then gy ^^^ bt / 2 ^ (8 * t) % 256 else G j) < 256
                          split
                          · exact Nat.xor_lt_two_pow (n := 8) hgy (Nat.mod_lt _ (by decide))
                          · exact HA.out.2.2.1 j
                        · have hey := HEY.out
                          show (if j = y then gy ^^^ bt / 2 ^ (8 * t) % 256 else G j) = F j
                          rw [if_neg (by omega)]
                          exact HA.out.2.2.2 j hj (by omega)
                      case measure => simp [intOf]; omega
                    · have HOC := Lib.hid HA.out.1
                      have HBC := Lib.hid HA.out.2.1
                      have HGL := Lib.hid HA.out.2.2.1
                      have HGW : Hid ((∀ j, j < tot z la → ¬ j = a → G j = F j) ∨ (tot z x + 12 ≤ a ∧ ∀ j, j < tot z la → (j < a ∨ a + 4 ≤ j ∨ tot z (x + 1) ≤ j) → G j = F j)) := Lib.hid (by
                        rw [← HP.out, ← HP1.out, ← EN.out]
                        exact .inr ⟨hge0, fun j hj hor => HA.out.2.2.2 j hj (by omega)⟩)
                      have hout : ¬ t < 4 ∨ ¬ y < p1 := by omega
                      clear HA HO6 HB6 e0 e1 hcA hgo ey
                      obtain ⟨wc, hwc⟩ : ∃ wc, wc = wr := ⟨_, rfl⟩
                      subst hwc
                      by_cases ht44 : (t : Int) < 4
                      · have hyp : ¬ (y : Int) < (p1 : Int) := by omega
                        clear hout
                        go_wp2_with fail
                        have HSB := Lib.hid (HS4.out.below HBC.out)
                        have HSC := Lib.hid (own_src HOC.out)
                        by_cases hsame : ∀ j, j < n → F j = G j
                        · refine (same_any wc _ _ n cp4 cp6 F G true (fun j _ => HFL.out j) (fun j _ => HGL.out j) HSB.out HSC.out ⟨fun _ => hsame, fun _ => rfl⟩).mono ?_
                          rintro e w' ⟨rfl, rfl⟩
                          clear hsame
                          go_wp2
                          go_ret
                          exact ⟨rfl, HB4.out.trans (HBC.out.mono HB4.out.size)⟩
                        · refine (same_any wc _ _ n cp4 cp6 F G false (fun j _ => HFL.out j) (fun j _ => HGL.out j) HSB.out HSC.out ⟨fun h => (by cases h), fun h => absurd h hsame⟩).mono ?_
                          rintro e w' ⟨rfl, rfl⟩
                          have HNE := Lib.hid hsame
                          clear hsame
                          go_wp2_with fail
                          refine (scan_any _ n cp6 G wc (by omega) hcp6 HGL.out HSC.out).mono ?_
                          rintro e w9 ⟨hb9, c9, er, v9, rfl, hwh, hend, hfr⟩
                          obtain ⟨V9, hoV, _⟩ := hfr.row
                          obtain ⟨spv, cpv, ev, _⟩ := own24_form hoV
                          subst ev
                          clear hoV
                          obtain ⟨q1, q2, q3, q4⟩ := turned_math la x a (fun i => (K i).toNat) z d F G hxl (fun i hi => by have := HK.out i hi; show (K i).toNat < 256; omega) HZ.out HDA.out EF.out HGL.out (by rw [← HP.out]; exact hpa) (by rw [← HP1.out]; omega) HGW.out (by rw [← EN.out]; exact HNE.out) c9 er (by rw [← EN.out]; exact hwh) (by rw [← EN.out]; exact hend)
                          rw [q2, ← HP.out]
                          have q1' := q1.symm
                          clear q1
                          subst q1'
                          have hq : ((er : Int) == 0) = false := by rw [beq_eq_false_iff_ne]; omega
                          have HFV := Lib.hid hfr.fs
                          have HQ4 := Lib.hid q4
                          have HB9 := Lib.hid (HBC.out.trans (hb9.mono HBC.out.size))
                          have e9 := (HB9.out.cell (p := ⟨g, x, none⟩) hgl4).trans (HEC4.out x (by have := HM.out; omega))
                          rw [← HP.out] at e9
                          clear hb9 hwh hend hfr q2 q3 q4 HSB HSC HOC HBC HNE HGW
                          go_wp2
                          go_loopw [20, 155] (fun _ y ws => ∃ t : Nat, t ≤ x ∧ y = .int .i64 (t : Int) ∧ Hid (Below w9.heap.size w9 ws)) (fun _ y _ => x - (intOf y).toNat)
                          case atStart => exact ⟨0, Nat.zero_le _, rfl, Lib.hid (Below.refl _ _)⟩
                          case round =>
                            obtain ⟨t, ht, rfl, HT⟩ := hrel
                            by_cases hti : t < x
                            · obtain ⟨bv, ov, rfl, hbv, hcv⟩ := HFV.out (by omega)
                              obtain ⟨sv, cv, v0, v1, hsv, hpv⟩ := hcv t hti
                              obtain ⟨q1, q2, q3⟩ := HQ4.out t hti
                              have htl : t < la := by omega
                              have hk0 := (HK.out t htl).1
                              dsimp only at v0 v1 hsv q1
                              rw [q1, Int.toNat_of_nonneg hk0] at v0
                              rw [q2] at v1 hsv
                              have HBT := Lib.hid (HB9.out.trans (HT.out.mono HB9.out.size))
                              have a0' := (HT.out.cell (p := ⟨bv, ov + t * 2, none⟩) hbv).trans v0
                              have a1' := (HT.out.cell (p := ⟨bv, ov + t * 2 + 1, none⟩) hbv).trans v1
                              obtain ⟨gd, egd⟩ : ∃ gd : Nat → Nat, gd = fun j => sh G (scanP G t) (12 + j) := ⟨_, rfl⟩
                              rw [← egd] at hsv
                              have HGD : Hid (∀ j, j < z t → gd j < 256) := Lib.hid fun j _ => by rw [egd]; exact HGL.out _
                              have HGE : Hid (∀ j, j < z t → gd j = d t j) := Lib.hid fun j hj => by rw [egd]; exact q3 j hj
                              have HDD : Hid (∀ j, j < z t → d t j < 256) := Lib.hid fun j _ => HDA.out t htl j
                              have HSV := Lib.hid (hsv.below HT.out)
                              obtain ⟨ba, oa, rfl, hba, hca⟩ := HFI4.out (by omega)
                              obtain ⟨sa, cca, u0, u1, hsa, hpa'⟩ := hca t htl
                              have b0' := (HBT.out.cell (p := ⟨ba, oa + t * 2, none⟩) hba).trans u0
                              have b1' := (HBT.out.cell (p := ⟨ba, oa + t * 2 + 1, none⟩) hba).trans u1
                              have HSA := Lib.hid (hsa.below HBT.out)
                              have hti' : (t : Int) < (x : Int) := by omega
                              have htl' : (t : Int) < (la : Int) := by omega
                              clear u0 u1 hsa hpa' hca v0 v1 hsv hpv hcv q1 q2 q3 egd
                              generalize K t = kk at *
                              generalize z t = zz at *
                              generalize d t = dd at *
                              have HLS : Hid (∀ W, Below wr.heap.size wr W → Calls Try.prog 14 #[.agg #[.int .i64 kk, .slice sv zz cv], .agg #[.int .i64 kk, .slice sa zz cca]] W fun e w' => e = .returned (.bool true) ∧ Below W.heap.size W w') :=
                                Lib.hid fun W hb => lsame_any kk kk sv sa zz cv cca gd dd W HGD.out HDD.out (HSV.out.below hb) (HSA.out.below hb) rfl HGE.out
                              have hbvl : bv < wr.heap.size := Nat.lt_of_lt_of_le hbv HT.out.size
                              have hbal : ba < wr.heap.size := Nat.lt_of_lt_of_le hba HBT.out.size
                              have HKK : Hid (∀ W, Below wr.heap.size wr W → W.cell? ⟨bv, ov + t * 2, none⟩ = some (.int .i64 kk) ∧ W.cell? ⟨bv, ov + t * 2 + 1, none⟩ = some (.slice sv zz cv) ∧ W.cell? ⟨ba, oa + t * 2, none⟩ = some (.int .i64 kk) ∧ W.cell? ⟨ba, oa + t * 2 + 1, none⟩ = some (.slice sa zz cca)) :=
                                Lib.hid fun W hb => ⟨(hb.cell hbvl).trans a0', (hb.cell hbvl).trans a1', (hb.cell hbal).trans b0', (hb.cell hbal).trans b1'⟩
                              have hB0 : Below wr.heap.size wr wr := Below.refl _ _
                              have hB : Below wr.heap.size wr wr.drew := (Below.refl _ _).drew
                              clear HGD HGE HDD HSV HSA
                              go_wp2
                              go_region_held3 (fun W => W.cell? ⟨bv, ov + t * 2, none⟩ = some (.int .i64 kk) ∧ W.cell? ⟨bv, ov + t * 2 + 1, none⟩ = some (.slice sv zz cv) ∧ W.cell? ⟨ba, oa + t * 2, none⟩ = some (.int .i64 kk) ∧ W.cell? ⟨ba, oa + t * 2 + 1, none⟩ = some (.slice sa zz cca))
                                (first | exact HKK.out _ hB | exact HKK.out _ hB0)
                                (first | (go_at_call 14; refine (HLS.out _ hB).mono ?_; rintro e w8' ⟨rfl, hb8⟩; replace hB := hB.trans (hb8.mono hB.size)))
                              have HT8 := Lib.hid (HT.out.trans (hB.mono HT.out.size))
                              clear hb8 hB hB0 a0' a1' b0' b1' HLS HKK
                              go_wp2
                              go_roundw
                              case rel => exact ⟨t + 1, by omega, by go_num, HT8⟩
                              case measure => simp [intOf]; omega
                            · obtain rfl : x = t := by omega
                              go_wp2
                              go_ret
                              exact ⟨rfl, HB4.out.trans ((HB9.out.trans (HT.out.mono HB9.out.size)).mono HB4.out.size)⟩
                      · clear hout
                        go_wp2_with fail
                        have HSB := Lib.hid (HS4.out.below HBC.out)
                        have HSC := Lib.hid (own_src HOC.out)
                        by_cases hsame : ∀ j, j < n → F j = G j
                        · refine (same_any wc _ _ n cp4 cp6 F G true (fun j _ => HFL.out j) (fun j _ => HGL.out j) HSB.out HSC.out ⟨fun _ => hsame, fun _ => rfl⟩).mono ?_
                          rintro e w' ⟨rfl, rfl⟩
                          clear hsame
                          go_wp2
                          go_ret
                          exact ⟨rfl, HB4.out.trans (HBC.out.mono HB4.out.size)⟩
                        · refine (same_any wc _ _ n cp4 cp6 F G false (fun j _ => HFL.out j) (fun j _ => HGL.out j) HSB.out HSC.out ⟨fun h => (by cases h), fun h => absurd h hsame⟩).mono ?_
                          rintro e w' ⟨rfl, rfl⟩
                          have HNE := Lib.hid hsame
                          clear hsame
                          go_wp2_with fail
                          refine (scan_any _ n cp6 G wc (by omega) hcp6 HGL.out HSC.out).mono ?_
                          rintro e w9 ⟨hb9, c9, er, v9, rfl, hwh, hend, hfr⟩
                          obtain ⟨V9, hoV, _⟩ := hfr.row
                          obtain ⟨spv, cpv, ev, _⟩ := own24_form hoV
                          subst ev
                          clear hoV
                          obtain ⟨q1, q2, q3, q4⟩ := turned_math la x a (fun i => (K i).toNat) z d F G hxl (fun i hi => by have := HK.out i hi; show (K i).toNat < 256; omega) HZ.out HDA.out EF.out HGL.out (by rw [← HP.out]; exact hpa) (by rw [← HP1.out]; omega) HGW.out (by rw [← EN.out]; exact HNE.out) c9 er (by rw [← EN.out]; exact hwh) (by rw [← EN.out]; exact hend)
                          rw [q2, ← HP.out]
                          have q1' := q1.symm
                          clear q1
                          subst q1'
                          have hq : ((er : Int) == 0) = false := by rw [beq_eq_false_iff_ne]; omega
                          have HFV := Lib.hid hfr.fs
                          have HQ4 := Lib.hid q4
                          have HB9 := Lib.hid (HBC.out.trans (hb9.mono HBC.out.size))
                          have e9 := (HB9.out.cell (p := ⟨g, x, none⟩) hgl4).trans (HEC4.out x (by have := HM.out; omega))
                          rw [← HP.out] at e9
                          clear hb9 hwh hend hfr q2 q3 q4 HSB HSC HOC HBC HNE HGW
                          go_wp2
                          go_loopw [20, 155] (fun _ y ws => ∃ t : Nat, t ≤ x ∧ y = .int .i64 (t : Int) ∧ Hid (Below w9.heap.size w9 ws)) (fun _ y _ => x - (intOf y).toNat)
                          case atStart => exact ⟨0, Nat.zero_le _, rfl, Lib.hid (Below.refl _ _)⟩
                          case round =>
                            obtain ⟨t, ht, rfl, HT⟩ := hrel
                            by_cases hti : t < x
                            · obtain ⟨bv, ov, rfl, hbv, hcv⟩ := HFV.out (by omega)
                              obtain ⟨sv, cv, v0, v1, hsv, hpv⟩ := hcv t hti
                              obtain ⟨q1, q2, q3⟩ := HQ4.out t hti
                              have htl : t < la := by omega
                              have hk0 := (HK.out t htl).1
                              dsimp only at v0 v1 hsv q1
                              rw [q1, Int.toNat_of_nonneg hk0] at v0
                              rw [q2] at v1 hsv
                              have HBT := Lib.hid (HB9.out.trans (HT.out.mono HB9.out.size))
                              have a0' := (HT.out.cell (p := ⟨bv, ov + t * 2, none⟩) hbv).trans v0
                              have a1' := (HT.out.cell (p := ⟨bv, ov + t * 2 + 1, none⟩) hbv).trans v1
                              obtain ⟨gd, egd⟩ : ∃ gd : Nat → Nat, gd = fun j => sh G (scanP G t) (12 + j) := ⟨_, rfl⟩
                              rw [← egd] at hsv
                              have HGD : Hid (∀ j, j < z t → gd j < 256) := Lib.hid fun j _ => by rw [egd]; exact HGL.out _
                              have HGE : Hid (∀ j, j < z t → gd j = d t j) := Lib.hid fun j hj => by rw [egd]; exact q3 j hj
                              have HDD : Hid (∀ j, j < z t → d t j < 256) := Lib.hid fun j _ => HDA.out t htl j
                              have HSV := Lib.hid (hsv.below HT.out)
                              obtain ⟨ba, oa, rfl, hba, hca⟩ := HFI4.out (by omega)
                              obtain ⟨sa, cca, u0, u1, hsa, hpa'⟩ := hca t htl
                              have b0' := (HBT.out.cell (p := ⟨ba, oa + t * 2, none⟩) hba).trans u0
                              have b1' := (HBT.out.cell (p := ⟨ba, oa + t * 2 + 1, none⟩) hba).trans u1
                              have HSA := Lib.hid (hsa.below HBT.out)
                              have hti' : (t : Int) < (x : Int) := by omega
                              have htl' : (t : Int) < (la : Int) := by omega
                              clear u0 u1 hsa hpa' hca v0 v1 hsv hpv hcv q1 q2 q3 egd
                              generalize K t = kk at *
                              generalize z t = zz at *
                              generalize d t = dd at *
                              have HLS : Hid (∀ W, Below wr.heap.size wr W → Calls Try.prog 14 #[.agg #[.int .i64 kk, .slice sv zz cv], .agg #[.int .i64 kk, .slice sa zz cca]] W fun e w' => e = .returned (.bool true) ∧ Below W.heap.size W w') :=
                                Lib.hid fun W hb => lsame_any kk kk sv sa zz cv cca gd dd W HGD.out HDD.out (HSV.out.below hb) (HSA.out.below hb) rfl HGE.out
                              have hbvl : bv < wr.heap.size := Nat.lt_of_lt_of_le hbv HT.out.size
                              have hbal : ba < wr.heap.size := Nat.lt_of_lt_of_le hba HBT.out.size
                              have HKK : Hid (∀ W, Below wr.heap.size wr W → W.cell? ⟨bv, ov + t * 2, none⟩ = some (.int .i64 kk) ∧ W.cell? ⟨bv, ov + t * 2 + 1, none⟩ = some (.slice sv zz cv) ∧ W.cell? ⟨ba, oa + t * 2, none⟩ = some (.int .i64 kk) ∧ W.cell? ⟨ba, oa + t * 2 + 1, none⟩ = some (.slice sa zz cca)) :=
                                Lib.hid fun W hb => ⟨(hb.cell hbvl).trans a0', (hb.cell hbvl).trans a1', (hb.cell hbal).trans b0', (hb.cell hbal).trans b1'⟩
                              have hB0 : Below wr.heap.size wr wr := Below.refl _ _
                              have hB : Below wr.heap.size wr wr.drew := (Below.refl _ _).drew
                              clear HGD HGE HDD HSV HSA
                              go_wp2
                              go_region_held3 (fun W => W.cell? ⟨bv, ov + t * 2, none⟩ = some (.int .i64 kk) ∧ W.cell? ⟨bv, ov + t * 2 + 1, none⟩ = some (.slice sv zz cv) ∧ W.cell? ⟨ba, oa + t * 2, none⟩ = some (.int .i64 kk) ∧ W.cell? ⟨ba, oa + t * 2 + 1, none⟩ = some (.slice sa zz cca))
                                (first | exact HKK.out _ hB | exact HKK.out _ hB0)
                                (first | (go_at_call 14; refine (HLS.out _ hB).mono ?_; rintro e w8' ⟨rfl, hb8⟩; replace hB := hB.trans (hb8.mono hB.size)))
                              have HT8 := Lib.hid (HT.out.trans (hB.mono HT.out.size))
                              clear hb8 hB hB0 a0' a1' b0' b1' HLS HKK
                              go_wp2
                              go_roundw
                              case rel => exact ⟨t + 1, by omega, by go_num, HT8⟩
                              case measure => simp [intOf]; omega
                            · obtain rfl : x = t := by omega
                              go_wp2
                              go_ret
                              exact ⟨rfl, HB4.out.trans ((HB9.out.trans (HT.out.mono HB9.out.size)).mono HB4.out.size)⟩
          · have han' : ¬ (a : Int) < (n : Int) := by omega
            have hnege : (n : Int) ≤ (a : Int) := by omega
            go_wp2
            go_ret
            exact ⟨rfl, HB4.out⟩
end Go.Proofs.Ytgplannipnceeaa
