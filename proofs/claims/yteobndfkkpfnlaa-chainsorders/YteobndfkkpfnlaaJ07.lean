/-
  The reference's Of, of whatever events (HRh's text, where the bound comes of right).
-/
import Derived.Test.YteobndfkkpfnlaaJ05
import Derived.Deep.RegionHeld3
import Derived.Deep.Cut

namespace Go.Proofs.Yteobndfkkpfnlaa
open Go.ChangeShapes Go.WideShapes Go.ChangeAt Go.RowKit

set_option maxRecDepth 100000 in
set_option maxHeartbeats 8000000 in
theorem refof_wide (a : Option Addr) (len cap : Nat) (E : Nat → Ev) (w : World) (hs : EvS w a len E) : Calls Try.prog 15 #[.slice a len cap] w (OfQ E len w) := by
  have HS := Lib.hid hs
  clear hs
  by_cases h4 : 400 < len
  · have h4' : (400 : Int) < (len : Int) := by omega
    have H4 := Lib.hid h4
    clear h4
    go_enter Try.func15, Try.ntmps15
    go_wp2
    go_ret3
    exact ⟨0, none, 0, 400, 4, fun _ => ⟨0, 0, 0, fun _ => ⟨0, 0, 0⟩⟩, fun _ => .slice none 0 0, rfl, by omega, by omega, World.ownsRow_nil _ _ _ _, fun j hj => absurd hj (Nat.not_lt_zero _), Below.refl _ _, .inl ⟨H4.out, rfl, rfl, rfl⟩⟩
  · have h4' : ¬ (400 : Int) < (len : Int) := by omega
    have hl4 : len ≤ 400 := by omega
    clear h4
    obtain ⟨i1, hi1, hz0, hz1, hz2⟩ := info_parts info36
    obtain ⟨i3, hi3, hy0, hy1, hy2⟩ := info_parts info3
    obtain ⟨i8, hi8, hx0, hx1, hx2⟩ := info_parts info38
    obtain ⟨B, eB⟩ : ∃ B, B = w.heap.size := ⟨_, rfl⟩
    obtain ⟨wi, ewi⟩ : ∃ wi, wi = (w.alloc (.cells #[] 47)).alloc (.cells #[] 3) := ⟨_, rfl⟩
    have hR0 : RO wi B (.slice (some ⟨w.heap.size, 0, none⟩) 0 0) 0 (stateAt E 0).T (fun _ => .slice none 0 0) := by
      rw [ewi, eB]
      exact ⟨(World.ownsRow_lit w #[] 0 (Nat.le_refl _) (Nat.zero_le _) rfl).alloc _, fun i hi => absurd hi (Nat.not_lt_zero _)⟩
    have hF0 : wi.ownsRow B 3 1 (.slice (some ⟨w.heap.size + 1, 0, none⟩) 0 0) 0 (rowI (frm E 0) 0) := by
      have h := World.ownsRow_lit (base := B) (e := 3) (size := 1) (w.alloc (.cells #[] 47)) #[] 0 (by rw [eB]; simp) (Nat.zero_le _) rfl
      rw [show (w.alloc (.cells #[] 47)).heap.size = w.heap.size + 1 by simp] at h
      rw [ewi]; exact h
    have hB0 : Below B w wi := by rw [ewi, eB]; exact ((Below.refl _ _).alloc (Nat.le_refl _) _).alloc (by simp) _
    have HR0 := Lib.hid hR0
    have HF0 := Lib.hid hF0
    have HB0 := Lib.hid hB0
    have HEB := Lib.hid eB
    have HM0 : Hid (0 = (stateAt E 0).m) := Lib.hid rfl
    clear hR0 hF0 hB0 eB
    go_enter Try.func15, Try.ntmps15
    go_wp2
    rw [← ewi]
    clear ewi
    go_loopw [5, 6, 7, 8, 9, 10, 11, 12, 20] (fun vo vf _ _ _ _ _ _ x wr => ∃ (i m : Nat) (V : Nat → Value) (spo : Option Addr) (cpo : Nat) (spf : Option Addr) (cpf : Nat), i ≤ len ∧ x = .int .i64 (i : Int) ∧ vo = .slice spo m cpo ∧ vf = .slice spf m cpf ∧ m ≤ i ∧ Hid (m = (stateAt E i).m ∧ Below B w wr ∧ RO wr B (.slice spo m cpo) m (stateAt E i).T V ∧ wr.ownsRow B 3 1 (.slice spf m cpf) m (rowI (frm E i) m) ∧ Good E i)) (fun _ _ _ _ _ _ _ _ x _ => len - (intOf x).toNat)
    case atStart => exact ⟨0, 0, _, _, _, _, _, Nat.zero_le _, rfl, rfl, rfl, Nat.le_refl _, Lib.hid ⟨HM0.out, HB0.out, HR0.out, HF0.out, fun j hj => absurd hj (Nat.not_lt_zero _)⟩⟩
    case round =>
      obtain ⟨i, m, V, spo, cpo, spf, cpf, hi, rfl, rfl, rfl, hmi, HT⟩ := hrel
      by_cases hlt : i < len
      · obtain ⟨b, off, rfl, hbl, hci⟩ := HS.out (by omega)
        obtain ⟨sp, cp, c0, c1, c2, ho, hp, hnn⟩ := hci i hlt
        have hbB : b < B := by have := HEB.out; omega
        have HCI := Lib.hid hci
        have x0 := (HT.out.2.1.cell (p := ⟨b, off + i * 3, none⟩) hbB).trans c0
        have x1 := (HT.out.2.1.cell (p := ⟨b, off + i * 3 + 1, none⟩) hbB).trans c1
        have x2 := (HT.out.2.1.cell (p := ⟨b, off + i * 3 + 2, none⟩) hbB).trans c2
        have hlt' : (i : Int) < (len : Int) := by omega
        have HOP := Lib.hid ho
        have HPP := Lib.hid hp
        have HG := Lib.hid HT.out.2.2.2.2
        have HM := Lib.hid HT.out.1
        have HFR := Lib.hid (fr_at E i HG.out)
        have HNX : Hid (stateAt E (i + 1) = nextS (stateAt E i) (E i)) := Lib.hid rfl
        have HFX : Hid (frm E (i + 1) = if (E i).k = 1 then (fun j => if j = (stateAt E i).m then i else frm E i j) else frm E i) := Lib.hid rfl
        have HLS : Hid (∀ W, Below B w W → Calls Try.prog 41 #[.slice (some ⟨b, off, none⟩) len cap, .int .i64 (i : Int)] W (LastP E i W)) := Lib.hid fun W hb => last_any _ len cap E i W hl4 hlt (HS.out.below (by rw [← HEB.out]; exact hb))
        have HTW : Hid (∀ W, Below B w W → Calls Try.prog 42 #[.slice (some ⟨b, off, none⟩) len cap, .int .i64 (i : Int)] W (Tells (Tw E i) W)) := Lib.hid fun W hb => twice_any _ len cap E i W hl4 hlt (HS.out.below (by rw [← HEB.out]; exact hb))
        have HRT : Hid (∀ W, Below B w W → Calls Try.prog 40 #[.agg #[.int .i64 (E i).k, .int .i64 (E i).c, .slice sp (E i).n cp]] W (Tells (Snd (E i).k (E i).c (E i).n (E i).o) W)) := Lib.hid fun W hb => right_any _ _ sp _ cp _ W (by omega) (HOP.out.below (by rw [← HEB.out]; exact hb))
        have HER : Hid (∀ W er, ErrOf (stateAt E i) (E i) er → ¬ er = 0 → Below B w W → OfQ E len w (.returned (.tuple #[.slice none 0 0, .int .i64 (i : Int), .int .i64 er])) W) := Lib.hid fun W er h1 h2 h3 => err_ofq hl4 hlt HG.out h1 h2 (by rw [← HEB.out]; exact h3)
        have HGX : Hid (ErrOf (stateAt E i) (E i) 0 → Good E (i + 1)) := Lib.hid fun h j hj => by
          by_cases hji : j < i
          · exact HG.out j hji
          · obtain rfl : j = i := by omega
            exact h
        obtain ⟨wz, ewz⟩ : ∃ wz, wz = wr.alloc (.cells #[.int .i64 (E i).k, .int .i64 (E i).c, .slice sp (E i).n cp] 90) := ⟨_, rfl⟩
        have hBr : B ≤ wr.heap.size := by have h := HT.out.2.1.size; have h' := HEB.out; omega
        have hzb : Below wr.heap.size wr wz := by rw [ewz]; exact (Below.refl _ _).alloc (Nat.le_refl _) _
        have hzl : wr.heap.size < wz.heap.size := by rw [ewz]; simp
        have hzz : wz.heap[wr.heap.size]? = some (.cells #[.int .i64 (E i).k, .int .i64 (E i).c, .slice sp (E i).n cp] 90 (0, 0)) := by rw [ewz]; exact heap_alloc_new wr _
        have HBZ := Lib.hid (HT.out.2.1.trans (hzb.mono hBr))
        have HRZ := Lib.hid (HT.out.2.2.1.below hzb)
        have HFZ := Lib.hid (own_keep HT.out.2.2.2.1 fun g hg => hzb.block g (HT.out.2.2.2.1.lt g hg).2)
        have HOG : Hid (∀ g, (Value.slice spo m cpo).ownBlock = some g → g < wr.heap.size) := Lib.hid fun g hg => (HT.out.2.2.1.row.lt g hg).2
        obtain ⟨Z, eZ⟩ : ∃ Z, Z = wr.heap.size := ⟨_, rfl⟩
        rw [← eZ] at hzl hzz HOG hBr
        have HZZ := Lib.hid hzz
        clear hzz hzb c0 c1 c2 ho hp hci HT
        obtain ⟨s, es⟩ : ∃ s, s = stateAt E i := ⟨_, rfl⟩
        rw [← es] at HM HFR HNX HFX HER HRZ HGX
        clear es
        obtain ⟨k, ek⟩ : ∃ k, k = (E i).k := ⟨_, rfl⟩
        obtain ⟨c, ec⟩ : ∃ c, c = (E i).c := ⟨_, rfl⟩
        obtain ⟨n, en⟩ : ∃ n, n = (E i).n := ⟨_, rfl⟩
        rw [← ek] at x0 HRT HZZ ewz HFX
        rw [← ec] at x1 HRT HZZ ewz
        rw [← en] at x2 HRT HZZ ewz hnn HOP HPP
        have EK := Lib.hid ek
        have EC := Lib.hid ec
        have EN := Lib.hid en
        clear ek ec en
        go_wp2_with fail
        rw [← ewz, ← eZ]
        clear ewz eZ x0 x1 x2
        refine (HRT.out _ HBZ.out).mono ?_
        rintro e w1 ⟨bb, rfl, hiff, hb1⟩
        have HB1 := Lib.hid (HBZ.out.trans (hb1.mono (Nat.le_trans hBr (Nat.le_of_lt hzl))))
        have HZ1 := Lib.hid hb1
        have HIF := Lib.hid hiff
        clear hb1 hiff
        cases bb
        · have HE : Hid (ErrOf s (E i) 20) := Lib.hid (.inl ⟨fun h => (by rw [← EK.out, ← EC.out, ← EN.out] at h; have := HIF.out.2 h; cases this), rfl⟩)
          go_wp2
          go_ret3
          exact HER.out _ 20 HE.out (by decide) HB1.out
        · have HSD : Hid (Snd k c n (E i).o) := Lib.hid (HIF.out.1 (by first | rfl | trivial))
          have HSD2 : Hid (Snd (E i).k (E i).c (E i).n (E i).o) := Lib.hid (by rw [← EK.out, ← EC.out, ← EN.out]; exact HSD.out)
          have hn1 : n ≤ 1000 := by have := HSD.out.2.2.2.2.1; omega
          clear HIF
          go_wp2_with fail
          refine (HLS.out _ HB1.out).mono ?_
          rintro e w2 ⟨rfl, hb2⟩
          have HB2 := Lib.hid (HB1.out.trans (hb2.mono (Nat.le_trans (Nat.le_trans hBr (Nat.le_of_lt hzl)) HZ1.out.size)))
          have HZ2 := Lib.hid (HZ1.out.trans (hb2.mono HZ1.out.size))
          clear hb2 HB1 HZ1
          obtain ⟨p, ep⟩ : ∃ p, p = lstI E (E i).c i := ⟨_, rfl⟩
          rw [← ep]
          have EP := Lib.hid ep
          clear ep
          have hz2l : Z < w2.heap.size := Nat.lt_of_lt_of_le hzl HZ2.out.size
          have HQ2 := Lib.hid ((HZ2.out.block _ hzl).trans HZZ.out)
          obtain ⟨⟨q0, q1, q2⟩, _⟩ := cells3 HQ2.out
          have HR2 := Lib.hid (HRZ.out.below HZ2.out)
          have HF2 := Lib.hid (own_keep HFZ.out fun g hg => HZ2.out.block g (HFZ.out.lt g hg).2)
          cases hbz : s.bz (E i).c with
          | none =>
            have hcase : p = -1 ∨ ∃ (q : Nat) (qk : Int), p = (q : Int) ∧ q < len ∧ (qk == 1) = false ∧ w2.cell? ⟨b, off + q * 3, none⟩ = some (.int .i64 qk) := by
              cases hl : lst E (E i).c i with
              | none => exact .inl (by rw [EP.out]; unfold lstI; rw [hl])
              | some q =>
                have hql := (lst_lt E _ _ _ hl).1
                obtain ⟨_, _, d0, _⟩ := HCI.out q (by omega)
                refine .inr ⟨q, (E q).k, by rw [EP.out]; unfold lstI; rw [hl], by omega, ?_, (HB2.out.cell (p := ⟨b, off + q * 3, none⟩) hbB).trans d0⟩
                rw [beq_eq_false_iff_ne]
                exact HFR.out.none _ hbz q hl
            have HBZN := Lib.hid hbz
            clear hbz
            by_cases hk : k = 1
            · subst hk
              rw [if_pos rfl] at HFX
              rcases hcase with rfl | ⟨q, qk, rfl, hql, hqk, xq⟩
              all_goals
                go_wp2_with fail
                refine (HTW.out _ HB2.out).mono ?_
                rintro e w3 ⟨bb, rfl, hiff, hb3⟩
                have hBw2 : B ≤ w2.heap.size := Nat.le_trans (Nat.le_trans hBr (Nat.le_of_lt hzl)) HZ2.out.size
                have HB3 := Lib.hid (HB2.out.trans (hb3.mono hBw2))
                have HIF := Lib.hid hiff
                have HR3 := Lib.hid (HR2.out.below hb3)
                have HF3 := Lib.hid (own_keep HF2.out fun g hg => hb3.block g (HF2.out.lt g hg).2)
                have HQ3 := Lib.hid ((hb3.block _ hz2l).trans HQ2.out)
                have hz3l : Z < w3.heap.size := Nat.lt_of_lt_of_le hz2l hb3.size
                have hBw3 : B ≤ w3.heap.size := Nat.le_trans hBw2 hb3.size
                clear hb3 hiff q0 q1 q2 HQ2 HR2 HF2
                (try clear xq)
                cases bb
                · have HE0 : Hid (ErrOf s (E i) 0) := Lib.hid (.inr (.inr (.inr (.inl ⟨HSD2.out, EK.out.symm, HBZN.out, fun x hx hd => (by have := HIF.out.2 ((tw_dup HFR.out EK.out.symm).2 ⟨x, hx, hd⟩); cases this), rfl⟩))))
                  have HG1 := Lib.hid (HGX.out HE0.out)
                  have HNXT : Hid (nextS s (E i) = ⟨s.m + 1, fun x => if x = s.m then ⟨(E i).c, 0, (E i).n, (E i).o⟩ else s.T x, s.nb + 1, s.nw + (E i).n, fun y => if y = (E i).c then some (s.m : Int) else s.bz y, wmI (E i).o s.m s.wm (E i).n⟩) := Lib.hid (by unfold nextS; rw [if_pos EK.out.symm])
                  have HOX := Lib.hid (HOP.out.below (by rw [← HEB.out]; exact HB3.out))
                  have HKK : Hid (∀ W, Below w3.heap.size w3 W → W.cell? ⟨Z, 0, none⟩ = some (.int .i64 1) ∧ W.cell? ⟨Z, 1, none⟩ = some (.int .i64 c) ∧ W.cell? ⟨Z, 2, none⟩ = some (.slice sp n cp)) := Lib.hid fun W hb => (cells3 ((hb.block _ hz3l).trans HQ3.out)).1
                  have HKG : Hid (∀ W W', Below w3.heap.size w3 W → W.grownBy W' (Value.ownBlock (.slice spo m cpo)) → W'.cell? ⟨Z, 0, none⟩ = some (.int .i64 1) ∧ W'.cell? ⟨Z, 1, none⟩ = some (.int .i64 c) ∧ W'.cell? ⟨Z, 2, none⟩ = some (.slice sp n cp)) := Lib.hid fun W W' hb hg => (cells3 ((hg.block _ (Nat.lt_of_lt_of_le hz3l hb.size) (fun e => by have := HOG.out _ e.symm; omega)).trans ((hb.block _ hz3l).trans HQ3.out))).1
                  have HO1 : Hid ((w3.drew.alloc (.cells #[] 44)).ownsRow B 44 3 (.slice (some ⟨w3.heap.size, 0, none⟩) 0 0) 0 []) := Lib.hid (World.ownsRow_lit w3.drew #[] 0 hBw3 (Nat.zero_le _) rfl)
                  have HNW : Hid (∀ (W : World) (s6 : Option Addr) (c6 : Nat) (j : Nat) (u : Value), [Value.int .i64 c, .int .i64 0, .slice s6 n c6][j]? = some u → (W.alloc (.cells #[.int .i64 c, .int .i64 0, .slice s6 n c6] 47)).cell? ((⟨W.heap.size, 0, none⟩ : Addr).add j) = some u) := Lib.hid fun W s6 c6 j u hj => by
                    rw [Go.WideShapes.add_plain, cell_of_row _ _ _ _ 47 (0, 0) (heap_alloc_new W _), Nat.zero_add]
                    simpa using hj
                  have hB0 : Below w3.heap.size w3 w3 := Below.refl _ _
                  have hB1 : Below w3.heap.size w3 w3.drew := hB0.drew
                  have hB2 : Below w3.heap.size w3 (w3.drew.alloc (.cells #[] 44)) := hB1.alloc (Nat.le_refl _) _
                  have hB3 : Below w3.heap.size w3 (w3.alloc (.cells #[] 44)).drew := (hB0.alloc (Nat.le_refl _) _).drew
                  clear HIF
                  go_wp2
                  go_region_held3 (fun W => W.cell? ⟨Z, 0, none⟩ = some (.int .i64 1) ∧ W.cell? ⟨Z, 1, none⟩ = some (.int .i64 c) ∧ W.cell? ⟨Z, 2, none⟩ = some (.slice sp n cp))
                    (first | exact HKK.out _ hB1 | exact HKK.out _ hB0 | exact HKK.out _ hB2 | exact HKK.out _ hB3 | exact HKK.out _ hB6 | exact HKK.out _ (hB6.alloc hB6.size _) | exact HKG.out _ _ (hB6.alloc hB6.size _) hg7)
                    (first
                      | (refine step_append_lies _ (by rfl) _ _ 25 (by rfl) B 47 i1 (.agg #[.int .i64 0, .int .i64 0, .slice none 0 0]) 3 40 Try.underlying25 hi1 hz0 hz1 hz2 rfl (by decide) _ m (rowT s.T V m) (by rfl) (HR3.out.below (hB6.alloc hB6.size _)).row ⟨w6.heap.size, 0, none⟩ 1 1 [.int .i64 c, .int .i64 0, .slice s6 n c6] (by rfl) (by rfl) (HNW.out w6 s6 c6) (by intro u hu; simp at hu; rcases hu with rfl | rfl | rfl <;> rfl) (by omega) (by unfold maxLen; omega) (by omega) (Nat.le_trans hBw3 (Nat.le_trans hB6.size (by simp))) _ rfl ?_; intro g7 c7 w7 ho7 hg7 hat7 hl7)
                      | (refine step_append_ops (by rfl) _ _ (by rfl) B _ (by rfl) HO1.out sp n cp (E i).o (by rfl) (HOX.out.below hB2) HPP.out (by omega) (Nat.le_trans hBw3 hB2.size) ?_; intro v6 w6 ho6 hg6; obtain ⟨s6, c6, rfl⟩ := own_form' ho6; have hB6 : Below w3.heap.size w3 w6 := hB2.grown hg6 hB2.size (fun q hq => by simp [Value.ownBlock] at hq; omega)))
                  have HB6 := Lib.hid (hB6.alloc hB6.size (.cells #[.int .i64 c, .int .i64 0, .slice s6 n c6] 47))
                  have HR6 := Lib.hid (HR3.out.below HB6.out)
                  have HF6 := Lib.hid (own_keep HF3.out fun g hg => HB6.out.block g (HF3.out.lt g hg).2)
                  have HR7 := Lib.hid (HR6.out.added (t := ⟨c, 0, n, (E i).o⟩) (ho6.alloc _) (own_nil' ho6) ho7 hg7)
                  have HF7 := Lib.hid (fo_stays HF6.out hg7 (own_type HR6.out.row 3 (by decide)))
                  have HB7 := Lib.hid ((HB3.out.trans (HB6.out.mono hBw3)).grown hg7 (Nat.le_trans hBw3 HB6.out.size) (fun q hq => (HR6.out.row.lt q hq).1))
                  have hBw7 : B ≤ w7.heap.size := by have h := HB7.out.size; have h' := HEB.out; omega
                  clear ho7 hg7 hat7 ho6 hg6 hB0 hB1 hB2 hB3 hB6 HKK HKG HO1 HNW HOX
                  have HNI : Hid (∀ (W : World) (j : Nat) (u : Value), [Value.int .i64 (i : Int)][j]? = some u → (W.alloc (.cells #[.int .i64 (i : Int)] 3)).cell? ((⟨W.heap.size, 0, none⟩ : Addr).add j) = some u) := Lib.hid fun W j u hj => by
                    rw [Go.WideShapes.add_plain, cell_of_row _ _ _ _ 3 (0, 0) (heap_alloc_new W _), Nat.zero_add]
                    simpa using hj
                  have HB8 := Lib.hid (HB7.out.alloc hBw7 (.cells #[.int .i64 (i : Int)] 3))
                  have hb78 : Below w7.heap.size w7 (w7.alloc (.cells #[.int .i64 (i : Int)] 3)) := (Below.refl _ _).alloc (Nat.le_refl _) _
                  have HR8 := Lib.hid (HR7.out.below hb78)
                  have HF8 := Lib.hid (own_keep HF7.out fun g hg => hb78.block g (HF7.out.lt g hg).2)
                  clear hb78
                  go_wp2_with (at_builtin; refine wpList_append_lies _ rfl _ _ 41 rfl B 3 i3 (.int .i64 0) 1 8 Try.underlying41 hi3 hy0 hy1 hy2 rfl (by decide) _ m (rowI (frm E i) m) rfl HF8.out ⟨w7.heap.size, 0, none⟩ 1 1 [.int .i64 (i : Int)] rfl rfl (HNI.out w7) (by intro u hu; simp at hu; subst hu; rfl) (by omega) (by unfold maxLen; omega) (by omega) (Nat.le_trans hBw7 (by simp)) _ rfl ?_; intro g9 c9 w9 ho9 hg9 hat9 hl9)
                  have HR9 := Lib.hid (HR8.out.stays hg9 (fun g cs t h1 h2 => ⟨own_type HF8.out 47 (by decide) g cs t h1 h2, own_type HF8.out 44 (by decide) g cs t h1 h2⟩))
                  have HB9 := Lib.hid (HB8.out.grown hg9 (Nat.le_trans hBw7 (by simp)) (fun q hq => (HF8.out.lt q hq).1))
                  have HF9 : Hid (w9.ownsRow B 3 1 (.slice (some ⟨g9, 0, none⟩) (m + 1) c9) (m + 1) (rowI (frm E (i + 1)) (m + 1))) := Lib.hid (by
                    rw [rowI_succ, HFX.out]
                    dsimp only
                    rw [if_pos HM.out, rowI_congr (fun j => if j = s.m then i else frm E i j) (frm E i) m fun x hx => if_neg (by rw [← HM.out]; omega)]
                    exact ho9)
                  have HRA : Hid (RO w9 B (.slice (some ⟨g7, 0, none⟩) (m + 1) c7) (m + 1) (stateAt E (i + 1)).T (fun i => if i = m then .slice s6 n c6 else V i)) := Lib.hid (by
                    rw [HNX.out, HNXT.out]
                    refine HR9.out.congr fun x hx => ?_
                    show (if x = m then (⟨c, 0, n, (E i).o⟩ : Tx) else s.T x) = (if x = s.m then (⟨(E i).c, 0, (E i).n, (E i).o⟩ : Tx) else s.T x)
                    rw [HM.out, EC.out, EN.out])
                  have HMA : Hid (m + 1 = (stateAt E (i + 1)).m) := Lib.hid (by rw [HNX.out, HNXT.out, HM.out])
                  clear ho9 hg9 hat9
                  go_wp2
                  go_roundw
                  case rel => exact ⟨i + 1, m + 1, _, _, _, _, _, by omega, by go_num, rfl, rfl, by omega, Lib.hid ⟨HMA.out, HB9.out, HRA.out, HF9.out, HG1.out⟩⟩
                  case measure => simp [intOf]; omega
                · have HE : Hid (ErrOf s (E i) 23) := Lib.hid (.inr (.inr (.inl ⟨HSD2.out, EK.out.symm, HBZN.out, (tw_dup HFR.out EK.out.symm).1 (HIF.out.1 (by first | rfl | trivial)), rfl⟩)))
                  go_wp2
                  go_ret3
                  exact HER.out _ 23 HE.out (by decide) HB3.out
            · have HE : Hid (ErrOf s (E i) 21) := Lib.hid (.inr (.inl ⟨HSD2.out, ⟨fun h => absurd (EK.out.trans h) hk, fun h => by rw [HBZN.out] at h; cases h⟩, rfl⟩))
              have hkb : (k == 1) = false := by rw [beq_eq_false_iff_ne]; exact hk
              clear hk
              rcases hcase with rfl | ⟨q, qk, rfl, hql, hqk, xq⟩
              all_goals
                go_wp2
                go_ret3
                exact HER.out _ 21 HE.out (by decide) HB2.out
          | some x =>
            obtain ⟨j, rfl, hjm, hlst, hqk, hjn, hjo⟩ := HFR.out.some _ x hbz
            obtain ⟨q, eq⟩ : ∃ q, q = frm E i j := ⟨_, rfl⟩
            rw [← eq] at hlst hqk hjn hjo
            have EQ := Lib.hid eq
            have HIX : Hid (idx s (E i) = j) := Lib.hid (by unfold idx; simp [hbz])
            have HBS : Hid ((s.bz (E i).c).isSome = true) := Lib.hid (by rw [hbz]; rfl)
            obtain rfl : p = (q : Int) := by rw [EP.out]; unfold lstI; rw [hlst]
            have hql : q < i := (lst_lt E _ _ _ hlst).1
            obtain ⟨spq, cpq, d0, d1, d2, hoq, hpq, hnq⟩ := HCI.out q (by omega)
            rw [hqk] at d0
            have xq := (HB2.out.cell (p := ⟨b, off + q * 3, none⟩) hbB).trans d0
            have xq2 := (HB2.out.cell (p := ⟨b, off + q * 3 + 2, none⟩) hbB).trans d2
            have hq0 : (q : Int) < (len : Int) := by omega
            have HOQ := Lib.hid hoq
            have HJN := Lib.hid hjn
            have HJO := Lib.hid hjo
            rw [← HM.out] at hjm
            clear hbz hlst hqk hjn hjo eq d0 d1 d2 hoq hpq hnq EP
            by_cases hk : k = 1
            · have HE : Hid (ErrOf s (E i) 21) := Lib.hid (.inr (.inl ⟨HSD2.out, ⟨fun _ => HBS.out, fun _ => EK.out.symm.trans hk⟩, rfl⟩))
              subst hk
              go_wp2
              go_ret3
              exact HER.out _ 21 HE.out (by decide) HB2.out
            · have hkb : (k == 1) = false := by rw [beq_eq_false_iff_ne]; exact hk
              have HK1 : Hid (¬ (E i).k = 1) := Lib.hid (by rw [← EK.out]; exact hk)
              have HEE : Hid (∀ er, ((¬ er = 0 ∧ ((k = 2 ∧ AnsP (E q).n n (E q).o (E i).o er) ∨ (¬ k = 2 ∧ 0 < n ∧ er = 22))) ∨ (er = 0 ∧ FinP k n (AnsP (E q).n n (E q).o (E i).o 0))) → ErrOf s (E i) er) := Lib.hid fun er h => .inr (.inr (.inr (.inr ⟨HSD2.out, HK1.out, HBS.out, by rw [HIX.out, HJN.out, HJO.out, ← EK.out, ← EN.out]; exact h⟩)))
              have hk24 : k = 2 ∨ k = 3 ∨ k = 4 := by have h1 := HSD.out.1; have h2 := HSD.out.2.1; omega
              have HNXT : Hid (nextS s (E i) = ⟨s.m, fun x => if x = j then endT (s.T j) k n (E i).o else s.T x, s.nb, s.nw, fun y => if y = (E i).c then none else s.bz y, s.wm⟩) := Lib.hid (by unfold nextS; rw [if_neg HK1.out, HIX.out, ← EK.out, ← EN.out])
              rw [if_neg hk] at HFX
              clear hk
              rcases hk24 with rfl | rfl | rfl
              · have hn0 : 0 < n := by
                  have h := HSD.out.2.2.2.2.2.1
                  rcases Nat.eq_zero_or_pos n with h0 | h0
                  · exact absurd ⟨h0, .inr rfl⟩ h
                  · exact h0
                obtain ⟨bo, offo, rfl, hbo, _⟩ := HOP.out hn0
                have hB : Below w2.heap.size w2 w2.drew := (Below.refl _ _).drew
                have hBw2 : B ≤ w2.heap.size := Nat.le_trans (Nat.le_trans hBr (Nat.le_of_lt hzl)) HZ2.out.size
                have HAN : Hid (∀ W, Below w2.heap.size w2 W → Calls Try.prog 43 #[.slice spq (E q).n cpq, .slice (some ⟨bo, offo, none⟩) n cp] W (AnsPost (E q).n n (E q).o (E i).o W)) := Lib.hid fun W hb => by
                  have hbW : Below w.heap.size w W := by rw [← HEB.out]; exact HB2.out.trans (hb.mono hBw2)
                  exact answer_any _ _ _ _ _ _ _ _ W (by omega) (HOQ.out.below hbW) (HOP.out.below hbW)
                have HKQ : Hid (∀ W, Below w2.heap.size w2 W → W.cell? ⟨b, off + q * 3 + 2, none⟩ = some (.slice spq (E q).n cpq) ∧ W.cell? ⟨Z, 2, none⟩ = some (.slice (some ⟨bo, offo, none⟩) n cp)) := Lib.hid fun W hb => ⟨(hb.cell (p := ⟨b, off + q * 3 + 2, none⟩) (by dsimp only; omega)).trans xq2, (hb.cell (p := ⟨Z, 2, none⟩) hz2l).trans q2⟩
                have HE2 : Hid (∀ er, ¬ er = 0 → AnsP (E q).n n (E q).o (E i).o er → ErrOf s (E i) er) := Lib.hid fun er h1 h2 => HEE.out er (.inl ⟨h1, .inl ⟨rfl, h2⟩⟩)
                have HE1 : Hid (AnsP (E q).n n (E q).o (E i).o 0 → ErrOf s (E i) 0) := Lib.hid fun h2 => HEE.out 0 (.inr ⟨rfl, .inl ⟨rfl, h2⟩⟩)
                generalize (E q).n = nq at *
                go_wp2
                go_region_held3 (fun W => W.cell? ⟨b, off + q * 3 + 2, none⟩ = some (.slice spq nq cpq) ∧ W.cell? ⟨Z, 2, none⟩ = some (.slice (some ⟨bo, offo, none⟩) n cp))
                  (first | exact HKQ.out _ hB | exact HKQ.out _ hB5)
                  ((go_at_call 43; refine (HAN.out _ hB).mono ?_; rintro e w5 ⟨er, rfl, hans, hb5⟩; have hB5 := hB.trans (hb5.mono hB.size)))
                have HB5 := Lib.hid (HB2.out.trans (hB5.mono hBw2))
                have HR5 := Lib.hid (HR2.out.below hB5)
                have HF5 := Lib.hid (own_keep HF2.out fun g hg => hB5.block g (HF2.out.lt g hg).2)
                have HQ5 := Lib.hid ((hB5.block _ hz2l).trans HQ2.out)
                have HANS := Lib.hid hans
                clear hB hB5 hb5 hans HAN HKQ q0 q1 q2 xq xq2
                by_cases her : er = 0
                · subst her
                  have HE0 : Hid (ErrOf s (E i) 0) := Lib.hid (HE1.out HANS.out)
                  obtain ⟨⟨q0, q1, q2⟩, _⟩ := cells3 HQ5.out
                  have HG1 := Lib.hid (HGX.out HE0.out)
                  go_wp2
                  go_loopw [12, 96] (fun _ x ws => ∃ (u : Nat) (V' : Nat → Value), u ≤ m ∧ x = .int .i64 (u : Int) ∧ Hid (Below B w ws ∧ RO ws B (.slice spo m cpo) m (fun x => if x = j ∧ x < u then endT (s.T j) 2 n (E i).o else s.T x) V' ∧ ws.ownsRow B 3 1 (.slice spf m cpf) m (rowI (frm E i) m) ∧ ws.heap[Z]? = some (.cells #[.int .i64 2, .int .i64 c, .slice (some ⟨bo, offo, none⟩) n cp] 90 (0, 0)))) (fun _ x _ => m - (intOf x).toNat)
                  case atStart => exact ⟨0, V, Nat.zero_le _, rfl, Lib.hid ⟨HB5.out, HR5.out.congr (fun x hx => by rw [if_neg (by omega)]), HF5.out, HQ5.out⟩⟩
                  case round =>
                    obtain ⟨u, V', hu, rfl, HU⟩ := hrel
                    obtain ⟨⟨r0, r1, r2⟩, _⟩ := cells3 HU.out.2.2.2
                    by_cases hul : u < m
                    · obtain ⟨gf, cgf, evg, hgfb, hgfl⟩ := HU.out.2.2.1.form (by omega)
                      injection evg with ev1 ev2 ev3
                      subst ev1
                      clear ev2 ev3
                      obtain ⟨g, cg, evg, hgb, hgl⟩ := HU.out.2.1.row.form (by omega)
                      injection evg with ev1 ev2 ev3
                      subst ev1
                      clear ev2 ev3
                      have y := (HU.out.2.2.1.cellAt u (by omega)).trans (rowI_get (frm E i) m u hul)
                      have hul' : (u : Int) < (m : Int) := by omega
                      have hgZ : g < Z := HOG.out g rfl
                      by_cases huj : u = j
                      · obtain rfl : j = u := huj.symm
                        rw [← EQ.out] at y
                        have hqq : ((q : Int) == (q : Int)) = true := by simp
                        clear huj
                        have f1 := HU.out.2.1.row.frozenAt (j * 3 + 1)
                        obtain ⟨vv1, ev1⟩ : ∃ vv1, wr.cell? ⟨g, j * 3 + 1, none⟩ = some (.int .i64 vv1) := ⟨_, (HU.out.2.1.row.cellAt (j * 3 + 1) (by omega)).trans (rowT_get _ V' m j hul).2.1⟩
                        obtain ⟨wa, ewa⟩ : ∃ wa, wa = wr.setCell ⟨g, j * 3 + 1, none⟩ (.int .i64 1) := ⟨_, rfl⟩
                        have HST : Hid (RO wa B (.slice (some ⟨g, 0, none⟩) m cpo) m _ V') := Lib.hid (by rw [ewa]; exact HU.out.2.1.state j 1)
                        have HFS : Hid (wa.ownsRow B 3 1 (.slice (some ⟨gf, 0, none⟩) m cpf) m (rowI (frm E i) m)) := Lib.hid (by rw [ewa]; exact fo_stays HU.out.2.2.1 (HU.out.2.1.row.stored (j * 3 + 1) (.int .i64 1)).2 (fun g' cs t e1 e2 => own_type HU.out.2.1.row 3 (by decide) g' cs t e1 e2))
                        have HZS : Hid (wa.heap[Z]? = some (.cells #[.int .i64 2, .int .i64 c, .slice (some ⟨bo, offo, none⟩) n cp] 90 (0, 0))) := Lib.hid (by rw [ewa]; exact (heap_setCell_other wr ⟨g, j * 3 + 1, none⟩ Z (.int .i64 1) (fun e => by dsimp only at e; omega)).trans HU.out.2.2.2)
                        have HBA : Hid (Below B w wa) := Lib.hid (by rw [ewa]; exact HU.out.1.setCell hgb _)
                        have hBa : B ≤ wa.heap.size := by have h := HBA.out.size; have h' := HEB.out; omega
                        have hZa : Z < wa.heap.size := by
                          rcases Nat.lt_or_ge Z wa.heap.size with h' | h'
                          · exact h'
                          · have h := HZS.out; rw [Array.getElem?_eq_none h'] at h; cases h
                        obtain ⟨wb, ewb⟩ : ∃ wb, wb = wa.alloc (.cells #[] 44) := ⟨_, rfl⟩
                        have hbab : Below wa.heap.size wa wb := by rw [ewb]; exact (Below.refl _ _).alloc (Nat.le_refl _) _
                        have HB_B := Lib.hid (HBA.out.trans (hbab.mono hBa))
                        have HRB := Lib.hid (HST.out.below hbab)
                        have HFB := Lib.hid (own_keep HFS.out fun g hg => hbab.block g (HFS.out.lt g hg).2)
                        have HZB := Lib.hid ((hbab.block _ hZa).trans HZS.out)
                        have HOWN : Hid (wb.ownsRow B 44 3 (.slice (some ⟨wa.heap.size, 0, none⟩) 0 0) 0 []) := Lib.hid (by rw [ewb]; exact World.ownsRow_lit wa #[] 0 hBa (Nat.zero_le _) rfl)
                        have hBb : B ≤ wb.heap.size := Nat.le_trans hBa hbab.size
                        have HSRC := Lib.hid (HOP.out.below (by rw [← HEB.out]; exact HB_B.out))
                        obtain ⟨Y, eY⟩ : ∃ Y, Y = wa.heap.size := ⟨_, rfl⟩
                        obtain ⟨⟨t0, t1, t2⟩, _⟩ := cells3 HZB.out
                        have hYB : B ≤ Y := by rw [eY]; exact hBa
                        rw [← eY] at HOWN
                        clear hbab
                        subst ewb
                        subst eY
                        go_upto_region 30 with (fail)
                        rw [← ewa]
                        clear ewa r0 r1 r2 ev1 f1 y
                        go_wp2_with (at_builtin; refine wpList_append_own _ rfl _ _ 45 rfl B 44 i8 (.agg #[.int .i64 0, .int .i64 0, .int .i64 0]) 3 24 Try.underlying45 hi8 hx0 hx1 hx2 rfl (by decide) _ 0 [] rfl HOWN.out ⟨bo, offo, none⟩ n cp (rowO (E i).o n) rfl ?cl ?c1 ?c2 ?c3 ?c4 ?c5 ?_)
                        case cl => rw [rowO_length]
                        case c1 =>
                          intro x u hj
                          (try rw [Go.WideShapes.add_plain])
                          exact HSRC.out.cellAt x u hj
                        case c2 => exact rowO_one _ _
                        case c3 => unfold maxLen; omega
                        case c4 => omega
                        case c5 => first | exact hBb | (simp at hBb ⊢; omega)
                        intro v9 w9 hown9 hgrow9 hne9
                        (try rw [Nat.zero_add] at hown9)
                        (try rw [List.nil_append] at hown9)
                        obtain ⟨s9, c9, rfl⟩ := own_form' hown9
                        have HN9 := Lib.hid (own_nil' hown9)
                        have hty : ∀ g' cs t, (Value.slice (some ⟨wa.heap.size, 0, none⟩) 0 0).ownBlock = some g' → (wa.alloc (.cells #[] 44)).heap[g']? = some (.cells cs t (0, 0)) → g' = wa.heap.size := fun g' cs t e1 _ => by simp [Value.ownBlock] at e1; exact e1.symm
                        have HB9 := Lib.hid (HB_B.out.grown hgrow9 hBb (fun q hq => by simp [Value.ownBlock] at hq; omega))
                        have hkeep : ∀ q, q < wa.heap.size → w9.heap[q]? = wa.heap[q]? := fun q hq => (hgrow9.block q (by simp; omega) (fun e => by simp [Value.ownBlock] at e; omega)).trans (heap_alloc_old _ _ hq)
                        have HR9 : Hid (RO w9 B (.slice (some ⟨g, 0, none⟩) m cpo) m _ V') := Lib.hid ⟨own_keep HST.out.row fun g' hg' => hkeep g' (HST.out.row.lt g' hg').2, fun x hx => by
                          obtain ⟨sp1, cap1, e1, ho1, hp1⟩ := HST.out.ops x hx
                          exact ⟨sp1, cap1, e1, own_keep ho1 fun g' hg' => hkeep g' (ho1.lt g' hg').2, hp1⟩⟩
                        have HF9 := Lib.hid (own_keep HFS.out fun g' hg' => hkeep g' (HFS.out.lt g' hg').2)
                        have HZ9 := Lib.hid ((hkeep Z hZa).trans HZS.out)
                        have f9 := HR9.out.row.frozenAt (j * 3 + 2)
                        obtain ⟨sv9, cv9, nv9, ev9⟩ : ∃ sv cv nv, w9.cell? ⟨g, j * 3 + 2, none⟩ = some (.slice sv nv cv) := by
                          obtain ⟨sp1, cap1, e1, _⟩ := HR9.out.ops j hul
                          exact ⟨sp1, cap1, _, (HR9.out.row.cellAt (j * 3 + 2) (by omega)).trans ((rowT_get _ V' m j hul).2.2.trans (by rw [e1]))⟩
                        have HRA := Lib.hid (HR9.out.opsed j s9 n c9 (E i).o hown9 HN9.out)
                        have HFA := Lib.hid (fo_stays HF9.out (HR9.out.row.stored (j * 3 + 2) (.slice s9 n c9)).2 (fun g' cs t e1 e2 => own_type HR9.out.row 3 (by decide) g' cs t e1 e2))
                        have HZA := Lib.hid ((heap_setCell_other w9 ⟨g, j * 3 + 2, none⟩ Z (.slice s9 n c9) (fun e => by dsimp only at e; omega)).trans HZ9.out)
                        have HBB : Hid (Below B w (w9.setCell ⟨g, j * 3 + 2, none⟩ (.slice s9 n c9))) := Lib.hid (HB9.out.setCell hgb _)
                        have y := (HFA.out.cellAt j (by omega)).trans (rowI_get (frm E i) m j hul)
                        rw [← EQ.out] at y
                        obtain ⟨⟨r0, r1, r2⟩, _⟩ := cells3 HZA.out
                        clear hown9 hgrow9 hne9 hty hkeep t0 t1 t2
                        go_wp2
                        go_roundw
                        case rel => exact ⟨j + 1, _, by omega, by go_num, Lib.hid ⟨HBB.out, HRA.out.congr (fun x hx => by
                          by_cases hx : x = j
                          · subst hx
                            rw [if_pos rfl, if_pos rfl, if_neg (by omega), if_pos ⟨rfl, by omega⟩]
                            unfold endT
                            rw [if_pos rfl]
                          · rw [if_neg hx, if_neg hx, if_neg (fun h => hx h.1), if_neg (fun h => hx h.1)]), HFA.out, HZA.out⟩⟩
                        case measure => simp [intOf]; omega
                      · have hne : ((frm E i u : Int) == (q : Int)) = false := by
                          rw [beq_eq_false_iff_ne]
                          intro h
                          exact huj (HFR.out.inj u j (by rw [← HM.out]; exact hul) (by rw [← HM.out]; exact hjm) (by rw [EQ.out] at h; exact Int.ofNat.inj h))
                        generalize frm E i u = fu at *
                        go_wp2
                        go_roundw
                        case rel => exact ⟨u + 1, V', by omega, by go_num, Lib.hid ⟨HU.out.1, HU.out.2.1.congr (fun x hx => by
                          by_cases hx : x = j
                          · subst hx
                            by_cases hxu : x < u
                            · rw [if_pos ⟨rfl, hxu⟩, if_pos ⟨rfl, by omega⟩]
                            · rw [if_neg (fun h => hxu h.2), if_neg (fun h => by have := h.2; omega)]
                          · rw [if_neg (fun h => hx h.1), if_neg (fun h => hx h.1)]), HU.out.2.2.1, HU.out.2.2.2⟩⟩
                        case measure => simp [intOf]; omega
                    · obtain rfl : m = u := by omega
                      have HRA : Hid (RO wr B (.slice spo m cpo) m (stateAt E (i + 1)).T V') := Lib.hid (by
                        rw [HNX.out, HNXT.out]
                        refine HU.out.2.1.congr fun x hx => ?_
                        show _ = (if x = j then endT (s.T j) 2 n (E i).o else s.T x)
                        by_cases hxj : x = j
                        · rw [if_pos ⟨hxj, hx⟩, if_pos hxj]
                        · rw [if_neg (fun h => hxj h.1), if_neg hxj])
                      have HFA : Hid (wr.ownsRow B 3 1 (.slice spf m cpf) m (rowI (frm E (i + 1)) m)) := Lib.hid (by rw [HFX.out]; exact HU.out.2.2.1)
                      have HMA : Hid (m = (stateAt E (i + 1)).m) := Lib.hid (by rw [HNX.out, HNXT.out]; exact HM.out)
                      go_wp2
                      go_roundw
                      case rel => exact ⟨i + 1, m, V', _, _, _, _, by omega, by go_num, rfl, rfl, by omega, Lib.hid ⟨HMA.out, HU.out.1, HRA.out, HFA.out, HG1.out⟩⟩
                      case measure => simp [intOf]; omega
                · have HE : Hid (ErrOf s (E i) er) := Lib.hid (HE2.out er her HANS.out)
                  have hq2 : (er != 0) = true := by rw [bne_iff_ne]; exact her
                  have HNE := Lib.hid her
                  clear her
                  go_wp2
                  go_ret3
                  exact HER.out _ er HE.out HNE.out HB5.out
              · by_cases hn0 : n = 0
                · have HE0 : Hid (ErrOf s (E i) 0) := Lib.hid (HEE.out 0 (.inr ⟨rfl, .inr ⟨by decide, hn0⟩⟩))
                  have hn1' : ¬ (0 : Int) < (n : Int) := by omega
                  have hn2' : decide (0 < n) = false := decide_eq_false (by omega)
                  clear hn0
                  have HG1 := Lib.hid (HGX.out HE0.out)
                  go_wp2
                  go_loopw [12, 96] (fun _ x ws => ∃ (u : Nat) (V' : Nat → Value), u ≤ m ∧ x = .int .i64 (u : Int) ∧ Hid (Below B w ws ∧ RO ws B (.slice spo m cpo) m (fun x => if x = j ∧ x < u then endT (s.T j) 3 n (E i).o else s.T x) V' ∧ ws.ownsRow B 3 1 (.slice spf m cpf) m (rowI (frm E i) m) ∧ ws.heap[Z]? = some (.cells #[.int .i64 3, .int .i64 c, .slice sp n cp] 90 (0, 0)))) (fun _ x _ => m - (intOf x).toNat)
                  case atStart => exact ⟨0, V, Nat.zero_le _, rfl, Lib.hid ⟨HB2.out, HR2.out.congr (fun x hx => by rw [if_neg (by omega)]), HF2.out, HQ2.out⟩⟩
                  case round =>
                    obtain ⟨u, V', hu, rfl, HU⟩ := hrel
                    obtain ⟨⟨r0, r1, r2⟩, _⟩ := cells3 HU.out.2.2.2
                    by_cases hul : u < m
                    · obtain ⟨gf, cgf, evg, hgfb, hgfl⟩ := HU.out.2.2.1.form (by omega)
                      injection evg with ev1 ev2 ev3
                      subst ev1
                      clear ev2 ev3
                      obtain ⟨g, cg, evg, hgb, hgl⟩ := HU.out.2.1.row.form (by omega)
                      injection evg with ev1 ev2 ev3
                      subst ev1
                      clear ev2 ev3
                      have y := (HU.out.2.2.1.cellAt u (by omega)).trans (rowI_get (frm E i) m u hul)
                      have hul' : (u : Int) < (m : Int) := by omega
                      have hgZ : g < Z := HOG.out g rfl
                      by_cases huj : u = j
                      · obtain rfl : j = u := huj.symm
                        rw [← EQ.out] at y
                        have hqq : ((q : Int) == (q : Int)) = true := by simp
                        clear huj
                        have f1 := HU.out.2.1.row.frozenAt (j * 3 + 1)
                        obtain ⟨vv1, ev1⟩ : ∃ vv1, wr.cell? ⟨g, j * 3 + 1, none⟩ = some (.int .i64 vv1) := ⟨_, (HU.out.2.1.row.cellAt (j * 3 + 1) (by omega)).trans (rowT_get _ V' m j hul).2.1⟩
                        have HST := Lib.hid (HU.out.2.1.state j 2)
                        have HGR := Lib.hid (HU.out.2.1.row.stored (j * 3 + 1) (.int .i64 2)).2
                        have HFS := Lib.hid (fo_stays HU.out.2.2.1 HGR.out (fun g' cs t e1 e2 => own_type HU.out.2.1.row 3 (by decide) g' cs t e1 e2))
                        have HZS := Lib.hid ((heap_setCell_other wr ⟨g, j * 3 + 1, none⟩ Z (.int .i64 2) (fun e => by dsimp only at e; omega)).trans HU.out.2.2.2)
                        have HBS2 : Hid (Below B w (wr.setCell ⟨g, j * 3 + 1, none⟩ (.int .i64 2))) := Lib.hid (HU.out.1.setCell hgb _)
                        go_wp2
                        go_roundw
                        case rel => exact ⟨j + 1, V', by omega, by go_num, Lib.hid ⟨HBS2.out, HST.out.congr (fun x hx => by
                          by_cases hx : x = j
                          · subst hx
                            rw [if_pos rfl, if_neg (by omega), if_pos ⟨rfl, by omega⟩]
                            unfold endT
                            rw [if_neg (by decide), if_pos rfl]
                          · rw [if_neg hx, if_neg (fun h => hx h.1), if_neg (fun h => hx h.1)]), HFS.out, HZS.out⟩⟩
                        case measure => simp [intOf]; omega
                      · have hne : ((frm E i u : Int) == (q : Int)) = false := by
                          rw [beq_eq_false_iff_ne]
                          intro h
                          exact huj (HFR.out.inj u j (by rw [← HM.out]; exact hul) (by rw [← HM.out]; exact hjm) (by rw [EQ.out] at h; exact Int.ofNat.inj h))
                        generalize frm E i u = fu at *
                        go_wp2
                        go_roundw
                        case rel => exact ⟨u + 1, V', by omega, by go_num, Lib.hid ⟨HU.out.1, HU.out.2.1.congr (fun x hx => by
                          by_cases hx : x = j
                          · subst hx
                            by_cases hxu : x < u
                            · rw [if_pos ⟨rfl, hxu⟩, if_pos ⟨rfl, by omega⟩]
                            · rw [if_neg (fun h => hxu h.2), if_neg (fun h => by have := h.2; omega)]
                          · rw [if_neg (fun h => hx h.1), if_neg (fun h => hx h.1)]), HU.out.2.2.1, HU.out.2.2.2⟩⟩
                        case measure => simp [intOf]; omega
                    · obtain rfl : m = u := by omega
                      have HRA : Hid (RO wr B (.slice spo m cpo) m (stateAt E (i + 1)).T V') := Lib.hid (by
                        rw [HNX.out, HNXT.out]
                        refine HU.out.2.1.congr fun x hx => ?_
                        show _ = (if x = j then endT (s.T j) 3 n (E i).o else s.T x)
                        by_cases hxj : x = j
                        · rw [if_pos ⟨hxj, hx⟩, if_pos hxj]
                        · rw [if_neg (fun h => hxj h.1), if_neg hxj])
                      have HFA : Hid (wr.ownsRow B 3 1 (.slice spf m cpf) m (rowI (frm E (i + 1)) m)) := Lib.hid (by rw [HFX.out]; exact HU.out.2.2.1)
                      have HMA : Hid (m = (stateAt E (i + 1)).m) := Lib.hid (by rw [HNX.out, HNXT.out]; exact HM.out)
                      go_wp2
                      go_roundw
                      case rel => exact ⟨i + 1, m, V', _, _, _, _, by omega, by go_num, rfl, rfl, by omega, Lib.hid ⟨HMA.out, HU.out.1, HRA.out, HFA.out, HG1.out⟩⟩
                      case measure => simp [intOf]; omega
                · have HE : Hid (ErrOf s (E i) 22) := Lib.hid (HEE.out 22 (.inl ⟨by decide, .inr ⟨by decide, by omega, rfl⟩⟩))
                  have hn1' : (0 : Int) < (n : Int) := by omega
                  have hn2' : 0 < n := by omega
                  clear hn0
                  go_wp2
                  go_ret3
                  exact HER.out _ 22 HE.out (by decide) HB2.out
              · by_cases hn0 : n = 0
                · have HE0 : Hid (ErrOf s (E i) 0) := Lib.hid (HEE.out 0 (.inr ⟨rfl, .inr ⟨by decide, hn0⟩⟩))
                  have hn1' : ¬ (0 : Int) < (n : Int) := by omega
                  have hn2' : decide (0 < n) = false := decide_eq_false (by omega)
                  clear hn0
                  have HG1 := Lib.hid (HGX.out HE0.out)
                  go_wp2
                  go_loopw [12, 96] (fun _ x ws => ∃ (u : Nat) (V' : Nat → Value), u ≤ m ∧ x = .int .i64 (u : Int) ∧ Hid (Below B w ws ∧ RO ws B (.slice spo m cpo) m (fun x => if x = j ∧ x < u then endT (s.T j) 4 n (E i).o else s.T x) V' ∧ ws.ownsRow B 3 1 (.slice spf m cpf) m (rowI (frm E i) m) ∧ ws.heap[Z]? = some (.cells #[.int .i64 4, .int .i64 c, .slice sp n cp] 90 (0, 0)))) (fun _ x _ => m - (intOf x).toNat)
                  case atStart => exact ⟨0, V, Nat.zero_le _, rfl, Lib.hid ⟨HB2.out, HR2.out.congr (fun x hx => by rw [if_neg (by omega)]), HF2.out, HQ2.out⟩⟩
                  case round =>
                    obtain ⟨u, V', hu, rfl, HU⟩ := hrel
                    obtain ⟨⟨r0, r1, r2⟩, _⟩ := cells3 HU.out.2.2.2
                    by_cases hul : u < m
                    · obtain ⟨gf, cgf, evg, hgfb, hgfl⟩ := HU.out.2.2.1.form (by omega)
                      injection evg with ev1 ev2 ev3
                      subst ev1
                      clear ev2 ev3
                      obtain ⟨g, cg, evg, hgb, hgl⟩ := HU.out.2.1.row.form (by omega)
                      injection evg with ev1 ev2 ev3
                      subst ev1
                      clear ev2 ev3
                      have y := (HU.out.2.2.1.cellAt u (by omega)).trans (rowI_get (frm E i) m u hul)
                      have hul' : (u : Int) < (m : Int) := by omega
                      have hgZ : g < Z := HOG.out g rfl
                      by_cases huj : u = j
                      · obtain rfl : j = u := huj.symm
                        rw [← EQ.out] at y
                        have hqq : ((q : Int) == (q : Int)) = true := by simp
                        clear huj
                        go_wp2
                        go_roundw
                        case rel => exact ⟨j + 1, V', by omega, by go_num, Lib.hid ⟨HU.out.1, HU.out.2.1.congr (fun x hx => by
                          by_cases hx : x = j
                          · subst hx
                            rw [if_neg (by omega), if_pos ⟨rfl, by omega⟩]
                            unfold endT
                            rw [if_neg (by decide), if_neg (by decide)]
                          · rw [if_neg (fun h => hx h.1), if_neg (fun h => hx h.1)]), HU.out.2.2.1, HU.out.2.2.2⟩⟩
                        case measure => simp [intOf]; omega
                      · have hne : ((frm E i u : Int) == (q : Int)) = false := by
                          rw [beq_eq_false_iff_ne]
                          intro h
                          exact huj (HFR.out.inj u j (by rw [← HM.out]; exact hul) (by rw [← HM.out]; exact hjm) (by rw [EQ.out] at h; exact Int.ofNat.inj h))
                        generalize frm E i u = fu at *
                        go_wp2
                        go_roundw
                        case rel => exact ⟨u + 1, V', by omega, by go_num, Lib.hid ⟨HU.out.1, HU.out.2.1.congr (fun x hx => by
                          by_cases hx : x = j
                          · subst hx
                            by_cases hxu : x < u
                            · rw [if_pos ⟨rfl, hxu⟩, if_pos ⟨rfl, by omega⟩]
                            · rw [if_neg (fun h => hxu h.2), if_neg (fun h => by have := h.2; omega)]
                          · rw [if_neg (fun h => hx h.1), if_neg (fun h => hx h.1)]), HU.out.2.2.1, HU.out.2.2.2⟩⟩
                        case measure => simp [intOf]; omega
                    · obtain rfl : m = u := by omega
                      have HRA : Hid (RO wr B (.slice spo m cpo) m (stateAt E (i + 1)).T V') := Lib.hid (by
                        rw [HNX.out, HNXT.out]
                        refine HU.out.2.1.congr fun x hx => ?_
                        show _ = (if x = j then endT (s.T j) 4 n (E i).o else s.T x)
                        by_cases hxj : x = j
                        · rw [if_pos ⟨hxj, hx⟩, if_pos hxj]
                        · rw [if_neg (fun h => hxj h.1), if_neg hxj])
                      have HFA : Hid (wr.ownsRow B 3 1 (.slice spf m cpf) m (rowI (frm E (i + 1)) m)) := Lib.hid (by rw [HFX.out]; exact HU.out.2.2.1)
                      have HMA : Hid (m = (stateAt E (i + 1)).m) := Lib.hid (by rw [HNX.out, HNXT.out]; exact HM.out)
                      go_wp2
                      go_roundw
                      case rel => exact ⟨i + 1, m, V', _, _, _, _, by omega, by go_num, rfl, rfl, by omega, Lib.hid ⟨HMA.out, HU.out.1, HRA.out, HFA.out, HG1.out⟩⟩
                      case measure => simp [intOf]; omega
                · have HE : Hid (ErrOf s (E i) 22) := Lib.hid (HEE.out 22 (.inl ⟨by decide, .inr ⟨by decide, by omega, rfl⟩⟩))
                  have hn1' : (0 : Int) < (n : Int) := by omega
                  have hn2' : 0 < n := by omega
                  clear hn0
                  go_wp2
                  go_ret3
                  exact HER.out _ 22 HE.out (by decide) HB2.out
      · obtain rfl : len = i := by omega
        go_wp2
        go_ret3
        obtain ⟨hm, hb, hro, _, hg⟩ := HT.out
        subst hm
        rw [HEB.out] at hb hro
        exact hro.ofq hl4 hg hb

end Go.Proofs.Yteobndfkkpfnlaa

