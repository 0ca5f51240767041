/-
  Decode.
-/
import Derived.Test.YtccpfoimedjdgaaJ06
import Derived.Test.YtccpfoimedjdgaaJ04
import Derived.Test.YtccpfoimedjdgaaJ05

namespace Go.Proofs.Ytccpfoimedjdgaa
open Go.ChangeShapes Go.WideShapes Go.ChangeAt Go.RowKit

/-- a frame's content -/
def ctn (f : Nat → Nat) (j : Nat) : Nat := f (12 + j)
def s00 : PS := ⟨0, 0⟩
open Classical in
/-- why there is no message -/
noncomputable def dErr (f : Nat → Nat) (n : Nat) : Int :=
  if ¬ Fr.derr f n = 0 then (Fr.derr f n : Int) else if 12 + Fr.sizeOf' f < n then 12 else if ¬ KOk (Fr.kindOf f : Int) then 14 else eE (ctn f) (Fr.sizeOf' f) (tF (ctn f) (Fr.sizeOf' f) s00)
def DecG (f : Nat → Nat) (w' : World) (sp : Option Addr) (cap : Nat) (dv : Value) : Prop :=
  LsS w' sp (tM (ctn f) (Fr.sizeOf' f) s00) (tP (ctn f) (Fr.sizeOf' f) s00) ∧ (sp = none → tM (ctn f) (Fr.sizeOf' f) s00 = 0 ∧ cap = 0) ∧ tM (ctn f) (Fr.sizeOf' f) s00 ≤ cap ∧ BsS w' dv (tD (ctn f) (Fr.sizeOf' f) s00)
def DecP (f : Nat → Nat) (n : Nat) (w : World) (e : Ending) (w' : World) : Prop :=
  Below w.heap.size w w' ∧ ((¬ dErr f n = 0 ∧ e = .returned (.tuple #[.agg (msL 0 zN nilV nilV).toArray, .int .i64 (dErr f n)])) ∨
    (dErr f n = 0 ∧ ∃ sp cap dv, e = .returned (.tuple #[.agg (msL (Fr.kindOf f : Int) (tN (ctn f) (Fr.sizeOf' f) s00) (.slice sp (tM (ctn f) (Fr.sizeOf' f) s00) cap) dv).toArray, .int .i64 0]) ∧ DecG f w' sp cap dv))
theorem derr_size {f : Nat → Nat} {n : Nat} (h : Fr.derr f n = 0) : Fr.sizeOf' f ≤ 65536 ∧ 12 + Fr.sizeOf' f ≤ n := by
  unfold Fr.derr at h
  split at h
  · cases h
  · split at h
    · cases h
    · split at h
      · cases h
      · split at h
        · cases h
        · omega

set_option maxRecDepth 100000 in
set_option maxHeartbeats 4000000 in
theorem decode_any (sp : Option Addr) (n cap : Nat) (f : Nat → Nat) (w : World) (hf : ∀ j, f j < 256) (hc : n ≤ cap) (hs : Src w sp n f) : Calls Try.prog 14 #[.slice sp n cap] w (DecP f n w) := by
  have HF := Lib.hid hf
  have HS := Lib.hid hs
  clear hf hs
  obtain ⟨w1, ew1⟩ : ∃ w1, w1 = w.alloc (.cells (msL 0 zN nilV nilV).toArray 25) := ⟨_, rfl⟩
  have hR1 : MsC w1 w.heap.size 0 zN nilV nilV := by rw [ew1]; exact heap_alloc_new w _
  have hl1 : w1.heap.size = w.heap.size + 1 := by rw [ew1]; simp
  have hb1 : Below w.heap.size w w1 := by rw [ew1]; exact (Below.refl _ _).alloc (Nat.le_refl _) _
  have HR1 := Lib.hid hR1
  have HB1 := Lib.hid hb1
  clear hR1 hb1
  obtain ⟨R, eR⟩ : ∃ R, R = w.heap.size := ⟨_, rfl⟩
  rw [← eR] at HR1
  go_enter Try.func14, Try.ntmps14
  go_wp2_with fail
  rw [← ew1, ← eR]
  have HER := Lib.hid eR
  clear ew1 eR
  refine (Fr.decode_any sp n cap f w1 HF.out hc (HS.out.below HB1.out)).mono ?_
  rintro e w2 ⟨hb2, hres⟩
  have HR2 := Lib.hid (HR1.out.below hb2 HR1.out.lt)
  have HB2 := Lib.hid (HB1.out.trans (hb2.mono HB1.out.size))
  have hl2 := hb2.size
  clear HR1 hb2
  rcases hres with ⟨hd, rfl⟩ | ⟨hd, sp2, cap2, rfl, ho2, hnil2⟩
  · have HE : Hid (¬ dErr f n = 0 ∧ dErr f n = (Fr.derr f n : Int)) := Lib.hid (by
      have e : dErr f n = (Fr.derr f n : Int) := by unfold dErr; rw [if_pos hd]
      exact ⟨by rw [e]; omega, e⟩)
    have hd1 : ((Fr.derr f n : Int) != 0) = true := by rw [bne_iff_ne]; omega
    have hd2 : (Fr.derr f n != 0) = true := by rw [bne_iff_ne]; exact hd
    clear hd
    generalize Fr.derr f n = dz at *
    unfold Fr.zeroF
    have hb3 : Below w2.heap.size w2 (w2.alloc (.cells #[.int .i64 0, .slice none 0 0] 39)) := (Below.refl _ _).alloc (Nat.le_refl _) _
    have HR3 := Lib.hid (HR2.out.below hb3 HR2.out.lt)
    have HB3 := Lib.hid (HB2.out.trans (hb3.mono HB2.out.size))
    clear hb3 HR2 HB2
    obtain ⟨r0, r1, r2, r3, r4, r5, r6, r7, r8, r9, r10, r11⟩ := HR3.out.all
    have z0 := HR3.out.fz 0
    have z1 := HR3.out.fz 1
    have z2 := HR3.out.fz 2
    have z3 := HR3.out.fz 3
    have z4 := HR3.out.fz 4
    have z5 := HR3.out.fz 5
    have z6 := HR3.out.fz 6
    have z7 := HR3.out.fz 7
    have z8 := HR3.out.fz 8
    have z9 := HR3.out.fz 9
    have z10 := HR3.out.fz 10
    have z11 := HR3.out.fz 11
    go_wp2
    obtain ⟨W5, eW5⟩ : ∃ W5, W5 = (((((((((((((w2.alloc (.cells #[.int .i64 0, .slice none 0 0] 39)).setCell ⟨R, 0, none⟩ (.int .i64 0)).setCell ⟨R, 1, none⟩ (.int .i64 (zN 0))).setCell ⟨R, 2, none⟩ (.int .i64 (zN 1))).setCell ⟨R, 3, none⟩ (.int .i64 (zN 2))).setCell ⟨R, 4, none⟩ (.int .i64 (zN 3))).setCell ⟨R, 5, none⟩ (.int .i64 (zN 4))).setCell ⟨R, 6, none⟩ (.int .i64 (zN 5))).setCell ⟨R, 7, none⟩ (.int .i64 (zN 6))).setCell ⟨R, 8, none⟩ (.int .i64 (zN 7))).setCell ⟨R, 9, none⟩ (.int .i64 (zN 8))).setCell ⟨R, 10, none⟩ nilV).setCell ⟨R, 11, none⟩ nilV) := ⟨_, rfl⟩
    obtain ⟨h5, hg5⟩ := HR3.out.set12 0 zN nilV nilV eW5
    rw [← eW5]
    clear eW5 r0 r1 r2 r3 r4 r5 r6 r7 r8 r9 r10 r11 z0 z1 z2 z3 z4 z5 z6 z7 z8 z9 z10 z11
    obtain ⟨p0, p1, p2, p3, p4, p5, p6, p7, p8, p9, p10, p11⟩ := h5.all
    have HBZ : Hid (Below w.heap.size w W5) := Lib.hid (HB3.out.grown hg5 HB3.out.size (fun q e => by injection e with e; have := HER.out; omega))
    clear h5 hg5
    exact bodyPost_ret (v := .tuple #[.agg (msL 0 zN nilV nilV).toArray, .int .i64 (dz : Int)]) (by simp [results, Try.results14, go_sem, p0, p1, p2, p3, p4, p5, p6, p7, p8, p9, p10, p11]) rfl ⟨HBZ.out, .inl ⟨HE.out.1, by rw [HE.out.2]⟩⟩
  · obtain ⟨hz1, hz2⟩ := derr_size hd
    have HD0 := Lib.hid hd
    have HE12 : Hid (12 + Fr.sizeOf' f < n → dErr f n = 12) := Lib.hid fun h => by unfold dErr; rw [if_neg (fun h' => h' hd), if_pos h]
    have HE14 : Hid (¬ 12 + Fr.sizeOf' f < n → ¬ KOk (Fr.kindOf f : Int) → dErr f n = 14) := Lib.hid fun h h2 => by unfold dErr; rw [if_neg (fun h' => h' hd), if_neg h, if_pos h2]
    have HEE : Hid (¬ 12 + Fr.sizeOf' f < n → KOk (Fr.kindOf f : Int) → dErr f n = eE (ctn f) (Fr.sizeOf' f) (tF (ctn f) (Fr.sizeOf' f) s00)) := Lib.hid fun h h2 => by unfold dErr; rw [if_neg (fun h' => h' hd), if_neg h, if_neg (fun h' => h' h2)]
    have HSR : Hid (Src w2 sp2 (Fr.sizeOf' f) (ctn f)) := Lib.hid (Fr.own_src ho2)
    have HCT : Hid (∀ j, ctn f j < 256) := Lib.hid fun j => HF.out (12 + j)
    clear hd ho2
    obtain ⟨z, ez⟩ : ∃ z, z = Fr.sizeOf' f := ⟨_, rfl⟩
    obtain ⟨d, ed⟩ : ∃ d, d = ctn f := ⟨_, rfl⟩
    obtain ⟨kd, ek⟩ : ∃ kd, kd = Fr.kindOf f := ⟨_, rfl⟩
    rw [← ez] at hz1 hz2 HE12 HE14 HEE HSR ⊢
    rw [← ed] at HEE HSR HCT
    rw [← ek] at HE14 HEE ⊢
    have HZ := Lib.hid ez
    have HDD := Lib.hid ed
    have HKD := Lib.hid ek
    clear ez ed ek
    obtain ⟨w3, ew3⟩ : ∃ w3, w3 = w2.alloc (.cells #[.int .i64 (kd : Int), .slice sp2 z cap2] 39) := ⟨_, rfl⟩
    have hb3 : Below w2.heap.size w2 w3 := by rw [ew3]; exact (Below.refl _ _).alloc (Nat.le_refl _) _
    have hl3 : w3.heap.size = w2.heap.size + 1 := by rw [ew3]; simp
    have hf3 : w3.heap[w2.heap.size]? = some (.cells #[.int .i64 (kd : Int), .slice sp2 z cap2] 39 (0, 0)) := by rw [ew3]; exact heap_alloc_new w2 _
    have HR3 := Lib.hid (HR2.out.below hb3 HR2.out.lt)
    have HB3 := Lib.hid (HB2.out.trans (hb3.mono HB2.out.size))
    have HS3 := Lib.hid (HSR.out.below hb3)
    have HF3 := Lib.hid hf3
    have hRl := HR2.out.lt
    clear hb3 HR2 HB2 HSR hf3
    obtain ⟨FB, eFB⟩ : ∃ FB, FB = w2.heap.size := ⟨_, rfl⟩
    rw [← eFB] at HF3
    have hFR : FB ≠ R ∧ FB < w3.heap.size := by omega
    obtain ⟨hFR, hFl⟩ := hFR
    obtain ⟨f0, f1⟩ := (Fr.zcells HF3.out).1
    by_cases ht : 12 + z < n
    · have ht' : (12 : Int) + (z : Int) < (n : Int) := by omega
      have HE := Lib.hid (HE12.out ht)
      rw [ew3] at HR3 HB3
      clear ew3 f0 f1 hRl hFl hl3 eFB hl2 hl1
      obtain ⟨r0, r1, r2, r3, r4, r5, r6, r7, r8, r9, r10, r11⟩ := HR3.out.all
      have z0 := HR3.out.fz 0
      have z1 := HR3.out.fz 1
      have z2 := HR3.out.fz 2
      have z3 := HR3.out.fz 3
      have z4 := HR3.out.fz 4
      have z5 := HR3.out.fz 5
      have z6 := HR3.out.fz 6
      have z7 := HR3.out.fz 7
      have z8 := HR3.out.fz 8
      have z9 := HR3.out.fz 9
      have z10 := HR3.out.fz 10
      have z11 := HR3.out.fz 11
      go_wp2
      obtain ⟨W5, eW5⟩ : ∃ W5, W5 = (((((((((((((w2.alloc (.cells #[.int .i64 (kd : Int), .slice sp2 z cap2] 39)).setCell ⟨R, 0, none⟩ (.int .i64 0)).setCell ⟨R, 1, none⟩ (.int .i64 (zN 0))).setCell ⟨R, 2, none⟩ (.int .i64 (zN 1))).setCell ⟨R, 3, none⟩ (.int .i64 (zN 2))).setCell ⟨R, 4, none⟩ (.int .i64 (zN 3))).setCell ⟨R, 5, none⟩ (.int .i64 (zN 4))).setCell ⟨R, 6, none⟩ (.int .i64 (zN 5))).setCell ⟨R, 7, none⟩ (.int .i64 (zN 6))).setCell ⟨R, 8, none⟩ (.int .i64 (zN 7))).setCell ⟨R, 9, none⟩ (.int .i64 (zN 8))).setCell ⟨R, 10, none⟩ nilV).setCell ⟨R, 11, none⟩ nilV) := ⟨_, rfl⟩
      obtain ⟨h5, hg5⟩ := HR3.out.set12 0 zN nilV nilV eW5
      rw [← eW5]
      clear eW5 r0 r1 r2 r3 r4 r5 r6 r7 r8 r9 r10 r11 z0 z1 z2 z3 z4 z5 z6 z7 z8 z9 z10 z11
      obtain ⟨p0, p1, p2, p3, p4, p5, p6, p7, p8, p9, p10, p11⟩ := h5.all
      have HBZ : Hid (Below w.heap.size w W5) := Lib.hid (HB3.out.grown hg5 HB3.out.size (fun q e => by injection e with e; have := HER.out; omega))
      clear h5 hg5
      exact bodyPost_ret (v := .tuple #[.agg (msL 0 zN nilV nilV).toArray, .int .i64 12]) (by simp [results, Try.results14, go_sem, p0, p1, p2, p3, p4, p5, p6, p7, p8, p9, p10, p11]) rfl ⟨HBZ.out, .inl ⟨by rw [HE.out]; decide, by rw [HE.out]⟩⟩
    · have ht' : ¬ (12 : Int) + (z : Int) < (n : Int) := by omega
      rcases (Classical.em (KOk (kd : Int))).symm with hk | hk
      · have HE := Lib.hid (HE14.out ht hk)
        have hkb : (decide (1 ≤ (kd : Int)) && decide ((kd : Int) ≤ 7)) = false := by
          rw [Bool.eq_false_iff]; intro h; simp at h; exact hk (by unfold KOk; omega)
        clear hk
        go_wp2_with fail
        rw [← ew3, ← eFB]
        clear ew3 eFB
        refine (iskind_any kd w3).mono ?_
        rintro e w4 ⟨rfl, rfl⟩
        rw [hkb]
        obtain ⟨r0, r1, r2, r3, r4, r5, r6, r7, r8, r9, r10, r11⟩ := HR3.out.all
        have z0 := HR3.out.fz 0
        have z1 := HR3.out.fz 1
        have z2 := HR3.out.fz 2
        have z3 := HR3.out.fz 3
        have z4 := HR3.out.fz 4
        have z5 := HR3.out.fz 5
        have z6 := HR3.out.fz 6
        have z7 := HR3.out.fz 7
        have z8 := HR3.out.fz 8
        have z9 := HR3.out.fz 9
        have z10 := HR3.out.fz 10
        have z11 := HR3.out.fz 11
        go_wp2
        obtain ⟨W5, eW5⟩ : ∃ W5, W5 = ((((((((((((w3.setCell ⟨R, 0, none⟩ (.int .i64 0)).setCell ⟨R, 1, none⟩ (.int .i64 (zN 0))).setCell ⟨R, 2, none⟩ (.int .i64 (zN 1))).setCell ⟨R, 3, none⟩ (.int .i64 (zN 2))).setCell ⟨R, 4, none⟩ (.int .i64 (zN 3))).setCell ⟨R, 5, none⟩ (.int .i64 (zN 4))).setCell ⟨R, 6, none⟩ (.int .i64 (zN 5))).setCell ⟨R, 7, none⟩ (.int .i64 (zN 6))).setCell ⟨R, 8, none⟩ (.int .i64 (zN 7))).setCell ⟨R, 9, none⟩ (.int .i64 (zN 8))).setCell ⟨R, 10, none⟩ nilV).setCell ⟨R, 11, none⟩ nilV) := ⟨_, rfl⟩
        obtain ⟨h5, hg5⟩ := HR3.out.set12 0 zN nilV nilV eW5
        rw [← eW5]
        clear eW5 r0 r1 r2 r3 r4 r5 r6 r7 r8 r9 r10 r11 z0 z1 z2 z3 z4 z5 z6 z7 z8 z9 z10 z11 f0 f1
        obtain ⟨p0, p1, p2, p3, p4, p5, p6, p7, p8, p9, p10, p11⟩ := h5.all
        have HBZ : Hid (Below w.heap.size w W5) := Lib.hid (HB3.out.grown hg5 HB3.out.size (fun q e => by injection e with e; have := HER.out; omega))
        clear h5 hg5
        exact bodyPost_ret (v := .tuple #[.agg (msL 0 zN nilV nilV).toArray, .int .i64 14]) (by simp [results, Try.results14, go_sem, p0, p1, p2, p3, p4, p5, p6, p7, p8, p9, p10, p11]) rfl ⟨HBZ.out, .inl ⟨by rw [HE.out]; decide, by rw [HE.out]⟩⟩
      · have HE := Lib.hid (HEE.out ht hk)
        have hkb : (decide (1 ≤ (kd : Int)) && decide ((kd : Int) ≤ 7)) = true := by unfold KOk at hk; simp; omega
        clear hk
        go_wp2_with fail
        rw [← ew3, ← eFB]
        clear ew3 eFB
        refine (iskind_any kd w3).mono ?_
        rintro e w4 ⟨rfl, rfl⟩
        rw [hkb]
        go_wp2_with fail
        refine (read_any sp2 z cap2 d w3 (by omega) HCT.out HS3.out).mono ?_
        rintro e w4 ⟨g, rb, rfl, hr4, hg4, hrb4, hb4⟩
        have HR4 := Lib.hid (HR3.out.below hb4 HR3.out.lt)
        have HB4 := Lib.hid (HB3.out.trans (hb4.mono HB3.out.size))
        have HF4 : Hid (w4.heap[FB]? = some (.cells #[.int .i64 (kd : Int), .slice sp2 z cap2] 39 (0, 0))) := Lib.hid ((hb4.block FB hFl).trans HF3.out)
        have HS4 : Hid (RSt w4 g rb z d s00) := Lib.hid (.inl ⟨rfl, Nat.zero_le _, hr4⟩)
        have hgl4 := hr4.glt
        have hrl4 := hr4.lt
        have hw4 := hb4.size
        clear hr4 hb4 f0 f1 HR3 HB3 HS3 HF3
        go_wp2_with fail
        refine (take_any w4 g rb z d s00 HS4.out hgl4).mono ?_
        rintro e w5 ⟨lsp, lcap, dsp, dcap, rfl, hls5, hnl5, hcp5, hs5, hg5⟩
        have HR5 := Lib.hid (HR4.out.grown hg5 (by omega))
        have HB5 : Hid (Below w.heap.size w w5) := Lib.hid (HB4.out.grown hg5 HB4.out.size (fun q e => by injection e with e; have := HER.out; omega))
        have HF5 : Hid (w5.heap[FB]? = some (.cells #[.int .i64 (kd : Int), .slice sp2 z cap2] 39 (0, 0))) := Lib.hid ((hg5.block FB (by omega) (fun e => by injection e with e; omega)).trans HF4.out)
        have HS5 := Lib.hid hs5
        have HLS5 := Lib.hid hls5
        have HNL5 := Lib.hid hnl5
        have HCP5 := Lib.hid hcp5
        have hw5 := hg5.size
        clear hs5 hls5 hnl5 hcp5 hg5 HR4 HB4 HF4 HS4
        obtain ⟨m, em⟩ : ∃ m, m = tM d z s00 := ⟨_, rfl⟩
        obtain ⟨P, eP⟩ : ∃ P, P = tP d z s00 := ⟨_, rfl⟩
        obtain ⟨N, eN⟩ : ∃ N, N = tN d z s00 := ⟨_, rfl⟩
        obtain ⟨D, eD⟩ : ∃ D, D = tD d z s00 := ⟨_, rfl⟩
        obtain ⟨sF, eF⟩ : ∃ sF, sF = tF d z s00 := ⟨_, rfl⟩
        rw [← em] at HLS5 HNL5 HCP5 ⊢
        rw [← eP] at HLS5
        rw [← eN]
        rw [← eD] at HLS5 ⊢
        rw [← eF] at HS5 HE
        obtain ⟨dn, edn⟩ : ∃ dn, dn = D.n := ⟨_, rfl⟩
        rw [← edn] at HLS5 ⊢
        have HQM := Lib.hid em
        have HQP := Lib.hid eP
        have HQN := Lib.hid eN
        have HQD := Lib.hid eD
        clear em eP eN eD eF edn
        obtain ⟨w6, ew6⟩ : ∃ w6, w6 = w5.alloc (.cells (msL 0 N (.slice lsp m lcap) (.slice dsp dn dcap)).toArray 25) := ⟨_, rfl⟩
        have hb6 : Below w5.heap.size w5 w6 := by rw [ew6]; exact (Below.refl _ _).alloc (Nat.le_refl _) _
        have hM6 : MsC w6 w5.heap.size 0 N (.slice lsp m lcap) (.slice dsp dn dcap) := by rw [ew6]; exact heap_alloc_new w5 _
        have HM6 := Lib.hid hM6
        have HR6 := Lib.hid (HR5.out.below hb6 HR5.out.lt)
        have HB6 := Lib.hid (HB5.out.trans (hb6.mono HB5.out.size))
        have HF6 : Hid (w6.heap[FB]? = some (.cells #[.int .i64 (kd : Int), .slice sp2 z cap2] 39 (0, 0))) := Lib.hid ((hb6.block FB (by omega)).trans HF5.out)
        have HS6 := Lib.hid (HS5.out.below hb6)
        have HA6 : Hid (Below w5.heap.size w5 w6) := Lib.hid hb6
        clear hb6 hM6 HR5 HB5 HF5 HS5
        obtain ⟨M, eM⟩ : ∃ M, M = w5.heap.size := ⟨_, rfl⟩
        rw [← eM] at HM6
        have hMM : M ≠ R ∧ M ≠ FB ∧ M ≠ rb ∧ w.heap.size ≤ M := by have := HER.out; have := HB6.out.size; omega
        obtain ⟨hMR, hMF, hMr, hwM⟩ := hMM
        have HMW0 : Hid (w5.heap.size ≤ M ∧ R < w4.heap.size ∧ w4.heap.size ≤ w5.heap.size) := Lib.hid (by omega)
        go_wp2_with fail
        rw [← ew6, ← eM]
        clear ew6 eM
        refine (end_s w6 g rb z d sF HS6.out).mono ?_
        rintro e w7 ⟨rfl, qq, rfl⟩
        have HR7 : Hid (MsC (w6.drewN qq) R 0 zN nilV nilV) := Lib.hid HR6.out
        have HM7 : Hid (MsC (w6.drewN qq) M 0 N (.slice lsp m lcap) (.slice dsp dn dcap)) := Lib.hid HM6.out
        have HB7 : Hid (Below w.heap.size w (w6.drewN qq)) := Lib.hid ⟨HB6.out.os, HB6.out.tape, HB6.out.output, HB6.out.size, HB6.out.block⟩
        have HF7 : Hid ((w6.drewN qq).heap[FB]? = some (.cells #[.int .i64 (kd : Int), .slice sp2 z cap2] 39 (0, 0))) := Lib.hid HF6.out
        have HA7 : Hid (Below w5.heap.size w5 (w6.drewN qq)) := Lib.hid ⟨HA6.out.os, HA6.out.tape, HA6.out.output, HA6.out.size, HA6.out.block⟩
        have HMw : Hid (w5.heap.size ≤ M ∧ R < w4.heap.size ∧ w4.heap.size ≤ w5.heap.size) := Lib.hid HMW0.out
        clear HR6 HM6 HB6 HF6 HS6 HA6 HMW0
        generalize w6.drewN qq = w7 at *
        generalize eE d z sF = er at *
        rcases (Classical.em (er = 0)).symm with h0 | h0
        · have h01 : (er != 0) = true := by rw [bne_iff_ne]; exact h0
          obtain ⟨r0, r1, r2, r3, r4, r5, r6, r7, r8, r9, r10, r11⟩ := HR7.out.all
          have z0 := HR7.out.fz 0
          have z1 := HR7.out.fz 1
          have z2 := HR7.out.fz 2
          have z3 := HR7.out.fz 3
          have z4 := HR7.out.fz 4
          have z5 := HR7.out.fz 5
          have z6 := HR7.out.fz 6
          have z7 := HR7.out.fz 7
          have z8 := HR7.out.fz 8
          have z9 := HR7.out.fz 9
          have z10 := HR7.out.fz 10
          have z11 := HR7.out.fz 11
          go_wp2
          obtain ⟨W5, eW5⟩ : ∃ W5, W5 = ((((((((((((w7.setCell ⟨R, 0, none⟩ (.int .i64 0)).setCell ⟨R, 1, none⟩ (.int .i64 (zN 0))).setCell ⟨R, 2, none⟩ (.int .i64 (zN 1))).setCell ⟨R, 3, none⟩ (.int .i64 (zN 2))).setCell ⟨R, 4, none⟩ (.int .i64 (zN 3))).setCell ⟨R, 5, none⟩ (.int .i64 (zN 4))).setCell ⟨R, 6, none⟩ (.int .i64 (zN 5))).setCell ⟨R, 7, none⟩ (.int .i64 (zN 6))).setCell ⟨R, 8, none⟩ (.int .i64 (zN 7))).setCell ⟨R, 9, none⟩ (.int .i64 (zN 8))).setCell ⟨R, 10, none⟩ nilV).setCell ⟨R, 11, none⟩ nilV) := ⟨_, rfl⟩
          obtain ⟨h5, hg5⟩ := HR7.out.set12 0 zN nilV nilV eW5
          rw [← eW5]
          clear eW5 r0 r1 r2 r3 r4 r5 r6 r7 r8 r9 r10 r11 z0 z1 z2 z3 z4 z5 z6 z7 z8 z9 z10 z11
          obtain ⟨p0, p1, p2, p3, p4, p5, p6, p7, p8, p9, p10, p11⟩ := h5.all
          have HBZ : Hid (Below w.heap.size w W5) := Lib.hid (HB7.out.grown hg5 HB7.out.size (fun q e => by injection e with e; have := HER.out; omega))
          clear h5 hg5
          exact bodyPost_ret (v := .tuple #[.agg (msL 0 zN nilV nilV).toArray, .int .i64 er]) (by simp [results, Try.results14, go_sem, p0, p1, p2, p3, p4, p5, p6, p7, p8, p9, p10, p11]) rfl ⟨HBZ.out, .inl ⟨by rw [HE.out]; exact h0, by rw [HE.out]⟩⟩
        · subst h0
          have c0 := HM7.out.cell 0 rfl
          have y0 := HM7.out.fz 0
          obtain ⟨f0, f1⟩ := (Fr.zcells HF7.out).1
          have hgs : w7.grownBy (w7.setCell ⟨M, 0, none⟩ (.int .i64 (kd : Int))) (some M) := grown_setCell (grown_refl _ _) _ _
          have hM8 : MsC (w7.setCell ⟨M, 0, none⟩ (.int .i64 (kd : Int))) M (kd : Int) N (.slice lsp m lcap) (.slice dsp dn dcap) := by
            have h := HM7.out
            unfold MsC at h ⊢
            rw [heap_setCell_same _ M 0 _ 25 _ h]
            rfl
          have HM8 := Lib.hid hM8
          have HR8 := Lib.hid (HR7.out.grown hgs (fun e => hMR e.symm))
          have HB8 : Hid (Below w.heap.size w (w7.setCell ⟨M, 0, none⟩ (.int .i64 (kd : Int)))) := Lib.hid (HB7.out.grown hgs HB7.out.size (fun q e => by injection e with e; omega))
          have HA8 : Hid (Below w5.heap.size w5 (w7.setCell ⟨M, 0, none⟩ (.int .i64 (kd : Int)))) := Lib.hid (HA7.out.grown hgs HA7.out.size (fun q e => by injection e with e; have := HMw.out; omega))
          clear hgs hM8
          obtain ⟨r0, r1, r2, r3, r4, r5, r6, r7, r8, r9, r10, r11⟩ := HR8.out.all
          have z0 := HR8.out.fz 0
          have z1 := HR8.out.fz 1
          have z2 := HR8.out.fz 2
          have z3 := HR8.out.fz 3
          have z4 := HR8.out.fz 4
          have z5 := HR8.out.fz 5
          have z6 := HR8.out.fz 6
          have z7 := HR8.out.fz 7
          have z8 := HR8.out.fz 8
          have z9 := HR8.out.fz 9
          have z10 := HR8.out.fz 10
          have z11 := HR8.out.fz 11
          obtain ⟨a0, a1, a2, a3, a4, a5, a6, a7, a8, a9, a10, a11⟩ := HM8.out.all
          go_wp2
          obtain ⟨W5, eW5⟩ : ∃ W5, W5 = (((((((((((((w7.setCell ⟨M, 0, none⟩ (.int .i64 (kd : Int))).setCell ⟨R, 0, none⟩ (.int .i64 (kd : Int))).setCell ⟨R, 1, none⟩ (.int .i64 (N 0))).setCell ⟨R, 2, none⟩ (.int .i64 (N 1))).setCell ⟨R, 3, none⟩ (.int .i64 (N 2))).setCell ⟨R, 4, none⟩ (.int .i64 (N 3))).setCell ⟨R, 5, none⟩ (.int .i64 (N 4))).setCell ⟨R, 6, none⟩ (.int .i64 (N 5))).setCell ⟨R, 7, none⟩ (.int .i64 (N 6))).setCell ⟨R, 8, none⟩ (.int .i64 (N 7))).setCell ⟨R, 9, none⟩ (.int .i64 (N 8))).setCell ⟨R, 10, none⟩ (.slice lsp m lcap)).setCell ⟨R, 11, none⟩ (.slice dsp dn dcap)) := ⟨_, rfl⟩
          obtain ⟨h5, hg5⟩ := HR8.out.set12 (kd : Int) N (.slice lsp m lcap) (.slice dsp dn dcap) eW5
          rw [← eW5]
          clear a0 a1 a2 a3 a4 a5 a6 a7 a8 a9 a10 a11 eW5 r0 r1 r2 r3 r4 r5 r6 r7 r8 r9 r10 r11 z0 z1 z2 z3 z4 z5 z6 z7 z8 z9 z10 z11 c0 y0 f0 f1
          obtain ⟨p0, p1, p2, p3, p4, p5, p6, p7, p8, p9, p10, p11⟩ := h5.all
          have HAB : Hid (Abv w4.heap.size w5 W5) := Lib.hid ⟨Nat.le_trans HA8.out.size hg5.size, fun k hk hl => (hg5.block k (Nat.lt_of_lt_of_le hl HA8.out.size) (fun e => by injection e with e; have := HMw.out; omega)).trans (HA8.out.block k hl)⟩
          have HBZ : Hid (Below w.heap.size w W5) := Lib.hid (HB8.out.grown hg5 HB8.out.size (fun q e => by injection e with e; have := HER.out; omega))
          have HLW := Lib.hid (HLS5.out W5 HAB.out)
          clear h5 hg5
          refine bodyPost_ret (v := .tuple #[.agg (msL (kd : Int) N (.slice lsp m lcap) (.slice dsp dn dcap)).toArray, .int .i64 0]) (by simp [results, Try.results14, go_sem, p0, p1, p2, p3, p4, p5, p6, p7, p8, p9, p10, p11]) rfl ⟨HBZ.out, .inr ⟨HE.out, ?_⟩⟩
          unfold DecG
          rw [← HZ.out, ← HDD.out, ← HKD.out, ← HQM.out, ← HQN.out, ← HQP.out, ← HQD.out]
          exact ⟨lsp, lcap, .slice dsp dn dcap, rfl, HLW.out.1, HNL5.out, HCP5.out, HLW.out.2⟩
end Go.Proofs.Ytccpfoimedjdgaa

