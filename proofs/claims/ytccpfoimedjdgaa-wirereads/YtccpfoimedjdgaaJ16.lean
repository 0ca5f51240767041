/-
  The reference's Read.
-/
import Derived.Test.YtccpfoimedjdgaaJ14
import Derived.IntWalk
import Derived.Deep.CutRange
import Derived.Deep.CutBlock

namespace Go.Proofs.Ytccpfoimedjdgaa
open Go.ChangeShapes Go.WideShapes Go.ChangeAt Go.RowKit

theorem rowB_same {f g : Nat → Nat} {n : Nat} (h : ∀ j, j < n → f j = g j) : rowB f n = rowB g n := by
  unfold rowB
  refine List.map_congr_left fun j hj => ?_
  rw [List.mem_range] at hj
  rw [h j hj]
theorem EnT.same {w : World} {B : Nat} {u : Value} {b b' : Bs} (h : EnT w B u b) (hs : SameB b b') : EnT w B u b' := by
  obtain ⟨q, cap, e, h⟩ := h
  obtain ⟨h1, h2⟩ := hs
  refine ⟨q, cap, by rw [← h1]; exact e, ?_⟩
  rw [← h1, ← rowB_same h2]
  exact h
theorem BS.cut {w : World} {q o o' L a : Nat} {f : Nat → Nat} (h : BS w q o L a f) (l : Nat) (_hl : l ≤ L) (ho : l < L → o' = o + l) : BS w q o' (L - l) (a + l) f := by
  refine ⟨h.lt, fun j hj => ?_⟩
  rw [ho (by omega), show o + l + j = o + (l + j) by omega, show a + l + j = a + (l + j) by omega]
  exact h.cb (l + j) (by omega)
/-- behind j entries -/
def RkS (w wr : World) (q n : Nat) (cq : Array Value) (R M : Nat) (N : Nat → Int) (m j a o : Nat) (s : PS) (P : Nat → Bs) (D : Bs) : Prop :=
  (a < 8 * n → o = a) ∧ s = ⟨0, a⟩ ∧ wr.heap[q]? = some (.cells cq 5 (0, 0)) ∧ RmC wr R zN nilV nilV ∧ Below w.heap.size w wr ∧ ∃ lv dv, RmC wr M N lv dv ∧ LiT wr w.heap.size lv (min j m) P ∧ (j ≤ m → dv = nilV) ∧ (m < j → EnT wr w.heap.size dv D)
def RdG (f : Nat → Nat) (n : Nat) (w' : World) (sp : Option Addr) (cap : Nat) (dv : Value) : Prop :=
  ∃ P D, LsS w' sp (tM f n s00) P ∧ (∀ i, i < tM f n s00 → SameB (P i) (tP f n s00 i)) ∧ BsS w' dv D ∧ SameB D (tD f n s00) ∧ (sp = none → tM f n s00 = 0 ∧ cap = 0) ∧ tM f n s00 ≤ cap
def RdP (f : Nat → Nat) (n : Nat) (w : World) (e : Ending) (w' : World) : Prop :=
  Below w.heap.size w w' ∧ ((¬ eE f n (tF f n s00) = 0 ∧ e = .returned (.tuple #[rmV zN nilV nilV, .int .i64 (eE f n (tF f n s00))])) ∨
    (eE f n (tF f n s00) = 0 ∧ ∃ sp cap dv, e = .returned (.tuple #[rmV (tN f n s00) (.slice sp (tM f n s00) cap) dv, .int .i64 0]) ∧ RdG f n w' sp cap dv))

set_option maxRecDepth 100000 in
set_option maxHeartbeats 8000000 in
theorem rread_any (sp : Option Addr) (n cap : Nat) (f : Nat → Nat) (w : World) (hn : n ≤ 100000) (hf : ∀ j, f j < 256) (hs : Src w sp n f) : Calls Try.prog 16 #[.slice sp n cap] w (RdP f n w) := by
  obtain ⟨i0, hi, hz0, hz1, hz2⟩ := info_parts info23
  have HS := Lib.hid hs
  have HF := Lib.hid hf
  clear hs hf
  have HN : Hid (∀ t, tN f n s00 t = ((uV f n 1099511627776 (nmS f n s00 t) : Nat) : Int)) := Lib.hid fun _ => rfl
  have HX : Hid (∀ t, nmS f n s00 (t + 1) = uS f n 1099511627776 1 (nmS f n s00 t)) := Lib.hid fun _ => rfl
  have HX0 : Hid (nmS f n s00 0 = ⟨0, 0⟩) := Lib.hid rfl
  have HM : Hid (tM f n s00 = uV f n 2000 (nmS f n s00 9)) := Lib.hid rfl
  have HI0 : Hid (itS f n (tI f n s00) 0 = uS f n 2000 4 (nmS f n s00 9)) := Lib.hid rfl
  have HI : Hid (∀ j, itS f n (tI f n s00) (j + 1) = tS f n (itS f n (tI f n s00) j)) := Lib.hid fun _ => rfl
  have HP : Hid (∀ j, tP f n s00 j = tB f n (itS f n (tI f n s00) j)) := Lib.hid fun _ => rfl
  have HDD : Hid (tD f n s00 = tB f n (itS f n (tI f n s00) (tM f n s00))) := Lib.hid rfl
  have HPD : Hid (tD f n s00 = tP f n s00 (tM f n s00)) := Lib.hid rfl
  have HNM : Hid (∀ t, t ≤ 9 → ¬ (nmS f n s00 t).e = 0 → eE f n (tF f n s00) = (nmS f n s00 t).e) := Lib.hid fun t ht h => eE_nm ht h
  have HIT : Hid (∀ j, j ≤ tM f n s00 + 1 → ¬ (itS f n (tI f n s00) j).e = 0 → eE f n (tF f n s00) = (itS f n (tI f n s00) j).e) := Lib.hid fun j hj h => eE_it hj h
  have HFI : Hid (tF f n s00 = itS f n (tI f n s00) (tM f n s00 + 1)) := Lib.hid (tF_it f n s00)
  have hm2 : tM f n s00 ≤ 2000 := uV_le f n 2000 _
  unfold RdP RdG
  generalize tN f n s00 = N at *
  generalize tP f n s00 = P at *
  generalize tD f n s00 = D at *
  generalize tF f n s00 = sF at *
  generalize tM f n s00 = m at *
  generalize itS f n (tI f n s00) = ι at *
  generalize nmS f n s00 = σ at *
  obtain ⟨w0, ew0⟩ : ∃ w0, w0 = w.alloc (.cells (rmL zN nilV nilV).toArray 35) := ⟨_, rfl⟩
  have hR0 : RmC w0 w.heap.size zN nilV nilV := by rw [ew0]; exact heap_alloc_new w _
  have HB0 : Hid (Below w.heap.size w w0) := Lib.hid (by rw [ew0]; exact (Below.refl _ _).alloc (Nat.le_refl _) _)
  have HR0 := Lib.hid hR0
  clear hR0
  obtain ⟨R, eR⟩ : ∃ R, R = w.heap.size := ⟨_, rfl⟩
  rw [← eR] at HR0
  go_enter Try.func16, Try.ntmps16
  go_wp2_with fail
  rw [← ew0, ← eR]
  have HER := Lib.hid eR
  clear ew0 eR
  refine (rbits_any sp n cap f w0 (by omega) HF.out (HS.out.below HB0.out)).mono ?_
  rintro e w1 ⟨q, cpq, rfl, hq, hown, hb1⟩
  obtain ⟨cq, hcq, hrst⟩ := rst_of hown
  have hcpq : 8 * n ≤ cpq := own_cap' hown
  have HRS := Lib.hid hrst
  have HR1 := Lib.hid (HR0.out.below hb1 HR0.out.lt)
  have HB1 := Lib.hid (HB0.out.trans (hb1.mono HB0.out.size))
  have hRq : R < q := Nat.lt_of_lt_of_le HR0.out.lt hq
  clear hown hb1 hq hrst HR0 HB0
  obtain ⟨w2, ew2⟩ : ∃ w2, w2 = w1.alloc (.cells (rmL zN nilV nilV).toArray 35) := ⟨_, rfl⟩
  have hb2 : Below w1.heap.size w1 w2 := by rw [ew2]; exact (Below.refl _ _).alloc (Nat.le_refl _) _
  have hM2 : RmC w2 w1.heap.size (preN N 0) nilV nilV := by rw [ew2]; exact heap_alloc_new w1 _
  have HQ2 : Hid (w2.heap[q]? = some (.cells cq 5 (0, 0))) := Lib.hid ((hb2.block q (EnS.lt hcq)).trans hcq)
  have HR2 := Lib.hid (HR1.out.below hb2 HR1.out.lt)
  have HB2 := Lib.hid (HB1.out.trans (hb2.mono HB1.out.size))
  have HM2 := Lib.hid hM2
  have hql := EnS.lt hcq
  obtain ⟨M, eM⟩ : ∃ M, M = w1.heap.size := ⟨_, rfl⟩
  rw [← eM] at HM2
  have hMM : M ≠ R ∧ M ≠ q ∧ w.heap.size ≤ M := by have := HER.out; have := HB1.out.size; omega
  obtain ⟨hMR, hMq, hwM⟩ := hMM
  clear hb2 hM2 HR1 HB1 hcq
  go_wp2_with fail
  rw [← ew2, ← eM]
  clear ew2 eM hql
  go_loopw [4, 23] (fun r x wr => ∃ t a o cp : Nat, t ≤ 9 ∧ x = .int .i64 (t : Int) ∧ r = .slice (some ⟨q, o, none⟩) (8 * n - a) cp ∧ 8 * n - a ≤ cp ∧ a ≤ 8 * n ∧ Hid ((a < 8 * n → o = a) ∧ σ t = ⟨0, a⟩ ∧ wr.heap[q]? = some (.cells cq 5 (0, 0)) ∧ RmC wr M (preN N t) nilV nilV ∧ RmC wr R zN nilV nilV ∧ Below w.heap.size w wr)) (fun _ x _ => 9 - (intOf x).toNat)
  case atStart => exact ⟨0, 0, 0, cpq, Nat.zero_le _, rfl, rfl, hcpq, Nat.zero_le _, Lib.hid ⟨fun _ => rfl, HX0.out, HQ2.out, HM2.out, HR2.out, HB2.out⟩⟩
  case round =>
    obtain ⟨t, a, o, cp, ht, rfl, rfl, hcp, han, HT⟩ := hrel
    obtain ⟨ho, hσ, hQ, hM, hR, hB⟩ := HT.out
    have HO := Lib.hid ho
    have HSG := Lib.hid hσ
    have HQ := Lib.hid hQ
    have HMM := Lib.hid hM
    have HRR := Lib.hid hR
    have HBB := Lib.hid hB
    clear ho hσ hQ hM hR hB HT HQ2 HM2 HR2 HB2
    have hbs : BS wr q o (8 * n - a) a f := HRS.out wr a o HQ.out han HO.out
    obtain ⟨L, eL⟩ : ∃ L, L = 8 * n - a := ⟨_, rfl⟩
    rw [← eL] at hbs hcp ⊢
    have hLa : a + L = 8 * n := by omega
    clear eL
    by_cases hlt : t < 9
    · have hlt' : (t : Int) < 9 := by omega
      go_wp2_with fail
      refine (rnum_s q o L cp n a f wr hbs hcp hLa).mono ?_
      rintro e w' ⟨rfl, ⟨x, hx, rfl⟩ | ⟨er, her, her0, rfl⟩⟩
      · have hl2 := hx.2.2
        have HXX := Lib.hid hx
        obtain ⟨l, el⟩ : ∃ l, l = (numL x).length := ⟨_, rfl⟩
        have HLL := Lib.hid el
        rw [← el] at hl2 ⊢
        clear hx el hbs
        by_cases hx4 : 1099511627776 < x
        · obtain ⟨X, eX⟩ : ∃ X : Int, X = (x : Int) := ⟨_, rfl⟩
          have hX4 : (1099511627776 : Int) < X := by omega
          have HE : Hid (eE f n sF = 1) := Lib.hid (by
            have h1 : σ (t + 1) = ⟨1, 0⟩ := by rw [HX.out, HSG.out]; exact (uS_big HXX.out hx4).1
            rw [HNM.out (t + 1) (by omega) (by rw [h1]; decide), h1])
          rw [← eX]
          clear eX hx4 HXX
          obtain ⟨r0, r1, r2, r3, r4, r5, r6, r7, r8, r9, r10⟩ := HRR.out.all
          have z0 := HRR.out.fz 0
          have z1 := HRR.out.fz 1
          have z2 := HRR.out.fz 2
          have z3 := HRR.out.fz 3
          have z4 := HRR.out.fz 4
          have z5 := HRR.out.fz 5
          have z6 := HRR.out.fz 6
          have z7 := HRR.out.fz 7
          have z8 := HRR.out.fz 8
          have z9 := HRR.out.fz 9
          have z10 := HRR.out.fz 10
          go_wp2
          obtain ⟨W5, eW5⟩ : ∃ W5, W5 = (((((((((((wr.setCell ⟨R, 0, none⟩ (.int .i64 (zN 0))).setCell ⟨R, 1, none⟩ (.int .i64 (zN 1))).setCell ⟨R, 2, none⟩ (.int .i64 (zN 2))).setCell ⟨R, 3, none⟩ (.int .i64 (zN 3))).setCell ⟨R, 4, none⟩ (.int .i64 (zN 4))).setCell ⟨R, 5, none⟩ (.int .i64 (zN 5))).setCell ⟨R, 6, none⟩ (.int .i64 (zN 6))).setCell ⟨R, 7, none⟩ (.int .i64 (zN 7))).setCell ⟨R, 8, none⟩ (.int .i64 (zN 8))).setCell ⟨R, 9, none⟩ nilV).setCell ⟨R, 10, none⟩ nilV) := ⟨_, rfl⟩
          obtain ⟨h5, hg5⟩ := HRR.out.set11 zN nilV nilV eW5
          rw [← eW5]
          clear eW5 r0 r1 r2 r3 r4 r5 r6 r7 r8 r9 r10 z0 z1 z2 z3 z4 z5 z6 z7 z8 z9 z10
          obtain ⟨p0, p1, p2, p3, p4, p5, p6, p7, p8, p9, p10⟩ := h5.all
          have HBZ : Hid (Below w.heap.size w W5) := Lib.hid (HBB.out.grown hg5 HBB.out.size (fun q e => by injection e with e; have := HER.out; omega))
          clear h5 hg5
          exact bodyPost_ret (v := .tuple #[rmV zN nilV nilV, .int .i64 1]) (by simp [results, Try.results16, go_sem, p0, p1, p2, p3, p4, p5, p6, p7, p8, p9, p10]) rfl ⟨HBZ.out, .inl ⟨by rw [HE.out]; decide, by rw [HE.out]⟩⟩
        · have hX4 : ¬ (1099511627776 : Int) < (x : Int) := by omega
          have hx5 : x ≤ 1099511627776 := by omega
          have HS1 : Hid (σ (t + 1) = ⟨0, a + l⟩ ∧ N t = (x : Int)) := Lib.hid (by
            obtain ⟨e1, e2⟩ := uS_at (er := 1) HXX.out hx5
            exact ⟨by rw [HX.out, HSG.out, e2, HLL.out], by rw [HN.out, HSG.out, e1]⟩)
          have c0 := HMM.out.num t hlt
          have y0 := HMM.out.fz t
          have hgs : wr.grownBy (wr.setCell ⟨M, t, none⟩ (.int .i64 (x : Int))) (some M) := grown_setCell (grown_refl _ _) _ _
          have HK : Hid (Kp 35 wr (wr.setCell ⟨M, t, none⟩ (.int .i64 (x : Int)))) := Lib.hid (Kp.set HMM.out _)
          have HM3 : Hid (RmC (wr.setCell ⟨M, t, none⟩ (.int .i64 (x : Int))) M (preN N (t + 1)) nilV nilV) := Lib.hid (by rw [← HS1.out.2]; exact HMM.out.store hlt)
          have HR3 : Hid (RmC (wr.setCell ⟨M, t, none⟩ (.int .i64 (x : Int))) R zN nilV nilV) := Lib.hid ((hgs.block R HRR.out.lt (fun e => by injection e with e; exact hMR e.symm)).trans HRR.out)
          have HQ3 : Hid ((wr.setCell ⟨M, t, none⟩ (.int .i64 (x : Int))).heap[q]? = some (.cells cq 5 (0, 0))) := Lib.hid (HK.out _ _ _ HQ.out (by decide))
          have HB3 : Hid (Below w.heap.size w (wr.setCell ⟨M, t, none⟩ (.int .i64 (x : Int)))) := Lib.hid (HBB.out.setCell hwM _)
          clear hgs HXX HLL hx4
          have hll : l ≤ L := by omega
          by_cases hcl : cp = l
          · have hLl : L = l := by omega
            go_wp2
            go_roundw
            case rel => exact ⟨t + 1, a + l, o, 0, by omega, by go_num, by go_num, by omega, by omega, Lib.hid ⟨fun h => by omega, HS1.out.1, HQ3.out, HM3.out, HR3.out, HB3.out⟩⟩
            case measure => simp [intOf]; omega
          · go_wp2
            go_roundw
            case rel => exact ⟨t + 1, a + l, o + l, cp - l, by omega, by go_num, by go_num, by omega, by omega, Lib.hid ⟨fun h => by have := HO.out (by omega); omega, HS1.out.1, HQ3.out, HM3.out, HR3.out, HB3.out⟩⟩
            case measure => simp [intOf]; omega
      · have HE : Hid (eE f n sF = er) := Lib.hid (by
          have h1 : σ (t + 1) = ⟨er, 0⟩ := by rw [HX.out, HSG.out]; exact (uS_err her).1
          rw [HNM.out (t + 1) (by omega) (by rw [h1]; exact her0), h1])
        have her1 : (er != 0) = true := by rw [bne_iff_ne]; exact her0
        clear her hbs
        obtain ⟨r0, r1, r2, r3, r4, r5, r6, r7, r8, r9, r10⟩ := HRR.out.all
        have z0 := HRR.out.fz 0
        have z1 := HRR.out.fz 1
        have z2 := HRR.out.fz 2
        have z3 := HRR.out.fz 3
        have z4 := HRR.out.fz 4
        have z5 := HRR.out.fz 5
        have z6 := HRR.out.fz 6
        have z7 := HRR.out.fz 7
        have z8 := HRR.out.fz 8
        have z9 := HRR.out.fz 9
        have z10 := HRR.out.fz 10
        go_wp2
        obtain ⟨W5, eW5⟩ : ∃ W5, W5 = (((((((((((wr.setCell ⟨R, 0, none⟩ (.int .i64 (zN 0))).setCell ⟨R, 1, none⟩ (.int .i64 (zN 1))).setCell ⟨R, 2, none⟩ (.int .i64 (zN 2))).setCell ⟨R, 3, none⟩ (.int .i64 (zN 3))).setCell ⟨R, 4, none⟩ (.int .i64 (zN 4))).setCell ⟨R, 5, none⟩ (.int .i64 (zN 5))).setCell ⟨R, 6, none⟩ (.int .i64 (zN 6))).setCell ⟨R, 7, none⟩ (.int .i64 (zN 7))).setCell ⟨R, 8, none⟩ (.int .i64 (zN 8))).setCell ⟨R, 9, none⟩ nilV).setCell ⟨R, 10, none⟩ nilV) := ⟨_, rfl⟩
        obtain ⟨h5, hg5⟩ := HRR.out.set11 zN nilV nilV eW5
        rw [← eW5]
        clear eW5 r0 r1 r2 r3 r4 r5 r6 r7 r8 r9 r10 z0 z1 z2 z3 z4 z5 z6 z7 z8 z9 z10
        obtain ⟨p0, p1, p2, p3, p4, p5, p6, p7, p8, p9, p10⟩ := h5.all
        have HBZ : Hid (Below w.heap.size w W5) := Lib.hid (HBB.out.grown hg5 HBB.out.size (fun q e => by injection e with e; have := HER.out; omega))
        clear h5 hg5
        exact bodyPost_ret (v := .tuple #[rmV zN nilV nilV, .int .i64 er]) (by simp [results, Try.results16, go_sem, p0, p1, p2, p3, p4, p5, p6, p7, p8, p9, p10]) rfl ⟨HBZ.out, .inl ⟨by rw [HE.out]; exact her0, by rw [HE.out]⟩⟩
    · obtain rfl : t = 9 := by omega
      have hmx : ∀ X : Nat, AtN f n a X → X ≤ 2000 → m = X ∧ ι 0 = ⟨0, a + (numL X).length⟩ := fun X hX hX2 => by
        obtain ⟨e1, e2⟩ := uS_at (er := 4) hX hX2
        exact ⟨by rw [HM.out, HSG.out, e1], by rw [HI0.out, HSG.out, e2]⟩
      have HMX := Lib.hid hmx
      have HM9 : Hid (RmC wr M N nilV nilV) := HMM
      clear hmx HMM
      go_wp2_with fail
      refine (rnum_s q o L cp n a f wr hbs hcp hLa).mono ?_
      rintro e w' ⟨rfl, ⟨x, hx, rfl⟩ | ⟨er, her, her0, rfl⟩⟩
      · have hl2 := hx.2.2
        have HXX := Lib.hid hx
        obtain ⟨l, el⟩ : ∃ l, l = (numL x).length := ⟨_, rfl⟩
        have HLL := Lib.hid el
        rw [← el] at hl2 ⊢
        clear hx el hbs
        by_cases hx4 : 2000 < x
        · obtain ⟨X, eX⟩ : ∃ X : Int, X = (x : Int) := ⟨_, rfl⟩
          have hX4 : (2000 : Int) < X := by omega
          have HE : Hid (eE f n sF = 4) := Lib.hid (by
            have h1 : ι 0 = ⟨4, 0⟩ := by rw [HI0.out, HSG.out]; exact (uS_big HXX.out hx4).1
            rw [HIT.out 0 (Nat.zero_le _) (by rw [h1]; decide), h1])
          rw [← eX]
          clear eX hx4 HXX
          obtain ⟨r0, r1, r2, r3, r4, r5, r6, r7, r8, r9, r10⟩ := HRR.out.all
          have z0 := HRR.out.fz 0
          have z1 := HRR.out.fz 1
          have z2 := HRR.out.fz 2
          have z3 := HRR.out.fz 3
          have z4 := HRR.out.fz 4
          have z5 := HRR.out.fz 5
          have z6 := HRR.out.fz 6
          have z7 := HRR.out.fz 7
          have z8 := HRR.out.fz 8
          have z9 := HRR.out.fz 9
          have z10 := HRR.out.fz 10
          go_wp2
          obtain ⟨W5, eW5⟩ : ∃ W5, W5 = (((((((((((wr.setCell ⟨R, 0, none⟩ (.int .i64 (zN 0))).setCell ⟨R, 1, none⟩ (.int .i64 (zN 1))).setCell ⟨R, 2, none⟩ (.int .i64 (zN 2))).setCell ⟨R, 3, none⟩ (.int .i64 (zN 3))).setCell ⟨R, 4, none⟩ (.int .i64 (zN 4))).setCell ⟨R, 5, none⟩ (.int .i64 (zN 5))).setCell ⟨R, 6, none⟩ (.int .i64 (zN 6))).setCell ⟨R, 7, none⟩ (.int .i64 (zN 7))).setCell ⟨R, 8, none⟩ (.int .i64 (zN 8))).setCell ⟨R, 9, none⟩ nilV).setCell ⟨R, 10, none⟩ nilV) := ⟨_, rfl⟩
          obtain ⟨h5, hg5⟩ := HRR.out.set11 zN nilV nilV eW5
          rw [← eW5]
          clear eW5 r0 r1 r2 r3 r4 r5 r6 r7 r8 r9 r10 z0 z1 z2 z3 z4 z5 z6 z7 z8 z9 z10
          obtain ⟨p0, p1, p2, p3, p4, p5, p6, p7, p8, p9, p10⟩ := h5.all
          have HBZ : Hid (Below w.heap.size w W5) := Lib.hid (HBB.out.grown hg5 HBB.out.size (fun q e => by injection e with e; have := HER.out; omega))
          clear h5 hg5
          exact bodyPost_ret (v := .tuple #[rmV zN nilV nilV, .int .i64 4]) (by simp [results, Try.results16, go_sem, p0, p1, p2, p3, p4, p5, p6, p7, p8, p9, p10]) rfl ⟨HBZ.out, .inl ⟨by rw [HE.out]; decide, by rw [HE.out]⟩⟩
        · have hX4 : ¬ (2000 : Int) < (x : Int) := by omega
          have hx5 : x ≤ 2000 := by omega
          obtain ⟨hmx, hI0⟩ := HMX.out x HXX.out hx5
          subst hmx
          rw [← HLL.out] at hI0
          have HK0 : Hid (∀ o2 : Nat, (a + l < 8 * n → o2 = o + l) → RkS w wr q n cq R M N m 0 (a + l) o2 (ι 0) P D) := Lib.hid fun o2 ho2 => ⟨fun h => by have := HO.out (by omega); have := ho2 h; omega, hI0, HQ.out, HRR.out, HBB.out, nilV, nilV, HM9.out, by rw [Nat.zero_min]; exact LiT.nil _ _ _, fun _ => rfl, fun h => absurd h (Nat.not_lt_zero _)⟩
          clear HXX HLL hx4 HMX hI0 HM9 HRR HQ HSG HX HX0 HNM HN
          have hll : l ≤ L := by omega
          go_upto_region 19 with (fail)
          go_cut [4] from 20 (fun r wc => ∃ o2 cp2 : Nat, r = .slice (some ⟨q, o2, none⟩) (L - l) cp2 ∧ L - l ≤ cp2 ∧ wr = wc ∧ Hid (l < L → o2 = o + l))
          case first =>
            by_cases hcl : cp = l
            · have hLl : L = l := by omega
              go_wp2
              go_meet
              exact ⟨o, 0, by go_num, by omega, rfl, Lib.hid (fun h => by omega)⟩
            · go_wp2
              go_meet
              exact ⟨o + l, cp - l, by go_num, by omega, rfl, Lib.hid (fun _ => rfl)⟩
          case rest =>
            obtain ⟨o2, cp2, rfl, hcp2, rfl, HO2⟩ := hcut
            have HR0 := Lib.hid (HK0.out o2 (fun h => HO2.out (by omega)))
            have ha1 : a + l + (L - l) = 8 * n := by omega
            obtain ⟨a1, ea1⟩ : ∃ a1, a1 = a + l := ⟨_, rfl⟩
            obtain ⟨L1, eL1⟩ : ∃ L1, L1 = L - l := ⟨_, rfl⟩
            rw [← ea1] at HR0 ha1
            rw [← eL1] at ha1 hcp2 ⊢
            clear HK0 HO2 ea1 eL1 hll hl2 hLa hcp han HO
            go_wp2_with fail
            go_loopw [4, 13] (fun r x wr => ∃ j a o L cp : Nat, j ≤ m + 1 ∧ x = .int .u64 (j : Int) ∧ r = .slice (some ⟨q, o, none⟩) L cp ∧ L ≤ cp ∧ a + L = 8 * n ∧ Hid (RkS w wr q n cq R M N m j a o (ι j) P D)) (fun _ x _ => m + 1 - (intOf x).toNat)
            case atStart => exact ⟨0, a1, o2, L1, cp2, Nat.zero_le _, rfl, rfl, hcp2, ha1, HR0⟩
            case round =>
              obtain ⟨j, a, o, L, cp, hj, rfl, rfl, hcp, hLa, HT⟩ := hrel
              obtain ⟨ho, hσ, hQ, hR, hB, lv, dv, hM, hli, hd0, hd1⟩ := HT.out
              have HO := Lib.hid ho
              have HSG := Lib.hid hσ
              have HQ := Lib.hid hQ
              have HMM := Lib.hid hM
              have HRR := Lib.hid hR
              have HBB := Lib.hid hB
              have HLI := Lib.hid hli
              have HD0 := Lib.hid hd0
              have HD1 := Lib.hid hd1
              have hLe : L = 8 * n - a := by omega
              have hbs : BS wr q o L a f := by rw [hLe]; exact HRS.out wr a o hQ (by omega) ho
              clear ho hσ hQ hM hR hB HT HR0 hli hd0 hd1 hLe
              by_cases hjm : j ≤ m
              · have hjm' : (j : Int) ≤ (m : Int) := by omega
                have HNX := Lib.hid (HI.out j)
                have HITJ : Hid (¬ (ι (j + 1)).e = 0 → eE f n sF = (ι (j + 1)).e) := Lib.hid (HIT.out (j + 1) (by omega))
                have HBS := Lib.hid hbs
                go_wp2_with fail
                refine (rnum_s q o L cp n a f wr hbs hcp hLa).mono ?_
                rintro e w' ⟨rfl, ⟨x, hx, rfl⟩ | ⟨er, her, her0, rfl⟩⟩
                · have hl2 := hx.2.2
                  have HXX := Lib.hid hx
                  obtain ⟨l, el⟩ : ∃ l, l = (numL x).length := ⟨_, rfl⟩
                  have HLL := Lib.hid el
                  rw [← el] at hl2 ⊢
                  clear hx el hbs
                  by_cases hx4 : 4000 < x
                  · obtain ⟨X, eX⟩ : ∃ X : Int, X = (x : Int) := ⟨_, rfl⟩
                    have hX4 : (4000 : Int) < X := by omega
                    have HE : Hid (eE f n sF = 3) := Lib.hid (by
                      have h1 : (ι (j + 1)).e = 3 := by rw [HNX.out, HSG.out]; exact tS_big HXX.out hx4
                      rw [HITJ.out (by rw [h1]; decide), h1])
                    rw [← eX]
                    clear eX hx4 HXX
                    obtain ⟨r0, r1, r2, r3, r4, r5, r6, r7, r8, r9, r10⟩ := HRR.out.all
                    have z0 := HRR.out.fz 0
                    have z1 := HRR.out.fz 1
                    have z2 := HRR.out.fz 2
                    have z3 := HRR.out.fz 3
                    have z4 := HRR.out.fz 4
                    have z5 := HRR.out.fz 5
                    have z6 := HRR.out.fz 6
                    have z7 := HRR.out.fz 7
                    have z8 := HRR.out.fz 8
                    have z9 := HRR.out.fz 9
                    have z10 := HRR.out.fz 10
                    go_wp2
                    obtain ⟨W5, eW5⟩ : ∃ W5, W5 = (((((((((((wr.setCell ⟨R, 0, none⟩ (.int .i64 (zN 0))).setCell ⟨R, 1, none⟩ (.int .i64 (zN 1))).setCell ⟨R, 2, none⟩ (.int .i64 (zN 2))).setCell ⟨R, 3, none⟩ (.int .i64 (zN 3))).setCell ⟨R, 4, none⟩ (.int .i64 (zN 4))).setCell ⟨R, 5, none⟩ (.int .i64 (zN 5))).setCell ⟨R, 6, none⟩ (.int .i64 (zN 6))).setCell ⟨R, 7, none⟩ (.int .i64 (zN 7))).setCell ⟨R, 8, none⟩ (.int .i64 (zN 8))).setCell ⟨R, 9, none⟩ nilV).setCell ⟨R, 10, none⟩ nilV) := ⟨_, rfl⟩
                    obtain ⟨h5, hg5⟩ := HRR.out.set11 zN nilV nilV eW5
                    rw [← eW5]
                    clear eW5 r0 r1 r2 r3 r4 r5 r6 r7 r8 r9 r10 z0 z1 z2 z3 z4 z5 z6 z7 z8 z9 z10
                    obtain ⟨p0, p1, p2, p3, p4, p5, p6, p7, p8, p9, p10⟩ := h5.all
                    have HBZ : Hid (Below w.heap.size w W5) := Lib.hid (HBB.out.grown hg5 HBB.out.size (fun q e => by injection e with e; have := HER.out; omega))
                    clear h5 hg5
                    exact bodyPost_ret (v := .tuple #[rmV zN nilV nilV, .int .i64 3]) (by simp [results, Try.results16, go_sem, p0, p1, p2, p3, p4, p5, p6, p7, p8, p9, p10]) rfl ⟨HBZ.out, .inl ⟨by rw [HE.out]; decide, by rw [HE.out]⟩⟩
                  · have hX4 : ¬ (4000 : Int) < (x : Int) := by omega
                    have hx5 : x ≤ 4000 := by omega
                    have hll : l ≤ L := by omega
                    clear hx4
                    go_upto_region 28 with (fail)
                    go_cut [4] from 64 to 113 (fun r wc => ∃ o2 cp2 : Nat, r = .slice (some ⟨q, o2, none⟩) (L - l) cp2 ∧ L - l ≤ cp2 ∧ wr = wc ∧ Hid (l < L → o2 = o + l))
                    case first =>
                      by_cases hcl : cp = l
                      · have hLl : L = l := by omega
                        go_wp2
                        go_meet
                        exact ⟨o, 0, by go_num, by omega, rfl, Lib.hid (fun h => by omega)⟩
                      · go_wp2
                        go_meet
                        exact ⟨o + l, cp - l, by go_num, by omega, rfl, Lib.hid (fun _ => rfl)⟩
                    case rest =>
                      obtain ⟨o3, cp3, rfl, hcp3, rfl, HO3⟩ := hcut
                      have hb3 := HBS.out.cut l hll HO3.out
                      have HB3 := Lib.hid hb3
                      obtain ⟨L3, eL3⟩ : ∃ L3, L3 = L - l := ⟨_, rfl⟩
                      rw [← eL3] at hcp3 HB3 ⊢
                      have HO3' : Hid (l < L → o3 = o + l) := HO3
                      have hL3 : a + l + L3 = 8 * n := by omega
                      clear hb3 HO3 HBS hcp
                      obtain ⟨y, ey⟩ : ∃ y, y = 8 * x := ⟨_, rfl⟩
                      have ey1 : (8 : Int) * (x : Int) = (y : Int) := by omega
                      by_cases hsh : L3 < y
                      · have hsh' : (L3 : Int) < (y : Int) := by omega
                        have HE : Hid (eE f n sF = 10) := Lib.hid (by
                          have h1 : (ι (j + 1)).e = 10 := by rw [HNX.out, HSG.out]; exact tS_short HXX.out hx5 (by rw [← HLL.out]; omega)
                          rw [HITJ.out (by rw [h1]; decide), h1])
                        clear ey eL3
                        obtain ⟨r0, r1, r2, r3, r4, r5, r6, r7, r8, r9, r10⟩ := HRR.out.all
                        have z0 := HRR.out.fz 0
                        have z1 := HRR.out.fz 1
                        have z2 := HRR.out.fz 2
                        have z3 := HRR.out.fz 3
                        have z4 := HRR.out.fz 4
                        have z5 := HRR.out.fz 5
                        have z6 := HRR.out.fz 6
                        have z7 := HRR.out.fz 7
                        have z8 := HRR.out.fz 8
                        have z9 := HRR.out.fz 9
                        have z10 := HRR.out.fz 10
                        go_wp2
                        obtain ⟨W5, eW5⟩ : ∃ W5, W5 = (((((((((((wr.setCell ⟨R, 0, none⟩ (.int .i64 (zN 0))).setCell ⟨R, 1, none⟩ (.int .i64 (zN 1))).setCell ⟨R, 2, none⟩ (.int .i64 (zN 2))).setCell ⟨R, 3, none⟩ (.int .i64 (zN 3))).setCell ⟨R, 4, none⟩ (.int .i64 (zN 4))).setCell ⟨R, 5, none⟩ (.int .i64 (zN 5))).setCell ⟨R, 6, none⟩ (.int .i64 (zN 6))).setCell ⟨R, 7, none⟩ (.int .i64 (zN 7))).setCell ⟨R, 8, none⟩ (.int .i64 (zN 8))).setCell ⟨R, 9, none⟩ nilV).setCell ⟨R, 10, none⟩ nilV) := ⟨_, rfl⟩
                        obtain ⟨h5, hg5⟩ := HRR.out.set11 zN nilV nilV eW5
                        rw [← eW5]
                        clear eW5 r0 r1 r2 r3 r4 r5 r6 r7 r8 r9 r10 z0 z1 z2 z3 z4 z5 z6 z7 z8 z9 z10
                        obtain ⟨p0, p1, p2, p3, p4, p5, p6, p7, p8, p9, p10⟩ := h5.all
                        have HBZ : Hid (Below w.heap.size w W5) := Lib.hid (HBB.out.grown hg5 HBB.out.size (fun q e => by injection e with e; have := HER.out; omega))
                        clear h5 hg5
                        exact bodyPost_ret (v := .tuple #[rmV zN nilV nilV, .int .i64 10]) (by simp [results, Try.results16, go_sem, p0, p1, p2, p3, p4, p5, p6, p7, p8, p9, p10]) rfl ⟨HBZ.out, .inl ⟨by rw [HE.out]; decide, by rw [HE.out]⟩⟩
                      · have hsh' : ¬ (L3 : Int) < (y : Int) := by omega
                        have hsy : (y : Int) ≤ (L3 : Int) := by omega
                        have hsc : (y : Int) ≤ (cp3 : Int) := by omega
                        have hyx : (y + 7) / 8 = x := by omega
                        have HYX := Lib.hid hyx
                        have HNXT : Hid (ι (j + 1) = ⟨0, a + l + y⟩ ∧ SameB ⟨x, byA f (a + l)⟩ (P j)) := Lib.hid (by
                          obtain ⟨e1, e2⟩ := tS_fine HXX.out hx5 (by rw [← HLL.out]; omega)
                          rw [← HLL.out, ← ey] at e1
                          rw [← HLL.out] at e2
                          refine ⟨by rw [HNX.out, HSG.out, e1], ?_⟩
                          rw [HP.out, HSG.out]
                          exact e2)
                        have HBY : Hid (BS wr q o3 y 0 (byA f (a + l))) := Lib.hid ⟨HB3.out.lt, fun i hi => by
                          rw [Nat.zero_add, byA_bit]
                          exact HB3.out.cb i (by omega)⟩
                        have HEN : Hid (Ends (byA f (a + l)) y) := Lib.hid ⟨byA_lt f _, fun h => absurd (show y % 8 = 0 by omega) h⟩
                        have hy5 : y ≤ 8000000 := by omega
                        clear ey hyx eL3 HXX
                        go_wp2_with fail
                        refine (rbytes_at q o3 y cp3 (byA f (a + l)) wr HBY.out HEN.out hy5).mono ?_
                        rintro e w4 ⟨g4, c4, rfl, hg4, ho4, hb4⟩
                        rw [HYX.out] at ho4 ⊢
                        have HB4 := Lib.hid hb4
                        have HU4 : Hid (EnT w4 w.heap.size (.slice (some ⟨g4, 0, none⟩) x c4) (P j)) := Lib.hid (EnT.same ⟨g4, c4, rfl, own_low ho4 HBB.out.size⟩ HNXT.out.2)
                        clear hb4 ho4 hg4 HBY HEN
                        go_upto_region 32 with (fail)
                        go_cut [4] from 64 to 113 (fun r wc => ∃ o4 cp4 : Nat, r = .slice (some ⟨q, o4, none⟩) (L3 - y) cp4 ∧ L3 - y ≤ cp4 ∧ w4 = wc ∧ Hid (y < L3 → o4 = o3 + y))
                        case first =>
                          by_cases hcl : cp3 = y
                          · have hLl : L3 = y := by omega
                            go_wp2
                            go_meet
                            exact ⟨o3, 0, by go_num, by omega, rfl, Lib.hid (fun h => by omega)⟩
                          · go_wp2
                            go_meet
                            exact ⟨o3 + y, cp3 - y, by go_num, by omega, rfl, Lib.hid (fun _ => rfl)⟩
                        case rest =>
                          obtain ⟨o4, cp4, rfl, hcp4, rfl, HO4⟩ := hcut
                          have HKP : Hid (∀ T, Kp T wr w4) := Lib.hid fun T => Kp.below HB4.out
                          have HM4 : Hid (RmC w4 M N lv dv) := Lib.hid ((HKP.out 0).rm HMM.out (by decide))
                          have HR4 : Hid (RmC w4 R zN nilV nilV) := Lib.hid ((HKP.out 0).rm HRR.out (by decide))
                          have HQ4 : Hid (w4.heap[q]? = some (.cells cq 5 (0, 0))) := Lib.hid (HKP.out 0 _ _ _ HQ.out (by decide))
                          have HL4 := Lib.hid ((HKP.out 0).li HLI.out (by decide) (by decide))
                          have HBB4 := Lib.hid (HBB.out.trans (HB4.out.mono HBB.out.size))
                          have HOO : Hid (a + l + y < 8 * n → o4 = a + l + y) := Lib.hid fun h => by
                            have h1 := HO4.out (by omega)
                            have h2 := HO3'.out (by omega)
                            have h3 := HO.out (by omega)
                            omega
                          have hL4 : a + l + y + (L3 - y) = 8 * n := by omega
                          obtain ⟨a4, ea4⟩ : ∃ a4, a4 = a + l + y := ⟨_, rfl⟩
                          obtain ⟨L4, eL4⟩ : ∃ L4, L4 = L3 - y := ⟨_, rfl⟩
                          rw [← ea4] at HOO hL4 HNXT
                          rw [← eL4] at hL4 hcp4 ⊢
                          clear HKP HMM HRR HQ HLI HB4 HBB HO4 HO3' HO ea4 eL4 hL3 hsh hsh' hsy hsc hcp3 HB3 HSG
                          by_cases hj2 : j < m
                          · have hj2' : (j : Int) < (m : Int) := by omega
                            have hdv : dv = nilV := HD0.out hjm
                            subst hdv
                            have hmin : min j m = j := by omega
                            have hmin' : min (j + 1) m = j + 1 := by omega
                            rw [hmin] at HL4
                            obtain ⟨us, hor, hul, hen⟩ := HL4.out
                            obtain ⟨lsp, lcap, elv⟩ := own_form' hor
                            subst elv
                            have q9 := HM4.out.cell 9 rfl
                            have HA : Hid (Below w4.heap.size w4 (w4.alloc (.cells #[.slice (some ⟨g4, 0, none⟩) x c4] 23))) := Lib.hid ((Below.refl _ _).alloc (Nat.le_refl _) _)
                            have HRW : Hid ((w4.alloc (.cells #[.slice (some ⟨g4, 0, none⟩) x c4] 23)).ownsRow w.heap.size 23 1 (.slice lsp j lcap) j us) := Lib.hid (hor.alloc _)
                            have HNW : Hid (∀ (i : Nat) (u : Value), [Value.slice (some ⟨g4, 0, none⟩) x c4][i]? = some u → (w4.alloc (.cells #[.slice (some ⟨g4, 0, none⟩) x c4] 23)).cell? ((⟨w4.heap.size, 0, none⟩ : Addr).add i) = some u) := Lib.hid fun i u hu => by
                              rw [Go.WideShapes.add_plain, cell_of_row _ _ _ _ 23 (0, 0) (heap_alloc_new w4 _), Nat.zero_add]
                              simpa using hu
                            have HEN : Hid (us.length = j ∧ ∀ i u, us[i]? = some u → EnT (w4.alloc (.cells #[.slice (some ⟨g4, 0, none⟩) x c4] 23)) w.heap.size u (P i)) := Lib.hid ⟨hul, fun i u hi => (Kp.below (T := 0) HA.out).en (hen i u hi) (by decide)⟩
                            have hz4 := HBB4.out.size
                            clear hor hul hen HL4
                            go_wp2_with (at_builtin; refine wpList_append_lies _ rfl _ _ 22 rfl w.heap.size 23 i0 (.slice none 0 0) 1 24 Try.underlying22 hi hz0 hz1 hz2 rfl (by decide) _ j us rfl HRW.out ⟨w4.heap.size, 0, none⟩ 1 1 [.slice (some ⟨g4, 0, none⟩) x c4] rfl rfl HNW.out (by intro u hu; simp at hu; subst hu; rfl) (by omega) (by unfold maxLen; omega) (by omega) (Nat.le_trans hz4 (by simp)) _ rfl ?_)
                            intro g7 c7 w7 ho7 hg7 hat7 hl7
                            have hk7 : Kp 23 (w4.alloc (.cells #[.slice (some ⟨g4, 0, none⟩) x c4] 23)) w7 := Kp.app HRW.out hg7
                            have hM7 : RmC w7 M N (.slice lsp j lcap) nilV := hk7.rm ((Kp.below (T := 0) HA.out).rm HM4.out (by decide)) (by decide)
                            have hR7 : RmC w7 R zN nilV nilV := hk7.rm ((Kp.below (T := 0) HA.out).rm HR4.out (by decide)) (by decide)
                            have hQ7 : w7.heap[q]? = some (.cells cq 5 (0, 0)) := hk7 _ _ _ (Kp.below (T := 0) HA.out _ _ _ HQ4.out (by decide)) (by decide)
                            have hL7 : LiT w7 w.heap.size (.slice (some ⟨g7, 0, none⟩) (j + 1) c7) (j + 1) P := LiT.step HRW.out HEN.out.1 HEN.out.2 ((Kp.below (T := 0) HA.out).en HU4.out (by decide)) ho7 hg7
                            have hB7 : Below w.heap.size w w7 := (HBB4.out.alloc HBB4.out.size _).grown hg7 (Nat.le_trans hz4 (by simp)) (fun q hq => (HRW.out.lt q hq).1)
                            have q7 := hM7.cell 9 rfl
                            have f7 := hM7.fz 9
                            have hks : Kp 35 w7 (w7.setCell ⟨M, 9, none⟩ (.slice (some ⟨g7, 0, none⟩) (j + 1) c7)) := Kp.set hM7 _
                            have hgs : w7.grownBy (w7.setCell ⟨M, 9, none⟩ (.slice (some ⟨g7, 0, none⟩) (j + 1) c7)) (some M) := grown_setCell (grown_refl _ _) _ _
                            have HRK : Hid (RkS w (w7.setCell ⟨M, 9, none⟩ (.slice (some ⟨g7, 0, none⟩) (j + 1) c7)) q n cq R M N m (j + 1) a4 o4 (ι (j + 1)) P D) := Lib.hid ⟨HOO.out, HNXT.out.1, hks _ _ _ hQ7 (by decide), (hgs.block R hR7.lt (fun e => by injection e with e; exact hMR e.symm)).trans hR7, hB7.setCell hwM _, _, nilV, hM7.list _, by rw [hmin']; exact hks.li hL7 (by decide) (by decide), fun _ => rfl, fun h => by omega⟩
                            clear hks hgs hM7 hR7 hQ7 hL7 hB7 hk7 ho7 hg7 hat7 hl7 HRW HNW HEN HA hmin hmin'
                            go_wp2
                            go_roundw
                            case rel => exact ⟨j + 1, a4, o4, L4, cp4, by omega, by go_num, rfl, hcp4, hL4, HRK⟩
                            case measure => simp [intOf]; omega
                          · obtain rfl : j = m := by omega
                            have hdv : dv = nilV := HD0.out hjm
                            subst hdv
                            have hmin : min j j = j := by omega
                            have hmin' : min (j + 1) j = j := by omega
                            rw [hmin] at HL4
                            have q10 := HM4.out.cell 10 rfl
                            have f10 := HM4.out.fz 10
                            have hks : Kp 35 w4 (w4.setCell ⟨M, 10, none⟩ (.slice (some ⟨g4, 0, none⟩) x c4)) := Kp.set HM4.out _
                            have hgs : w4.grownBy (w4.setCell ⟨M, 10, none⟩ (.slice (some ⟨g4, 0, none⟩) x c4)) (some M) := grown_setCell (grown_refl _ _) _ _
                            have HRK : Hid (RkS w (w4.setCell ⟨M, 10, none⟩ (.slice (some ⟨g4, 0, none⟩) x c4)) q n cq R M N j (j + 1) a4 o4 (ι (j + 1)) P D) := Lib.hid ⟨HOO.out, HNXT.out.1, hks _ _ _ HQ4.out (by decide), (hgs.block R HR4.out.lt (fun e => by injection e with e; exact hMR e.symm)).trans HR4.out, HBB4.out.setCell hwM _, _, _, HM4.out.data _, by rw [hmin']; exact hks.li HL4.out (by decide) (by decide), fun h => by omega, fun _ => hks.en (by rw [HPD.out]; exact HU4.out) (by decide)⟩
                            clear hks hgs hmin hmin'
                            go_wp2
                            go_roundw
                            case rel => exact ⟨j + 1, a4, o4, L4, cp4, by omega, by go_num, rfl, hcp4, hL4, HRK⟩
                            case measure => simp [intOf]
                · have HE : Hid (eE f n sF = er) := Lib.hid (by
                    have h1 : (ι (j + 1)).e = er := by rw [HNX.out, HSG.out]; exact tS_err her her0
                    rw [HITJ.out (by rw [h1]; exact her0), h1])
                  have her1 : (er != 0) = true := by rw [bne_iff_ne]; exact her0
                  clear her hbs
                  obtain ⟨r0, r1, r2, r3, r4, r5, r6, r7, r8, r9, r10⟩ := HRR.out.all
                  have z0 := HRR.out.fz 0
                  have z1 := HRR.out.fz 1
                  have z2 := HRR.out.fz 2
                  have z3 := HRR.out.fz 3
                  have z4 := HRR.out.fz 4
                  have z5 := HRR.out.fz 5
                  have z6 := HRR.out.fz 6
                  have z7 := HRR.out.fz 7
                  have z8 := HRR.out.fz 8
                  have z9 := HRR.out.fz 9
                  have z10 := HRR.out.fz 10
                  go_wp2
                  obtain ⟨W5, eW5⟩ : ∃ W5, W5 = (((((((((((wr.setCell ⟨R, 0, none⟩ (.int .i64 (zN 0))).setCell ⟨R, 1, none⟩ (.int .i64 (zN 1))).setCell ⟨R, 2, none⟩ (.int .i64 (zN 2))).setCell ⟨R, 3, none⟩ (.int .i64 (zN 3))).setCell ⟨R, 4, none⟩ (.int .i64 (zN 4))).setCell ⟨R, 5, none⟩ (.int .i64 (zN 5))).setCell ⟨R, 6, none⟩ (.int .i64 (zN 6))).setCell ⟨R, 7, none⟩ (.int .i64 (zN 7))).setCell ⟨R, 8, none⟩ (.int .i64 (zN 8))).setCell ⟨R, 9, none⟩ nilV).setCell ⟨R, 10, none⟩ nilV) := ⟨_, rfl⟩
                  obtain ⟨h5, hg5⟩ := HRR.out.set11 zN nilV nilV eW5
                  rw [← eW5]
                  clear eW5 r0 r1 r2 r3 r4 r5 r6 r7 r8 r9 r10 z0 z1 z2 z3 z4 z5 z6 z7 z8 z9 z10
                  obtain ⟨p0, p1, p2, p3, p4, p5, p6, p7, p8, p9, p10⟩ := h5.all
                  have HBZ : Hid (Below w.heap.size w W5) := Lib.hid (HBB.out.grown hg5 HBB.out.size (fun q e => by injection e with e; have := HER.out; omega))
                  clear h5 hg5
                  exact bodyPost_ret (v := .tuple #[rmV zN nilV nilV, .int .i64 er]) (by simp [results, Try.results16, go_sem, p0, p1, p2, p3, p4, p5, p6, p7, p8, p9, p10]) rfl ⟨HBZ.out, .inl ⟨by rw [HE.out]; exact her0, by rw [HE.out]⟩⟩
              · obtain rfl : j = m + 1 := by omega
                have HSF : Hid (eE f n sF = ((endOf f a L : Nat) : Int)) := Lib.hid (by
                  rw [HFI.out, HSG.out]
                  unfold eE
                  rw [if_pos rfl]
                  dsimp only
                  rw [show 8 * n - a = L by omega])
                have hjm' : ¬ ((m : Int) + 1) ≤ (m : Int) := by omega
                have hjm2 : ¬ (((m + 1 : Nat) : Int)) ≤ (m : Int) := by omega
                by_cases h7 : 7 < L
                · have h7' : (7 : Int) < (L : Int) := by omega
                  have HE : Hid (eE f n sF = 12) := Lib.hid (by rw [HSF.out]; unfold endOf; rw [if_pos (.inl h7)]; rfl)
                  clear h7 hbs
                  obtain ⟨r0, r1, r2, r3, r4, r5, r6, r7, r8, r9, r10⟩ := HRR.out.all
                  have z0 := HRR.out.fz 0
                  have z1 := HRR.out.fz 1
                  have z2 := HRR.out.fz 2
                  have z3 := HRR.out.fz 3
                  have z4 := HRR.out.fz 4
                  have z5 := HRR.out.fz 5
                  have z6 := HRR.out.fz 6
                  have z7 := HRR.out.fz 7
                  have z8 := HRR.out.fz 8
                  have z9 := HRR.out.fz 9
                  have z10 := HRR.out.fz 10
                  go_wp2
                  obtain ⟨W5, eW5⟩ : ∃ W5, W5 = (((((((((((wr.setCell ⟨R, 0, none⟩ (.int .i64 (zN 0))).setCell ⟨R, 1, none⟩ (.int .i64 (zN 1))).setCell ⟨R, 2, none⟩ (.int .i64 (zN 2))).setCell ⟨R, 3, none⟩ (.int .i64 (zN 3))).setCell ⟨R, 4, none⟩ (.int .i64 (zN 4))).setCell ⟨R, 5, none⟩ (.int .i64 (zN 5))).setCell ⟨R, 6, none⟩ (.int .i64 (zN 6))).setCell ⟨R, 7, none⟩ (.int .i64 (zN 7))).setCell ⟨R, 8, none⟩ (.int .i64 (zN 8))).setCell ⟨R, 9, none⟩ nilV).setCell ⟨R, 10, none⟩ nilV) := ⟨_, rfl⟩
                  obtain ⟨h5, hg5⟩ := HRR.out.set11 zN nilV nilV eW5
                  rw [← eW5]
                  clear eW5 r0 r1 r2 r3 r4 r5 r6 r7 r8 r9 r10 z0 z1 z2 z3 z4 z5 z6 z7 z8 z9 z10
                  obtain ⟨p0, p1, p2, p3, p4, p5, p6, p7, p8, p9, p10⟩ := h5.all
                  have HBZ : Hid (Below w.heap.size w W5) := Lib.hid (HBB.out.grown hg5 HBB.out.size (fun q e => by injection e with e; have := HER.out; omega))
                  clear h5 hg5
                  exact bodyPost_ret (v := .tuple #[rmV zN nilV nilV, .int .i64 12]) (by simp [results, Try.results16, go_sem, p0, p1, p2, p3, p4, p5, p6, p7, p8, p9, p10]) rfl ⟨HBZ.out, .inl ⟨by rw [HE.out]; decide, by rw [HE.out]⟩⟩
                · have h7' : ¬ (7 : Int) < (L : Int) := by omega
                  have HBS := Lib.hid hbs
                  clear hbs
                  go_wp2
                  go_loopw [19, 120] (fun _ x wx => ∃ t : Nat, t ≤ L ∧ x = .int .i64 (t : Int) ∧ wr = wx ∧ Hid (∀ i, i < t → bitAt f (a + i) = 0)) (fun _ x _ => L - (intOf x).toNat)
                  case atStart => exact ⟨0, Nat.zero_le _, rfl, rfl, Lib.hid (fun i hi => absurd hi (Nat.not_lt_zero _))⟩
                  case round =>
                    obtain ⟨t, ht, rfl, rfl, HZ⟩ := hrel
                    by_cases htL : t < L
                    · have htL' : (t : Int) < (L : Int) := by omega
                      have c1 := HBS.out.cb t htL
                      have hb := bitAt_lt f (a + t)
                      obtain ⟨b, eb⟩ : ∃ b, b = bitAt f (a + t) := ⟨_, rfl⟩
                      rw [← eb] at hb c1
                      have HEb := Lib.hid eb
                      clear eb
                      by_cases hb0 : b = 0
                      · have b1 : ((b : Int) != 0) = false := by rw [hb0]; rfl
                        have HZ2 : Hid (∀ i, i < t + 1 → bitAt f (a + i) = 0) := Lib.hid (fun i hi => by
                          by_cases e : i = t
                          · subst e; rw [← HEb.out]; exact hb0
                          · exact HZ.out i (by omega))
                        clear hb0
                        go_wp2
                        go_roundw
                        case rel => exact ⟨t + 1, by omega, by go_num, by first | rfl | trivial, HZ2⟩
                        case measure => simp [intOf]; omega
                      · have b1 : ((b : Int) != 0) = true := by rw [bne_iff_ne]; omega
                        have HE : Hid (eE f n sF = 12) := Lib.hid (by rw [HSF.out]; unfold endOf; rw [if_pos (.inr (gv_some f a L t htL (by rw [← HEb.out]; exact hb0)))]; rfl)
                        clear hb0
                        obtain ⟨r0, r1, r2, r3, r4, r5, r6, r7, r8, r9, r10⟩ := HRR.out.all
                        have z0 := HRR.out.fz 0
                        have z1 := HRR.out.fz 1
                        have z2 := HRR.out.fz 2
                        have z3 := HRR.out.fz 3
                        have z4 := HRR.out.fz 4
                        have z5 := HRR.out.fz 5
                        have z6 := HRR.out.fz 6
                        have z7 := HRR.out.fz 7
                        have z8 := HRR.out.fz 8
                        have z9 := HRR.out.fz 9
                        have z10 := HRR.out.fz 10
                        go_wp2
                        obtain ⟨W5, eW5⟩ : ∃ W5, W5 = (((((((((((wr.setCell ⟨R, 0, none⟩ (.int .i64 (zN 0))).setCell ⟨R, 1, none⟩ (.int .i64 (zN 1))).setCell ⟨R, 2, none⟩ (.int .i64 (zN 2))).setCell ⟨R, 3, none⟩ (.int .i64 (zN 3))).setCell ⟨R, 4, none⟩ (.int .i64 (zN 4))).setCell ⟨R, 5, none⟩ (.int .i64 (zN 5))).setCell ⟨R, 6, none⟩ (.int .i64 (zN 6))).setCell ⟨R, 7, none⟩ (.int .i64 (zN 7))).setCell ⟨R, 8, none⟩ (.int .i64 (zN 8))).setCell ⟨R, 9, none⟩ nilV).setCell ⟨R, 10, none⟩ nilV) := ⟨_, rfl⟩
                        obtain ⟨h5, hg5⟩ := HRR.out.set11 zN nilV nilV eW5
                        rw [← eW5]
                        clear eW5 r0 r1 r2 r3 r4 r5 r6 r7 r8 r9 r10 z0 z1 z2 z3 z4 z5 z6 z7 z8 z9 z10
                        obtain ⟨p0, p1, p2, p3, p4, p5, p6, p7, p8, p9, p10⟩ := h5.all
                        have HBZ : Hid (Below w.heap.size w W5) := Lib.hid (HBB.out.grown hg5 HBB.out.size (fun q e => by injection e with e; have := HER.out; omega))
                        clear h5 hg5
                        exact bodyPost_ret (v := .tuple #[rmV zN nilV nilV, .int .i64 12]) (by simp [results, Try.results16, go_sem, p0, p1, p2, p3, p4, p5, p6, p7, p8, p9, p10]) rfl ⟨HBZ.out, .inl ⟨by rw [HE.out]; decide, by rw [HE.out]⟩⟩
                    · obtain rfl : t = L := by omega
                      have HE : Hid (eE f n sF = 0) := Lib.hid (by rw [HSF.out]; unfold endOf; rw [if_neg (fun h => by rcases h with h | h; omega; exact h (gv_noughts f a t HZ.out))]; rfl)
                      have hmin : min (m + 1) m = m := by omega
                      rw [hmin] at HLI
                      obtain ⟨us, hor, hul, hen⟩ := HLI.out
                      obtain ⟨lsp, lcap, elv⟩ := own_form' hor
                      subst elv
                      have HNL := Lib.hid (own_nil' hor)
                      have HCP := Lib.hid (own_cap' hor)
                      have HDE := Lib.hid (HD1.out (by omega))
                      obtain ⟨dq, dcap, edv, _⟩ := HDE.out
                      obtain ⟨dn, edn⟩ : ∃ dn, dn = D.n := ⟨_, rfl⟩
                      rw [← edn] at edv
                      subst edv
                      clear edn hor hul hen hmin
                      obtain ⟨r0, r1, r2, r3, r4, r5, r6, r7, r8, r9, r10⟩ := HRR.out.all
                      have z0 := HRR.out.fz 0
                      have z1 := HRR.out.fz 1
                      have z2 := HRR.out.fz 2
                      have z3 := HRR.out.fz 3
                      have z4 := HRR.out.fz 4
                      have z5 := HRR.out.fz 5
                      have z6 := HRR.out.fz 6
                      have z7 := HRR.out.fz 7
                      have z8 := HRR.out.fz 8
                      have z9 := HRR.out.fz 9
                      have z10 := HRR.out.fz 10
                      obtain ⟨a0, a1, a2, a3, a4, a5, a6, a7, a8, a9, a10⟩ := HMM.out.all
                      go_wp2
                      obtain ⟨W5, eW5⟩ : ∃ W5, W5 = (((((((((((wr.setCell ⟨R, 0, none⟩ (.int .i64 (N 0))).setCell ⟨R, 1, none⟩ (.int .i64 (N 1))).setCell ⟨R, 2, none⟩ (.int .i64 (N 2))).setCell ⟨R, 3, none⟩ (.int .i64 (N 3))).setCell ⟨R, 4, none⟩ (.int .i64 (N 4))).setCell ⟨R, 5, none⟩ (.int .i64 (N 5))).setCell ⟨R, 6, none⟩ (.int .i64 (N 6))).setCell ⟨R, 7, none⟩ (.int .i64 (N 7))).setCell ⟨R, 8, none⟩ (.int .i64 (N 8))).setCell ⟨R, 9, none⟩ (.slice lsp m lcap)).setCell ⟨R, 10, none⟩ (.slice (some ⟨dq, 0, none⟩) dn dcap)) := ⟨_, rfl⟩
                      obtain ⟨h5, hg5⟩ := HRR.out.set11 N (.slice lsp m lcap) (.slice (some ⟨dq, 0, none⟩) dn dcap) eW5
                      rw [← eW5]
                      clear eW5 r0 r1 r2 r3 r4 r5 r6 r7 r8 r9 r10 z0 z1 z2 z3 z4 z5 z6 z7 z8 z9 z10 a0 a1 a2 a3 a4 a5 a6 a7 a8 a9 a10
                      obtain ⟨p0, p1, p2, p3, p4, p5, p6, p7, p8, p9, p10⟩ := h5.all
                      have hk5 : Kp 35 wr W5 := fun k cs T' hk hT => (hg5.block k (EnS.lt hk) (fun e => by
                        injection e with e
                        subst e
                        have h := HRR.out
                        unfold RmC at h
                        rw [hk] at h
                        injection h with h
                        injection h with _ h
                        exact hT h)).trans hk
                      have HBZ : Hid (Below w.heap.size w W5) := Lib.hid (HBB.out.grown hg5 HBB.out.size (fun q e => by injection e with e; have := HER.out; omega))
                      have HFI5 : Hid (LsS W5 lsp m P ∧ BsS W5 (.slice (some ⟨dq, 0, none⟩) dn dcap) D) := Lib.hid ⟨(hk5.li HLI.out (by decide) (by decide)).ls (fun i _ => by rw [HP.out]; exact tB_le f n _) (fun i _ => by rw [HP.out]; exact tB_lt f n _), (hk5.en HDE.out (by decide)).bs (by rw [HDD.out]; exact tB_le f n _) (by rw [HDD.out]; exact tB_lt f n _)⟩
                      clear h5 hg5 hk5
                      exact bodyPost_ret (v := .tuple #[rmV N (.slice lsp m lcap) (.slice (some ⟨dq, 0, none⟩) dn dcap), .int .i64 0]) (by simp [results, Try.results16, go_sem, p0, p1, p2, p3, p4, p5, p6, p7, p8, p9, p10]) rfl ⟨HBZ.out, .inr ⟨HE.out, lsp, lcap, .slice (some ⟨dq, 0, none⟩) dn dcap, rfl, P, D, HFI5.out.1, fun i _ => SameB.refl _, HFI5.out.2, SameB.refl _, HNL.out, HCP.out⟩⟩
      · have HE : Hid (eE f n sF = er) := Lib.hid (by
          have h1 : ι 0 = ⟨er, 0⟩ := by rw [HI0.out, HSG.out]; exact (uS_err her).1
          rw [HIT.out 0 (Nat.zero_le _) (by rw [h1]; exact her0), h1])
        have her1 : (er != 0) = true := by rw [bne_iff_ne]; exact her0
        clear her hbs
        obtain ⟨r0, r1, r2, r3, r4, r5, r6, r7, r8, r9, r10⟩ := HRR.out.all
        have z0 := HRR.out.fz 0
        have z1 := HRR.out.fz 1
        have z2 := HRR.out.fz 2
        have z3 := HRR.out.fz 3
        have z4 := HRR.out.fz 4
        have z5 := HRR.out.fz 5
        have z6 := HRR.out.fz 6
        have z7 := HRR.out.fz 7
        have z8 := HRR.out.fz 8
        have z9 := HRR.out.fz 9
        have z10 := HRR.out.fz 10
        go_wp2
        obtain ⟨W5, eW5⟩ : ∃ W5, W5 = (((((((((((wr.setCell ⟨R, 0, none⟩ (.int .i64 (zN 0))).setCell ⟨R, 1, none⟩ (.int .i64 (zN 1))).setCell ⟨R, 2, none⟩ (.int .i64 (zN 2))).setCell ⟨R, 3, none⟩ (.int .i64 (zN 3))).setCell ⟨R, 4, none⟩ (.int .i64 (zN 4))).setCell ⟨R, 5, none⟩ (.int .i64 (zN 5))).setCell ⟨R, 6, none⟩ (.int .i64 (zN 6))).setCell ⟨R, 7, none⟩ (.int .i64 (zN 7))).setCell ⟨R, 8, none⟩ (.int .i64 (zN 8))).setCell ⟨R, 9, none⟩ nilV).setCell ⟨R, 10, none⟩ nilV) := ⟨_, rfl⟩
        obtain ⟨h5, hg5⟩ := HRR.out.set11 zN nilV nilV eW5
        rw [← eW5]
        clear eW5 r0 r1 r2 r3 r4 r5 r6 r7 r8 r9 r10 z0 z1 z2 z3 z4 z5 z6 z7 z8 z9 z10
        obtain ⟨p0, p1, p2, p3, p4, p5, p6, p7, p8, p9, p10⟩ := h5.all
        have HBZ : Hid (Below w.heap.size w W5) := Lib.hid (HBB.out.grown hg5 HBB.out.size (fun q e => by injection e with e; have := HER.out; omega))
        clear h5 hg5
        exact bodyPost_ret (v := .tuple #[rmV zN nilV nilV, .int .i64 er]) (by simp [results, Try.results16, go_sem, p0, p1, p2, p3, p4, p5, p6, p7, p8, p9, p10]) rfl ⟨HBZ.out, .inl ⟨by rw [HE.out]; exact her0, by rw [HE.out]⟩⟩
end Go.Proofs.Ytccpfoimedjdgaa

