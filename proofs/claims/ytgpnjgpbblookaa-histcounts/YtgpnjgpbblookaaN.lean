/-
  HistCounts' walk.
-/
import Derived.Test.YtgpnjgpbblookaaM
namespace Go.Proofs.Ytgpnjgpbblookaa
open Go.ChangeShapes Go.WideShapes Go.ChangeAt Go.RowKit

theorem cells5 {w : World} {b t : Nat} {v0 v1 v2 v3 v4 : Value} (h : w.heap[b]? = some (.cells #[v0, v1, v2, v3, v4] t (0, 0))) :
    (w.cell? ⟨b, 1, none⟩ = some v1 ∧ w.cell? ⟨b, 2, none⟩ = some v2 ∧ w.cell? ⟨b, 3, none⟩ = some v3 ∧ w.cell? ⟨b, 4, none⟩ = some v4) ∧ ∀ j, w.frozen? ⟨b, j, none⟩ = false :=
  ⟨⟨by simp [World.cell?, h], by simp [World.cell?, h], by simp [World.cell?, h], by simp [World.cell?, h]⟩, fun j => by simp [World.frozen?, h]⟩

/-- five counters in a block of our own -/
def Arr (w3 W : World) (A : Nat) (a0 a1 a2 a3 a4 : Int) : Prop :=
  w3.heap.size ≤ A ∧ Below w3.heap.size w3 W ∧ W.heap[A]? = some (.cells #[.int .i64 a0, .int .i64 a1, .int .i64 a2, .int .i64 a3, .int .i64 a4] 46 (0, 0))
theorem Arr.lt {w3 W : World} {A : Nat} {a0 a1 a2 a3 a4 : Int} (h : Arr w3 W A a0 a1 a2 a3 a4) : A < W.heap.size := by
  rcases Nat.lt_or_ge A W.heap.size with h' | h'
  · exact h'
  · have := h.2.2; rw [Array.getElem?_eq_none h'] at this; cases this
theorem Arr.alloc {w3 W : World} {A : Nat} {a0 a1 a2 a3 a4 : Int} (h : Arr w3 W A a0 a1 a2 a3 a4) (ob : Obj) : Arr w3 (W.alloc ob) A a0 a1 a2 a3 a4 :=
  ⟨h.1, h.2.1.alloc h.2.1.size _, (heap_alloc_old _ _ h.lt).trans h.2.2⟩
theorem Arr.set1 {w3 W : World} {A : Nat} {a0 a1 a2 a3 a4 : Int} (h : Arr w3 W A a0 a1 a2 a3 a4) (x : Int) : Arr w3 (W.setCell ⟨A, 1, none⟩ (.int .i64 x)) A a0 x a2 a3 a4 :=
  ⟨h.1, h.2.1.setCell h.1 _, heap_setCell_same W A 1 _ 46 _ h.2.2⟩
theorem Arr.set2 {w3 W : World} {A : Nat} {a0 a1 a2 a3 a4 : Int} (h : Arr w3 W A a0 a1 a2 a3 a4) (x : Int) : Arr w3 (W.setCell ⟨A, 2, none⟩ (.int .i64 x)) A a0 a1 x a3 a4 :=
  ⟨h.1, h.2.1.setCell h.1 _, heap_setCell_same W A 2 _ 46 _ h.2.2⟩
theorem Arr.set3 {w3 W : World} {A : Nat} {a0 a1 a2 a3 a4 : Int} (h : Arr w3 W A a0 a1 a2 a3 a4) (x : Int) : Arr w3 (W.setCell ⟨A, 3, none⟩ (.int .i64 x)) A a0 a1 a2 x a4 :=
  ⟨h.1, h.2.1.setCell h.1 _, heap_setCell_same W A 3 _ 46 _ h.2.2⟩
theorem Arr.set4 {w3 W : World} {A : Nat} {a0 a1 a2 a3 a4 : Int} (h : Arr w3 W A a0 a1 a2 a3 a4) (x : Int) : Arr w3 (W.setCell ⟨A, 4, none⟩ (.int .i64 x)) A a0 a1 a2 a3 x :=
  ⟨h.1, h.2.1.setCell h.1 _, heap_setCell_same W A 4 _ 46 _ h.2.2⟩

set_option maxRecDepth 100000 in
set_option maxHeartbeats 4000000 in
theorem counts_main (a : Option Addr) (len cap : Nat) (E : Nat → Ev) (w : World) (hlen : len ≤ 9223372036854775807) (hs : EvS w a len E) :
    Calls Try.prog 9 #[.slice a len cap] w fun e w' => e = .returned (.bool true) ∧ Below w.heap.size w w' := by
  have HS := Lib.hid hs
  clear hs
  go_enter Try.func9, Try.ntmps9
  go_wp2_with fail
  refine (head_any _).mono ?_
  rintro e w1 ⟨rfl, hb1⟩
  have HB1 := Lib.hid hb1
  clear hb1
  go_wp2_with fail
  refine (big_any a len cap E w1 (HS.out.below HB1.out)).mono ?_
  rintro e w2 ⟨bb, rfl, hiff, hb2⟩
  have HB2 := Lib.hid (HB1.out.trans (hb2.mono HB1.out.size))
  clear hb2 hiff HB1
  cases bb
  · go_wp2_with fail
    refine (of_any a len cap E w2 hlen (HS.out.below HB2.out)).mono ?_
    rintro e w3 ⟨hb3, hres⟩
    have HB3 := Lib.hid (HB2.out.trans (hb3.mono HB2.out.size))
    clear hb3
    rcases hres with ⟨_, rfl⟩ | ⟨hl4, ⟨i, er, _, _, _, hne, rfl⟩ | ⟨hgood, v, hb, mb, mw, V, rfl, hst⟩⟩
    · go_wp2
      go_ret
      exact ⟨rfl, HB3.out⟩
    · have hq : (er == 0) = false := by rw [beq_eq_false_iff_ne]; exact hne
      have hq2 : (er != 0) = true := by rw [bne_iff_ne]; exact hne
      clear hne
      go_wp2
      go_ret
      exact ⟨rfl, HB3.out⟩
    · have HG := Lib.hid hgood
      have hkp := kept_at E len hgood
      obtain ⟨m, em⟩ : ∃ m, m = (stateAt E len).m := ⟨_, rfl⟩
      obtain ⟨T, eT⟩ : ∃ T, T = (stateAt E len).T := ⟨_, rfl⟩
      have hrow := hst.row
      have k1 := hkp.m
      have k2 := hkp.done
      have k3 := hkp.gone
      rw [← em] at k1 k2 k3 hrow
      rw [← eT] at k2 k3 hrow
      have hm4 : m ≤ 400 := by have := cnt_le E 1 len; omega
      obtain ⟨spv, cpv, ev⟩ := own_form' hrow
      subst ev
      have HRW := Lib.hid hrow
      have HOV : Hid (∀ i, i < m → ∃ sp n cap, V i = .slice sp n cap) := Lib.hid fun i hi => by obtain ⟨sp, cap, e, _⟩ := hst.ops i (by rw [← em]; exact hi); exact ⟨sp, _, cap, e⟩
      have HK1 := Lib.hid k1
      have HK2 := Lib.hid k2
      have HK3 := Lib.hid k3
      clear hgood hst hkp hrow k1 k2 k3 em eT
      have HA0 : Hid (Arr w3 (w3.alloc (.cells #[.int .i64 0, .int .i64 0, .int .i64 0, .int .i64 0, .int .i64 0] 46)) w3.heap.size 0 ((cnt E 1 0 : Nat) : Int) ((cnt E 2 0 : Nat) : Int) ((cnt E 3 0 : Nat) : Int) ((cnt E 4 0 : Nat) : Int)) := Lib.hid ⟨Nat.le_refl _, (Below.refl _ _).alloc (Nat.le_refl _) _, heap_alloc_new w3 _⟩
      go_wp2
      obtain ⟨A, eA⟩ : ∃ A, A = w3.heap.size := ⟨_, rfl⟩
      rw [← eA] at HA0 ⊢
      clear eA
      go_loopw [8, 29] (fun _ x wr => ∃ t : Nat, t ≤ len ∧ x = .int .i64 (t : Int) ∧ Hid (Arr w3 wr A 0 ((cnt E 1 t : Nat) : Int) ((cnt E 2 t : Nat) : Int) ((cnt E 3 t : Nat) : Int) ((cnt E 4 t : Nat) : Int))) (fun _ x _ => len - (intOf x).toNat)
      case atStart => exact ⟨0, Nat.zero_le _, rfl, HA0⟩
      case round =>
        obtain ⟨t, ht, rfl, HT⟩ := hrel
        by_cases hlt : t < len
        · obtain ⟨b, off, rfl, hbl, hci⟩ := HS.out (by omega)
          obtain ⟨sp, cp, c0, c1, c2, _⟩ := hci t hlt
          have HBT := Lib.hid (HB3.out.trans (HT.out.2.1.mono HB3.out.size))
          have x0 := (HBT.out.cell (p := ⟨b, off + t * 3, none⟩) hbl).trans c0
          have x1 := (HBT.out.cell (p := ⟨b, off + t * 3 + 1, none⟩) hbl).trans c1
          have x2 := (HBT.out.cell (p := ⟨b, off + t * 3 + 2, none⟩) hbl).trans c2
          have hlt' : (t : Int) < (len : Int) := by omega
          have hsnd := err0_snd (HG.out t hlt)
          have hk4 : 1 ≤ (E t).k ∧ (E t).k ≤ 4 := ⟨hsnd.1, hsnd.2.1⟩
          have HC1 : Hid (cnt E 1 (t + 1) = cnt E 1 t + (if (E t).k = 1 then 1 else 0)) := Lib.hid rfl
          have HC2 : Hid (cnt E 2 (t + 1) = cnt E 2 t + (if (E t).k = 2 then 1 else 0)) := Lib.hid rfl
          have HC3 : Hid (cnt E 3 (t + 1) = cnt E 3 t + (if (E t).k = 3 then 1 else 0)) := Lib.hid rfl
          have HC4 : Hid (cnt E 4 (t + 1) = cnt E 4 t + (if (E t).k = 4 then 1 else 0)) := Lib.hid rfl
          have hb1 := cnt_le E 1 t
          have hb2 := cnt_le E 2 t
          have hb3 := cnt_le E 3 t
          have hb4 := cnt_le E 4 t
          obtain ⟨d1, ed1⟩ : ∃ d1, d1 = cnt E 1 (t + 1) := ⟨_, rfl⟩
          obtain ⟨d2, ed2⟩ : ∃ d2, d2 = cnt E 2 (t + 1) := ⟨_, rfl⟩
          obtain ⟨d3, ed3⟩ : ∃ d3, d3 = cnt E 3 (t + 1) := ⟨_, rfl⟩
          obtain ⟨d4, ed4⟩ : ∃ d4, d4 = cnt E 4 (t + 1) := ⟨_, rfl⟩
          rw [← ed1] at HC1
          rw [← ed2] at HC2
          rw [← ed3] at HC3
          rw [← ed4] at HC4
          have HD := Lib.hid (⟨ed1, ed2, ed3, ed4⟩ : _ ∧ _ ∧ _ ∧ _)
          clear ed1 ed2 ed3 ed4 c0 c1 c2 hci hsnd
          generalize cnt E 1 t = n1 at *
          generalize cnt E 2 t = n2 at *
          generalize cnt E 3 t = n3 at *
          generalize cnt E 4 t = n4 at *
          generalize hEt : E t = et at *
          clear hEt
          obtain ⟨ek, ec, en, eo⟩ := et
          dsimp only at x0 x1 x2 hk4 HC1 HC2 HC3 HC4
          have HTA := Lib.hid (HT.out.alloc (.cells #[.int .i64 ek, .int .i64 ec, .slice sp en cp] 43))
          obtain ⟨⟨q1, q2, q3, q4⟩, fq⟩ := cells5 HTA.out.2.2
          have f1 := fq 1
          have f2 := fq 2
          have f3 := fq 3
          have f4 := fq 4
          clear fq
          have hcase : ek = 1 ∨ ek = 2 ∨ ek = 3 ∨ ek = 4 := by omega
          clear hk4
          rcases hcase with rfl | rfl | rfl | rfl
          · have HE : Hid (d1 = n1 + 1 ∧ d2 = n2 ∧ d3 = n3 ∧ d4 = n4) := Lib.hid ⟨by rw [HC1.out]; simp, by rw [HC2.out]; simp, by rw [HC3.out]; simp, by rw [HC4.out]; simp⟩
            clear HC1 HC2 HC3 HC4
            go_wp2
            go_roundw
            case rel =>
              refine ⟨t + 1, by omega, by go_num, Lib.hid ?_⟩
              obtain ⟨g1, g2, g3, g4⟩ := HD.out
              obtain ⟨i1, i2, i3, i4⟩ := HE.out
              rw [← g1, ← g2, ← g3, ← g4, i1, i2, i3, i4]
              first | exact (HT.out.set1 _).alloc _ | exact HTA.out.set1 _
            case measure => simp [intOf]; omega
          · have HE : Hid (d1 = n1 ∧ d2 = n2 + 1 ∧ d3 = n3 ∧ d4 = n4) := Lib.hid ⟨by rw [HC1.out]; simp, by rw [HC2.out]; simp, by rw [HC3.out]; simp, by rw [HC4.out]; simp⟩
            clear HC1 HC2 HC3 HC4
            go_wp2
            go_roundw
            case rel =>
              refine ⟨t + 1, by omega, by go_num, Lib.hid ?_⟩
              obtain ⟨g1, g2, g3, g4⟩ := HD.out
              obtain ⟨i1, i2, i3, i4⟩ := HE.out
              rw [← g1, ← g2, ← g3, ← g4, i1, i2, i3, i4]
              first | exact (HT.out.set2 _).alloc _ | exact HTA.out.set2 _
            case measure => simp [intOf]; omega
          · have HE : Hid (d1 = n1 ∧ d2 = n2 ∧ d3 = n3 + 1 ∧ d4 = n4) := Lib.hid ⟨by rw [HC1.out]; simp, by rw [HC2.out]; simp, by rw [HC3.out]; simp, by rw [HC4.out]; simp⟩
            clear HC1 HC2 HC3 HC4
            go_wp2
            go_roundw
            case rel =>
              refine ⟨t + 1, by omega, by go_num, Lib.hid ?_⟩
              obtain ⟨g1, g2, g3, g4⟩ := HD.out
              obtain ⟨i1, i2, i3, i4⟩ := HE.out
              rw [← g1, ← g2, ← g3, ← g4, i1, i2, i3, i4]
              first | exact (HT.out.set3 _).alloc _ | exact HTA.out.set3 _
            case measure => simp [intOf]; omega
          · have HE : Hid (d1 = n1 ∧ d2 = n2 ∧ d3 = n3 ∧ d4 = n4 + 1) := Lib.hid ⟨by rw [HC1.out]; simp, by rw [HC2.out]; simp, by rw [HC3.out]; simp, by rw [HC4.out]; simp⟩
            clear HC1 HC2 HC3 HC4
            go_wp2
            go_roundw
            case rel =>
              refine ⟨t + 1, by omega, by go_num, Lib.hid ?_⟩
              obtain ⟨g1, g2, g3, g4⟩ := HD.out
              obtain ⟨i1, i2, i3, i4⟩ := HE.out
              rw [← g1, ← g2, ← g3, ← g4, i1, i2, i3, i4]
              first | exact (HT.out.set4 _).alloc _ | exact HTA.out.set4 _
            case measure => simp [intOf]; omega
        · obtain rfl : len = t := by omega
          obtain ⟨wq, hwq⟩ : ∃ wq, wq = wr := ⟨_, rfl⟩
          subst hwq
          obtain ⟨n4, en4⟩ : ∃ n4, n4 = cnt E 4 len := ⟨_, rfl⟩
          have HAQ : Hid (Arr w3 wq A 0 ((m - 0 : Nat) : Int) ((cst T 1 m - cst T 1 0 : Nat) : Int) ((cst T 2 m - cst T 2 0 : Nat) : Int) (n4 : Int)) := Lib.hid (by
            have h := HT.out
            rw [← HK1.out, ← HK2.out, ← HK3.out, ← en4] at h
            exact h)
          clear HT en4
          go_wp2
          go_loopw [10, 42] (fun _ x ws => ∃ t : Nat, t ≤ m ∧ x = .int .i64 (t : Int) ∧ Hid (Arr w3 ws A 0 ((m - t : Nat) : Int) ((cst T 1 m - cst T 1 t : Nat) : Int) ((cst T 2 m - cst T 2 t : Nat) : Int) (n4 : Int))) (fun _ x _ => m - (intOf x).toNat)
          case atStart => exact ⟨0, Nat.zero_le _, rfl, HAQ⟩
          case round =>
            obtain ⟨t, ht, rfl, HT⟩ := hrel
            by_cases hlt : t < m
            · obtain ⟨g, cg, ev, _, hgl⟩ := HRW.out.form (by omega)
              injection ev with ev1 ev2 ev3
              subst ev1
              obtain ⟨vs, vn, vc, eV⟩ := HOV.out t hlt
              obtain ⟨r0, r1, r2⟩ := rowT_get T V m t hlt
              rw [eV] at r2
              have y0 := (HT.out.2.1.cell (p := ⟨g, t * 3, none⟩) hgl).trans ((HRW.out.cellAt (t * 3) (by omega)).trans r0)
              have y1 := (HT.out.2.1.cell (p := ⟨g, t * 3 + 1, none⟩) hgl).trans ((HRW.out.cellAt (t * 3 + 1) (by omega)).trans r1)
              have y2 := (HT.out.2.1.cell (p := ⟨g, t * 3 + 2, none⟩) hgl).trans ((HRW.out.cellAt (t * 3 + 2) (by omega)).trans r2)
              have hlt' : (t : Int) < (m : Int) := by omega
              have s1 : cst T 1 (t + 1) = cst T 1 t + (if (T t).st = 1 then 1 else 0) := rfl
              have s2 : cst T 2 (t + 1) = cst T 2 t + (if (T t).st = 2 then 1 else 0) := rfl
              have mo1 := cst_mono T 1 (t + 1) m hlt
              have mo2 := cst_mono T 2 (t + 1) m hlt
              have bo1 := cst_le T 1 m
              have bo2 := cst_le T 2 m
              obtain ⟨a1, ea1⟩ : ∃ a1, a1 = m - t := ⟨_, rfl⟩
              obtain ⟨a2, ea2⟩ : ∃ a2, a2 = cst T 1 m - cst T 1 t := ⟨_, rfl⟩
              obtain ⟨a3, ea3⟩ : ∃ a3, a3 = cst T 2 m - cst T 2 t := ⟨_, rfl⟩
              have HN1 : Hid (((m - (t + 1) : Nat) : Int) = (a1 : Int) - 1) := Lib.hid (by omega)
              have HN2 : Hid (((cst T 1 m - cst T 1 (t + 1) : Nat) : Int) = (a2 : Int) - (if (T t).st = 1 then 1 else 0)) := Lib.hid (by split at s1 <;> rename_i hh <;> simp only [hh, if_true, if_false] <;> omega)
              have HN3 : Hid (((cst T 2 m - cst T 2 (t + 1) : Nat) : Int) = (a3 : Int) - (if (T t).st = 2 then 1 else 0)) := Lib.hid (by split at s2 <;> rename_i hh <;> simp only [hh, if_true, if_false] <;> omega)
              have ha1 : a1 ≤ 400 := by omega
              have ha2 : a2 ≤ 400 := by omega
              have ha3 : a3 ≤ 400 := by omega
              rw [← ea1, ← ea2, ← ea3] at HT
              have HAR := HT
              clear ea1 ea2 ea3 s1 s2 mo1 mo2 bo1 bo2 r0 r1 r2 eV HT
              generalize hTt : T t = tt at *
              clear hTt
              obtain ⟨tc, tst, tn, to⟩ := tt
              dsimp only at y0 y1 y2 HN2 HN3
              have HTA := Lib.hid (HAR.out.alloc (.cells #[.int .i64 tc, .int .i64 tst, .slice vs vn vc] 36))
              obtain ⟨⟨q1, q2, q3, q4⟩, fq⟩ := cells5 HTA.out.2.2
              have f1 := fq 1
              have f2 := fq 2
              have f3 := fq 3
              clear fq q4
              by_cases h1 : tst = 1
              · subst h1
                have hPA : A ≠ wr.heap.size := by have := HAR.out.lt; omega
                have HP1 : Hid (((wr.alloc (.cells #[.int .i64 tc, .int .i64 1, .slice vs vn vc] 36)).setCell ⟨A, 1, none⟩ (.int .i64 ((a1 : Int) - 1))).heap[wr.heap.size]? = some (.cells #[.int .i64 tc, .int .i64 1, .slice vs vn vc] 36 (0, 0))) := Lib.hid ((heap_setCell_other _ ⟨A, 1, none⟩ wr.heap.size _ (fun e => hPA e.symm)).trans (heap_alloc_new wr _))
                obtain ⟨⟨_, p1, _⟩, _⟩ := cells3 HP1.out
                obtain ⟨⟨_, u2, u3, _⟩, fu⟩ := cells5 (HTA.out.set1 ((a1 : Int) - 1)).2.2
                have fu2 := fu 2
                have fu3 := fu 3
                have HP2 : Hid ((((wr.alloc (.cells #[.int .i64 tc, .int .i64 1, .slice vs vn vc] 36)).setCell ⟨A, 1, none⟩ (.int .i64 ((a1 : Int) - 1))).setCell ⟨A, 2, none⟩ (.int .i64 ((a2 : Int) - 1))).heap[wr.heap.size]? = some (.cells #[.int .i64 tc, .int .i64 1, .slice vs vn vc] 36 (0, 0))) := Lib.hid ((heap_setCell_other _ ⟨A, 2, none⟩ wr.heap.size _ (fun e => hPA e.symm)).trans HP1.out)
                obtain ⟨⟨_, p2, _⟩, _⟩ := cells3 HP2.out
                clear fu hPA HP1 HP2
                clear f3 q3 f2 q2
                go_wp2
                go_roundw
                case rel =>
                  refine ⟨t + 1, by omega, by go_num, Lib.hid ?_⟩
                  have e2 := HN2.out
                  have e3 := HN3.out
                  simp at e2 e3
                  rw [HN1.out, e2, e3]
                  first | exact ((HAR.out.set1 _).set2 _).alloc _ | exact ((HAR.out.set1 _).alloc _).set2 _ | exact (HTA.out.set1 _).set2 _
                case measure => simp [intOf]; omega
              · have h1b : (tst == 1) = false := by rw [beq_eq_false_iff_ne]; exact h1
                by_cases h2 : tst = 2
                · subst h2
                  have hPA : A ≠ wr.heap.size := by have := HAR.out.lt; omega
                  have HP1 : Hid (((wr.alloc (.cells #[.int .i64 tc, .int .i64 2, .slice vs vn vc] 36)).setCell ⟨A, 1, none⟩ (.int .i64 ((a1 : Int) - 1))).heap[wr.heap.size]? = some (.cells #[.int .i64 tc, .int .i64 2, .slice vs vn vc] 36 (0, 0))) := Lib.hid ((heap_setCell_other _ ⟨A, 1, none⟩ wr.heap.size _ (fun e => hPA e.symm)).trans (heap_alloc_new wr _))
                  obtain ⟨⟨_, p1, _⟩, _⟩ := cells3 HP1.out
                  obtain ⟨⟨_, u2, u3, _⟩, fu⟩ := cells5 (HTA.out.set1 ((a1 : Int) - 1)).2.2
                  have fu2 := fu 2
                  have fu3 := fu 3
                  have HP2 : Hid ((((wr.alloc (.cells #[.int .i64 tc, .int .i64 2, .slice vs vn vc] 36)).setCell ⟨A, 1, none⟩ (.int .i64 ((a1 : Int) - 1))).setCell ⟨A, 3, none⟩ (.int .i64 ((a3 : Int) - 1))).heap[wr.heap.size]? = some (.cells #[.int .i64 tc, .int .i64 2, .slice vs vn vc] 36 (0, 0))) := Lib.hid ((heap_setCell_other _ ⟨A, 3, none⟩ wr.heap.size _ (fun e => hPA e.symm)).trans HP1.out)
                  obtain ⟨⟨_, p2, _⟩, _⟩ := cells3 HP2.out
                  clear fu hPA HP1 HP2
                  clear f2 q2 f3 q3 h1
                  go_wp2
                  go_roundw
                  case rel =>
                    refine ⟨t + 1, by omega, by go_num, Lib.hid ?_⟩
                    have e2 := HN2.out
                    have e3 := HN3.out
                    simp at e2 e3
                    rw [HN1.out, e2, e3]
                    first | exact ((HAR.out.set1 _).set3 _).alloc _ | exact ((HAR.out.set1 _).alloc _).set3 _ | exact (HTA.out.set1 _).set3 _
                  case measure => simp [intOf]; omega
                · have h2b : (tst == 2) = false := by rw [beq_eq_false_iff_ne]; exact h2
                  have HN2' : Hid (((cst T 1 m - cst T 1 (t + 1) : Nat) : Int) = (a2 : Int)) := Lib.hid (by rw [HN2.out, if_neg h1]; omega)
                  have HN3' : Hid (((cst T 2 m - cst T 2 (t + 1) : Nat) : Int) = (a3 : Int)) := Lib.hid (by rw [HN3.out, if_neg h2]; omega)
                  have hPA : A ≠ wr.heap.size := by have := HAR.out.lt; omega
                  have HP1 : Hid (((wr.alloc (.cells #[.int .i64 tc, .int .i64 tst, .slice vs vn vc] 36)).setCell ⟨A, 1, none⟩ (.int .i64 ((a1 : Int) - 1))).heap[wr.heap.size]? = some (.cells #[.int .i64 tc, .int .i64 tst, .slice vs vn vc] 36 (0, 0))) := Lib.hid ((heap_setCell_other _ ⟨A, 1, none⟩ wr.heap.size _ (fun e => hPA e.symm)).trans (heap_alloc_new wr _))
                  obtain ⟨⟨_, p1, _⟩, _⟩ := cells3 HP1.out
                  obtain ⟨⟨_, u2, u3, _⟩, fu⟩ := cells5 (HTA.out.set1 ((a1 : Int) - 1)).2.2
                  have fu2 := fu 2
                  have fu3 := fu 3
                  clear fu hPA HP1
                  clear f2 q2 f3 q3 h1 h2 HN2 HN3
                  go_wp2
                  go_roundw
                  case rel =>
                    refine ⟨t + 1, by omega, by go_num, Lib.hid ?_⟩
                    rw [HN1.out, HN2'.out, HN3'.out]
                    first | exact (HAR.out.set1 _).alloc _ | exact HTA.out.set1 _
                  case measure => simp [intOf]; omega
            · obtain rfl : m = t := by omega
              have HZ : Hid (Arr w3 wr A 0 0 0 0 (n4 : Int)) := Lib.hid (by have h := HT.out; simp only [Nat.sub_self] at h; exact h)
              have HBE := Lib.hid (HB3.out.trans (HT.out.2.1.mono HB3.out.size))
              obtain ⟨⟨q1, q2, q3, q4⟩, _⟩ := cells5 HZ.out.2.2
              clear HT q4
              go_wp2
              go_ret
              exact ⟨rfl, HBE.out⟩
  · go_wp2
    go_ret
    exact ⟨rfl, HB2.out⟩
end Go.Proofs.Ytgpnjgpbblookaa
