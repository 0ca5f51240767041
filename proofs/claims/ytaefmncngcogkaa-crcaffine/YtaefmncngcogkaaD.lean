/-
  CrcAffine's walk, where the three texts are long enough: their bytes laid over each other, and four sums.
-/
import Derived.Test.YtaefmncngcogkaaC
import Derived.Deep.RegionHeld3
namespace Go.Proofs.Ytaefmncngcogkaa
open Go.ChangeShapes Go.WideShapes Go.ChangeAt Go.RowKit
theorem src_plain {w : World} {sp : Option Addr} {n : Nat} {f : Nat → Nat} (h : Src w sp n f) (hn : 0 < n) : ∃ b off, sp = some ⟨b, off, none⟩ ∧ b < w.heap.size ∧ ∀ j, j < n → w.cell? ⟨b, off + j, none⟩ = some (.int .u8 ((f j : Nat) : Int)) := by
  obtain ⟨ad, rfl, hl, hc⟩ := h hn
  obtain ⟨b, off, spot⟩ := ad
  have h0 := hc 0 (by omega)
  have hspot : spot = none := by simpa [Addr.add] using World.cell?_spot h0
  subst hspot
  refine ⟨b, off, rfl, hl, fun j hj => ?_⟩
  have := hc j hj
  rwa [Go.WideShapes.add_plain] at this

set_option maxHeartbeats 1000000 in
theorem affine_main (a0 a1 a2 : Option Addr) (n cap m cap1 k cap2 : Nat) (f f1 f2 : Nat → Nat) (w : World) (hn : n ≤ 1000) (hm : n ≤ m) (hk : n ≤ k) (hm' : m ≤ cap1) (hk' : k ≤ cap2) (hf : ∀ j, f j < 256) (hf1 : ∀ j, f1 j < 256) (hf2 : ∀ j, f2 j < 256) (hs : Src w a0 n f) (hs1 : Src w a1 n f1) (hs2 : Src w a2 n f2) :
    Calls Try.prog 7 #[.slice a0 n cap, .slice a1 m cap1, .slice a2 k cap2] w fun e w' => e = .returned (.bool true) ∧ Below w.heap.size w w' := by
  obtain ⟨i0, hi, hz0, hz1, hz2⟩ := info_parts info5
  have HF := Lib.hid hf
  have HF1 := Lib.hid hf1
  have HF2 := Lib.hid hf2
  have HS := Lib.hid hs
  have HS1 := Lib.hid hs1
  have HS2 := Lib.hid hs2
  clear hf hf1 hf2 hs hs1 hs2
  have h1 : ¬ (1000 : Int) < (n : Int) := by omega
  have h2 : ¬ ((m : Int) < (n : Int)) := by omega
  have h3 : ¬ ((k : Int) < (n : Int)) := by omega
  have hd1 : decide (m < n) = false := by simpa using hm
  have hd2 : decide (k < n) = false := by simpa using hk
  have hd3 : decide ((1000 : Int) < (n : Int)) = false := by simpa using h1
  have h4 : (n : Int) ≤ (cap1 : Int) := by omega
  have h5 : (n : Int) ≤ (cap2 : Int) := by omega
  go_enter Try.func7, Try.ntmps7
  go_wp2_with fail
  refine (head_any _).mono ?_
  rintro e w1 ⟨rfl, hb⟩
  have HB := Lib.hid hb
  clear hb
  have HS1' := Lib.hid (HS.out.below HB.out)
  have HA1 := Lib.hid (HS1.out.below HB.out)
  have HA2 := Lib.hid (HS2.out.below HB.out)
  go_wp2
  go_loopw [7, 8, 39] (fun v _ i wr => ∃ (t g cp : Nat), t ≤ n ∧ i = .int .i64 (t : Int) ∧ v = .slice (some ⟨g, 0, none⟩) t cp ∧ Hid (w1.heap.size ≤ g ∧ wr.ownsRow w1.heap.size 5 1 (.slice (some ⟨g, 0, none⟩) t cp) t (rowB (fun j => f j ^^^ f1 j ^^^ f2 j) t) ∧ Below w1.heap.size w1 wr)) (fun _ _ i _ => n - (intOf i).toNat)
  case atStart => exact ⟨0, w1.heap.size, 0, Nat.zero_le _, rfl, rfl, Lib.hid ⟨Nat.le_refl _, World.ownsRow_lit w1 #[] 0 (Nat.le_refl _) (Nat.zero_le _) rfl, (Below.refl _ _).alloc (Nat.le_refl _) _⟩⟩
  case round =>
    obtain ⟨t, g, cp, ht, rfl, rfl, HA⟩ := hrel
    by_cases hlt : t < n
    · obtain ⟨b0, o0, rfl, k0, k1⟩ := src_plain (HS1'.out.below HA.out.2.2) (by omega)
      obtain ⟨b1, o1, rfl, k2, k3⟩ := src_plain (HA1.out.below HA.out.2.2) (by omega)
      obtain ⟨b2, o2, rfl, k4, k5⟩ := src_plain (HA2.out.below HA.out.2.2) (by omega)
      have e0 : b0 < w1.heap.size := by obtain ⟨ad, e, hl, _⟩ := HS1'.out (by omega); injection e with e; subst e; exact hl
      have e1 : b1 < w1.heap.size := by obtain ⟨ad, e, hl, _⟩ := HA1.out (by omega); injection e with e; subst e; exact hl
      have e2 : b2 < w1.heap.size := by obtain ⟨ad, e, hl, _⟩ := HA2.out (by omega); injection e with e; subst e; exact hl
      have c0 := k1 t hlt
      have c1 := k3 t hlt
      have c2 := k5 t hlt
      have hy0 := HF.out t
      have hy1 := HF1.out t
      have hy2 := HF2.out t
      have hlt' : (t : Int) < (n : Int) := by omega
      have hx1 := u8_xor_nat (f t) (f1 t) hy0 hy1
      have hx2 := u8_xor_nat (f t ^^^ f1 t) (f2 t) (Nat.xor_lt_two_pow (n := 8) hy0 hy1) hy2
      obtain ⟨q, hq⟩ : ∃ q, q = f t ^^^ f1 t ^^^ f2 t := ⟨_, rfl⟩
      rw [← hq] at hx2
      have HQ : Hid (rowB (fun j => f j ^^^ f1 j ^^^ f2 j) t ++ [Value.int .u8 (q : Int)] = rowB (fun j => f j ^^^ f1 j ^^^ f2 j) (t + 1)) :=
        Lib.hid (rowB_app _ (fun _ => q) t 1 _ (fun _ _ => rfl) (fun j hj => by rw [show j = 0 by omega, Nat.add_zero]; exact hq.symm))
      generalize f t ^^^ f1 t = p at hx1 hx2
      generalize f t = y0 at *
      generalize f1 t = y1 at *
      generalize f2 t = y2 at *
      clear k1 k3 k5 k0 k2 k4 hq
      have HD : Hid ((wr.drew.alloc (.cells #[.int .u8 (q : Int)] 5)).ownsRow w1.heap.size 5 1 (.slice (some ⟨g, 0, none⟩) t cp) t (rowB (fun j => f j ^^^ f1 j ^^^ f2 j) t) ∧ Below w1.heap.size w1 wr.drew) := Lib.hid ⟨(World.ownsRow.drew HA.out.2.1).alloc _, HA.out.2.2.drew⟩
      have HK3 : Hid (∀ W, (wr.drew.alloc (.cells #[.int .u8 (q : Int)] 5)).grownBy W (some g) → W.cell? ⟨b0, o0 + t, none⟩ = some (.int .u8 (y0 : Int)) ∧ W.cell? ⟨b1, o1 + t, none⟩ = some (.int .u8 (y1 : Int)) ∧ W.cell? ⟨b2, o2 + t, none⟩ = some (.int .u8 (y2 : Int))) := Lib.hid (fun W hgr => by
        have hbw : Below w1.heap.size w1 W := (HD.out.2.alloc HD.out.2.size _).grown hgr (Nat.le_trans HD.out.2.size (by simp)) (fun q hq => by injection hq with hq; have := HA.out.1; omega)
        exact ⟨(hbw.cell e0).trans ((HA.out.2.2.cell e0).symm.trans c0), (hbw.cell e1).trans ((HA.out.2.2.cell e1).symm.trans c1), (hbw.cell e2).trans ((HA.out.2.2.cell e2).symm.trans c2)⟩)
      have HSZ : Hid (w1.heap.size ≤ (wr.drew.alloc (.cells #[.int .u8 (q : Int)] 5)).heap.size) := Lib.hid (Nat.le_trans HD.out.2.size (by simp))
      have HNEW : Hid (∀ j u, [Value.int .u8 (q : Int)][j]? = some u → (wr.drew.alloc (.cells #[.int .u8 (q : Int)] 5)).cell? ((⟨wr.heap.size, 0, none⟩ : Addr).add j) = some u) := Lib.hid (by
        intro j u hj
        obtain rfl : j = 0 := by
          rcases j with _ | j
          · rfl
          · simp at hj
        injection hj with hj
        rw [← hj, Go.WideShapes.add_plain, cell_of_row _ wr.heap.size _ _ 5 (0, 0) (heap_alloc_new wr.drew _)]
        rfl)
      go_wp2
      go_region_held3 (fun W => W.cell? ⟨b0, o0 + t, none⟩ = some (.int .u8 (y0 : Int)) ∧ W.cell? ⟨b1, o1 + t, none⟩ = some (.int .u8 (y1 : Int)) ∧ W.cell? ⟨b2, o2 + t, none⟩ = some (.int .u8 (y2 : Int)))
        (first | exact ⟨c0, c1, c2⟩ | exact ⟨(World.cell?_alloc_lt _ _ _ (cell_lt c0)).trans c0, (World.cell?_alloc_lt _ _ _ (cell_lt c1)).trans c1, (World.cell?_alloc_lt _ _ _ (cell_lt c2)).trans c2⟩ | exact HK3.out _ hgrow5)
        (first
          | (refine step_append_lies _ (by rfl) _ _ 22 (by rfl) w1.heap.size 5 i0 (.int .u8 0) 1 1 Try.underlying22 hi hz0 hz1 hz2 rfl (by decide) _ t (rowB (fun j => f j ^^^ f1 j ^^^ f2 j) t) (by rfl) HD.out.1 ⟨wr.heap.size, 0, none⟩ 1 1 [.int .u8 (q : Int)] (by rfl) (by rfl) HNEW.out (by intro u hu; simp at hu; subst hu; rfl) (by omega) (by unfold maxLen; omega) (by omega) HSZ.out _ rfl ?_; intro g5 cap5 w5 hown5 hgrow5 hat5 hlt5))
      have HB5 : Hid (Below w1.heap.size w1 w5) := Lib.hid ((HD.out.2.alloc HD.out.2.size _).grown hgrow5 HSZ.out (fun q hq => by have := (HD.out.1.lt q hq).1; omega))
      rw [HQ.out] at hown5
      have hg1 := (hown5.lt g5 rfl).1
      have HO5 := Lib.hid (⟨hg1, hown5, HB5.out⟩ : _ ∧ _ ∧ _)
      clear hown5 hgrow5 hat5
      go_wp2
      go_roundw
      case rel => exact ⟨t + 1, g5, cap5, by omega, by go_num, rfl, HO5⟩
      case measure => simp [intOf]; omega
    · obtain rfl : t = n := by omega
      have HB2 := Lib.hid (HB.out.trans (HA.out.2.2.mono HB.out.size))
      have HO := Lib.hid (own_src HA.out.2.1)
      have T0 := Lib.hid (HS1'.out.below HA.out.2.2)
      have T1 := Lib.hid (HA1.out.below HA.out.2.2)
      have T2 := Lib.hid (HA2.out.below HA.out.2.2)
      have HFD : Hid (∀ j, f j ^^^ f1 j ^^^ f2 j < 256) := Lib.hid fun j => Nat.xor_lt_two_pow (n := 8) (Nat.xor_lt_two_pow (n := 8) (HF.out j) (HF1.out j)) (HF2.out j)
      have HM := Lib.hid (CrcMath.more_three f f1 f2 t)
      have L0 := CrcMath.more_lt 0 f t (by decide) fun j _ => HF.out j
      have L1 := CrcMath.more_lt 0 f1 t (by decide) fun j _ => HF1.out j
      have L2 := CrcMath.more_lt 0 f2 t (by decide) fun j _ => HF2.out j
      have HX1 := Lib.hid (nx (CrcMath.more 0 f t) (CrcMath.more 0 f1 t) L0 L1)
      have HX2 := Lib.hid (nx (CrcMath.more 0 f t ^^^ CrcMath.more 0 f1 t) (CrcMath.more 0 f2 t) (CrcMath.xor_lt32 L0 L1) L2)
      clear L0 L1 L2
      go_wp2_with fail
      refine (sum_any (some ⟨g, 0, none⟩) t cp (fun j => f j ^^^ f1 j ^^^ f2 j) wr (by omega) (fun j _ => HFD.out j) HO.out).mono ?_
      rintro e w' ⟨rfl, rfl⟩
      go_wp2_with fail
      refine (sum_any _ t _ f wr (by omega) (fun j _ => HF.out j) T0.out).mono ?_
      rintro e w' ⟨rfl, rfl⟩
      go_wp2_with fail
      refine (sum_any _ t _ f1 wr (by omega) (fun j _ => HF1.out j) T1.out).mono ?_
      rintro e w' ⟨rfl, rfl⟩
      go_wp2_with fail
      refine (sum_any _ t _ f2 wr (by omega) (fun j _ => HF2.out j) T2.out).mono ?_
      rintro e w' ⟨rfl, rfl⟩
      rw [HX1.out]
      go_wp2
      rw [HX2.out, HM.out]
      go_ret
      exact ⟨by simp, HB2.out⟩
end Go.Proofs.Ytaefmncngcogkaa
