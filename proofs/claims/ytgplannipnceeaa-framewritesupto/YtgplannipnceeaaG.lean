/-
  Contract of Decode, whatever bytes: too short, the second sum, and a frame.
-/
import Derived.Test.YtgplannipnceeaaF
namespace Go.Proofs.Ytgplannipnceeaa
open Go.ChangeShapes Go.WideShapes Go.ChangeAt Go.RowKit

set_option maxHeartbeats 2000000 in
theorem dec_cut (ad : Addr) (n cap : Nat) (f : Nat → Nat) (w : World) (hn : 8 ≤ n) (hc : n ≤ cap) (hf : ∀ j, f j < 256) (hs : Src w (some ad) n f) (hg : good1 f) (hz : sizeOf' f ≤ 65536) (hcut : n < 12 + sizeOf' f) : Calls Try.prog 12 #[.slice (some ad) n cap] w (DecPost f n w) := by
  have HE : Hid (derr f n = 10) := Lib.hid (by unfold derr; rw [if_neg (by omega), if_neg (fun h => h hg), if_neg (by omega), if_pos hcut])
  have HF := Lib.hid hf
  have HS := Lib.hid hs
  have hn' : ¬ (n : Int) < 8 := by omega
  have hn4 : (4 : Int) ≤ (n : Int) := by omega
  have hc4 : (4 : Int) ≤ (cap : Int) := by omega
  have hcn : (n : Int) ≤ (cap : Int) := by omega
  have hc5 : ¬ cap = 4 := by omega
  have hc6 : ¬ 4 = cap := by omega
  have HZ : Hid (Below w.heap.size w (w.alloc (.cells #[.int .i64 0, .slice none 0 0] 24))) := Lib.hid ((Below.refl _ _).alloc (Nat.le_refl _) _)
  have heq : ∀ W : World, (Op.equalIn 10000 50 (.agg (cells4 fun j => f (4 + j))) (.agg (cells4 (big (CrcMath.more 0 f 4))))).run Try.prog W = .ok true W := eq4 _ _ true ⟨fun _ => hg, fun _ => rfl⟩
  clear hf hs hg
  go_enter Try.func12, Try.ntmps12
  go_wp2_with fail
  refine (front_any (some ad) n cap f _ (by omega) (HS.out.below HZ.out)).mono ?_
  rintro e w1 ⟨rfl, hb1⟩
  have HZ1 : Hid (w1.heap[w.heap.size]? = some (.cells #[.int .i64 0, .slice none 0 0] 24 (0, 0))) := Lib.hid ((hb1.block _ (by simp)).trans (heap_alloc_new w _))
  have HB1 := Lib.hid (HZ.out.trans (hb1.mono (by simp)))
  have HA : Hid (A4 (w1.alloc (.cells (cells4 f) 50)) w1.heap.size f) := Lib.hid (heap_alloc_new w1 _)
  have HB2' : Hid (Below w1.heap.size w1 (w1.alloc (.cells (cells4 f) 50))) := Lib.hid ((Below.refl _ _).alloc (Nat.le_refl _) _)
  clear hb1
  have hl1 : w.heap.size < w1.heap.size := by
    rcases Nat.lt_or_ge w.heap.size w1.heap.size with h' | h'
    · exact h'
    · have := HZ1.out; rw [Array.getElem?_eq_none h'] at this; cases this
  unfold cells4 at HA HB2' heq ⊢
  go_wp2
  generalize (w1.alloc (.cells #[.int .u8 ((f 0 : Nat) : Int), .int .u8 ((f 1 : Nat) : Int), .int .u8 ((f 2 : Nat) : Int), .int .u8 ((f 3 : Nat) : Int)] 50)) = w2 at *
  have HZ2 := Lib.hid ((HB2'.out.block _ hl1).trans HZ1.out)
  have HB2 := Lib.hid (HB1.out.trans (HB2'.out.mono HB1.out.size))
  have HS2 := Lib.hid (HS.out.below HB2.out)
  have hl2 : w.heap.size < w2.heap.size := Nat.lt_of_lt_of_le hl1 HB2'.out.size
  generalize w1.heap.size = P at *
  have HFR : Hid (∀ W c, Below w2.heap.size w2 W → Calls Try.prog 20 #[.slice (some (ad.add 4)) (n - 4) c] W fun e w' => e = .returned (.agg (cells4 fun j => f (4 + j))) ∧ Below W.heap.size W w') :=
    Lib.hid fun W c hb => front_any _ (n - 4) c _ W (by omega) ((HS2.out.below hb).behind 4 (n - 4) (by omega))
  have HSU : Hid (∀ W, Below w2.heap.size w2 W → Calls Try.prog 22 #[.slice (some ⟨P, 0, none⟩) 4 4] W fun e w' => e = .returned (.int .u32 ((CrcMath.more 0 f 4 : Nat) : Int)) ∧ W = w') :=
    Lib.hid fun W hb => sum_any _ 4 4 f W (by omega) (fun j _ => HF.out j) (HA.out.below hb HA.out.lt).src
  have HFO : Hid (∀ W, Calls Try.prog 21 #[.int .u32 ((CrcMath.more 0 f 4 : Nat) : Int)] W fun e w' => e = .returned (.agg (cells4 (big (CrcMath.more 0 f 4)))) ∧ Below W.heap.size W w') :=
    Lib.hid fun W => four_any _ W (CrcMath.more_lt 0 f 4 (by decide) fun j _ => HF.out j)
  have hB : Below w2.heap.size w2 w2.drew := (Below.refl _ _).drew
  unfold cells4 at HFR HFO
  generalize CrcMath.more 0 f 4 = s at *
  go_region_held3 (fun _ => True) (trivial)
    (first
      | (go_at_call 20; refine (HFR.out _ _ hB).mono ?_; rintro e wN ⟨rfl, hN⟩; replace hB := hB.trans (hN.mono hB.size))
      | (go_at_call 22; refine (HSU.out _ hB).mono ?_; rintro e wN ⟨rfl, rfl⟩)
      | (go_at_call 21; refine (HFO.out _).mono ?_; rintro e wN ⟨rfl, hN⟩; replace hB := hB.trans (hN.mono hB.size)))
  have HBN := Lib.hid (HB2.out.trans (hB.mono HB2.out.size))
  have HAN := Lib.hid (HA.out.below hB HA.out.lt)
  have HZN := Lib.hid ((hB.block _ hl2).trans HZ2.out)
  have hlN : w.heap.size < wN.heap.size := Nat.lt_of_lt_of_le hl2 hB.size
  have HSN := Lib.hid (HS2.out.below hB)
  obtain ⟨⟨a0, a1, a2, a3⟩, fa⟩ := HAN.out.all
  clear hB HFR HSU HFO hN heq
  go_wp2_with fail
  have hnum := number_any f wN HF.out
  unfold cells4 at hnum
  refine hnum.mono ?_
  rintro e w5 ⟨rfl, hb5⟩
  have HZ5 := Lib.hid ((hb5.block _ hlN).trans HZN.out)
  have HB5 := Lib.hid (HBN.out.trans (hb5.mono HBN.out.size))
  have HS5 := Lib.hid (HSN.out.below hb5)
  have hl5 : w.heap.size < w5.heap.size := Nat.lt_of_lt_of_le hlN hb5.size
  have hx24 := and24 _ (nval4_lt f HF.out)
  have hxl := nval4_lt f HF.out
  have hdiv : (((nval f 4 : Nat) : Int) / 16777216) = ((kindOf f : Nat) : Int) := by unfold kindOf; omega
  have hsz : ((nval f 4 % 16777216 : Nat) : Int) = ((sizeOf' f : Nat) : Int) := rfl
  have hkl : kindOf f < 256 := by unfold kindOf; omega
  have hsl : sizeOf' f < 16777216 := Nat.mod_lt _ (by decide)
  rw [hsz] at hx24
  clear hsz hnum hb5 a0 a1 a2 a3 fa
  generalize sizeOf' f = z at *
  generalize kindOf f = kd at *
  generalize nval f 4 = x at *
  have hz' : ¬ (65536 : Int) < (z : Int) := by omega
  have hcut' : (n : Int) < 12 + (z : Int) := by omega
  obtain ⟨⟨z0, z1⟩, fz⟩ := zcells HZ5.out
  go_wp2
  exact bodyPost_ret (v := .tuple #[zeroF, .int .i64 0, .int .i64 10]) (by simp [results, Try.results12, go_sem, zeroF, z0, z1]) rfl ⟨(HB5.out.setCell (Nat.le_refl _) _).setCell (Nat.le_refl _) _, .inl ⟨by rw [HE.out]; decide, by rw [HE.out]; rfl⟩⟩

set_option maxHeartbeats 2000000 in
theorem dec_bad2 (ad : Addr) (n cap : Nat) (f : Nat → Nat) (w : World) (hn : 8 ≤ n) (hc : n ≤ cap) (hf : ∀ j, f j < 256) (hs : Src w (some ad) n f) (hg : good1 f) (hz : sizeOf' f ≤ 65536) (hcut : 12 + sizeOf' f ≤ n) (hg2 : ¬ good2 f) : Calls Try.prog 12 #[.slice (some ad) n cap] w (DecPost f n w) := by
  have HE : Hid (derr f n = 13) := Lib.hid (by unfold derr; rw [if_neg (by omega), if_neg (fun h => h hg), if_neg (by omega), if_neg (by omega), if_pos hg2])
  have heq2 : ∀ W : World, (Op.equalIn 10000 50 (.agg (cells4 fun j => f (8 + j))) (.agg (cells4 (big (CrcMath.more (CrcMath.more 0 f 8) (fun j => f (12 + j)) (sizeOf' f)))))).run Try.prog W = .ok false W := eq4 _ _ false ⟨fun h => absurd h (by decide), fun h => absurd h hg2⟩
  clear hg2
  have HF := Lib.hid hf
  have HS := Lib.hid hs
  have hn' : ¬ (n : Int) < 8 := by omega
  have hn4 : (4 : Int) ≤ (n : Int) := by omega
  have hc4 : (4 : Int) ≤ (cap : Int) := by omega
  have hcn : (n : Int) ≤ (cap : Int) := by omega
  have hc5 : ¬ cap = 4 := by omega
  have hc6 : ¬ 4 = cap := by omega
  have HZ : Hid (Below w.heap.size w (w.alloc (.cells #[.int .i64 0, .slice none 0 0] 24))) := Lib.hid ((Below.refl _ _).alloc (Nat.le_refl _) _)
  have heq : ∀ W : World, (Op.equalIn 10000 50 (.agg (cells4 fun j => f (4 + j))) (.agg (cells4 (big (CrcMath.more 0 f 4))))).run Try.prog W = .ok true W := eq4 _ _ true ⟨fun _ => hg, fun _ => rfl⟩
  clear hf hs hg
  go_enter Try.func12, Try.ntmps12
  go_wp2_with fail
  refine (front_any (some ad) n cap f _ (by omega) (HS.out.below HZ.out)).mono ?_
  rintro e w1 ⟨rfl, hb1⟩
  have HZ1 : Hid (w1.heap[w.heap.size]? = some (.cells #[.int .i64 0, .slice none 0 0] 24 (0, 0))) := Lib.hid ((hb1.block _ (by simp)).trans (heap_alloc_new w _))
  have HB1 := Lib.hid (HZ.out.trans (hb1.mono (by simp)))
  have HA : Hid (A4 (w1.alloc (.cells (cells4 f) 50)) w1.heap.size f) := Lib.hid (heap_alloc_new w1 _)
  have HB2' : Hid (Below w1.heap.size w1 (w1.alloc (.cells (cells4 f) 50))) := Lib.hid ((Below.refl _ _).alloc (Nat.le_refl _) _)
  clear hb1
  have hl1 : w.heap.size < w1.heap.size := by
    rcases Nat.lt_or_ge w.heap.size w1.heap.size with h' | h'
    · exact h'
    · have := HZ1.out; rw [Array.getElem?_eq_none h'] at this; cases this
  unfold cells4 at HA HB2' heq ⊢
  go_wp2
  generalize (w1.alloc (.cells #[.int .u8 ((f 0 : Nat) : Int), .int .u8 ((f 1 : Nat) : Int), .int .u8 ((f 2 : Nat) : Int), .int .u8 ((f 3 : Nat) : Int)] 50)) = w2 at *
  have HZ2 := Lib.hid ((HB2'.out.block _ hl1).trans HZ1.out)
  have HB2 := Lib.hid (HB1.out.trans (HB2'.out.mono HB1.out.size))
  have HS2 := Lib.hid (HS.out.below HB2.out)
  have hl2 : w.heap.size < w2.heap.size := Nat.lt_of_lt_of_le hl1 HB2'.out.size
  generalize w1.heap.size = P at *
  have HFR : Hid (∀ W c, Below w2.heap.size w2 W → Calls Try.prog 20 #[.slice (some (ad.add 4)) (n - 4) c] W fun e w' => e = .returned (.agg (cells4 fun j => f (4 + j))) ∧ Below W.heap.size W w') :=
    Lib.hid fun W c hb => front_any _ (n - 4) c _ W (by omega) ((HS2.out.below hb).behind 4 (n - 4) (by omega))
  have HSU : Hid (∀ W, Below w2.heap.size w2 W → Calls Try.prog 22 #[.slice (some ⟨P, 0, none⟩) 4 4] W fun e w' => e = .returned (.int .u32 ((CrcMath.more 0 f 4 : Nat) : Int)) ∧ W = w') :=
    Lib.hid fun W hb => sum_any _ 4 4 f W (by omega) (fun j _ => HF.out j) (HA.out.below hb HA.out.lt).src
  have HFO : Hid (∀ W, Calls Try.prog 21 #[.int .u32 ((CrcMath.more 0 f 4 : Nat) : Int)] W fun e w' => e = .returned (.agg (cells4 (big (CrcMath.more 0 f 4)))) ∧ Below W.heap.size W w') :=
    Lib.hid fun W => four_any _ W (CrcMath.more_lt 0 f 4 (by decide) fun j _ => HF.out j)
  have hB : Below w2.heap.size w2 w2.drew := (Below.refl _ _).drew
  unfold cells4 at HFR HFO
  generalize CrcMath.more 0 f 4 = s at *
  go_region_held3 (fun _ => True) (trivial)
    (first
      | (go_at_call 20; refine (HFR.out _ _ hB).mono ?_; rintro e wN ⟨rfl, hN⟩; replace hB := hB.trans (hN.mono hB.size))
      | (go_at_call 22; refine (HSU.out _ hB).mono ?_; rintro e wN ⟨rfl, rfl⟩)
      | (go_at_call 21; refine (HFO.out _).mono ?_; rintro e wN ⟨rfl, hN⟩; replace hB := hB.trans (hN.mono hB.size)))
  have HBN := Lib.hid (HB2.out.trans (hB.mono HB2.out.size))
  have HAN := Lib.hid (HA.out.below hB HA.out.lt)
  have HZN := Lib.hid ((hB.block _ hl2).trans HZ2.out)
  have hlN : w.heap.size < wN.heap.size := Nat.lt_of_lt_of_le hl2 hB.size
  have HSN := Lib.hid (HS2.out.below hB)
  obtain ⟨⟨a0, a1, a2, a3⟩, fa⟩ := HAN.out.all
  clear hB HFR HSU HFO hN heq
  go_wp2_with fail
  have hnum := number_any f wN HF.out
  unfold cells4 at hnum
  refine hnum.mono ?_
  rintro e w5 ⟨rfl, hb5⟩
  have HZ5 := Lib.hid ((hb5.block _ hlN).trans HZN.out)
  have HB5 := Lib.hid (HBN.out.trans (hb5.mono HBN.out.size))
  have HS5 := Lib.hid (HSN.out.below hb5)
  have hl5 : w.heap.size < w5.heap.size := Nat.lt_of_lt_of_le hlN hb5.size
  have hx24 := and24 _ (nval4_lt f HF.out)
  have hxl := nval4_lt f HF.out
  have hdiv : (((nval f 4 : Nat) : Int) / 16777216) = ((kindOf f : Nat) : Int) := by unfold kindOf; omega
  have hsz : ((nval f 4 % 16777216 : Nat) : Int) = ((sizeOf' f : Nat) : Int) := rfl
  have hkl : kindOf f < 256 := by unfold kindOf; omega
  have hsl : sizeOf' f < 16777216 := Nat.mod_lt _ (by decide)
  rw [hsz] at hx24
  clear hsz hnum hb5 a0 a1 a2 a3 fa
  generalize sizeOf' f = z at *
  generalize kindOf f = kd at *
  generalize nval f 4 = x at *
  have hz' : ¬ (65536 : Int) < (z : Int) := by omega
  have hcut' : ¬ (n : Int) < 12 + (z : Int) := by omega
  have hn8 : (8 : Int) ≤ (n : Int) := by omega
  have hc8 : (8 : Int) ≤ (cap : Int) := by omega
  have hc88 : ¬ cap = 8 := by omega
  have hc89 : ¬ 8 = cap := by omega
  have hcz : 12 + (z : Int) ≤ (cap : Int) := by omega
  have hcz1 : (12 : Int) ≤ 12 + (z : Int) := by omega
  have hwz : IntKind.i64.wrap (12 + (z : Int)) = 12 + (z : Int) := by rw [IntKind.wrap_i64]; omega
  obtain ⟨S3, eS3⟩ : ∃ S3, S3 = CrcMath.more (CrcMath.more 0 f 8) (fun j => f (12 + j)) z := ⟨_, rfl⟩
  rw [← eS3] at heq2
  have HS3 := Lib.hid eS3
  clear eS3
  unfold cells4 at heq2
  by_cases hc12 : cap = 12
  · obtain rfl : z = 0 := by omega
    subst hc12
    have HFR : Hid (∀ W c, Below w5.heap.size w5 W → Calls Try.prog 20 #[.slice (some (ad.add 8)) (n - 8) c] W fun e w' => e = .returned (.agg (cells4 fun j => f (8 + j))) ∧ Below W.heap.size W w') :=
      Lib.hid fun W c hb => front_any _ (n - 8) c _ W (by omega) ((HS5.out.below hb).behind 8 (n - 8) (by omega))
    have HSD : Hid (Src w5 (some ad) 0 (fun j => f (12 + j))) := Lib.hid (fun h => absurd h (by decide))
    have HWH : Hid (∀ W c1 c2, Below w5.heap.size w5 W → Calls Try.prog 24 #[.slice (some ad) 8 c1, .slice (some ad) 0 c2] W fun e w' => e = .returned (.agg (cells4 (big S3))) ∧ Below W.heap.size W w') :=
      Lib.hid fun W c1 c2 hb => by rw [HS3.out]; exact whole_any _ c1 f _ 0 c2 _ W (by omega) HF.out (fun j => HF.out _) ((HS5.out.below hb).front 8 (by omega)) (HSD.out.below hb)
    have hB : Below w5.heap.size w5 w5.drew := (Below.refl _ _).drew
    unfold cells4 at HFR HWH
    go_wp2
    go_region_held3 (fun _ => True) (trivial)
      (first
        | (go_at_call 20; refine (HFR.out _ _ hB).mono ?_; rintro e wN ⟨rfl, hN⟩; replace hB := hB.trans (hN.mono hB.size))
        | (go_at_call 24; refine (HWH.out _ _ _ hB).mono ?_; rintro e wN ⟨rfl, hN⟩; replace hB := hB.trans (hN.mono hB.size)))
    have HB6 := Lib.hid (HB5.out.trans (hB.mono HB5.out.size))
    obtain ⟨⟨z0, z1⟩, fz⟩ := zcells ((hB.block _ hl5).trans HZ5.out)
    clear hB HFR HWH hN
    go_wp2
    exact bodyPost_ret (v := .tuple #[zeroF, .int .i64 0, .int .i64 13]) (by simp [results, Try.results12, go_sem, zeroF, z0, z1]) rfl ⟨(HB6.out.setCell (Nat.le_refl _) _).setCell (Nat.le_refl _) _, .inl ⟨by rw [HE.out]; decide, by rw [HE.out]; rfl⟩⟩
  · have hc13 : ¬ 12 = cap := by omega
    have hc14 : (12 : Int) ≤ (cap : Int) := by omega
    have HFR : Hid (∀ W c, Below w5.heap.size w5 W → Calls Try.prog 20 #[.slice (some (ad.add 8)) (n - 8) c] W fun e w' => e = .returned (.agg (cells4 fun j => f (8 + j))) ∧ Below W.heap.size W w') :=
      Lib.hid fun W c hb => front_any _ (n - 8) c _ W (by omega) ((HS5.out.below hb).behind 8 (n - 8) (by omega))
    have HSD : Hid (Src w5 (some (ad.add 12)) z (fun j => f (12 + j))) := Lib.hid (HS5.out.behind 12 z (by omega))
    have HWH : Hid (∀ W c1 c2, Below w5.heap.size w5 W → Calls Try.prog 24 #[.slice (some ad) 8 c1, .slice (some (ad.add 12)) z c2] W fun e w' => e = .returned (.agg (cells4 (big S3))) ∧ Below W.heap.size W w') :=
      Lib.hid fun W c1 c2 hb => by rw [HS3.out]; exact whole_any _ c1 f _ z c2 _ W (by omega) HF.out (fun j => HF.out _) ((HS5.out.below hb).front 8 (by omega)) (HSD.out.below hb)
    have hB : Below w5.heap.size w5 w5.drew := (Below.refl _ _).drew
    unfold cells4 at HFR HWH
    go_wp2
    go_region_held3 (fun _ => True) (trivial)
      (first
        | (go_at_call 20; refine (HFR.out _ _ hB).mono ?_; rintro e wN ⟨rfl, hN⟩; replace hB := hB.trans (hN.mono hB.size))
        | (go_at_call 24; refine (HWH.out _ _ _ hB).mono ?_; rintro e wN ⟨rfl, hN⟩; replace hB := hB.trans (hN.mono hB.size)))
    have HB6 := Lib.hid (HB5.out.trans (hB.mono HB5.out.size))
    obtain ⟨⟨z0, z1⟩, fz⟩ := zcells ((hB.block _ hl5).trans HZ5.out)
    clear hB HFR HWH hN
    go_wp2
    exact bodyPost_ret (v := .tuple #[zeroF, .int .i64 0, .int .i64 13]) (by simp [results, Try.results12, go_sem, zeroF, z0, z1]) rfl ⟨(HB6.out.setCell (Nat.le_refl _) _).setCell (Nat.le_refl _) _, .inl ⟨by rw [HE.out]; decide, by rw [HE.out]; rfl⟩⟩

theorem own_set {w : World} {base n b j : Nat} {v u : Value} {xs : List Value} (h : w.ownsRow base 5 1 v n xs) (hne : ∀ k, v.ownBlock = some k → k ≠ b) : (w.setCell ⟨b, j, none⟩ u).ownsRow base 5 1 v n xs := by
  refine ⟨h.1, ?_⟩
  rcases h.2 with h0 | ⟨g, cap, cur, hv, hg, hh, hrest⟩
  · exact .inl h0
  · exact .inr ⟨g, cap, cur, hv, hg, (heap_setCell_other w ⟨b, j, none⟩ g u (hne g (by rw [hv]; rfl))).trans hh, hrest⟩
theorem own_kept2 {w : World} {base n b : Nat} {v u0 u1 : Value} {xs : List Value} (h : w.ownsRow base 5 1 v n xs) (hne : ∀ k, v.ownBlock = some k → k ≠ b) : ((w.setCell ⟨b, 0, none⟩ u0).setCell ⟨b, 1, none⟩ u1).ownsRow base 5 1 v n xs := own_set (own_set h hne) hne

set_option maxHeartbeats 2000000 in
theorem dec_ok (ad : Addr) (n cap : Nat) (f : Nat → Nat) (w : World) (hn : 8 ≤ n) (hc : n ≤ cap) (hf : ∀ j, f j < 256) (hs : Src w (some ad) n f) (hg : good1 f) (hz : sizeOf' f ≤ 65536) (hcut : 12 + sizeOf' f ≤ n) (hg2 : good2 f) : Calls Try.prog 12 #[.slice (some ad) n cap] w (DecPost f n w) := by
  obtain ⟨i0, hi, hz0, hz1, hz2⟩ := info_parts info5
  have HE : Hid (derr f n = 0) := Lib.hid (by unfold derr; rw [if_neg (by omega), if_neg (fun h => h hg), if_neg (by omega), if_neg (by omega), if_neg (fun h => h hg2)])
  have heq2 : ∀ W : World, (Op.equalIn 10000 50 (.agg (cells4 fun j => f (8 + j))) (.agg (cells4 (big (CrcMath.more (CrcMath.more 0 f 8) (fun j => f (12 + j)) (sizeOf' f)))))).run Try.prog W = .ok true W := eq4 _ _ true ⟨fun _ => hg2, fun _ => rfl⟩
  clear hg2
  have HF := Lib.hid hf
  have HS := Lib.hid hs
  have hn' : ¬ (n : Int) < 8 := by omega
  have hn4 : (4 : Int) ≤ (n : Int) := by omega
  have hc4 : (4 : Int) ≤ (cap : Int) := by omega
  have hcn : (n : Int) ≤ (cap : Int) := by omega
  have hc5 : ¬ cap = 4 := by omega
  have hc6 : ¬ 4 = cap := by omega
  have HZ : Hid (Below w.heap.size w (w.alloc (.cells #[.int .i64 0, .slice none 0 0] 24))) := Lib.hid ((Below.refl _ _).alloc (Nat.le_refl _) _)
  have heq : ∀ W : World, (Op.equalIn 10000 50 (.agg (cells4 fun j => f (4 + j))) (.agg (cells4 (big (CrcMath.more 0 f 4))))).run Try.prog W = .ok true W := eq4 _ _ true ⟨fun _ => hg, fun _ => rfl⟩
  clear hf hs hg
  go_enter Try.func12, Try.ntmps12
  go_wp2_with fail
  refine (front_any (some ad) n cap f _ (by omega) (HS.out.below HZ.out)).mono ?_
  rintro e w1 ⟨rfl, hb1⟩
  have HZ1 : Hid (w1.heap[w.heap.size]? = some (.cells #[.int .i64 0, .slice none 0 0] 24 (0, 0))) := Lib.hid ((hb1.block _ (by simp)).trans (heap_alloc_new w _))
  have HB1 := Lib.hid (HZ.out.trans (hb1.mono (by simp)))
  have HA : Hid (A4 (w1.alloc (.cells (cells4 f) 50)) w1.heap.size f) := Lib.hid (heap_alloc_new w1 _)
  have HB2' : Hid (Below w1.heap.size w1 (w1.alloc (.cells (cells4 f) 50))) := Lib.hid ((Below.refl _ _).alloc (Nat.le_refl _) _)
  clear hb1
  have hl1 : w.heap.size < w1.heap.size := by
    rcases Nat.lt_or_ge w.heap.size w1.heap.size with h' | h'
    · exact h'
    · have := HZ1.out; rw [Array.getElem?_eq_none h'] at this; cases this
  unfold cells4 at HA HB2' heq ⊢
  go_wp2
  generalize (w1.alloc (.cells #[.int .u8 ((f 0 : Nat) : Int), .int .u8 ((f 1 : Nat) : Int), .int .u8 ((f 2 : Nat) : Int), .int .u8 ((f 3 : Nat) : Int)] 50)) = w2 at *
  have HZ2 := Lib.hid ((HB2'.out.block _ hl1).trans HZ1.out)
  have HB2 := Lib.hid (HB1.out.trans (HB2'.out.mono HB1.out.size))
  have HS2 := Lib.hid (HS.out.below HB2.out)
  have hl2 : w.heap.size < w2.heap.size := Nat.lt_of_lt_of_le hl1 HB2'.out.size
  generalize w1.heap.size = P at *
  have HFR : Hid (∀ W c, Below w2.heap.size w2 W → Calls Try.prog 20 #[.slice (some (ad.add 4)) (n - 4) c] W fun e w' => e = .returned (.agg (cells4 fun j => f (4 + j))) ∧ Below W.heap.size W w') :=
    Lib.hid fun W c hb => front_any _ (n - 4) c _ W (by omega) ((HS2.out.below hb).behind 4 (n - 4) (by omega))
  have HSU : Hid (∀ W, Below w2.heap.size w2 W → Calls Try.prog 22 #[.slice (some ⟨P, 0, none⟩) 4 4] W fun e w' => e = .returned (.int .u32 ((CrcMath.more 0 f 4 : Nat) : Int)) ∧ W = w') :=
    Lib.hid fun W hb => sum_any _ 4 4 f W (by omega) (fun j _ => HF.out j) (HA.out.below hb HA.out.lt).src
  have HFO : Hid (∀ W, Calls Try.prog 21 #[.int .u32 ((CrcMath.more 0 f 4 : Nat) : Int)] W fun e w' => e = .returned (.agg (cells4 (big (CrcMath.more 0 f 4)))) ∧ Below W.heap.size W w') :=
    Lib.hid fun W => four_any _ W (CrcMath.more_lt 0 f 4 (by decide) fun j _ => HF.out j)
  have hB : Below w2.heap.size w2 w2.drew := (Below.refl _ _).drew
  unfold cells4 at HFR HFO
  generalize CrcMath.more 0 f 4 = s at *
  go_region_held3 (fun _ => True) (trivial)
    (first
      | (go_at_call 20; refine (HFR.out _ _ hB).mono ?_; rintro e wN ⟨rfl, hN⟩; replace hB := hB.trans (hN.mono hB.size))
      | (go_at_call 22; refine (HSU.out _ hB).mono ?_; rintro e wN ⟨rfl, rfl⟩)
      | (go_at_call 21; refine (HFO.out _).mono ?_; rintro e wN ⟨rfl, hN⟩; replace hB := hB.trans (hN.mono hB.size)))
  have HBN := Lib.hid (HB2.out.trans (hB.mono HB2.out.size))
  have HAN := Lib.hid (HA.out.below hB HA.out.lt)
  have HZN := Lib.hid ((hB.block _ hl2).trans HZ2.out)
  have hlN : w.heap.size < wN.heap.size := Nat.lt_of_lt_of_le hl2 hB.size
  have HSN := Lib.hid (HS2.out.below hB)
  obtain ⟨⟨a0, a1, a2, a3⟩, fa⟩ := HAN.out.all
  clear hB HFR HSU HFO hN heq
  go_wp2_with fail
  have hnum := number_any f wN HF.out
  unfold cells4 at hnum
  refine hnum.mono ?_
  rintro e w5 ⟨rfl, hb5⟩
  have HZ5 := Lib.hid ((hb5.block _ hlN).trans HZN.out)
  have HB5 := Lib.hid (HBN.out.trans (hb5.mono HBN.out.size))
  have HS5 := Lib.hid (HSN.out.below hb5)
  have hl5 : w.heap.size < w5.heap.size := Nat.lt_of_lt_of_le hlN hb5.size
  have hx24 := and24 _ (nval4_lt f HF.out)
  have hxl := nval4_lt f HF.out
  have hdiv : (((nval f 4 : Nat) : Int) / 16777216) = ((kindOf f : Nat) : Int) := by unfold kindOf; omega
  have hsz : ((nval f 4 % 16777216 : Nat) : Int) = ((sizeOf' f : Nat) : Int) := rfl
  have hkl : kindOf f < 256 := by unfold kindOf; omega
  have hsl : sizeOf' f < 16777216 := Nat.mod_lt _ (by decide)
  rw [hsz] at hx24
  clear hsz hnum hb5 a0 a1 a2 a3 fa
  obtain ⟨z, ez⟩ : ∃ z, z = sizeOf' f := ⟨_, rfl⟩
  obtain ⟨kd, ekd⟩ : ∃ kd, kd = kindOf f := ⟨_, rfl⟩
  rw [← ez] at hx24 hsl hz hcut heq2
  rw [← ekd] at hdiv hkl
  have HZD := Lib.hid ez.symm
  have HKD := Lib.hid ekd.symm
  clear ez ekd
  generalize nval f 4 = x at *
  have hz' : ¬ (65536 : Int) < (z : Int) := by omega
  have hcut' : ¬ (n : Int) < 12 + (z : Int) := by omega
  have hn8 : (8 : Int) ≤ (n : Int) := by omega
  have hc8 : (8 : Int) ≤ (cap : Int) := by omega
  have hc88 : ¬ cap = 8 := by omega
  have hc89 : ¬ 8 = cap := by omega
  have hcz : 12 + (z : Int) ≤ (cap : Int) := by omega
  have hcz1 : (12 : Int) ≤ 12 + (z : Int) := by omega
  have hwz : IntKind.i64.wrap (12 + (z : Int)) = 12 + (z : Int) := by rw [IntKind.wrap_i64]; omega
  obtain ⟨S3, eS3⟩ : ∃ S3, S3 = CrcMath.more (CrcMath.more 0 f 8) (fun j => f (12 + j)) z := ⟨_, rfl⟩
  rw [← eS3] at heq2
  have HS3 := Lib.hid eS3
  clear eS3
  unfold cells4 at heq2
  by_cases hc12 : cap = 12
  · obtain rfl : z = 0 := by omega
    subst hc12
    have HFR : Hid (∀ W c, Below w5.heap.size w5 W → Calls Try.prog 20 #[.slice (some (ad.add 8)) (n - 8) c] W fun e w' => e = .returned (.agg (cells4 fun j => f (8 + j))) ∧ Below W.heap.size W w') :=
      Lib.hid fun W c hb => front_any _ (n - 8) c _ W (by omega) ((HS5.out.below hb).behind 8 (n - 8) (by omega))
    have HSD : Hid (Src w5 (some ad) 0 (fun j => f (12 + j))) := Lib.hid (fun h => absurd h (by decide))
    have HWH : Hid (∀ W c1 c2, Below w5.heap.size w5 W → Calls Try.prog 24 #[.slice (some ad) 8 c1, .slice (some ad) 0 c2] W fun e w' => e = .returned (.agg (cells4 (big S3))) ∧ Below W.heap.size W w') :=
      Lib.hid fun W c1 c2 hb => by rw [HS3.out]; exact whole_any _ c1 f _ 0 c2 _ W (by omega) HF.out (fun j => HF.out _) ((HS5.out.below hb).front 8 (by omega)) (HSD.out.below hb)
    have hB : Below w5.heap.size w5 w5.drew := (Below.refl _ _).drew
    unfold cells4 at HFR HWH
    go_wp2
    go_region_held3 (fun _ => True) (trivial)
      (first
        | (go_at_call 20; refine (HFR.out _ _ hB).mono ?_; rintro e wN ⟨rfl, hN⟩; replace hB := hB.trans (hN.mono hB.size))
        | (go_at_call 24; refine (HWH.out _ _ _ hB).mono ?_; rintro e wN ⟨rfl, hN⟩; replace hB := hB.trans (hN.mono hB.size)))
    have HB6 := Lib.hid (HB5.out.trans (hB.mono HB5.out.size))
    have hbx6 := (hB.block _ hl5).trans HZ5.out
    have HSD6 := Lib.hid (HSD.out.below hB)
    have hl6 : w.heap.size < wN.heap.size := Nat.lt_of_lt_of_le hl5 hB.size
    clear hB HFR HWH hN
    go_wp2_with (at_builtin; refine wpList_append_own _ rfl _ _ 22 rfl w.heap.size 5 i0 (.int .u8 0) 1 1 Try.underlying22 hi hz0 hz1 hz2 rfl (by decide) _ 0 [] rfl ?a0 ad 0 0 (rowB (fun j => f (12 + j)) 0) rfl ?a1 ?a2 ?a3 ?a4 ?a5 ?a6 ?_)
    case a0 => exact World.ownsRow_nil _ _ _ _
    case a1 => simp [rowB_length]
    case a2 =>
      intro j u hj
      have hjn : j < 0 := by
        rcases Nat.lt_or_ge j 0 with h' | h'
        · exact h'
        · rw [List.getElem?_eq_none (by rw [rowB_length]; exact h')] at hj; cases hj
      rw [rowB_get _ 0 j hjn] at hj
      injection hj with hj
      obtain ⟨ad', e', hlt, hcc⟩ := HSD6.out (by omega)
      injection e' with e'
      subst e'
      rw [← hj]
      exact hcc j hjn
    case a3 => exact rowB_one _ _
    case a4 => unfold maxLen; omega
    case a5 => omega
    case a6 => omega
    intro v7 w7 hown7 hgrow7 hiff7
    clear hiff7
    have HB7 := Lib.hid (HB6.out.grown hgrow7 (by omega) (fun q hq => by cases hq))
    obtain ⟨⟨z0, z1⟩, fz⟩ := zcells ((hgrow7.block _ hl6 (fun h => by cases h)).trans hbx6)
    obtain ⟨sp', cap', rfl, hsp', hc'⟩ := own_slice hown7
    have HO7 := Lib.hid hown7
    have hne : ∀ k, (Value.slice sp' 0 cap').ownBlock = some k → k ≠ w.heap.size := fun k hk e => by
      subst e
      rcases hown7.2 with ⟨h', _⟩ | ⟨g', c', cur, h', _, hh, _⟩
      · rw [h'] at hk; cases hk
      · rw [h'] at hk; injection hk with hk
        have hk' : g' = w.heap.size := hk
        rw [hk'] at hh
        have := (hgrow7.block _ hl6 (fun h => by cases h)).trans hbx6
        rw [this] at hh; injection hh with hh; injection hh with _ hh _; cases hh
    have HNE := Lib.hid hne
    clear hown7 hgrow7 hbx6 hne
    go_wp2
    refine bodyPost_ret (v := .tuple #[.agg #[.int .i64 (kd : Int), .slice sp' 0 cap'], .int .i64 (12 + ((0 : Nat) : Int)), .int .i64 0]) (by simp [results, Try.results12, go_sem, z0, z1]) rfl ⟨(HB7.out.setCell (Nat.le_refl _) _).setCell (Nat.le_refl _) _, .inr ⟨HE.out, sp', cap', ?_, ?_, ?_⟩⟩
    · rw [HKD.out, HZD.out]; rfl
    · rw [HZD.out]
      exact own_kept2 HO7.out HNE.out
    · rw [HZD.out]; exact fun h => ⟨by first | rfl | exact (hsp' h).1, (hsp' h).2⟩
  · have hc13 : ¬ 12 = cap := by omega
    have hc14 : (12 : Int) ≤ (cap : Int) := by omega
    have HFR : Hid (∀ W c, Below w5.heap.size w5 W → Calls Try.prog 20 #[.slice (some (ad.add 8)) (n - 8) c] W fun e w' => e = .returned (.agg (cells4 fun j => f (8 + j))) ∧ Below W.heap.size W w') :=
      Lib.hid fun W c hb => front_any _ (n - 8) c _ W (by omega) ((HS5.out.below hb).behind 8 (n - 8) (by omega))
    have HSD : Hid (Src w5 (some (ad.add 12)) z (fun j => f (12 + j))) := Lib.hid (HS5.out.behind 12 z (by omega))
    have HWH : Hid (∀ W c1 c2, Below w5.heap.size w5 W → Calls Try.prog 24 #[.slice (some ad) 8 c1, .slice (some (ad.add 12)) z c2] W fun e w' => e = .returned (.agg (cells4 (big S3))) ∧ Below W.heap.size W w') :=
      Lib.hid fun W c1 c2 hb => by rw [HS3.out]; exact whole_any _ c1 f _ z c2 _ W (by omega) HF.out (fun j => HF.out _) ((HS5.out.below hb).front 8 (by omega)) (HSD.out.below hb)
    have hB : Below w5.heap.size w5 w5.drew := (Below.refl _ _).drew
    unfold cells4 at HFR HWH
    go_wp2
    go_region_held3 (fun _ => True) (trivial)
      (first
        | (go_at_call 20; refine (HFR.out _ _ hB).mono ?_; rintro e wN ⟨rfl, hN⟩; replace hB := hB.trans (hN.mono hB.size))
        | (go_at_call 24; refine (HWH.out _ _ _ hB).mono ?_; rintro e wN ⟨rfl, hN⟩; replace hB := hB.trans (hN.mono hB.size)))
    have HB6 := Lib.hid (HB5.out.trans (hB.mono HB5.out.size))
    have hbx6 := (hB.block _ hl5).trans HZ5.out
    have HSD6 := Lib.hid (HSD.out.below hB)
    have hl6 : w.heap.size < wN.heap.size := Nat.lt_of_lt_of_le hl5 hB.size
    clear hB HFR HWH hN
    go_wp2_with (at_builtin; refine wpList_append_own _ rfl _ _ 22 rfl w.heap.size 5 i0 (.int .u8 0) 1 1 Try.underlying22 hi hz0 hz1 hz2 rfl (by decide) _ 0 [] rfl ?a0 (ad.add 12) z (cap - 12) (rowB (fun j => f (12 + j)) z) rfl ?a1 ?a2 ?a3 ?a4 ?a5 ?a6 ?_)
    case a0 => exact World.ownsRow_nil _ _ _ _
    case a1 => simp [rowB_length]
    case a2 =>
      intro j u hj
      have hjn : j < z := by
        rcases Nat.lt_or_ge j z with h' | h'
        · exact h'
        · rw [List.getElem?_eq_none (by rw [rowB_length]; exact h')] at hj; cases hj
      rw [rowB_get _ z j hjn] at hj
      injection hj with hj
      obtain ⟨ad', e', hlt, hcc⟩ := HSD6.out (by omega)
      injection e' with e'
      subst e'
      rw [← hj]
      exact hcc j hjn
    case a3 => exact rowB_one _ _
    case a4 => unfold maxLen; omega
    case a5 => omega
    case a6 => omega
    intro v7 w7 hown7 hgrow7 hiff7
    clear hiff7
    have HB7 := Lib.hid (HB6.out.grown hgrow7 (by omega) (fun q hq => by cases hq))
    obtain ⟨⟨z0, z1⟩, fz⟩ := zcells ((hgrow7.block _ hl6 (fun h => by cases h)).trans hbx6)
    obtain ⟨sp', cap', rfl, hsp', hc'⟩ := own_slice hown7
    have HO7 := Lib.hid hown7
    have hne : ∀ k, (Value.slice sp' z cap').ownBlock = some k → k ≠ w.heap.size := fun k hk e => by
      subst e
      rcases hown7.2 with ⟨h', _⟩ | ⟨g', c', cur, h', _, hh, _⟩
      · rw [h'] at hk; cases hk
      · rw [h'] at hk; injection hk with hk
        have hk' : g' = w.heap.size := hk
        rw [hk'] at hh
        have := (hgrow7.block _ hl6 (fun h => by cases h)).trans hbx6
        rw [this] at hh; injection hh with hh; injection hh with _ hh _; cases hh
    have HNE := Lib.hid hne
    clear hown7 hgrow7 hbx6 hne
    go_wp2
    refine bodyPost_ret (v := .tuple #[.agg #[.int .i64 (kd : Int), .slice sp' z cap'], .int .i64 (12 + ((z : Nat) : Int)), .int .i64 0]) (by simp [results, Try.results12, go_sem, z0, z1]) rfl ⟨(HB7.out.setCell (Nat.le_refl _) _).setCell (Nat.le_refl _) _, .inr ⟨HE.out, sp', cap', ?_, ?_, ?_⟩⟩
    · rw [HKD.out, HZD.out]; rfl
    · rw [HZD.out]
      exact own_kept2 HO7.out HNE.out
    · rw [HZD.out]; exact fun h => ⟨by first | rfl | exact (hsp' h).1, (hsp' h).2⟩

theorem decode_any (sp : Option Addr) (n cap : Nat) (f : Nat → Nat) (w : World) (hf : ∀ j, f j < 256) (hc : n ≤ cap) (hs : Src w sp n f) : Calls Try.prog 12 #[.slice sp n cap] w (DecPost f n w) := by
  by_cases h8 : n < 8
  · exact dec_short sp n cap f w h8
  · obtain ⟨ad, rfl, _⟩ := hs (by omega)
    by_cases hg : good1 f
    · by_cases hz : 65536 < sizeOf' f
      · exact dec_long ad n cap f w (by omega) hc hf hs hg hz
      · by_cases hcut : n < 12 + sizeOf' f
        · exact dec_cut ad n cap f w (by omega) hc hf hs hg (by omega) hcut
        · by_cases hg2 : good2 f
          · exact dec_ok ad n cap f w (by omega) hc hf hs hg (by omega) (by omega) hg2
          · exact dec_bad2 ad n cap f w (by omega) hc hf hs hg (by omega) (by omega) hg2
    · exact dec_bad1 ad n cap f w (by omega) hc hf hs hg
end Go.Proofs.Ytgplannipnceeaa
