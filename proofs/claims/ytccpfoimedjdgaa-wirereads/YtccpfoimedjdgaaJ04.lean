/-
  Contract of Decode, whatever bytes: too short, the second sum, and a frame.
  The reference's frame: contracts of the law's four, text and same.
  The reference's frame: contract of the law's text.
  The reference's read, whatever bytes.
  The reference's read, whatever bytes: the second sum, and a frame.
  FrameReads' walk, where the bytes are not too many.
  Contract of Scan: the frames that stand one behind the other.
  Contract of All, of frames that fit.
  FrameScans: the frames are just one row, and laid again they are the bytes.
  FrameScans' walk, where the bytes are not too many.
  The bytes of a frame are read as it was, whatever stands behind them.
  Frames one behind the other are read as they were.
  A change of up to four bytes side by side changes the sum.
  A byte of a frame that is turned is told, and a change of up to four bytes side by side of its data.
-/
import Derived.Test.YtccpfoimedjdgaaJ03

namespace Go.Proofs.Ytccpfoimedjdgaa.Fr
open Go.ChangeShapes Go.WideShapes Go.ChangeAt Go.RowKit

set_option maxRecDepth 100000 in
set_option maxHeartbeats 2000000 in
theorem dec_cut (ad : Addr) (n cap : Nat) (f : Nat → Nat) (w : World) (hn : 8 ≤ n) (hc : n ≤ cap) (hf : ∀ j, f j < 256) (hs : Src w (some ad) n f) (hg : good1 f) (hz : sizeOf' f ≤ 65536) (hcut : n < 12 + sizeOf' f) : Calls Try.prog 25 #[.slice (some ad) n cap] w (DecPost f n w) := by
  have HE : Hid (derr f n = 10) := Lib.hid (by unfold derr; rw [if_neg (by omega), if_neg (fun h => h hg), if_neg (by omega), if_pos hcut])
  have HF := Lib.hid hf
  have HS := Lib.hid hs
  have hn' : ¬ (n : Int) < 8 := by omega
  have hn4 : (4 : Int) ≤ (n : Int) := by omega
  have hc4 : (4 : Int) ≤ (cap : Int) := by omega
  have hcn : (n : Int) ≤ (cap : Int) := by omega
  have hc5 : ¬ cap = 4 := by omega
  have hc6 : ¬ 4 = cap := by omega
  have HZ : Hid (Below w.heap.size w (w.alloc (.cells #[.int .i64 0, .slice none 0 0] 39))) := Lib.hid ((Below.refl _ _).alloc (Nat.le_refl _) _)
  have heq : ∀ W : World, (Op.equalIn 10000 75 (.agg (cells4 fun j => f (4 + j))) (.agg (cells4 (big (CrcMath.more 0 f 4))))).run Try.prog W = .ok true W := eq4 _ _ true ⟨fun _ => hg, fun _ => rfl⟩
  clear hf hs hg
  go_enter Try.func25, Try.ntmps25
  go_wp2_with fail
  refine (front_any (some ad) n cap f _ (by omega) (HS.out.below HZ.out)).mono ?_
  rintro e w1 ⟨rfl, hb1⟩
  have HZ1 : Hid (w1.heap[w.heap.size]? = some (.cells #[.int .i64 0, .slice none 0 0] 39 (0, 0))) := Lib.hid ((hb1.block _ (by simp)).trans (heap_alloc_new w _))
  have HB1 := Lib.hid (HZ.out.trans (hb1.mono (by simp)))
  have HA : Hid (A4 (w1.alloc (.cells (cells4 f) 75)) w1.heap.size f) := Lib.hid (heap_alloc_new w1 _)
  have HB2' : Hid (Below w1.heap.size w1 (w1.alloc (.cells (cells4 f) 75))) := Lib.hid ((Below.refl _ _).alloc (Nat.le_refl _) _)
  clear hb1
  have hl1 : w.heap.size < w1.heap.size := by
    rcases Nat.lt_or_ge w.heap.size w1.heap.size with h' | h'
    · exact h'
    · have := HZ1.out; rw [Array.getElem?_eq_none h'] at this; cases this
  unfold cells4 at HA HB2' heq ⊢
  go_wp2
  generalize (w1.alloc (.cells #[.int .u8 ((f 0 : Nat) : Int), .int .u8 ((f 1 : Nat) : Int), .int .u8 ((f 2 : Nat) : Int), .int .u8 ((f 3 : Nat) : Int)] 75)) = w2 at *
  have HZ2 := Lib.hid ((HB2'.out.block _ hl1).trans HZ1.out)
  have HB2 := Lib.hid (HB1.out.trans (HB2'.out.mono HB1.out.size))
  have HS2 := Lib.hid (HS.out.below HB2.out)
  have hl2 : w.heap.size < w2.heap.size := Nat.lt_of_lt_of_le hl1 HB2'.out.size
  generalize w1.heap.size = P at *
  have HFR : Hid (∀ W c, Below w2.heap.size w2 W → Calls Try.prog 41 #[.slice (some (ad.add 4)) (n - 4) c] W fun e w' => e = .returned (.agg (cells4 fun j => f (4 + j))) ∧ Below W.heap.size W w') :=
    Lib.hid fun W c hb => front_any _ (n - 4) c _ W (by omega) ((HS2.out.below hb).behind 4 (n - 4) (by omega))
  have HSU : Hid (∀ W, Below w2.heap.size w2 W → Calls Try.prog 39 #[.slice (some ⟨P, 0, none⟩) 4 4] W fun e w' => e = .returned (.int .u32 ((CrcMath.more 0 f 4 : Nat) : Int)) ∧ W = w') :=
    Lib.hid fun W hb => sum_any _ 4 4 f W (by omega) (fun j _ => HF.out j) (HA.out.below hb HA.out.lt).src
  have HFO : Hid (∀ W, Calls Try.prog 38 #[.int .u32 ((CrcMath.more 0 f 4 : Nat) : Int)] W fun e w' => e = .returned (.agg (cells4 (big (CrcMath.more 0 f 4)))) ∧ Below W.heap.size W w') :=
    Lib.hid fun W => four_any _ W (CrcMath.more_lt 0 f 4 (by decide) fun j _ => HF.out j)
  have hB : Below w2.heap.size w2 w2.drew := (Below.refl _ _).drew
  unfold cells4 at HFR HFO
  generalize CrcMath.more 0 f 4 = s at *
  go_region_held3 (fun _ => True) (trivial)
    (first
      | (go_at_call 41; refine (HFR.out _ _ hB).mono ?_; rintro e wN ⟨rfl, hN⟩; replace hB := hB.trans (hN.mono hB.size))
      | (go_at_call 39; refine (HSU.out _ hB).mono ?_; rintro e wN ⟨rfl, rfl⟩)
      | (go_at_call 38; refine (HFO.out _).mono ?_; rintro e wN ⟨rfl, hN⟩; replace hB := hB.trans (hN.mono hB.size)))
  have HBN := Lib.hid (HB2.out.trans (hB.mono HB2.out.size))
  have HAN := Lib.hid (HA.out.below hB HA.out.lt)
  have HZN := Lib.hid ((hB.block _ hl2).trans HZ2.out)
  have hlN : w.heap.size < wN.heap.size := Nat.lt_of_lt_of_le hl2 hB.size
  have HSN := Lib.hid (HS2.out.below hB)
  obtain ⟨⟨a0, a1, a2, a3⟩, fa⟩ := HAN.out.all
  clear hB HFR HSU HFO hN heq
  go_wp2_with fail
  have hnum := number_any f wN HF.out
  unfold cells4 at hnum
  refine hnum.mono ?_
  rintro e w5 ⟨rfl, hb5⟩
  have HZ5 := Lib.hid ((hb5.block _ hlN).trans HZN.out)
  have HB5 := Lib.hid (HBN.out.trans (hb5.mono HBN.out.size))
  have HS5 := Lib.hid (HSN.out.below hb5)
  have hl5 : w.heap.size < w5.heap.size := Nat.lt_of_lt_of_le hlN hb5.size
  have hx24 := and24 _ (nval4_lt f HF.out)
  have hxl := nval4_lt f HF.out
  have hdiv : (((nval f 4 : Nat) : Int) / 16777216) = ((kindOf f : Nat) : Int) := by unfold kindOf; omega
  have hsz : ((nval f 4 % 16777216 : Nat) : Int) = ((sizeOf' f : Nat) : Int) := rfl
  have hkl : kindOf f < 256 := by unfold kindOf; omega
  have hsl : sizeOf' f < 16777216 := Nat.mod_lt _ (by decide)
  rw [hsz] at hx24
  clear hsz hnum hb5 a0 a1 a2 a3 fa
  generalize sizeOf' f = z at *
  generalize kindOf f = kd at *
  generalize nval f 4 = x at *
  have hz' : ¬ (65536 : Int) < (z : Int) := by omega
  have hcut' : (n : Int) < 12 + (z : Int) := by omega
  obtain ⟨⟨z0, z1⟩, fz⟩ := zcells HZ5.out
  go_wp2
  exact bodyPost_ret (v := .tuple #[zeroF, .int .i64 0, .int .i64 10]) (by simp [results, Try.results25, go_sem, zeroF, z0, z1]) rfl ⟨(HB5.out.setCell (Nat.le_refl _) _).setCell (Nat.le_refl _) _, .inl ⟨by rw [HE.out]; decide, by rw [HE.out]; rfl⟩⟩

set_option maxRecDepth 100000 in
set_option maxHeartbeats 2000000 in
theorem dec_bad2 (ad : Addr) (n cap : Nat) (f : Nat → Nat) (w : World) (hn : 8 ≤ n) (hc : n ≤ cap) (hf : ∀ j, f j < 256) (hs : Src w (some ad) n f) (hg : good1 f) (hz : sizeOf' f ≤ 65536) (hcut : 12 + sizeOf' f ≤ n) (hg2 : ¬ good2 f) : Calls Try.prog 25 #[.slice (some ad) n cap] w (DecPost f n w) := by
  have HE : Hid (derr f n = 13) := Lib.hid (by unfold derr; rw [if_neg (by omega), if_neg (fun h => h hg), if_neg (by omega), if_neg (by omega), if_pos hg2])
  have heq2 : ∀ W : World, (Op.equalIn 10000 75 (.agg (cells4 fun j => f (8 + j))) (.agg (cells4 (big (CrcMath.more (CrcMath.more 0 f 8) (fun j => f (12 + j)) (sizeOf' f)))))).run Try.prog W = .ok false W := eq4 _ _ false ⟨fun h => absurd h (by decide), fun h => absurd h hg2⟩
  clear hg2
  have HF := Lib.hid hf
  have HS := Lib.hid hs
  have hn' : ¬ (n : Int) < 8 := by omega
  have hn4 : (4 : Int) ≤ (n : Int) := by omega
  have hc4 : (4 : Int) ≤ (cap : Int) := by omega
  have hcn : (n : Int) ≤ (cap : Int) := by omega
  have hc5 : ¬ cap = 4 := by omega
  have hc6 : ¬ 4 = cap := by omega
  have HZ : Hid (Below w.heap.size w (w.alloc (.cells #[.int .i64 0, .slice none 0 0] 39))) := Lib.hid ((Below.refl _ _).alloc (Nat.le_refl _) _)
  have heq : ∀ W : World, (Op.equalIn 10000 75 (.agg (cells4 fun j => f (4 + j))) (.agg (cells4 (big (CrcMath.more 0 f 4))))).run Try.prog W = .ok true W := eq4 _ _ true ⟨fun _ => hg, fun _ => rfl⟩
  clear hf hs hg
  go_enter Try.func25, Try.ntmps25
  go_wp2_with fail
  refine (front_any (some ad) n cap f _ (by omega) (HS.out.below HZ.out)).mono ?_
  rintro e w1 ⟨rfl, hb1⟩
  have HZ1 : Hid (w1.heap[w.heap.size]? = some (.cells #[.int .i64 0, .slice none 0 0] 39 (0, 0))) := Lib.hid ((hb1.block _ (by simp)).trans (heap_alloc_new w _))
  have HB1 := Lib.hid (HZ.out.trans (hb1.mono (by simp)))
  have HA : Hid (A4 (w1.alloc (.cells (cells4 f) 75)) w1.heap.size f) := Lib.hid (heap_alloc_new w1 _)
  have HB2' : Hid (Below w1.heap.size w1 (w1.alloc (.cells (cells4 f) 75))) := Lib.hid ((Below.refl _ _).alloc (Nat.le_refl _) _)
  clear hb1
  have hl1 : w.heap.size < w1.heap.size := by
    rcases Nat.lt_or_ge w.heap.size w1.heap.size with h' | h'
    · exact h'
    · have := HZ1.out; rw [Array.getElem?_eq_none h'] at this; cases this
  unfold cells4 at HA HB2' heq ⊢
  go_wp2
  generalize (w1.alloc (.cells #[.int .u8 ((f 0 : Nat) : Int), .int .u8 ((f 1 : Nat) : Int), .int .u8 ((f 2 : Nat) : Int), .int .u8 ((f 3 : Nat) : Int)] 75)) = w2 at *
  have HZ2 := Lib.hid ((HB2'.out.block _ hl1).trans HZ1.out)
  have HB2 := Lib.hid (HB1.out.trans (HB2'.out.mono HB1.out.size))
  have HS2 := Lib.hid (HS.out.below HB2.out)
  have hl2 : w.heap.size < w2.heap.size := Nat.lt_of_lt_of_le hl1 HB2'.out.size
  generalize w1.heap.size = P at *
  have HFR : Hid (∀ W c, Below w2.heap.size w2 W → Calls Try.prog 41 #[.slice (some (ad.add 4)) (n - 4) c] W fun e w' => e = .returned (.agg (cells4 fun j => f (4 + j))) ∧ Below W.heap.size W w') :=
    Lib.hid fun W c hb => front_any _ (n - 4) c _ W (by omega) ((HS2.out.below hb).behind 4 (n - 4) (by omega))
  have HSU : Hid (∀ W, Below w2.heap.size w2 W → Calls Try.prog 39 #[.slice (some ⟨P, 0, none⟩) 4 4] W fun e w' => e = .returned (.int .u32 ((CrcMath.more 0 f 4 : Nat) : Int)) ∧ W = w') :=
    Lib.hid fun W hb => sum_any _ 4 4 f W (by omega) (fun j _ => HF.out j) (HA.out.below hb HA.out.lt).src
  have HFO : Hid (∀ W, Calls Try.prog 38 #[.int .u32 ((CrcMath.more 0 f 4 : Nat) : Int)] W fun e w' => e = .returned (.agg (cells4 (big (CrcMath.more 0 f 4)))) ∧ Below W.heap.size W w') :=
    Lib.hid fun W => four_any _ W (CrcMath.more_lt 0 f 4 (by decide) fun j _ => HF.out j)
  have hB : Below w2.heap.size w2 w2.drew := (Below.refl _ _).drew
  unfold cells4 at HFR HFO
  generalize CrcMath.more 0 f 4 = s at *
  go_region_held3 (fun _ => True) (trivial)
    (first
      | (go_at_call 41; refine (HFR.out _ _ hB).mono ?_; rintro e wN ⟨rfl, hN⟩; replace hB := hB.trans (hN.mono hB.size))
      | (go_at_call 39; refine (HSU.out _ hB).mono ?_; rintro e wN ⟨rfl, rfl⟩)
      | (go_at_call 38; refine (HFO.out _).mono ?_; rintro e wN ⟨rfl, hN⟩; replace hB := hB.trans (hN.mono hB.size)))
  have HBN := Lib.hid (HB2.out.trans (hB.mono HB2.out.size))
  have HAN := Lib.hid (HA.out.below hB HA.out.lt)
  have HZN := Lib.hid ((hB.block _ hl2).trans HZ2.out)
  have hlN : w.heap.size < wN.heap.size := Nat.lt_of_lt_of_le hl2 hB.size
  have HSN := Lib.hid (HS2.out.below hB)
  obtain ⟨⟨a0, a1, a2, a3⟩, fa⟩ := HAN.out.all
  clear hB HFR HSU HFO hN heq
  go_wp2_with fail
  have hnum := number_any f wN HF.out
  unfold cells4 at hnum
  refine hnum.mono ?_
  rintro e w5 ⟨rfl, hb5⟩
  have HZ5 := Lib.hid ((hb5.block _ hlN).trans HZN.out)
  have HB5 := Lib.hid (HBN.out.trans (hb5.mono HBN.out.size))
  have HS5 := Lib.hid (HSN.out.below hb5)
  have hl5 : w.heap.size < w5.heap.size := Nat.lt_of_lt_of_le hlN hb5.size
  have hx24 := and24 _ (nval4_lt f HF.out)
  have hxl := nval4_lt f HF.out
  have hdiv : (((nval f 4 : Nat) : Int) / 16777216) = ((kindOf f : Nat) : Int) := by unfold kindOf; omega
  have hsz : ((nval f 4 % 16777216 : Nat) : Int) = ((sizeOf' f : Nat) : Int) := rfl
  have hkl : kindOf f < 256 := by unfold kindOf; omega
  have hsl : sizeOf' f < 16777216 := Nat.mod_lt _ (by decide)
  rw [hsz] at hx24
  clear hsz hnum hb5 a0 a1 a2 a3 fa
  generalize sizeOf' f = z at *
  generalize kindOf f = kd at *
  generalize nval f 4 = x at *
  have hz' : ¬ (65536 : Int) < (z : Int) := by omega
  have hcut' : ¬ (n : Int) < 12 + (z : Int) := by omega
  have hn8 : (8 : Int) ≤ (n : Int) := by omega
  have hc8 : (8 : Int) ≤ (cap : Int) := by omega
  have hc88 : ¬ cap = 8 := by omega
  have hc89 : ¬ 8 = cap := by omega
  have hcz : 12 + (z : Int) ≤ (cap : Int) := by omega
  have hcz1 : (12 : Int) ≤ 12 + (z : Int) := by omega
  have hwz : IntKind.i64.wrap (12 + (z : Int)) = 12 + (z : Int) := by rw [IntKind.wrap_i64]; omega
  obtain ⟨S3, eS3⟩ : ∃ S3, S3 = CrcMath.more (CrcMath.more 0 f 8) (fun j => f (12 + j)) z := ⟨_, rfl⟩
  rw [← eS3] at heq2
  have HS3 := Lib.hid eS3
  clear eS3
  unfold cells4 at heq2
  by_cases hc12 : cap = 12
  · obtain rfl : z = 0 := by omega
    subst hc12
    have HFR : Hid (∀ W c, Below w5.heap.size w5 W → Calls Try.prog 41 #[.slice (some (ad.add 8)) (n - 8) c] W fun e w' => e = .returned (.agg (cells4 fun j => f (8 + j))) ∧ Below W.heap.size W w') :=
      Lib.hid fun W c hb => front_any _ (n - 8) c _ W (by omega) ((HS5.out.below hb).behind 8 (n - 8) (by omega))
    have HSD : Hid (Src w5 (some ad) 0 (fun j => f (12 + j))) := Lib.hid (fun h => absurd h (by decide))
    have HWH : Hid (∀ W c1 c2, Below w5.heap.size w5 W → Calls Try.prog 40 #[.slice (some ad) 8 c1, .slice (some ad) 0 c2] W fun e w' => e = .returned (.agg (cells4 (big S3))) ∧ Below W.heap.size W w') :=
      Lib.hid fun W c1 c2 hb => by rw [HS3.out]; exact whole_any _ c1 f _ 0 c2 _ W (by omega) HF.out (fun j => HF.out _) ((HS5.out.below hb).front 8 (by omega)) (HSD.out.below hb)
    have hB : Below w5.heap.size w5 w5.drew := (Below.refl _ _).drew
    unfold cells4 at HFR HWH
    go_wp2
    go_region_held3 (fun _ => True) (trivial)
      (first
        | (go_at_call 41; refine (HFR.out _ _ hB).mono ?_; rintro e wN ⟨rfl, hN⟩; replace hB := hB.trans (hN.mono hB.size))
        | (go_at_call 40; refine (HWH.out _ _ _ hB).mono ?_; rintro e wN ⟨rfl, hN⟩; replace hB := hB.trans (hN.mono hB.size)))
    have HB6 := Lib.hid (HB5.out.trans (hB.mono HB5.out.size))
    obtain ⟨⟨z0, z1⟩, fz⟩ := zcells ((hB.block _ hl5).trans HZ5.out)
    clear hB HFR HWH hN
    go_wp2
    exact bodyPost_ret (v := .tuple #[zeroF, .int .i64 0, .int .i64 13]) (by simp [results, Try.results25, go_sem, zeroF, z0, z1]) rfl ⟨(HB6.out.setCell (Nat.le_refl _) _).setCell (Nat.le_refl _) _, .inl ⟨by rw [HE.out]; decide, by rw [HE.out]; rfl⟩⟩
  · have hc13 : ¬ 12 = cap := by omega
    have hc14 : (12 : Int) ≤ (cap : Int) := by omega
    have HFR : Hid (∀ W c, Below w5.heap.size w5 W → Calls Try.prog 41 #[.slice (some (ad.add 8)) (n - 8) c] W fun e w' => e = .returned (.agg (cells4 fun j => f (8 + j))) ∧ Below W.heap.size W w') :=
      Lib.hid fun W c hb => front_any _ (n - 8) c _ W (by omega) ((HS5.out.below hb).behind 8 (n - 8) (by omega))
    have HSD : Hid (Src w5 (some (ad.add 12)) z (fun j => f (12 + j))) := Lib.hid (HS5.out.behind 12 z (by omega))
    have HWH : Hid (∀ W c1 c2, Below w5.heap.size w5 W → Calls Try.prog 40 #[.slice (some ad) 8 c1, .slice (some (ad.add 12)) z c2] W fun e w' => e = .returned (.agg (cells4 (big S3))) ∧ Below W.heap.size W w') :=
      Lib.hid fun W c1 c2 hb => by rw [HS3.out]; exact whole_any _ c1 f _ z c2 _ W (by omega) HF.out (fun j => HF.out _) ((HS5.out.below hb).front 8 (by omega)) (HSD.out.below hb)
    have hB : Below w5.heap.size w5 w5.drew := (Below.refl _ _).drew
    unfold cells4 at HFR HWH
    go_wp2
    go_region_held3 (fun _ => True) (trivial)
      (first
        | (go_at_call 41; refine (HFR.out _ _ hB).mono ?_; rintro e wN ⟨rfl, hN⟩; replace hB := hB.trans (hN.mono hB.size))
        | (go_at_call 40; refine (HWH.out _ _ _ hB).mono ?_; rintro e wN ⟨rfl, hN⟩; replace hB := hB.trans (hN.mono hB.size)))
    have HB6 := Lib.hid (HB5.out.trans (hB.mono HB5.out.size))
    obtain ⟨⟨z0, z1⟩, fz⟩ := zcells ((hB.block _ hl5).trans HZ5.out)
    clear hB HFR HWH hN
    go_wp2
    exact bodyPost_ret (v := .tuple #[zeroF, .int .i64 0, .int .i64 13]) (by simp [results, Try.results25, go_sem, zeroF, z0, z1]) rfl ⟨(HB6.out.setCell (Nat.le_refl _) _).setCell (Nat.le_refl _) _, .inl ⟨by rw [HE.out]; decide, by rw [HE.out]; rfl⟩⟩

set_option maxRecDepth 100000 in
theorem own_set {w : World} {base n b j : Nat} {v u : Value} {xs : List Value} (h : w.ownsRow base 5 1 v n xs) (hne : ∀ k, v.ownBlock = some k → k ≠ b) : (w.setCell ⟨b, j, none⟩ u).ownsRow base 5 1 v n xs := by
  refine ⟨h.1, ?_⟩
  rcases h.2 with h0 | ⟨g, cap, cur, hv, hg, hh, hrest⟩
  · exact .inl h0
  · exact .inr ⟨g, cap, cur, hv, hg, (heap_setCell_other w ⟨b, j, none⟩ g u (hne g (by rw [hv]; rfl))).trans hh, hrest⟩

set_option maxRecDepth 100000 in
theorem own_kept2 {w : World} {base n b : Nat} {v u0 u1 : Value} {xs : List Value} (h : w.ownsRow base 5 1 v n xs) (hne : ∀ k, v.ownBlock = some k → k ≠ b) : ((w.setCell ⟨b, 0, none⟩ u0).setCell ⟨b, 1, none⟩ u1).ownsRow base 5 1 v n xs := own_set (own_set h hne) hne

set_option maxRecDepth 100000 in
set_option maxHeartbeats 2000000 in
theorem dec_ok (ad : Addr) (n cap : Nat) (f : Nat → Nat) (w : World) (hn : 8 ≤ n) (hc : n ≤ cap) (hf : ∀ j, f j < 256) (hs : Src w (some ad) n f) (hg : good1 f) (hz : sizeOf' f ≤ 65536) (hcut : 12 + sizeOf' f ≤ n) (hg2 : good2 f) : Calls Try.prog 25 #[.slice (some ad) n cap] w (DecPost f n w) := by
  obtain ⟨i0, hi, hz0, hz1, hz2⟩ := info_parts info5
  have HE : Hid (derr f n = 0) := Lib.hid (by unfold derr; rw [if_neg (by omega), if_neg (fun h => h hg), if_neg (by omega), if_neg (by omega), if_neg (fun h => h hg2)])
  have heq2 : ∀ W : World, (Op.equalIn 10000 75 (.agg (cells4 fun j => f (8 + j))) (.agg (cells4 (big (CrcMath.more (CrcMath.more 0 f 8) (fun j => f (12 + j)) (sizeOf' f)))))).run Try.prog W = .ok true W := eq4 _ _ true ⟨fun _ => hg2, fun _ => rfl⟩
  clear hg2
  have HF := Lib.hid hf
  have HS := Lib.hid hs
  have hn' : ¬ (n : Int) < 8 := by omega
  have hn4 : (4 : Int) ≤ (n : Int) := by omega
  have hc4 : (4 : Int) ≤ (cap : Int) := by omega
  have hcn : (n : Int) ≤ (cap : Int) := by omega
  have hc5 : ¬ cap = 4 := by omega
  have hc6 : ¬ 4 = cap := by omega
  have HZ : Hid (Below w.heap.size w (w.alloc (.cells #[.int .i64 0, .slice none 0 0] 39))) := Lib.hid ((Below.refl _ _).alloc (Nat.le_refl _) _)
  have heq : ∀ W : World, (Op.equalIn 10000 75 (.agg (cells4 fun j => f (4 + j))) (.agg (cells4 (big (CrcMath.more 0 f 4))))).run Try.prog W = .ok true W := eq4 _ _ true ⟨fun _ => hg, fun _ => rfl⟩
  clear hf hs hg
  go_enter Try.func25, Try.ntmps25
  go_wp2_with fail
  refine (front_any (some ad) n cap f _ (by omega) (HS.out.below HZ.out)).mono ?_
  rintro e w1 ⟨rfl, hb1⟩
  have HZ1 : Hid (w1.heap[w.heap.size]? = some (.cells #[.int .i64 0, .slice none 0 0] 39 (0, 0))) := Lib.hid ((hb1.block _ (by simp)).trans (heap_alloc_new w _))
  have HB1 := Lib.hid (HZ.out.trans (hb1.mono (by simp)))
  have HA : Hid (A4 (w1.alloc (.cells (cells4 f) 75)) w1.heap.size f) := Lib.hid (heap_alloc_new w1 _)
  have HB2' : Hid (Below w1.heap.size w1 (w1.alloc (.cells (cells4 f) 75))) := Lib.hid ((Below.refl _ _).alloc (Nat.le_refl _) _)
  clear hb1
  have hl1 : w.heap.size < w1.heap.size := by
    rcases Nat.lt_or_ge w.heap.size w1.heap.size with h' | h'
    · exact h'
    · have := HZ1.out; rw [Array.getElem?_eq_none h'] at this; cases this
  unfold cells4 at HA HB2' heq ⊢
  go_wp2
  generalize (w1.alloc (.cells #[.int .u8 ((f 0 : Nat) : Int), .int .u8 ((f 1 : Nat) : Int), .int .u8 ((f 2 : Nat) : Int), .int .u8 ((f 3 : Nat) : Int)] 75)) = w2 at *
  have HZ2 := Lib.hid ((HB2'.out.block _ hl1).trans HZ1.out)
  have HB2 := Lib.hid (HB1.out.trans (HB2'.out.mono HB1.out.size))
  have HS2 := Lib.hid (HS.out.below HB2.out)
  have hl2 : w.heap.size < w2.heap.size := Nat.lt_of_lt_of_le hl1 HB2'.out.size
  generalize w1.heap.size = P at *
  have HFR : Hid (∀ W c, Below w2.heap.size w2 W → Calls Try.prog 41 #[.slice (some (ad.add 4)) (n - 4) c] W fun e w' => e = .returned (.agg (cells4 fun j => f (4 + j))) ∧ Below W.heap.size W w') :=
    Lib.hid fun W c hb => front_any _ (n - 4) c _ W (by omega) ((HS2.out.below hb).behind 4 (n - 4) (by omega))
  have HSU : Hid (∀ W, Below w2.heap.size w2 W → Calls Try.prog 39 #[.slice (some ⟨P, 0, none⟩) 4 4] W fun e w' => e = .returned (.int .u32 ((CrcMath.more 0 f 4 : Nat) : Int)) ∧ W = w') :=
    Lib.hid fun W hb => sum_any _ 4 4 f W (by omega) (fun j _ => HF.out j) (HA.out.below hb HA.out.lt).src
  have HFO : Hid (∀ W, Calls Try.prog 38 #[.int .u32 ((CrcMath.more 0 f 4 : Nat) : Int)] W fun e w' => e = .returned (.agg (cells4 (big (CrcMath.more 0 f 4)))) ∧ Below W.heap.size W w') :=
    Lib.hid fun W => four_any _ W (CrcMath.more_lt 0 f 4 (by decide) fun j _ => HF.out j)
  have hB : Below w2.heap.size w2 w2.drew := (Below.refl _ _).drew
  unfold cells4 at HFR HFO
  generalize CrcMath.more 0 f 4 = s at *
  go_region_held3 (fun _ => True) (trivial)
    (first
      | (go_at_call 41; refine (HFR.out _ _ hB).mono ?_; rintro e wN ⟨rfl, hN⟩; replace hB := hB.trans (hN.mono hB.size))
      | (go_at_call 39; refine (HSU.out _ hB).mono ?_; rintro e wN ⟨rfl, rfl⟩)
      | (go_at_call 38; refine (HFO.out _).mono ?_; rintro e wN ⟨rfl, hN⟩; replace hB := hB.trans (hN.mono hB.size)))
  have HBN := Lib.hid (HB2.out.trans (hB.mono HB2.out.size))
  have HAN := Lib.hid (HA.out.below hB HA.out.lt)
  have HZN := Lib.hid ((hB.block _ hl2).trans HZ2.out)
  have hlN : w.heap.size < wN.heap.size := Nat.lt_of_lt_of_le hl2 hB.size
  have HSN := Lib.hid (HS2.out.below hB)
  obtain ⟨⟨a0, a1, a2, a3⟩, fa⟩ := HAN.out.all
  clear hB HFR HSU HFO hN heq
  go_wp2_with fail
  have hnum := number_any f wN HF.out
  unfold cells4 at hnum
  refine hnum.mono ?_
  rintro e w5 ⟨rfl, hb5⟩
  have HZ5 := Lib.hid ((hb5.block _ hlN).trans HZN.out)
  have HB5 := Lib.hid (HBN.out.trans (hb5.mono HBN.out.size))
  have HS5 := Lib.hid (HSN.out.below hb5)
  have hl5 : w.heap.size < w5.heap.size := Nat.lt_of_lt_of_le hlN hb5.size
  have hx24 := and24 _ (nval4_lt f HF.out)
  have hxl := nval4_lt f HF.out
  have hdiv : (((nval f 4 : Nat) : Int) / 16777216) = ((kindOf f : Nat) : Int) := by unfold kindOf; omega
  have hsz : ((nval f 4 % 16777216 : Nat) : Int) = ((sizeOf' f : Nat) : Int) := rfl
  have hkl : kindOf f < 256 := by unfold kindOf; omega
  have hsl : sizeOf' f < 16777216 := Nat.mod_lt _ (by decide)
  rw [hsz] at hx24
  clear hsz hnum hb5 a0 a1 a2 a3 fa
  obtain ⟨z, ez⟩ : ∃ z, z = sizeOf' f := ⟨_, rfl⟩
  obtain ⟨kd, ekd⟩ : ∃ kd, kd = kindOf f := ⟨_, rfl⟩
  rw [← ez] at hx24 hsl hz hcut heq2
  rw [← ekd] at hdiv hkl
  have HZD := Lib.hid ez.symm
  have HKD := Lib.hid ekd.symm
  clear ez ekd
  generalize nval f 4 = x at *
  have hz' : ¬ (65536 : Int) < (z : Int) := by omega
  have hcut' : ¬ (n : Int) < 12 + (z : Int) := by omega
  have hn8 : (8 : Int) ≤ (n : Int) := by omega
  have hc8 : (8 : Int) ≤ (cap : Int) := by omega
  have hc88 : ¬ cap = 8 := by omega
  have hc89 : ¬ 8 = cap := by omega
  have hcz : 12 + (z : Int) ≤ (cap : Int) := by omega
  have hcz1 : (12 : Int) ≤ 12 + (z : Int) := by omega
  have hwz : IntKind.i64.wrap (12 + (z : Int)) = 12 + (z : Int) := by rw [IntKind.wrap_i64]; omega
  obtain ⟨S3, eS3⟩ : ∃ S3, S3 = CrcMath.more (CrcMath.more 0 f 8) (fun j => f (12 + j)) z := ⟨_, rfl⟩
  rw [← eS3] at heq2
  have HS3 := Lib.hid eS3
  clear eS3
  unfold cells4 at heq2
  by_cases hc12 : cap = 12
  · obtain rfl : z = 0 := by omega
    subst hc12
    have HFR : Hid (∀ W c, Below w5.heap.size w5 W → Calls Try.prog 41 #[.slice (some (ad.add 8)) (n - 8) c] W fun e w' => e = .returned (.agg (cells4 fun j => f (8 + j))) ∧ Below W.heap.size W w') :=
      Lib.hid fun W c hb => front_any _ (n - 8) c _ W (by omega) ((HS5.out.below hb).behind 8 (n - 8) (by omega))
    have HSD : Hid (Src w5 (some ad) 0 (fun j => f (12 + j))) := Lib.hid (fun h => absurd h (by decide))
    have HWH : Hid (∀ W c1 c2, Below w5.heap.size w5 W → Calls Try.prog 40 #[.slice (some ad) 8 c1, .slice (some ad) 0 c2] W fun e w' => e = .returned (.agg (cells4 (big S3))) ∧ Below W.heap.size W w') :=
      Lib.hid fun W c1 c2 hb => by rw [HS3.out]; exact whole_any _ c1 f _ 0 c2 _ W (by omega) HF.out (fun j => HF.out _) ((HS5.out.below hb).front 8 (by omega)) (HSD.out.below hb)
    have hB : Below w5.heap.size w5 w5.drew := (Below.refl _ _).drew
    unfold cells4 at HFR HWH
    go_wp2
    go_region_held3 (fun _ => True) (trivial)
      (first
        | (go_at_call 41; refine (HFR.out _ _ hB).mono ?_; rintro e wN ⟨rfl, hN⟩; replace hB := hB.trans (hN.mono hB.size))
        | (go_at_call 40; refine (HWH.out _ _ _ hB).mono ?_; rintro e wN ⟨rfl, hN⟩; replace hB := hB.trans (hN.mono hB.size)))
    have HB6 := Lib.hid (HB5.out.trans (hB.mono HB5.out.size))
    have hbx6 := (hB.block _ hl5).trans HZ5.out
    have HSD6 := Lib.hid (HSD.out.below hB)
    have hl6 : w.heap.size < wN.heap.size := Nat.lt_of_lt_of_le hl5 hB.size
    clear hB HFR HWH hN
    go_wp2_with (at_builtin; refine wpList_append_own _ rfl _ _ 23 rfl w.heap.size 5 i0 (.int .u8 0) 1 1 Try.underlying23 hi hz0 hz1 hz2 rfl (by decide) _ 0 [] rfl ?a0 ad 0 0 (rowB (fun j => f (12 + j)) 0) rfl ?a1 ?a2 ?a3 ?a4 ?a5 ?a6 ?_)
    case a0 => exact World.ownsRow_nil _ _ _ _
    case a1 => simp [rowB_length]
    case a2 =>
      intro j u hj
      have hjn : j < 0 := by
        rcases Nat.lt_or_ge j 0 with h' | h'
        · exact h'
        · rw [List.getElem?_eq_none (by rw [rowB_length]; exact h')] at hj; cases hj
      rw [rowB_get _ 0 j hjn] at hj
      injection hj with hj
      obtain ⟨ad', e', hlt, hcc⟩ := HSD6.out (by omega)
      injection e' with e'
      subst e'
      rw [← hj]
      exact hcc j hjn
    case a3 => exact rowB_one _ _
    case a4 => unfold maxLen; omega
    case a5 => omega
    case a6 => omega
    intro v7 w7 hown7 hgrow7 hiff7
    clear hiff7
    have HB7 := Lib.hid (HB6.out.grown hgrow7 (by omega) (fun q hq => by cases hq))
    obtain ⟨⟨z0, z1⟩, fz⟩ := zcells ((hgrow7.block _ hl6 (fun h => by cases h)).trans hbx6)
    obtain ⟨sp', cap', rfl, hsp', hc'⟩ := own_slice hown7
    have HO7 := Lib.hid hown7
    have hne : ∀ k, (Value.slice sp' 0 cap').ownBlock = some k → k ≠ w.heap.size := fun k hk e => by
      subst e
      rcases hown7.2 with ⟨h', _⟩ | ⟨g', c', cur, h', _, hh, _⟩
      · rw [h'] at hk; cases hk
      · rw [h'] at hk; injection hk with hk
        have hk' : g' = w.heap.size := hk
        rw [hk'] at hh
        have := (hgrow7.block _ hl6 (fun h => by cases h)).trans hbx6
        rw [this] at hh; injection hh with hh; injection hh with _ hh _; cases hh
    have HNE := Lib.hid hne
    clear hown7 hgrow7 hbx6 hne
    go_wp2
    refine bodyPost_ret (v := .tuple #[.agg #[.int .i64 (kd : Int), .slice sp' 0 cap'], .int .i64 (12 + ((0 : Nat) : Int)), .int .i64 0]) (by simp [results, Try.results25, go_sem, z0, z1]) rfl ⟨(HB7.out.setCell (Nat.le_refl _) _).setCell (Nat.le_refl _) _, .inr ⟨HE.out, sp', cap', ?_, ?_, ?_⟩⟩
    · rw [HKD.out, HZD.out]; rfl
    · rw [HZD.out]
      exact own_kept2 HO7.out HNE.out
    · rw [HZD.out]; exact fun h => ⟨by first | rfl | exact (hsp' h).1, (hsp' h).2⟩
  · have hc13 : ¬ 12 = cap := by omega
    have hc14 : (12 : Int) ≤ (cap : Int) := by omega
    have HFR : Hid (∀ W c, Below w5.heap.size w5 W → Calls Try.prog 41 #[.slice (some (ad.add 8)) (n - 8) c] W fun e w' => e = .returned (.agg (cells4 fun j => f (8 + j))) ∧ Below W.heap.size W w') :=
      Lib.hid fun W c hb => front_any _ (n - 8) c _ W (by omega) ((HS5.out.below hb).behind 8 (n - 8) (by omega))
    have HSD : Hid (Src w5 (some (ad.add 12)) z (fun j => f (12 + j))) := Lib.hid (HS5.out.behind 12 z (by omega))
    have HWH : Hid (∀ W c1 c2, Below w5.heap.size w5 W → Calls Try.prog 40 #[.slice (some ad) 8 c1, .slice (some (ad.add 12)) z c2] W fun e w' => e = .returned (.agg (cells4 (big S3))) ∧ Below W.heap.size W w') :=
      Lib.hid fun W c1 c2 hb => by rw [HS3.out]; exact whole_any _ c1 f _ z c2 _ W (by omega) HF.out (fun j => HF.out _) ((HS5.out.below hb).front 8 (by omega)) (HSD.out.below hb)
    have hB : Below w5.heap.size w5 w5.drew := (Below.refl _ _).drew
    unfold cells4 at HFR HWH
    go_wp2
    go_region_held3 (fun _ => True) (trivial)
      (first
        | (go_at_call 41; refine (HFR.out _ _ hB).mono ?_; rintro e wN ⟨rfl, hN⟩; replace hB := hB.trans (hN.mono hB.size))
        | (go_at_call 40; refine (HWH.out _ _ _ hB).mono ?_; rintro e wN ⟨rfl, hN⟩; replace hB := hB.trans (hN.mono hB.size)))
    have HB6 := Lib.hid (HB5.out.trans (hB.mono HB5.out.size))
    have hbx6 := (hB.block _ hl5).trans HZ5.out
    have HSD6 := Lib.hid (HSD.out.below hB)
    have hl6 : w.heap.size < wN.heap.size := Nat.lt_of_lt_of_le hl5 hB.size
    clear hB HFR HWH hN
    go_wp2_with (at_builtin; refine wpList_append_own _ rfl _ _ 23 rfl w.heap.size 5 i0 (.int .u8 0) 1 1 Try.underlying23 hi hz0 hz1 hz2 rfl (by decide) _ 0 [] rfl ?a0 (ad.add 12) z (cap - 12) (rowB (fun j => f (12 + j)) z) rfl ?a1 ?a2 ?a3 ?a4 ?a5 ?a6 ?_)
    case a0 => exact World.ownsRow_nil _ _ _ _
    case a1 => simp [rowB_length]
    case a2 =>
      intro j u hj
      have hjn : j < z := by
        rcases Nat.lt_or_ge j z with h' | h'
        · exact h'
        · rw [List.getElem?_eq_none (by rw [rowB_length]; exact h')] at hj; cases hj
      rw [rowB_get _ z j hjn] at hj
      injection hj with hj
      obtain ⟨ad', e', hlt, hcc⟩ := HSD6.out (by omega)
      injection e' with e'
      subst e'
      rw [← hj]
      exact hcc j hjn
    case a3 => exact rowB_one _ _
    case a4 => unfold maxLen; omega
    case a5 => omega
    case a6 => omega
    intro v7 w7 hown7 hgrow7 hiff7
    clear hiff7
    have HB7 := Lib.hid (HB6.out.grown hgrow7 (by omega) (fun q hq => by cases hq))
    obtain ⟨⟨z0, z1⟩, fz⟩ := zcells ((hgrow7.block _ hl6 (fun h => by cases h)).trans hbx6)
    obtain ⟨sp', cap', rfl, hsp', hc'⟩ := own_slice hown7
    have HO7 := Lib.hid hown7
    have hne : ∀ k, (Value.slice sp' z cap').ownBlock = some k → k ≠ w.heap.size := fun k hk e => by
      subst e
      rcases hown7.2 with ⟨h', _⟩ | ⟨g', c', cur, h', _, hh, _⟩
      · rw [h'] at hk; cases hk
      · rw [h'] at hk; injection hk with hk
        have hk' : g' = w.heap.size := hk
        rw [hk'] at hh
        have := (hgrow7.block _ hl6 (fun h => by cases h)).trans hbx6
        rw [this] at hh; injection hh with hh; injection hh with _ hh _; cases hh
    have HNE := Lib.hid hne
    clear hown7 hgrow7 hbx6 hne
    go_wp2
    refine bodyPost_ret (v := .tuple #[.agg #[.int .i64 (kd : Int), .slice sp' z cap'], .int .i64 (12 + ((z : Nat) : Int)), .int .i64 0]) (by simp [results, Try.results25, go_sem, z0, z1]) rfl ⟨(HB7.out.setCell (Nat.le_refl _) _).setCell (Nat.le_refl _) _, .inr ⟨HE.out, sp', cap', ?_, ?_, ?_⟩⟩
    · rw [HKD.out, HZD.out]; rfl
    · rw [HZD.out]
      exact own_kept2 HO7.out HNE.out
    · rw [HZD.out]; exact fun h => ⟨by first | rfl | exact (hsp' h).1, (hsp' h).2⟩

set_option maxRecDepth 100000 in
theorem decode_any (sp : Option Addr) (n cap : Nat) (f : Nat → Nat) (w : World) (hf : ∀ j, f j < 256) (hc : n ≤ cap) (hs : Src w sp n f) : Calls Try.prog 25 #[.slice sp n cap] w (DecPost f n w) := by
  by_cases h8 : n < 8
  · exact dec_short sp n cap f w h8
  · obtain ⟨ad, rfl, _⟩ := hs (by omega)
    by_cases hg : good1 f
    · by_cases hz : 65536 < sizeOf' f
      · exact dec_long ad n cap f w (by omega) hc hf hs hg hz
      · by_cases hcut : n < 12 + sizeOf' f
        · exact dec_cut ad n cap f w (by omega) hc hf hs hg (by omega) hcut
        · by_cases hg2 : good2 f
          · exact dec_ok ad n cap f w (by omega) hc hf hs hg (by omega) (by omega) hg2
          · exact dec_bad2 ad n cap f w (by omega) hc hf hs hg (by omega) (by omega) hg2
    · exact dec_bad1 ad n cap f w (by omega) hc hf hs hg

end Go.Proofs.Ytccpfoimedjdgaa.Fr

namespace Go.Proofs.Ytccpfoimedjdgaa.Fr
open Go.ChangeShapes Go.WideShapes Go.ChangeAt Go.RowKit

section

variable {w : World}

end

set_option maxRecDepth 100000 in
theorem more_cat (f o : Nat → Nat) (n m : Nat) : CrcMath.more 0 (cat f o n) (n + m) = CrcMath.more (CrcMath.more 0 f n) o m := by
  rw [CrcMath.more_add, CrcMath.more_congr 0 (cat f o n) f n (fun j hj => cat_lo hj)]
  exact CrcMath.more_congr _ _ _ m (fun j _ => cat_hi n j)

end Go.Proofs.Ytccpfoimedjdgaa.Fr

namespace Go.Proofs.Ytccpfoimedjdgaa.Fr
open Go.ChangeShapes Go.WideShapes Go.ChangeAt Go.RowKit

set_option maxRecDepth 100000 in
theorem size_eq (f : Nat → Nat) (hf : ∀ j, f j < 256) : ((f 1 : Nat) : Int) * 65536 + ((f 2 : Nat) : Int) * 256 + ((f 3 : Nat) : Int) = ((sizeOf' f : Nat) : Int) := by
  have e : nval f 4 = ((f 0 * 256 + f 1) * 256 + f 2) * 256 + f 3 := by
    show (((0 * 256 + f 0) * 256 + f 1) * 256 + f 2) * 256 + f 3 = _
    rw [Nat.zero_mul, Nat.zero_add]
  have h1 := hf 1
  have h2 := hf 2
  have h3 := hf 3
  unfold sizeOf'
  rw [e]
  omega

set_option maxRecDepth 100000 in
theorem kind_eq (f : Nat → Nat) (hf : ∀ j, f j < 256) : kindOf f = f 0 := by
  have e : nval f 4 = ((f 0 * 256 + f 1) * 256 + f 2) * 256 + f 3 := by
    show (((0 * 256 + f 0) * 256 + f 1) * 256 + f 2) * 256 + f 3 = _
    rw [Nat.zero_mul, Nat.zero_add]
  have h1 := hf 1
  have h2 := hf 2
  have h3 := hf 3
  unfold kindOf
  rw [e]
  omega

set_option maxRecDepth 100000 in
theorem big_nval (f : Nat → Nat) (hf : ∀ j, f j < 256) (j : Nat) (hj : j < 4) : big (nval f 4) j = f j := by
  have e : nval f 4 = ((f 0 * 256 + f 1) * 256 + f 2) * 256 + f 3 := by
    show (((0 * 256 + f 0) * 256 + f 1) * 256 + f 2) * 256 + f 3 = _
    rw [Nat.zero_mul, Nat.zero_add]
  have h0 := hf 0
  have h1 := hf 1
  have h2 := hf 2
  have h3 := hf 3
  have hj' : j = 0 ∨ j = 1 ∨ j = 2 ∨ j = 3 := by omega
  unfold big
  rw [e]
  rcases hj' with rfl | rfl | rfl | rfl <;> simp <;> omega

end Go.Proofs.Ytccpfoimedjdgaa.Fr

namespace Go.Proofs.Ytccpfoimedjdgaa.Fr
open Go.ChangeShapes Go.WideShapes Go.ChangeAt Go.RowKit

set_option maxRecDepth 100000 in
theorem num_parts (f : Nat → Nat) (hf : ∀ j, f j < 256) : f 0 * 16777216 + sizeOf' f = nval f 4 := by
  rw [← kind_eq f hf]
  unfold kindOf sizeOf'
  omega

set_option maxRecDepth 100000 in
/-- the text of what is read is what was read just where the second sum is right -/
theorem text_is (f : Nat → Nat) (hf : ∀ j, f j < 256) (hg : good1 f) (z : Nat) (hz : z = sizeOf' f) : (∀ j, j < 12 + z → frm (f 0) z (fun j => f (12 + j)) j = f j) ↔ good2 f := by
  have h4e : ∀ j, j < 4 → h4 (f 0) z j = f j := fun j hj => by
    unfold h4
    rw [hz, num_parts f hf]
    exact big_nval f hf j hj
  have h8e : ∀ j, j < 8 → h8 (f 0) z j = f j := fun j hj => by
    unfold h8
    by_cases h : j < 4
    · rw [cat_lo h]; exact h4e j h
    · obtain ⟨i, rfl⟩ : ∃ i, j = 4 + i := ⟨j - 4, by omega⟩
      rw [cat_hi, CrcMath.more_congr 0 _ f 4 h4e]
      exact (hg i (by omega)).symm
  have hs : s3 (f 0) z (fun j => f (12 + j)) = CrcMath.more (CrcMath.more 0 f 8) (fun j => f (12 + j)) (sizeOf' f) := by
    unfold s3
    rw [CrcMath.more_congr 0 _ f 8 h8e, hz]
  constructor
  · intro h j hj
    have := h (8 + j) (by omega)
    unfold frm at this
    rw [cat_lo (by omega)] at this
    unfold h12 at this
    rw [cat_hi, hs] at this
    exact this.symm
  · intro h j hj
    unfold frm
    by_cases h12' : j < 12
    · rw [cat_lo h12']
      unfold h12
      by_cases h8' : j < 8
      · rw [cat_lo h8']; exact h8e j h8'
      · obtain ⟨i, rfl⟩ : ∃ i, j = 8 + i := ⟨j - 8, by omega⟩
        rw [cat_hi, hs]
        exact (h i (by omega)).symm
    · obtain ⟨i, rfl⟩ : ∃ i, j = 12 + i := ⟨j - 12, by omega⟩
      rw [cat_hi]

end Go.Proofs.Ytccpfoimedjdgaa.Fr

namespace Go.Proofs.Ytccpfoimedjdgaa.Fr
open Go.ChangeShapes Go.WideShapes Go.ChangeAt Go.RowKit

set_option maxRecDepth 100000 in
theorem derr_fits {f : Nat → Nat} {n : Nat} (h : derr f n = 0) : 12 + sizeOf' f ≤ n ∧ sizeOf' f ≤ 65536 := by
  unfold derr at h
  split at h
  · cases h
  · split at h
    · cases h
    · split at h
      · cases h
      · split at h
        · cases h
        · omega

end Go.Proofs.Ytccpfoimedjdgaa.Fr

namespace Go.Proofs.Ytccpfoimedjdgaa.Fr
open Go.ChangeShapes Go.WideShapes Go.ChangeAt Go.RowKit

set_option maxRecDepth 100000 in
theorem derr_goods {f : Nat → Nat} {n : Nat} (h : derr f n = 0) : good1 f ∧ good2 f := by
  unfold derr at h
  split at h
  · cases h
  · split at h
    · cases h
    · rename_i h1
      split at h
      · cases h
      · split at h
        · cases h
        · split at h
          · cases h
          · rename_i h2
            exact ⟨Classical.not_not.mp h1, Classical.not_not.mp h2⟩

end Go.Proofs.Ytccpfoimedjdgaa.Fr

namespace Go.Proofs.Ytccpfoimedjdgaa.Fr
set_option maxRecDepth 100000 in
theorem nval_big (x : Nat) (hx : x < 4294967296) : nval (big x) 4 = x := by
  show (((0 * 256 + big x 0) * 256 + big x 1) * 256 + big x 2) * 256 + big x 3 = x
  unfold big
  simp
  omega

set_option maxRecDepth 100000 in
theorem nval_congr (f g : Nat → Nat) (n : Nat) (h : ∀ j, j < n → f j = g j) : nval f n = nval g n := by
  induction n with
  | zero => rfl
  | succ n ih => show nval f n * 256 + f n = nval g n * 256 + g n; rw [ih fun j hj => h j (by omega), h n (by omega)]

set_option maxRecDepth 100000 in
theorem frm_lo {k z : Nat} {d : Nat → Nat} {j : Nat} (h : j < 12) : frm k z d j = h12 k z d j := cat_lo h

set_option maxRecDepth 100000 in
theorem frm_hi (k z : Nat) (d : Nat → Nat) (j : Nat) : frm k z d (12 + j) = d j := cat_hi 12 j

set_option maxRecDepth 100000 in
theorem h12_lo {k z : Nat} {d : Nat → Nat} {j : Nat} (h : j < 8) : h12 k z d j = h8 k z j := cat_lo h

set_option maxRecDepth 100000 in
theorem h8_lo {k z : Nat} {j : Nat} (h : j < 4) : h8 k z j = h4 k z j := cat_lo h

set_option maxRecDepth 100000 in
/-- a frame's bytes, at the front of whatever bytes -/
theorem frm_read (k z : Nat) (d F : Nat → Nat) (n : Nat) (hk : k < 256) (hz : z ≤ 65536) (hn : 12 + z ≤ n) (hF : ∀ j, j < 12 + z → F j = frm k z d j) :
    derr F n = 0 ∧ kindOf F = k ∧ sizeOf' F = z ∧ ∀ j, j < z → F (12 + j) = d j := by
  have e4 : ∀ j, j < 4 → F j = h4 k z j := fun j hj => by rw [hF j (by omega), frm_lo (by omega), h12_lo (by omega), h8_lo hj]
  have e8 : ∀ j, j < 8 → F j = h8 k z j := fun j hj => by rw [hF j (by omega), frm_lo (by omega), h12_lo hj]
  have ed : ∀ j, j < z → F (12 + j) = d j := fun j hj => by rw [hF (12 + j) (by omega), frm_hi]
  have hv : nval F 4 = k * 16777216 + z := by
    rw [nval_congr F (h4 k z) 4 e4]
    exact nval_big _ (by omega)
  have hs : sizeOf' F = z := by unfold sizeOf'; rw [hv]; omega
  have hkd : kindOf F = k := by unfold kindOf; rw [hv]; omega
  have g1 : good1 F := fun j hj => by
    rw [e8 (4 + j) (by omega), CrcMath.more_congr 0 F (h4 k z) 4 e4]
    exact cat_hi 4 j
  have g2 : good2 F := fun j hj => by
    rw [hs, hF (8 + j) (by omega), frm_lo (by omega), CrcMath.more_congr 0 F (h8 k z) 8 e8, CrcMath.more_congr _ (fun j => F (12 + j)) d z ed]
    exact cat_hi 8 j
  refine ⟨?_, hkd, hs, ed⟩
  unfold derr
  rw [if_neg (by omega), if_neg (fun h => h g1), hs, if_neg (by omega), if_neg (by omega), if_neg (fun h => h g2)]

end Go.Proofs.Ytccpfoimedjdgaa.Fr

namespace Go.Proofs.CrcMath
set_option maxRecDepth 100000 in
theorem num_shift (D : Nat → Nat) (a m : Nat) (h : ∀ j, j < a → D j = 0) : num D (a + m) = num (fun j => D (a + j)) m * 2 ^ (8 * a) := by
  have h0 : ∀ b, b ≤ a → num D b = 0 := by
    intro b
    induction b with
    | zero => intro _; rfl
    | succ b ih => intro hb; show num D b ^^^ D b * 2 ^ (8 * b) = 0; rw [ih (by omega), h b (by omega)]; simp
  induction m with
  | zero => show num D a = 0 * 2 ^ (8 * a); rw [h0 a (Nat.le_refl _), Nat.zero_mul]
  | succ m ih =>
    show num D (a + m) ^^^ D (a + m) * 2 ^ (8 * (a + m)) = (num (fun j => D (a + j)) m ^^^ D (a + m) * 2 ^ (8 * m)) * 2 ^ (8 * a)
    have e : (num (fun j => D (a + j)) m ^^^ D (a + m) * 2 ^ (8 * m)) * 2 ^ (8 * a) = num (fun j => D (a + j)) m * 2 ^ (8 * a) ^^^ D (a + m) * 2 ^ (8 * m) * 2 ^ (8 * a) := by
      rw [← Nat.shiftLeft_eq, ← Nat.shiftLeft_eq, ← Nat.shiftLeft_eq, ← Nat.shiftLeft_eq, Nat.shiftLeft_xor_distrib]
    rw [ih, e, Nat.mul_assoc, ← Nat.pow_add, show 8 * m + 8 * a = 8 * (a + m) by omega]

set_option maxRecDepth 100000 in
theorem num_few (D : Nat → Nat) (m : Nat) (hD : ∀ j, D j < 256) (h : ∀ j, 4 ≤ j → j < m → D j = 0) : num D m < 4294967296 := by
  rcases Nat.lt_or_ge 4 m with hm | hm
  · have e : ∀ b, 4 ≤ b → b ≤ m → num D b = num D 4 := by
      intro b
      induction b with
      | zero => intro h1; omega
      | succ b ih =>
        intro h1 h2
        by_cases h3 : b = 3
        · rw [h3]
        · show num D b ^^^ D b * 2 ^ (8 * b) = num D 4
          rw [ih (by omega) (by omega), h b (by omega) (by omega)]; simp
    rw [e m (by omega) (Nat.le_refl _)]
    exact num_lt D 4 fun j _ => hD j
  · exact Nat.lt_of_lt_of_le (num_lt D m fun j _ => hD j) (Nat.pow_le_pow_right (n := 2) (by decide) (by omega : 8 * m ≤ 32))

set_option maxRecDepth 100000 in
/-- bytes that differ within four bytes side by side have unlike sums -/
theorem more_window (s : Nat) (F G : Nat → Nat) (n a : Nat) (ha : a ≤ n) (hF : ∀ j, F j < 256) (hG : ∀ j, G j < 256) (hout : ∀ j, j < n → j < a ∨ a + 4 ≤ j → F j = G j) (h : more s F n = more s G n) : ∀ j, j < n → F j = G j := by
  have hr := no_inj h
  obtain ⟨m, rfl⟩ : ∃ m, n = a + m := ⟨n - a, by omega⟩
  have hx : num (fun j => F j ^^^ G j) (a + m) = num (fun j => F (a + j) ^^^ G (a + j)) m * 2 ^ (8 * a) :=
    num_shift (fun j => F j ^^^ G j) a m fun j hj => by show F j ^^^ G j = 0; rw [hout j (by omega) (.inl hj), Nat.xor_self]
  have hW : num (fun j => F (a + j) ^^^ G (a + j)) m < 4294967296 :=
    num_few _ m (fun j => Nat.xor_lt_two_pow (n := 8) (hF _) (hG _)) fun j h4 hj => by show F (a + j) ^^^ G (a + j) = 0; rw [hout (a + j) (by omega) (.inr (by omega)), Nat.xor_self]
  have hnum : num G (a + m) = num F (a + m) ^^^ num (fun j => F (a + j) ^^^ G (a + j)) m * 2 ^ (8 * a) := by
    rw [← hx, num_xor, ← Nat.xor_assoc, Nat.xor_self, Nat.zero_xor]
  have h0 := burst _ F G (a + m) (8 * a) _ (by omega) hW hnum hr
  rw [h0, Nat.zero_mul, Nat.xor_zero] at hnum
  exact num_inj F G (a + m) (fun j _ => hF j) (fun j _ => hG j) hnum.symm

end Go.Proofs.CrcMath

namespace Go.Proofs.Ytccpfoimedjdgaa.Fr
set_option maxRecDepth 100000 in
theorem big_inj (x y : Nat) (hx : x < 4294967296) (hy : y < 4294967296) (h : ∀ j, j < 4 → big x j = big y j) : x = y := by
  have h1 := nval_big x hx
  rw [nval_congr (big x) (big y) 4 h, nval_big y hy] at h1
  exact h1.symm

set_option maxRecDepth 100000 in
/-- whoever differs from a frame's bytes in one byte, or within four bytes of the data, and is still read, does not differ -/
theorem turned_none (k z : Nat) (d G : Nat → Nat) (m a : Nat) (hk : k < 256) (hz : z ≤ 65536) (hd : ∀ j, d j < 256) (hG : ∀ j, G j < 256)
    (hw : (a < 12 ∧ ∀ j, j < 12 + z → ¬ j = a → G j = frm k z d j) ∨ (12 ≤ a ∧ ∀ j, j < 12 + z → j < a ∨ a + 4 ≤ j → G j = frm k z d j)) (h : derr G m = 0) : ∀ j, j < 12 + z → G j = frm k z d j := by
  obtain ⟨g1, g2⟩ := derr_goods h
  obtain ⟨_, _, hsF, _⟩ := frm_read k z d (frm k z d) (12 + z) hk hz (Nat.le_refl _) (fun _ _ => rfl)
  obtain ⟨hF0, _, _, _⟩ := frm_read k z d (frm k z d) (12 + z) hk hz (Nat.le_refl _) (fun _ _ => rfl)
  obtain ⟨f1, f2⟩ := derr_goods hF0
  have hFl := frm_lt k z d hd
  have l4 : ∀ f : Nat → Nat, (∀ j, f j < 256) → CrcMath.more 0 f 4 < 4294967296 := fun f hf => CrcMath.more_lt 0 f 4 (by decide) fun j _ => hf j
  -- the first eight bytes
  have first : (∀ j, j < 8 → ¬ j = a → G j = frm k z d j) → ∀ j, j < 8 → G j = frm k z d j := by
    intro hh
    by_cases ha4 : a < 4
    · have e : CrcMath.more 0 G 4 = CrcMath.more 0 (frm k z d) 4 := big_inj _ _ (l4 G hG) (l4 _ hFl) fun j hj => by rw [← g1 j hj, hh (4 + j) (by omega) (by omega), f1 j hj]
      have w := CrcMath.more_window 0 G (frm k z d) 4 a (by omega) hG hFl (fun j hj hor => hh j (by omega) (by omega)) e
      intro j hj
      by_cases hja : j = a
      · exact w j (by omega)
      · exact hh j hj hja
    · have e : CrcMath.more 0 G 4 = CrcMath.more 0 (frm k z d) 4 := CrcMath.more_congr 0 G _ 4 fun j hj => hh j (by omega) (by omega)
      intro j hj
      by_cases hja : j = a
      · obtain ⟨i, rfl⟩ : ∃ i, j = 4 + i := ⟨j - 4, by omega⟩
        rw [g1 i (by omega), e, ← f1 i (by omega)]
      · exact hh j hj hja
  have e8 : ∀ j, j < 8 → G j = frm k z d j := by
    rcases hw with ⟨_, hh⟩ | ⟨h12, hh⟩
    · exact first fun j hj hja => hh j (by omega) hja
    · exact fun j hj => hh j (by omega) (.inl (by omega))
  have hsG : sizeOf' G = z := by
    rw [← hsF]
    unfold sizeOf'
    rw [nval_congr G (frm k z d) 4 fun j hj => e8 j (by omega)]
  have s8 : CrcMath.more 0 G 8 = CrcMath.more 0 (frm k z d) 8 := CrcMath.more_congr 0 G _ 8 e8
  have f2' : ∀ j, j < 4 → frm k z d (8 + j) = big (CrcMath.more (CrcMath.more 0 (frm k z d) 8) (fun j => frm k z d (12 + j)) z) j := by
    intro j hj; have := f2 j hj; rw [hsF] at this; exact this
  have g2' : ∀ j, j < 4 → G (8 + j) = big (CrcMath.more (CrcMath.more 0 (frm k z d) 8) (fun j => G (12 + j)) z) j := by
    intro j hj; have := g2 j hj; rw [hsG, s8] at this; exact this
  have l8 : CrcMath.more 0 (frm k z d) 8 < 4294967296 := CrcMath.more_lt 0 _ 8 (by decide) fun j _ => hFl j
  rcases hw with ⟨ha, hh⟩ | ⟨h12, hh⟩
  · have ed : ∀ j, j < z → G (12 + j) = frm k z d (12 + j) := fun j hj => hh (12 + j) (by omega) (by omega)
    have e := CrcMath.more_congr (CrcMath.more 0 (frm k z d) 8) (fun j => G (12 + j)) (fun j => frm k z d (12 + j)) z ed
    intro j hj
    by_cases h8 : j < 8
    · exact e8 j h8
    · by_cases hj12 : j < 12
      · obtain ⟨i, rfl⟩ : ∃ i, j = 8 + i := ⟨j - 8, by omega⟩
        rw [g2' i (by omega), e, ← f2' i (by omega)]
      · obtain ⟨i, rfl⟩ : ∃ i, j = 12 + i := ⟨j - 12, by omega⟩
        exact ed i (by omega)
  · have e : CrcMath.more (CrcMath.more 0 (frm k z d) 8) (fun j => G (12 + j)) z = CrcMath.more (CrcMath.more 0 (frm k z d) 8) (fun j => frm k z d (12 + j)) z :=
      big_inj _ _ (CrcMath.more_lt _ _ z l8 fun j _ => hG _) (CrcMath.more_lt _ _ z l8 fun j _ => hFl _) fun j hj => by rw [← g2' j hj, ← f2' j hj]; exact hh (8 + j) (by omega) (.inl (by omega))
    intro j hj
    by_cases hj12 : j < 12
    · exact hh j hj (.inl (by omega))
    · obtain ⟨i, rfl⟩ : ∃ i, j = 12 + i := ⟨j - 12, by omega⟩
      by_cases haz : a - 12 ≤ z
      · exact CrcMath.more_window _ (fun j => G (12 + j)) (fun j => frm k z d (12 + j)) z (a - 12) haz (fun j => hG _) (fun j => hFl _) (fun j hj hor => hh (12 + j) (by omega) (by omega)) e i (by omega)
      · exact hh (12 + i) hj (.inl (by omega))

end Go.Proofs.Ytccpfoimedjdgaa.Fr

