/-
  Contract of Decode, whatever bytes.
-/
import Derived.Test.YtgplannipnceeaaE
namespace Go.Proofs.Ytgplannipnceeaa
open Go.ChangeShapes Go.WideShapes Go.ChangeAt Go.RowKit

/-- the sums at their places -/
def good1 (f : Nat → Nat) : Prop := ∀ j, j < 4 → f (4 + j) = big (CrcMath.more 0 f 4) j
def sizeOf' (f : Nat → Nat) : Nat := nval f 4 % 16777216
def kindOf (f : Nat → Nat) : Nat := nval f 4 / 16777216
def good2 (f : Nat → Nat) : Prop := ∀ j, j < 4 → f (8 + j) = big (CrcMath.more (CrcMath.more 0 f 8) (fun j => f (12 + j)) (sizeOf' f)) j
instance (f : Nat → Nat) : Decidable (good1 f) := by unfold good1; infer_instance
instance (f : Nat → Nat) : Decidable (good2 f) := by unfold good2; infer_instance
/-- why there is no frame at the front -/
def derr (f : Nat → Nat) (n : Nat) : Nat :=
  if n < 8 then 10 else if ¬ good1 f then 13 else if 65536 < sizeOf' f then 3 else if n < 12 + sizeOf' f then 10 else if ¬ good2 f then 13 else 0

def zeroF : Value := .agg #[.int .i64 0, .slice none 0 0]

def DecPost (f : Nat → Nat) (n : Nat) (w : World) (e : Ending) (w' : World) : Prop :=
  Below w.heap.size w w' ∧
  ((¬ derr f n = 0 ∧ e = .returned (.tuple #[zeroF, .int .i64 0, .int .i64 ((derr f n : Nat) : Int)])) ∨
   (derr f n = 0 ∧ ∃ sp' cap', e = .returned (.tuple #[.agg #[.int .i64 ((kindOf f : Nat) : Int), .slice sp' (sizeOf' f) cap'], .int .i64 ((12 + sizeOf' f : Nat) : Int), .int .i64 0]) ∧ w'.ownsRow w.heap.size 5 1 (.slice sp' (sizeOf' f) cap') (sizeOf' f) (rowB (fun j => f (12 + j)) (sizeOf' f)) ∧ (sp' = none → sizeOf' f = 0 ∧ cap' = 0)))

/-- the cells of a frame's variable -/
theorem zcells {w : World} {b : Nat} {v0 v1 : Value} (h : w.heap[b]? = some (.cells #[v0, v1] 24 (0, 0))) : (w.cell? ⟨b, 0, none⟩ = some v0 ∧ w.cell? ⟨b, 1, none⟩ = some v1) ∧ ∀ j, w.frozen? ⟨b, j, none⟩ = false :=
  ⟨⟨by rw [cell_of_row w b 0 _ 24 (0, 0) h]; rfl, by rw [cell_of_row w b 1 _ 24 (0, 0) h]; rfl⟩, fun j => frozen_of_row w _ j _ 24 h⟩
theorem and24 (x : Nat) (hx : x < 4294967296) : bits .and .u32 (x : Int) 16777215 = ((x % 16777216 : Nat) : Int) := by
  refine (u32_and_nat x 16777215 hx (by decide)).trans ?_
  rw [show (16777215 : Nat) = 2 ^ 24 - 1 from rfl, Nat.and_two_pow_sub_one_eq_mod]
theorem nval4_lt (f : Nat → Nat) (hf : ∀ j, f j < 256) : nval f 4 < 4294967296 := nval_lt f hf 4

theorem dec_short (sp : Option Addr) (n cap : Nat) (f : Nat → Nat) (w : World) (hn : n < 8) : Calls Try.prog 12 #[.slice sp n cap] w (DecPost f n w) := by
  have HE : Hid (derr f n = 10) := Lib.hid (by unfold derr; rw [if_pos hn])
  have hn' : (n : Int) < 8 := by omega
  go_enter Try.func12, Try.ntmps12
  go_wp2
  exact bodyPost_ret (v := .tuple #[zeroF, .int .i64 0, .int .i64 10]) (by simp [results, Try.results12, go_sem, zeroF]) rfl ⟨(Below.refl _ _).alloc (Nat.le_refl _) _, .inl ⟨by rw [HE.out]; decide, by rw [HE.out]; rfl⟩⟩

set_option maxHeartbeats 2000000 in
theorem dec_bad1 (ad : Addr) (n cap : Nat) (f : Nat → Nat) (w : World) (hn : 8 ≤ n) (hc : n ≤ cap) (hf : ∀ j, f j < 256) (hs : Src w (some ad) n f) (hg : ¬ good1 f) : Calls Try.prog 12 #[.slice (some ad) n cap] w (DecPost f n w) := by
  have HE : Hid (derr f n = 13) := Lib.hid (by unfold derr; rw [if_neg (by omega), if_pos hg])
  have HF := Lib.hid hf
  have HS := Lib.hid hs
  have hn' : ¬ (n : Int) < 8 := by omega
  have hn4 : (4 : Int) ≤ (n : Int) := by omega
  have hc4 : (4 : Int) ≤ (cap : Int) := by omega
  have hcn : (n : Int) ≤ (cap : Int) := by omega
  have hc5 : ¬ cap = 4 := by omega
  have hc6 : ¬ 4 = cap := by omega
  have HZ : Hid (Below w.heap.size w (w.alloc (.cells #[.int .i64 0, .slice none 0 0] 24))) := Lib.hid ((Below.refl _ _).alloc (Nat.le_refl _) _)
  have heq : ∀ W : World, (Op.equalIn 10000 50 (.agg (cells4 fun j => f (4 + j))) (.agg (cells4 (big (CrcMath.more 0 f 4))))).run Try.prog W = .ok false W := eq4 _ _ false ⟨fun h => absurd h (by decide), fun h => absurd h hg⟩
  clear hf hs hg
  go_enter Try.func12, Try.ntmps12
  go_wp2_with fail
  refine (front_any (some ad) n cap f _ (by omega) (HS.out.below HZ.out)).mono ?_
  rintro e w1 ⟨rfl, hb1⟩
  have HZ1 : Hid (w1.heap[w.heap.size]? = some (.cells #[.int .i64 0, .slice none 0 0] 24 (0, 0))) := Lib.hid ((hb1.block _ (by simp)).trans (heap_alloc_new w _))
  have HB1 := Lib.hid (HZ.out.trans (hb1.mono (by simp)))
  have HA : Hid (A4 (w1.alloc (.cells (cells4 f) 50)) w1.heap.size f) := Lib.hid (heap_alloc_new w1 _)
  have HB2' : Hid (Below w1.heap.size w1 (w1.alloc (.cells (cells4 f) 50))) := Lib.hid ((Below.refl _ _).alloc (Nat.le_refl _) _)
  clear hb1
  have hl1 : w.heap.size < w1.heap.size := by
    rcases Nat.lt_or_ge w.heap.size w1.heap.size with h' | h'
    · exact h'
    · have := HZ1.out; rw [Array.getElem?_eq_none h'] at this; cases this
  unfold cells4 at HA HB2' heq ⊢
  go_wp2
  generalize (w1.alloc (.cells #[.int .u8 ((f 0 : Nat) : Int), .int .u8 ((f 1 : Nat) : Int), .int .u8 ((f 2 : Nat) : Int), .int .u8 ((f 3 : Nat) : Int)] 50)) = w2 at *
  have HZ2 := Lib.hid ((HB2'.out.block _ hl1).trans HZ1.out)
  have HB2 := Lib.hid (HB1.out.trans (HB2'.out.mono HB1.out.size))
  have HS2 := Lib.hid (HS.out.below HB2.out)
  have hl2 : w.heap.size < w2.heap.size := Nat.lt_of_lt_of_le hl1 HB2'.out.size
  generalize w1.heap.size = P at *
  have HFR : Hid (∀ W c, Below w2.heap.size w2 W → Calls Try.prog 20 #[.slice (some (ad.add 4)) (n - 4) c] W fun e w' => e = .returned (.agg (cells4 fun j => f (4 + j))) ∧ Below W.heap.size W w') :=
    Lib.hid fun W c hb => front_any _ (n - 4) c _ W (by omega) ((HS2.out.below hb).behind 4 (n - 4) (by omega))
  have HSU : Hid (∀ W, Below w2.heap.size w2 W → Calls Try.prog 22 #[.slice (some ⟨P, 0, none⟩) 4 4] W fun e w' => e = .returned (.int .u32 ((CrcMath.more 0 f 4 : Nat) : Int)) ∧ W = w') :=
    Lib.hid fun W hb => sum_any _ 4 4 f W (by omega) (fun j _ => HF.out j) (HA.out.below hb HA.out.lt).src
  have HFO : Hid (∀ W, Calls Try.prog 21 #[.int .u32 ((CrcMath.more 0 f 4 : Nat) : Int)] W fun e w' => e = .returned (.agg (cells4 (big (CrcMath.more 0 f 4)))) ∧ Below W.heap.size W w') :=
    Lib.hid fun W => four_any _ W (CrcMath.more_lt 0 f 4 (by decide) fun j _ => HF.out j)
  have hB : Below w2.heap.size w2 w2.drew := (Below.refl _ _).drew
  unfold cells4 at HFR HFO
  generalize CrcMath.more 0 f 4 = s at *
  go_region_held3 (fun _ => True) (trivial)
    (first
      | (go_at_call 20; refine (HFR.out _ _ hB).mono ?_; rintro e wN ⟨rfl, hN⟩; replace hB := hB.trans (hN.mono hB.size))
      | (go_at_call 22; refine (HSU.out _ hB).mono ?_; rintro e wN ⟨rfl, rfl⟩)
      | (go_at_call 21; refine (HFO.out _).mono ?_; rintro e wN ⟨rfl, hN⟩; replace hB := hB.trans (hN.mono hB.size)))
  have HBN := Lib.hid (HB2.out.trans (hB.mono HB2.out.size))
  obtain ⟨⟨z0, z1⟩, fz⟩ := zcells ((hB.block _ hl2).trans HZ2.out)
  clear hB HFR HSU HFO hN
  go_wp2
  exact bodyPost_ret (v := .tuple #[zeroF, .int .i64 0, .int .i64 13]) (by simp [results, Try.results12, go_sem, zeroF, z0, z1]) rfl ⟨(HBN.out.setCell (Nat.le_refl _) _).setCell (Nat.le_refl _) _, .inl ⟨by rw [HE.out]; decide, by rw [HE.out]; rfl⟩⟩

set_option maxHeartbeats 2000000 in
theorem dec_long (ad : Addr) (n cap : Nat) (f : Nat → Nat) (w : World) (hn : 8 ≤ n) (hc : n ≤ cap) (hf : ∀ j, f j < 256) (hs : Src w (some ad) n f) (hg : good1 f) (hz : 65536 < sizeOf' f) : Calls Try.prog 12 #[.slice (some ad) n cap] w (DecPost f n w) := by
  have HE : Hid (derr f n = 3) := Lib.hid (by unfold derr; rw [if_neg (by omega), if_neg (fun h => h hg), if_pos hz])
  have HF := Lib.hid hf
  have HS := Lib.hid hs
  have hn' : ¬ (n : Int) < 8 := by omega
  have hn4 : (4 : Int) ≤ (n : Int) := by omega
  have hc4 : (4 : Int) ≤ (cap : Int) := by omega
  have hcn : (n : Int) ≤ (cap : Int) := by omega
  have hc5 : ¬ cap = 4 := by omega
  have hc6 : ¬ 4 = cap := by omega
  have HZ : Hid (Below w.heap.size w (w.alloc (.cells #[.int .i64 0, .slice none 0 0] 24))) := Lib.hid ((Below.refl _ _).alloc (Nat.le_refl _) _)
  have heq : ∀ W : World, (Op.equalIn 10000 50 (.agg (cells4 fun j => f (4 + j))) (.agg (cells4 (big (CrcMath.more 0 f 4))))).run Try.prog W = .ok true W := eq4 _ _ true ⟨fun _ => hg, fun _ => rfl⟩
  clear hf hs hg
  go_enter Try.func12, Try.ntmps12
  go_wp2_with fail
  refine (front_any (some ad) n cap f _ (by omega) (HS.out.below HZ.out)).mono ?_
  rintro e w1 ⟨rfl, hb1⟩
  have HZ1 : Hid (w1.heap[w.heap.size]? = some (.cells #[.int .i64 0, .slice none 0 0] 24 (0, 0))) := Lib.hid ((hb1.block _ (by simp)).trans (heap_alloc_new w _))
  have HB1 := Lib.hid (HZ.out.trans (hb1.mono (by simp)))
  have HA : Hid (A4 (w1.alloc (.cells (cells4 f) 50)) w1.heap.size f) := Lib.hid (heap_alloc_new w1 _)
  have HB2' : Hid (Below w1.heap.size w1 (w1.alloc (.cells (cells4 f) 50))) := Lib.hid ((Below.refl _ _).alloc (Nat.le_refl _) _)
  clear hb1
  have hl1 : w.heap.size < w1.heap.size := by
    rcases Nat.lt_or_ge w.heap.size w1.heap.size with h' | h'
    · exact h'
    · have := HZ1.out; rw [Array.getElem?_eq_none h'] at this; cases this
  unfold cells4 at HA HB2' heq ⊢
  go_wp2
  generalize (w1.alloc (.cells #[.int .u8 ((f 0 : Nat) : Int), .int .u8 ((f 1 : Nat) : Int), .int .u8 ((f 2 : Nat) : Int), .int .u8 ((f 3 : Nat) : Int)] 50)) = w2 at *
  have HZ2 := Lib.hid ((HB2'.out.block _ hl1).trans HZ1.out)
  have HB2 := Lib.hid (HB1.out.trans (HB2'.out.mono HB1.out.size))
  have HS2 := Lib.hid (HS.out.below HB2.out)
  have hl2 : w.heap.size < w2.heap.size := Nat.lt_of_lt_of_le hl1 HB2'.out.size
  generalize w1.heap.size = P at *
  have HFR : Hid (∀ W c, Below w2.heap.size w2 W → Calls Try.prog 20 #[.slice (some (ad.add 4)) (n - 4) c] W fun e w' => e = .returned (.agg (cells4 fun j => f (4 + j))) ∧ Below W.heap.size W w') :=
    Lib.hid fun W c hb => front_any _ (n - 4) c _ W (by omega) ((HS2.out.below hb).behind 4 (n - 4) (by omega))
  have HSU : Hid (∀ W, Below w2.heap.size w2 W → Calls Try.prog 22 #[.slice (some ⟨P, 0, none⟩) 4 4] W fun e w' => e = .returned (.int .u32 ((CrcMath.more 0 f 4 : Nat) : Int)) ∧ W = w') :=
    Lib.hid fun W hb => sum_any _ 4 4 f W (by omega) (fun j _ => HF.out j) (HA.out.below hb HA.out.lt).src
  have HFO : Hid (∀ W, Calls Try.prog 21 #[.int .u32 ((CrcMath.more 0 f 4 : Nat) : Int)] W fun e w' => e = .returned (.agg (cells4 (big (CrcMath.more 0 f 4)))) ∧ Below W.heap.size W w') :=
    Lib.hid fun W => four_any _ W (CrcMath.more_lt 0 f 4 (by decide) fun j _ => HF.out j)
  have hB : Below w2.heap.size w2 w2.drew := (Below.refl _ _).drew
  unfold cells4 at HFR HFO
  generalize CrcMath.more 0 f 4 = s at *
  go_region_held3 (fun _ => True) (trivial)
    (first
      | (go_at_call 20; refine (HFR.out _ _ hB).mono ?_; rintro e wN ⟨rfl, hN⟩; replace hB := hB.trans (hN.mono hB.size))
      | (go_at_call 22; refine (HSU.out _ hB).mono ?_; rintro e wN ⟨rfl, rfl⟩)
      | (go_at_call 21; refine (HFO.out _).mono ?_; rintro e wN ⟨rfl, hN⟩; replace hB := hB.trans (hN.mono hB.size)))
  have HBN := Lib.hid (HB2.out.trans (hB.mono HB2.out.size))
  have HAN := Lib.hid (HA.out.below hB HA.out.lt)
  have HZN := Lib.hid ((hB.block _ hl2).trans HZ2.out)
  have hlN : w.heap.size < wN.heap.size := Nat.lt_of_lt_of_le hl2 hB.size
  have HSN := Lib.hid (HS2.out.below hB)
  obtain ⟨⟨a0, a1, a2, a3⟩, fa⟩ := HAN.out.all
  clear hB HFR HSU HFO hN heq
  go_wp2_with fail
  have hnum := number_any f wN HF.out
  unfold cells4 at hnum
  refine hnum.mono ?_
  rintro e w5 ⟨rfl, hb5⟩
  have HZ5 := Lib.hid ((hb5.block _ hlN).trans HZN.out)
  have HB5 := Lib.hid (HBN.out.trans (hb5.mono HBN.out.size))
  have HS5 := Lib.hid (HSN.out.below hb5)
  have hl5 : w.heap.size < w5.heap.size := Nat.lt_of_lt_of_le hlN hb5.size
  have hx24 := and24 _ (nval4_lt f HF.out)
  have hxl := nval4_lt f HF.out
  have hdiv : (((nval f 4 : Nat) : Int) / 16777216) = ((kindOf f : Nat) : Int) := by unfold kindOf; omega
  have hsz : ((nval f 4 % 16777216 : Nat) : Int) = ((sizeOf' f : Nat) : Int) := rfl
  have hkl : kindOf f < 256 := by unfold kindOf; omega
  have hsl : sizeOf' f < 16777216 := Nat.mod_lt _ (by decide)
  rw [hsz] at hx24
  clear hsz hnum hb5 a0 a1 a2 a3 fa
  generalize sizeOf' f = z at *
  generalize kindOf f = kd at *
  generalize nval f 4 = x at *
  have hz' : (65536 : Int) < (z : Int) := by omega
  obtain ⟨⟨z0, z1⟩, fz⟩ := zcells HZ5.out
  go_wp2
  exact bodyPost_ret (v := .tuple #[zeroF, .int .i64 0, .int .i64 3]) (by simp [results, Try.results12, go_sem, zeroF, z0, z1]) rfl ⟨(HB5.out.setCell (Nat.le_refl _) _).setCell (Nat.le_refl _) _, .inl ⟨by rw [HE.out]; decide, by rw [HE.out]; rfl⟩⟩

end Go.Proofs.Ytgplannipnceeaa
