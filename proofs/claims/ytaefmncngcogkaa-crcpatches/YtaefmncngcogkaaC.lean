/-
  Turning a byte of a row of our own; the round of CrcBursts.
-/
import Derived.Test.YtaefmncngcogkaaB
namespace Go.Proofs.Ytaefmncngcogkaa
open Go.ChangeShapes Go.WideShapes Go.ChangeAt Go.RowKit

theorem rowB_set (F : Nat → Nat) (n j y : Nat) : (rowB F n).set j (.int .u8 (y : Int)) = rowB (fun i => if i = j then y else F i) n := by
  apply List.ext_getElem?
  intro i
  rw [List.getElem?_set]
  by_cases hi : i < n
  · by_cases h : j = i
    · subst h; rw [if_pos rfl, rowB_length, if_pos hi, rowB_get _ _ _ hi, if_pos rfl]
    · rw [if_neg h, rowB_get _ _ _ hi, rowB_get _ _ _ hi, if_neg (fun h' => h h'.symm)]
  · have h1 : (rowB F n)[i]? = none := List.getElem?_eq_none (by rw [rowB_length]; omega)
    have h2 : (rowB (fun i => if i = j then y else F i) n)[i]? = none := List.getElem?_eq_none (by rw [rowB_length]; omega)
    rw [h1, h2, rowB_length]
    split
    · rw [if_neg (by omega)]
    · rfl

theorem low_bit (y k : Nat) (hy : y < 4294967296) : bits .and .u32 ((y : Int) / 2 ^ k) 1 = ((y / 2 ^ k % 2 : Nat) : Int) := by
  have e : ((y : Int) / 2 ^ k) = ((y / 2 ^ k : Nat) : Int) := by rw [Int.natCast_ediv, Int.natCast_pow]; rfl
  rw [e]
  exact (u32_and_nat (y / 2 ^ k) 1 (Nat.lt_of_le_of_lt (Nat.div_le_self _ _) hy) (by decide)).trans (by rw [Nat.and_one_is_mod])
theorem low_bit1 (y k : Nat) (hy : y < 4294967296) (h : y / 2 ^ k % 2 = 1) : bits .and .u32 ((y : Int) / 2 ^ k) 1 = 1 := by rw [low_bit y k hy, h]; rfl
theorem low_bit0 (y k : Nat) (hy : y < 4294967296) (h : ¬ y / 2 ^ k % 2 = 1) : bits .and .u32 ((y : Int) / 2 ^ k) 1 = 0 := by rw [low_bit y k hy]; omega

theorem xor_bit (y k : Nat) (hy : y < 256) (hk : k < 8) : bits .xor .u8 (y : Int) (2 ^ k % 256) = ((y ^^^ 2 ^ k : Nat) : Int) := by
  have h : 2 ^ k < 256 := Nat.pow_lt_pow_right (n := 8) (by decide) hk
  have e : (2 : Int) ^ k % 256 = ((2 ^ k : Nat) : Int) := by
    rw [show (2 : Int) ^ k = ((2 ^ k : Nat) : Int) by rw [Int.natCast_pow]; rfl]
    generalize 2 ^ k = q at h
    omega
  rw [e]
  exact u8_xor_nat y _ hy h

/-- what CrcBursts' loop keeps: the copy, and by what it differs -/
structure Turned (w wr : World) (sp : Option Addr) (n cap at_ t : Nat) (f F : Nat → Nat) : Prop where
  own : wr.ownsRow w.heap.size 5 1 (.slice sp n cap) n (rowB F n)
  bel : Below w.heap.size w wr
  lt : ∀ j, j < n → F j < 256
  dif : ∃ W, W < 2 ^ t ∧ CrcMath.num F n = CrcMath.num f n ^^^ W * 2 ^ at_

theorem Turned.skip {w wr : World} {sp : Option Addr} {n cap at_ t : Nat} {f F : Nat → Nat} (h : Turned w wr sp n cap at_ t f F) : Turned w wr sp n cap at_ (t + 1) f F := by
  obtain ⟨W, hW, e⟩ := h.dif
  exact ⟨h.own, h.bel, h.lt, W, Nat.lt_of_lt_of_le hW (Nat.pow_le_pow_right (by decide) (by omega)), e⟩

theorem Turned.turn {w wr : World} {g n cap at_ t : Nat} {f F : Nat → Nat} (h : Turned w wr (some ⟨g, 0, none⟩) n cap at_ t f F) (hn : (at_ + t) / 8 < n) (hg : w.heap.size ≤ g) :
    Turned w (wr.setCell ⟨g, (at_ + t) / 8, none⟩ (.int .u8 ((F ((at_ + t) / 8) ^^^ 2 ^ ((at_ + t) % 8) : Nat) : Int))) (some ⟨g, 0, none⟩) n cap at_ (t + 1) f (fun i => if i = (at_ + t) / 8 then F i ^^^ 2 ^ ((at_ + t) % 8) else F i) := by
  obtain ⟨W, hW, e⟩ := h.dif
  have hs := h.own.stored ((at_ + t) / 8) (.int .u8 ((F ((at_ + t) / 8) ^^^ 2 ^ ((at_ + t) % 8) : Nat) : Int))
  rw [rowB_set] at hs
  have e0 : (fun i => if i = (at_ + t) / 8 then F ((at_ + t) / 8) ^^^ 2 ^ ((at_ + t) % 8) else F i) = (fun i => if i = (at_ + t) / 8 then F i ^^^ 2 ^ ((at_ + t) % 8) else F i) := by
    funext i; split
    · rename_i h; rw [h]
    · rfl
  rw [e0] at hs
  refine ⟨hs.1, h.bel.grown hs.2 h.bel.size (fun q hq => by injection hq with hq; omega), fun j hj => ?_, W ^^^ 2 ^ t, ?_, ?_⟩
  · show (if j = (at_ + t) / 8 then F j ^^^ 2 ^ ((at_ + t) % 8) else F j) < 256
    split
    · exact Nat.xor_lt_two_pow (n := 8) (h.lt j hj) (Nat.pow_lt_pow_right (by decide) (Nat.mod_lt _ (by decide)))
    · exact h.lt j hj
  · exact Nat.xor_lt_two_pow (Nat.lt_of_lt_of_le hW (Nat.pow_le_pow_right (by decide) (by omega))) (Nat.pow_lt_pow_right (by decide) (by omega))
  · rw [CrcMath.num_set F n _ _ hn, e, Nat.xor_assoc]
    congr 1
    rw [← Nat.pow_add, show (at_ + t) % 8 + 8 * ((at_ + t) / 8) = t + at_ by omega, ← Nat.shiftLeft_eq, ← Nat.shiftLeft_eq, Nat.shiftLeft_xor_distrib, Nat.shiftLeft_eq (2 ^ t), Nat.pow_add]

theorem turned_end {w wr : World} {sp : Option Addr} {n cap at_ : Nat} {f F : Nat → Nat} (h : Turned w wr sp n cap at_ 32 f F) (hf : ∀ j, j < n → f j < 256) (hat : at_ ≤ 8 * n) (hs : CrcMath.more 0 f n = CrcMath.more 0 F n) : ∀ j, j < n → f j = F j := by
  obtain ⟨W, hW, e⟩ := h.dif
  have hr := CrcMath.no_inj hs
  have hz := CrcMath.burst _ f F n at_ W hat hW e hr
  rw [hz, Nat.zero_mul, Nat.xor_zero] at e
  exact CrcMath.num_inj f F n hf h.lt e.symm
end Go.Proofs.Ytaefmncngcogkaa
