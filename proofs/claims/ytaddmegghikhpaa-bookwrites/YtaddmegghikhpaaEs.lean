/-
  The reference's lists of bits: rows by lists, appended.
-/
import Derived.Test.YtaddmegghikhpaaBV3
import Derived.Test.YtaddmegghikhpaaEr
namespace Go.Proofs.Ytaddmegghikhpaa
open Go.ChangeShapes Go.WideShapes Go.ChangeAt Go.RowKit

def rowL (L : List Nat) : List Value := L.map fun b => .int .u8 ((b : Nat) : Int)
theorem rowL_length (L : List Nat) : (rowL L).length = L.length := by unfold rowL; simp
theorem rowL_app (L M : List Nat) : rowL L ++ rowL M = rowL (L ++ M) := by unfold rowL; simp
theorem rowL_one (L : List Nat) : ∀ u ∈ rowL L, u.oneCell' = true := by
  intro u hu
  unfold rowL at hu
  obtain ⟨b, _, rfl⟩ := List.mem_map.1 hu
  rfl
theorem rowL_get (L : List Nat) (j : Nat) (h : j < L.length) : (rowL L)[j]? = some (.int .u8 ((L.getD j 0 : Nat) : Int)) := by
  unfold rowL
  simp [List.getD_eq_getElem?_getD, h]
theorem rowB_bits (x m : Nat) : rowB (pb x m) m = rowL (bitsL x m) := by
  unfold rowB rowL bitsL pb; simp
theorem rowB_num (x : Nat) : rowB (numBits x) (2 * nz x + 1) = rowL (numL x) := by
  unfold rowB rowL numL; simp
/-- a list of our own -/
def RowS (w : World) (base : Nat) (L : List Nat) (g cap : Nat) : Prop := w.ownsRow base 5 1 (.slice (some ⟨g, 0, none⟩) L.length cap) L.length (rowL L)
def LP (L : List Nat) (w : World) (e : Ending) (w' : World) : Prop := ∃ g cap, e = .returned (.slice (some ⟨g, 0, none⟩) L.length cap) ∧ RowS w' w.heap.size L g cap ∧ Below w.heap.size w w'
theorem rput_L (x : Nat) (z : Int) (m : Nat) (w : World) (hx : x < 18446744073709551616) (hm : wn z = m) : Calls Try.prog 38 #[.int .u64 (x : Int), .int .i64 z] w (LP (bitsL x m) w) := by
  refine (rput_any x z m w hx hm).mono ?_
  rintro e w' ⟨g, cap, rfl, _, ho, hb⟩
  rw [rowB_bits] at ho
  exact ⟨g, cap, by rw [bitsL_length], by unfold RowS; rw [bitsL_length]; exact ho, hb⟩
theorem rnum_L (x : Nat) (w : World) (hx : x < 18446744073709551616) : Calls Try.prog 37 #[.int .u64 (x : Int)] w (LP (numL x) w) := by
  refine (rnumw x w hx).mono ?_
  rintro e w' ⟨g, cap, rfl, _, ho, hb⟩
  rw [rowB_num] at ho
  exact ⟨g, cap, by rw [numL_length], by unfold RowS; rw [numL_length]; exact ho, hb⟩
theorem RowS.below {w w' : World} {base g cap : Nat} {L : List Nat} (h : RowS w base L g cap) (hb : Below w.heap.size w w') : RowS w' base L g cap := own_keep h fun q e => hb.block q (h.lt q e).2
theorem wpList_append_L {w : World} {ops : Array Oper} {rest : List Oper} {o : Oper} {a : Act} {Q : Exit → Act → World → Prop} (hgd : o.guard = none) (s x : Operand)
    (ho : o.op = .call { callee := .builtin .append, args := #[s, x], argTypes := #[26, 26] }) (base base' : Nat) (L M : List Nat) (g cap g' cap' : Nat) (hs : a.eval s = .slice (some ⟨g, 0, none⟩) L.length cap) (hown : RowS w base L g cap)
    (hx : a.eval x = .slice (some ⟨g', 0, none⟩) M.length cap') (hnew : RowS w base' M g' cap') (hl : L.length ≤ 800000) (hM : M.length ≤ 1000) (hb : base ≤ w.heap.size)
    (h : ∀ g2 c2 w', RowS w' base (L ++ M) g2 c2 → w.grownBy w' (some g) → wpList Try.prog ops Q rest (a.put o.dst (.slice (some ⟨g2, 0, none⟩) (L ++ M).length c2)) w') : wpList Try.prog ops Q (o :: rest) a w := by
  obtain ⟨i0, hi, hz0, hz1, hz2⟩ := info_parts info5
  refine wpList_append_own w hgd s x 26 ho base 5 i0 (.int .u8 0) 1 1 Try.underlying26 hi hz0 hz1 hz2 rfl (by decide) _ L.length (rowL L) hs hown ⟨g', 0, none⟩ M.length cap' (rowL M) hx (by rw [rowL_length, Nat.mul_one]) ?_ (rowL_one M) (by unfold maxLen; omega) (by omega) hb ?_
  · intro j u hj
    have hjm : j < M.length := by
      rcases Nat.lt_or_ge j M.length with h' | h'
      · exact h'
      · rw [List.getElem?_eq_none (by rw [rowL_length]; exact h')] at hj; cases hj
    rw [Go.WideShapes.add_plain, Nat.zero_add, hnew.cellAt j (by omega)]
    exact hj
  · intro v' w' ho' hg' hn'
    rw [rowL_app, ← List.length_append] at ho'
    have hne : ¬ v' = .slice none 0 0 := fun e => by
      have := (hn'.1 e).1
      cases this
    rcases ho'.2 with ⟨e, _⟩ | ⟨g2, c2, cur, e, _⟩
    · exact absurd e hne
    · subst e
      exact h g2 c2 w' ho' hg'
end Go.Proofs.Ytaddmegghikhpaa
