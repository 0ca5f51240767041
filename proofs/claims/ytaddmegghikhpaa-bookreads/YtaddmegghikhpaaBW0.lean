/-
  Plain facts on bytes that are filled from the highest bit down, and what memory holds of a writer.
-/
import Derived.Test.YtaddmegghikhpaaBD
namespace Go.Proofs.Ytaddmegghikhpaa
open Go.ChangeShapes Go.WideShapes Go.ChangeAt Go.RowKit

theorem lt8 (r : Nat) (h : r < 8) : r = 0 ∨ r = 1 ∨ r = 2 ∨ r = 3 ∨ r = 4 ∨ r = 5 ∨ r = 6 ∨ r = 7 := by omega

/-- a byte with one bit more -/
theorem byte_step (y b r : Nat) (hy : y < 256) (hb : b < 2) (hr : r < 8) (hz : y % 2 ^ (8 - r) = 0) :
    y + b * 2 ^ (7 - r) < 256 ∧ (y + b * 2 ^ (7 - r)) % 2 ^ (7 - r) = 0 ∧ (y + b * 2 ^ (7 - r)) / 2 ^ (7 - r) % 2 = b ∧ b * 2 ^ (7 - r) < 2 ^ (8 - r) ∧ b * 2 ^ (7 - r) < 256 := by
  rcases lt8 r hr with rfl | rfl | rfl | rfl | rfl | rfl | rfl | rfl <;> simp only [Nat.reducePow, Nat.reduceSub] at hz ⊢ <;> refine ⟨?_, ?_, ?_, ?_, ?_⟩ <;> omega

theorem byte_keeps (y b r j : Nat) (hb : b < 2) (hr : r < 8) (hj : j < r) (hz : y % 2 ^ (8 - r) = 0) :
    (y + b * 2 ^ (7 - r)) / 2 ^ (7 - j) % 2 = y / 2 ^ (7 - j) % 2 := by
  have h1 : 2 ^ (7 - j) = 2 ^ (8 - r) * 2 ^ (r - 1 - j) := by rw [← Nat.pow_add]; congr 1; omega
  have h2 : b * 2 ^ (7 - r) < 2 ^ (8 - r) := by
    rw [show 8 - r = (7 - r) + 1 from by omega, Nat.pow_succ]
    have := Nat.two_pow_pos (7 - r)
    rcases (show b = 0 ∨ b = 1 from by omega) with rfl | rfl <;> omega
  rw [h1, ← Nat.div_div_eq_div_mul, ← Nat.div_div_eq_div_mul]
  congr 2
  obtain ⟨t, ht⟩ := Nat.dvd_of_mod_eq_zero hz
  rw [ht, Nat.mul_add_div (Nat.two_pow_pos _), Nat.mul_div_cancel_left _ (Nat.two_pow_pos _), Nat.div_eq_of_lt h2, Nat.add_zero]

theorem or_step (y b r : Nat) (hy : y < 256) (hb : b < 2) (hr : r < 8) (hz : y % 2 ^ (8 - r) = 0) :
    bits .or .u8 (y : Int) (IntKind.u8.wrap ((b : Int) * 2 ^ (7 - r))) = ((y + b * 2 ^ (7 - r) : Nat) : Int) := by
  obtain ⟨h1, h2, h3, h4, h5⟩ := byte_step y b r hy hb hr hz
  have e1 : ((b : Int) * 2 ^ (7 - r)) = ((b * 2 ^ (7 - r) : Nat) : Int) := by rw [Int.natCast_mul, Int.natCast_pow]; rfl
  have e2 : IntKind.u8.wrap ((b * 2 ^ (7 - r) : Nat) : Int) = ((b * 2 ^ (7 - r) : Nat) : Int) := by rw [IntKind.wrap_u8']; omega
  rw [e1, e2, u8_or_nat _ _ hy h5, nat_join (8 - r) _ _ hz h4]

def updB (F : Nat → Nat) (i v : Nat) : Nat → Nat := fun j => if j = i then v else F j
theorem updB_same (F : Nat → Nat) (i v : Nat) : updB F i v i = v := by simp [updB]
theorem updB_other (F : Nat → Nat) (i v j : Nat) (h : ¬ j = i) : updB F i v j = F j := by unfold updB; rw [if_neg h]

/-- the bytes with one bit more, behind c bits -/
def putB (F : Nat → Nat) (c b : Nat) : Nat → Nat := updB F (c / 8) ((if c % 8 = 0 then 0 else F (c / 8)) + b * 2 ^ (7 - c % 8))

/-- the last byte ends in noughts -/
def Ends (F : Nat → Nat) (c : Nat) : Prop := (∀ j, F j < 256) ∧ (¬ c % 8 = 0 → F (c / 8) % 2 ^ (8 - c % 8) = 0)

theorem Ends.byte {F : Nat → Nat} {c : Nat} (h : Ends F c) : (if c % 8 = 0 then 0 else F (c / 8)) < 256 ∧ (if c % 8 = 0 then 0 else F (c / 8)) % 2 ^ (8 - c % 8) = 0 := by
  by_cases e : c % 8 = 0
  · rw [if_pos e]; exact ⟨by omega, Nat.zero_mod _⟩
  · rw [if_neg e]; exact ⟨h.1 _, h.2 e⟩

theorem putB_spec (F : Nat → Nat) (c b : Nat) (h : Ends F c) (hb : b < 2) :
    Ends (putB F c b) (c + 1) ∧ (∀ i, i < c → bitAt (putB F c b) i = bitAt F i) ∧ bitAt (putB F c b) c = b := by
  obtain ⟨y1, y2⟩ := h.byte
  obtain ⟨h1, h2, h3, _, _⟩ := byte_step _ b (c % 8) y1 hb (Nat.mod_lt _ (by decide)) y2
  refine ⟨⟨fun j => ?_, fun e => ?_⟩, fun i hi => ?_, ?_⟩
  · unfold putB updB
    by_cases e : j = c / 8
    · rw [if_pos e]; exact h1
    · rw [if_neg e]; exact h.1 j
  · have e1 : (c + 1) / 8 = c / 8 := by omega
    have e2 : (c + 1) % 8 = c % 8 + 1 := by omega
    rw [e1, e2]
    unfold putB
    rw [updB_same, show 8 - (c % 8 + 1) = 7 - c % 8 from by omega]
    exact h2
  · unfold bitAt putB
    by_cases e : i / 8 = c / 8
    · rw [e, updB_same]
      have e0 : ¬ c % 8 = 0 := by omega
      rw [if_neg e0] at y2 ⊢
      exact byte_keeps _ b (c % 8) (i % 8) hb (Nat.mod_lt _ (by decide)) (by omega) y2
    · rw [updB_other _ _ _ _ e]
  · unfold bitAt putB
    rw [updB_same]; exact h3

/-- a writer: the slice of its bytes, the bytes, and how many bits were written -/
structure WR (w : World) (base wb : Nat) (v : Value) (F : Nat → Nat) (c : Nat) : Prop where
  c0 : w.cell? ⟨wb, 0, none⟩ = some v
  c1 : w.cell? ⟨wb, 1, none⟩ = some (.int .i64 (c : Int))
  fz : ∀ j, w.frozen? ⟨wb, j, none⟩ = false
  own : w.ownsRow base 5 1 v ((c + 7) / 8) (rowB F ((c + 7) / 8))
  ends : Ends F c
  lt : wb < w.heap.size
  ne : v.ownBlock ≠ some wb
  hb : base ≤ w.heap.size

/-- what an operation on a writer leaves alone: all but its own cell and its row -/
structure WStep (wb : Nat) (w : World) (o : Option Nat) (w' : World) (o' : Option Nat) : Prop where
  os : w'.os = w.os
  tape : w'.tape = w.tape
  output : w'.output = w.output
  size : w.heap.size ≤ w'.heap.size
  block : ∀ k, k < w.heap.size → k ≠ wb → some k ≠ o → w'.heap[k]? = w.heap[k]?
  row : o' = o ∨ ∃ g, o' = some g ∧ w.heap.size ≤ g

theorem WStep.refl (wb : Nat) (w : World) (o : Option Nat) : WStep wb w o w o := ⟨rfl, rfl, rfl, Nat.le_refl _, fun _ _ _ _ => rfl, .inl rfl⟩
theorem WStep.trans {wb : Nat} {w w1 w2 : World} {o o1 o2 : Option Nat} (h : WStep wb w o w1 o1) (k : WStep wb w1 o1 w2 o2) : WStep wb w o w2 o2 where
  os := k.os.trans h.os
  tape := k.tape.trans h.tape
  output := k.output.trans h.output
  size := Nat.le_trans h.size k.size
  block := fun q hq h1 h2 => by
    refine (k.block q (Nat.lt_of_lt_of_le hq h.size) h1 ?_).trans (h.block q hq h1 h2)
    rcases h.row with e | ⟨g, e, hg⟩
    · rw [e]; exact h2
    · rw [e]; intro e'; injection e' with e'; omega
  row := by
    rcases k.row with e | ⟨g, e, hg⟩
    · rw [e]; exact h.row
    · exact .inr ⟨g, e, Nat.le_trans h.size hg⟩

theorem rowB_set (F : Nat → Nat) (M i v : Nat) : (rowB F M).set i (.int .u8 ((v : Nat) : Int)) = rowB (updB F i v) M := by
  apply List.ext_getElem?
  intro j
  by_cases hj : j < M
  · rw [rowB_get _ _ _ hj]
    by_cases e : j = i
    · subst e; rw [List.getElem?_set_self (by rw [rowB_length]; exact hj), updB_same]
    · rw [List.getElem?_set_ne (fun h => e h.symm), rowB_get _ _ _ hj, updB_other _ _ _ _ e]
  · rw [List.getElem?_eq_none (by simp [rowB_length]; omega), List.getElem?_eq_none (by rw [rowB_length]; omega)]

theorem updB_updB (F : Nat → Nat) (i u v : Nat) : updB (updB F i u) i v = updB F i v := by
  funext j; unfold updB; split <;> rfl

/-- the byte that a bit goes into -/
def lastB (F : Nat → Nat) (c : Nat) : Nat := if c % 8 = 0 then 0 else F (c / 8)

/-- behind the bit's store and the count's -/
theorem WR.fin {w : World} {base wb g M cap c b : Nat} {F : Nat → Nat} (hM : M = c / 8 + 1) (own : w.ownsRow base 5 1 (.slice (some ⟨g, 0, none⟩) M cap) M (rowB (updB F (c / 8) (lastB F c)) M))
    (c0 : w.cell? ⟨wb, 0, none⟩ = some (.slice (some ⟨g, 0, none⟩) M cap)) (c1 : w.cell? ⟨wb, 1, none⟩ = some (.int .i64 (c : Int))) (fz : ∀ j, w.frozen? ⟨wb, j, none⟩ = false)
    (ends : Ends F c) (lt : wb < w.heap.size) (ne : g ≠ wb) (hb : base ≤ w.heap.size) (hb2 : b < 2) :
    WR (((w.setCell ⟨g, c / 8, none⟩ (.int .u8 ((lastB F c + b * 2 ^ (7 - c % 8) : Nat) : Int))).setCell ⟨wb, 1, none⟩ (.int .i64 ((c : Int) + 1))).drew) base wb (.slice (some ⟨g, 0, none⟩) M cap) (putB F c b) (c + 1) where
  c0 := by
    show ((w.setCell _ _).setCell _ _).cell? _ = _
    rw [World.cell?_setCell_other _ _ _ _ (by simp), World.cell?_setCell_other _ _ _ _ (by intro h; injection h with h; exact ne h)]; exact c0
  c1 := by
    show ((w.setCell _ _).setCell _ _).cell? _ = _
    have h1 : (w.setCell ⟨g, c / 8, none⟩ (.int .u8 ((lastB F c + b * 2 ^ (7 - c % 8) : Nat) : Int))).cell? ⟨wb, 1, none⟩ = some (.int .i64 (c : Int)) := by
      rw [World.cell?_setCell_other _ _ _ _ (by intro h; injection h with h; exact ne h)]; exact c1
    rw [World.cell?_setCell_same _ _ _ h1]; rfl
  fz := fun j => by have := fz j; show ((w.setCell _ _).setCell _ _).frozen? _ = _; go_simp
  own := by
    have e1 : (c + 1 + 7) / 8 = M := by omega
    rw [e1]
    have h1 := (own.stored (c / 8) (.int .u8 ((lastB F c + b * 2 ^ (7 - c % 8) : Nat) : Int))).1
    rw [rowB_set, updB_updB] at h1
    have h2 : (w.setCell ⟨g, c / 8, none⟩ (.int .u8 ((lastB F c + b * 2 ^ (7 - c % 8) : Nat) : Int))).grownBy ((w.setCell ⟨g, c / 8, none⟩ (.int .u8 ((lastB F c + b * 2 ^ (7 - c % 8) : Nat) : Int))).setCell ⟨wb, 1, none⟩ (.int .i64 ((c : Int) + 1))) (some wb) :=
      grown_setCell (grown_refl _ _) 1 _
    exact (h1.kept h2 (.inr (by intro h; injection h with h; exact ne h))).drew
  ends := (putB_spec F c b ends hb2).1
  lt := by show wb < ((w.setCell _ _).setCell _ _).heap.size; simpa using lt
  ne := by intro h; injection h with h; exact ne h
  hb := by show base ≤ ((w.setCell _ _).setCell _ _).heap.size; simpa using hb

theorem rowB_last (F : Nat → Nat) (c M : Nat) (h : ¬ c % 8 = 0) : rowB (updB F (c / 8) (lastB F c)) M = rowB F M := by
  have e : updB F (c / 8) (lastB F c) = F := by
    funext j; unfold updB lastB; rw [if_neg h]; split
    · rename_i h'; rw [h']
    · rfl
  rw [e]

/-- two stores: into the row, and into the writer's own block -/
theorem wstep_two {w : World} {g wb i : Nat} (u v : Value) : WStep wb w (some g) (((w.setCell ⟨g, i, none⟩ u).setCell ⟨wb, 1, none⟩ v).drew) (some g) where
  os := rfl
  tape := rfl
  output := rfl
  size := by show w.heap.size ≤ ((w.setCell _ _).setCell _ _).heap.size; simp
  block := fun k _ h1 h2 => by
    show ((w.setCell _ _).setCell _ _).heap[k]? = _
    rw [Below.heap_setCell _ _ _ _ h1, Below.heap_setCell _ _ _ _ (fun e => h2 (by rw [e]))]
  row := .inl rfl
end Go.Proofs.Ytaddmegghikhpaa
