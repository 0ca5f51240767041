/-
  Contracts of slices.Clone and of answers.
-/
import Derived.Test.YteobndfkkpfnlaaHB
import Derived.WalkSpells
namespace Go.Proofs.Yteobndfkkpfnlaa
open Go.ChangeShapes Go.WideShapes Go.ChangeAt Go.RowKit

set_option maxRecDepth 100000 in
theorem info38 : (Try.prog.info? 44).map (fun i => (i.zero, i.size, i.bytes)) = some (some (.agg #[.int .i64 0, .int .i64 0, .int .i64 0]), 3, 24) := by kernel_rfl

/-- operations' cells -/
def rowO (o : Nat → O3) (n : Nat) : List Value := (List.range n).flatMap fun i => [Value.int .i64 (o i).k, .int .i64 (o i).key, .int .i64 (o i).v]

set_option maxRecDepth 100000 in
theorem rowO_succ (o : Nat → O3) (n : Nat) : rowO o (n + 1) = rowO o n ++ [Value.int .i64 (o n).k, .int .i64 (o n).key, .int .i64 (o n).v] := by
  unfold rowO; rw [List.range_succ, List.flatMap_append]; rfl

set_option maxRecDepth 100000 in
theorem rowO_length (o : Nat → O3) (n : Nat) : (rowO o n).length = n * 3 := by
  induction n with
  | zero => rfl
  | succ n ih => rw [rowO_succ, List.length_append, ih]; simp; omega

set_option maxRecDepth 100000 in
theorem rowO_get (o : Nat → O3) (n i : Nat) (hi : i < n) : (rowO o n)[i * 3]? = some (.int .i64 (o i).k) ∧ (rowO o n)[i * 3 + 1]? = some (.int .i64 (o i).key) ∧ (rowO o n)[i * 3 + 2]? = some (.int .i64 (o i).v) := by
  induction n with
  | zero => omega
  | succ n ih =>
    rw [rowO_succ]
    by_cases h : i < n
    · rw [List.getElem?_append_left (by rw [rowO_length]; omega), List.getElem?_append_left (by rw [rowO_length]; omega), List.getElem?_append_left (by rw [rowO_length]; omega)]
      exact ih h
    · obtain rfl : i = n := by omega
      rw [List.getElem?_append_right (by rw [rowO_length]; omega), List.getElem?_append_right (by rw [rowO_length]; omega), List.getElem?_append_right (by rw [rowO_length]; omega), rowO_length]
      exact ⟨by rw [Nat.sub_self]; rfl, by rw [Nat.add_sub_cancel_left]; rfl, by rw [Nat.add_sub_cancel_left]; rfl⟩

set_option maxRecDepth 100000 in
theorem rowO_one (o : Nat → O3) (n : Nat) : ∀ u ∈ rowO o n, u.oneCell' = true := by
  intro u hu
  unfold rowO at hu
  rw [List.mem_flatMap] at hu
  obtain ⟨i, _, hu⟩ := hu
  simp at hu
  rcases hu with rfl | rfl | rfl <;> rfl

set_option maxRecDepth 100000 in
theorem OpS.cellAt {w : World} {b off n : Nat} {o : Nat → O3} (h : OpS w (some ⟨b, off, none⟩) n o) (j : Nat) (u : Value) (hj : (rowO o n)[j]? = some u) : w.cell? ⟨b, off + j, none⟩ = some u := by
  have hjl : j < n * 3 := by
    rcases Nat.lt_or_ge j (n * 3) with h' | h'
    · exact h'
    · rw [List.getElem?_eq_none (by rw [rowO_length]; exact h')] at hj; cases hj
  obtain ⟨b', off', e, _, hc⟩ := h (by omega)
  injection e with e
  injection e with e1 e2
  subst e1 e2
  obtain ⟨c0, c1, c2⟩ := hc (j / 3) (by omega)
  obtain ⟨g0, g1, g2⟩ := rowO_get o n (j / 3) (by omega)
  have hm : j % 3 = 0 ∨ j % 3 = 1 ∨ j % 3 = 2 := by omega
  rcases hm with hm | hm | hm
  · have e2 : j / 3 * 3 = j := by omega
    rw [e2] at c0 g0
    rw [c0, ← g0, hj]
  · have e2 : j / 3 * 3 + 1 = j := by omega
    rw [e2] at g1
    rw [show off + j / 3 * 3 + 1 = off + j by omega] at c1
    rw [c1, ← g1, hj]
  · have e2 : j / 3 * 3 + 2 = j := by omega
    rw [e2] at g2
    rw [show off + j / 3 * 3 + 2 = off + j by omega] at c2
    rw [c2, ← g2, hj]

set_option maxRecDepth 100000 in
theorem own38_ops {w : World} {base n cap : Nat} {sp : Option Addr} {o : Nat → O3} (h : w.ownsRow base 44 3 (.slice sp n cap) n (rowO o n)) : OpS w sp n o := by
  intro hn
  obtain ⟨g, cap', e, _, hl⟩ := h.form hn
  injection e with e1 e2 e3
  subst e1
  refine ⟨g, 0, rfl, hl, fun i hi => ?_⟩
  obtain ⟨g0, g1, g2⟩ := rowO_get o n i hi
  have h0 := (h.cellAt (i * 3) (by omega)).trans g0
  have h1 := (h.cellAt (i * 3 + 1) (by omega)).trans g1
  have h2 := (h.cellAt (i * 3 + 2) (by omega)).trans g2
  simp only [Nat.zero_add]
  exact ⟨h0, h1, h2⟩

/-- what a transaction wrote last to a key, ahead of its i-th operation -/
def lastW (t : Nat → O3) : Nat → Int → Option Int
  | 0 => fun _ => none
  | i + 1 => fun key => if (t i).k = 2 ∧ key = (t i).key then some (t i).v else lastW t i key

/-- what is wrong with the i-th answer -/
def errAt (a t : Nat → O3) (i : Nat) : Int :=
  if ¬ (t i).k = (a i).k ∨ ¬ (t i).key = (a i).key then 22
  else if (t i).k = 2 then (if (t i).v = (a i).v then 0 else 22)
  else match lastW t i (t i).key with
    | some v => if (t i).v = v then 0 else 24
    | none => 0

/-- what is wrong with answers -/
def AnsP (na nt : Nat) (a t : Nat → O3) (er : Int) : Prop :=
  (¬ nt = na ∧ er = 22) ∨ (nt = na ∧ ((er = 0 ∧ ∀ j, j < nt → errAt a t j = 0) ∨ ∃ i, i < nt ∧ er = errAt a t i ∧ ¬ er = 0 ∧ ∀ j, j < i → errAt a t j = 0))

def AnsPost (na nt : Nat) (a t : Nat → O3) (w : World) (e : Ending) (w' : World) : Prop := ∃ er : Int, e = .returned (.int .i64 er) ∧ AnsP na nt a t er ∧ Below w.heap.size w w'

end Go.Proofs.Yteobndfkkpfnlaa
