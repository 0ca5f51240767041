/-
  For HistEnds: what holds of a history's operations; where what was read and written stands.
-/
import Derived.Test.YteobndfkkpfnlaaHXa
import Derived.Test.YteobndfkkpfnlaaHNa
namespace Go.Proofs.Yteobndfkkpfnlaa
open Go.ChangeShapes Go.WideShapes Go.ChangeAt Go.RowKit

/-- an operation of a history -/
def HOp (t : O3) : Prop := LOp t ∧ 0 ≤ t.v ∧ t.v < 1099511627776

set_option maxRecDepth 100000 in
theorem sop_hop {t : O3} {k : Int} (h : SOp t k) : HOp t := by
  obtain ⟨h1, h2, h3, h4, h5⟩ := h
  refine ⟨⟨?_, h1, h2⟩, h3, h4⟩
  rcases h5 with h | h
  · exact .inl h.1
  · exact .inr h.1

set_option maxRecDepth 100000 in
theorem hops_at (E : Nat → Ev) : ∀ i, Good E i → ∀ j, j < (stateAt E i).m → ∀ x, x < ((stateAt E i).T j).n → HOp (((stateAt E i).T j).o x) := by
  intro i
  induction i with
  | zero => intro _ j hj; exact absurd hj (Nat.not_lt_zero _)
  | succ i ih =>
    intro hg
    have h0 := ih fun j hj => hg j (by omega)
    have he := err0_snd (hg i (by omega))
    have hs : ∀ x, x < (E i).n → HOp ((E i).o x) := fun x hx => sop_hop (he.2.2.2.2.2.2 x hx)
    show ∀ j, j < (nextS (stateAt E i) (E i)).m → ∀ x, x < ((nextS (stateAt E i) (E i)).T j).n → HOp (((nextS (stateAt E i) (E i)).T j).o x)
    generalize stateAt E i = s at *
    unfold nextS
    by_cases hk : (E i).k = 1
    · rw [if_pos hk]
      intro j hj
      have hj' : j < s.m + 1 := hj
      show ∀ x, x < (if j = s.m then (⟨(E i).c, 0, (E i).n, (E i).o⟩ : Tx) else s.T j).n → HOp ((if j = s.m then (⟨(E i).c, 0, (E i).n, (E i).o⟩ : Tx) else s.T j).o x)
      by_cases hjm : j = s.m
      · rw [if_pos hjm]; exact hs
      · rw [if_neg hjm]; exact h0 j (by omega)
    · rw [if_neg hk]
      intro j hj
      have hj' : j < s.m := hj
      show ∀ x, x < (if j = idx s (E i) then endT (s.T (idx s (E i))) (E i).k (E i).n (E i).o else s.T j).n → HOp ((if j = idx s (E i) then endT (s.T (idx s (E i))) (E i).k (E i).n (E i).o else s.T j).o x)
      by_cases hji : j = idx s (E i)
      · rw [if_pos hji]
        unfold endT
        split
        · exact hs
        · split
          · rw [← hji]; exact h0 j hj'
          · rw [← hji]; exact h0 j hj'
      · rw [if_neg hji]; exact h0 j hj'

set_option maxRecDepth 100000 in
theorem lastW_none {o : Nat → O3} {key : Int} : ∀ {i : Nat}, (lastW o i key).isSome = false → ∀ j, j < i → ¬ ((o j).k = 2 ∧ (o j).key = key) := by
  intro i
  induction i with
  | zero => intro _ j hj; exact absurd hj (Nat.not_lt_zero _)
  | succ i ih =>
    intro h j hj hc
    unfold lastW at h
    by_cases hi : (o i).k = 2 ∧ key = (o i).key
    · rw [if_pos hi] at h; cases h
    · rw [if_neg hi] at h
      by_cases hji : j = i
      · subst hji; exact hi ⟨hc.1, hc.2.symm⟩
      · exact ih h j (by omega) hc

set_option maxRecDepth 100000 in
theorem rd_mem {o : Nat → O3} : ∀ {n : Nat} {x : O3}, x ∈ rd o n → ∃ i, i < n ∧ x = o i ∧ (o i).k = 1 ∧ ∀ j, j < i → ¬ ((o j).k = 2 ∧ (o j).key = x.key) := by
  intro n
  induction n with
  | zero => intro x h; cases h
  | succ n ih =>
    intro x h
    unfold rd at h
    split at h
    · rename_i hc
      rcases List.mem_append.1 h with h | h
      · obtain ⟨i, h1, h2⟩ := ih h; exact ⟨i, by omega, h2⟩
      · rw [List.mem_singleton] at h
        subst h
        exact ⟨n, by omega, rfl, hc.1, lastW_none hc.2⟩
    · obtain ⟨i, h1, h2⟩ := ih h; exact ⟨i, by omega, h2⟩

set_option maxRecDepth 100000 in
theorem wrl_mem {o : Nat → O3} {n : Nat} {x : O3} (h : x ∈ wrl o n 16) : ∃ i, i < n ∧ o i = x ∧ (o i).k = 2 := by
  obtain ⟨kk, i, _, h2, rfl⟩ := ((wrl_spec o n 16).2 x).1 h
  have := (lastIx_iff o kk n i).1 h2
  exact ⟨i, this.1, rfl, this.2.1⟩

set_option maxRecDepth 100000 in
theorem lf_mem {l : List O3} {i : Nat} (h : i < l.length) : lf l i ∈ l := by
  unfold lf; rw [List.getD_eq_getElem?_getD, List.getElem?_eq_getElem h]; exact List.getElem_mem h

set_option maxRecDepth 100000 in
theorem eqlO (k key v k' key' v' : Int) (u : World) : (binOp .eql 44 (.agg #[.int .i64 k, .int .i64 key, .int .i64 v]) (.agg #[.int .i64 k', .int .i64 key', .int .i64 v'])).run Try.prog u = .ok (.bool (k == k' && (key == key' && v == v'))) u := by
  rw [run_eql_struct, eqO]; rfl

set_option maxRecDepth 100000 in
theorem guardO (u : World) (x y : Operand) (xs ys : Array Value) : (eqGuard .eql 44 x y (.agg xs) (.agg ys)).run Try.prog u = .ok () u := run_eqGuard_agg u .eql 44 x y xs ys (by kernel_rfl)

end Go.Proofs.Yteobndfkkpfnlaa
