/-
  Contract of take.
-/
import Derived.Test.YteobndfkkpfnlaaHH
namespace Go.Proofs.Yteobndfkkpfnlaa
open Go.ChangeShapes Go.WideShapes Go.ChangeAt Go.RowKit Go.Maps

/-- an event -/
structure Ev where
  k : Int
  c : Int
  n : Nat
  o : Nat → O3

/-- what the events so far tell -/
structure St where
  m : Nat
  T : Nat → Tx
  nb : Nat
  nw : Nat
  bz : Int → Option Int
  wm : Int → Option Int

/-- whose end an event is -/
def idx (s : St) (e : Ev) : Nat := ((s.bz e.c).getD 0).toNat

/-- what is told behind an event that may be -/
def nextS (s : St) (e : Ev) : St :=
  if e.k = 1 then ⟨s.m + 1, fun i => if i = s.m then ⟨e.c, 0, e.n, e.o⟩ else s.T i, s.nb + 1, s.nw + e.n, fun y => if y = e.c then some (s.m : Int) else s.bz y, wmI e.o s.m s.wm e.n⟩
  else ⟨s.m, fun x => if x = idx s e then endT (s.T (idx s e)) e.k e.n e.o else s.T x, s.nb, s.nw, fun y => if y = e.c then none else s.bz y, s.wm⟩

/-- what is wrong with an event (0: nothing) -/
def ErrOf (s : St) (e : Ev) (er : Int) : Prop :=
  (¬ Snd e.k e.c e.n e.o ∧ er = 20) ∨
  (Snd e.k e.c e.n e.o ∧ (e.k = 1 ↔ (s.bz e.c).isSome = true) ∧ er = 21) ∨
  (Snd e.k e.c e.n e.o ∧ e.k = 1 ∧ s.bz e.c = none ∧ (∃ i, i < e.n ∧ Dup e.o s.m s.wm i) ∧ er = 23) ∨
  (Snd e.k e.c e.n e.o ∧ e.k = 1 ∧ s.bz e.c = none ∧ (∀ i, i < e.n → ¬ Dup e.o s.m s.wm i) ∧ er = 0) ∨
  (Snd e.k e.c e.n e.o ∧ ¬ e.k = 1 ∧ (s.bz e.c).isSome = true ∧
    ((¬ er = 0 ∧ ((e.k = 2 ∧ AnsP (s.T (idx s e)).n e.n (s.T (idx s e)).o e.o er) ∨ (¬ e.k = 2 ∧ 0 < e.n ∧ er = 22))) ∨ (er = 0 ∧ FinP e.k e.n (AnsP (s.T (idx s e)).n e.n (s.T (idx s e)).o e.o 0))))

/-- what always holds of it -/
structure Inv (s : St) (i : Nat) : Prop where
  m : s.m ≤ i
  nb : s.nb ≤ i
  nw : s.nw ≤ 12 * i
  bz : ∀ c x, s.bz c = some x → ∃ j : Nat, x = (j : Int) ∧ j < s.m
  tn : ∀ j, j < s.m → (s.T j).n ≤ 12

set_option maxRecDepth 100000 in
theorem Inv.next {s : St} {i : Nat} (h : Inv s i) {e : Ev} (hs : Snd e.k e.c e.n e.o) : Inv (nextS s e) (i + 1) := by
  have hn : e.n ≤ 12 := hs.2.2.2.2.1
  unfold nextS
  by_cases hk : e.k = 1
  · rw [if_pos hk]
    refine ⟨by have := h.m; simp only; omega, by have := h.nb; simp only; omega, by have := h.nw; simp only; omega, fun c x hx => ?_, fun j hj => ?_⟩
    · simp only at hx
      split at hx
      · injection hx with hx
        exact ⟨s.m, hx.symm, Nat.lt_succ_self _⟩
      · obtain ⟨j, e1, e2⟩ := h.bz c x hx
        exact ⟨j, e1, Nat.lt_succ_of_lt e2⟩
    · simp only at hj ⊢
      split
      · exact hn
      · exact h.tn j (by omega)
  · rw [if_neg hk]
    refine ⟨Nat.le_succ_of_le h.m, Nat.le_succ_of_le h.nb, by have := h.nw; simp only; omega, fun c x hx => ?_, fun j hj => ?_⟩
    · simp only at hx
      split at hx
      · cases hx
      · exact h.bz c x hx
    · simp only at hj ⊢
      split
      · rename_i hji
        unfold endT
        split
        · exact hn
        · split
          · exact h.tn _ (by rw [← hji]; exact hj)
          · exact h.tn _ (by rw [← hji]; exact hj)
      · exact h.tn j hj

end Go.Proofs.Yteobndfkkpfnlaa
