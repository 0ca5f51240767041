/-
  Each beginning of a history is one.
-/
import Derived.Test.YtgpnjgpbblookaaM
namespace Go.Proofs.Ytgpnjgpbblookaa

/-- what was begun stays, and what has ended stays as it ended -/
theorem pre_at (E : Nat → Ev) (p : Nat) : ∀ i, p ≤ i → Good E i → (stateAt E p).m ≤ (stateAt E i).m ∧ ∀ j, j < (stateAt E p).m → ((stateAt E i).T j).c = ((stateAt E p).T j).c ∧ (¬ ((stateAt E p).T j).st = 0 → ((stateAt E i).T j).st = ((stateAt E p).T j).st) := by
  intro i
  induction i with
  | zero => intro hp _; obtain rfl : p = 0 := by omega
            exact ⟨Nat.le_refl _, fun j hj => ⟨rfl, fun _ => rfl⟩⟩
  | succ i ih =>
    intro hp hg
    by_cases hpi : p = i + 1
    · subst hpi; exact ⟨Nat.le_refl _, fun j hj => ⟨rfl, fun _ => rfl⟩⟩
    · have hgi : Good E i := fun j hj => hg j (by omega)
      obtain ⟨h1, h2⟩ := ih (by omega) hgi
      have hk := kept_at E i hgi
      have he := hg i (by omega)
      show (stateAt E p).m ≤ (nextS (stateAt E i) (E i)).m ∧ ∀ j, j < (stateAt E p).m → ((nextS (stateAt E i) (E i)).T j).c = ((stateAt E p).T j).c ∧ (¬ ((stateAt E p).T j).st = 0 → ((nextS (stateAt E i) (E i)).T j).st = ((stateAt E p).T j).st)
      generalize stateAt E i = s at *
      generalize stateAt E p = sp at *
      generalize E i = e at *
      by_cases hk1 : e.k = 1
      · unfold nextS
        rw [if_pos hk1]
        refine ⟨Nat.le_succ_of_le h1, fun j hj => ?_⟩
        show ((if j = s.m then (⟨e.c, 0, e.n, e.o⟩ : Tx) else s.T j)).c = _ ∧ (_ → ((if j = s.m then (⟨e.c, 0, e.n, e.o⟩ : Tx) else s.T j)).st = _)
        rw [if_neg (by omega)]
        exact h2 j hj
      · have hb : (s.bz e.c).isSome = true := by
          rcases he with ⟨_, h⟩ | ⟨_, _, h⟩ | ⟨_, h, _⟩ | ⟨_, h, _⟩ | ⟨_, _, h, _⟩
          · cases h
          · cases h
          · exact absurd h hk1
          · exact absurd h hk1
          · exact h
        obtain ⟨x, hx⟩ := Option.isSome_iff_exists.1 hb
        obtain ⟨y, rfl, hym, hy0, hyc⟩ := hk.bz e.c x hx
        have hix : idx s e = y := by unfold idx; simp [hx]
        unfold nextS
        rw [if_neg hk1, hix]
        refine ⟨h1, fun j hj => ?_⟩
        show ((if j = y then endT (s.T y) e.k e.n e.o else s.T j)).c = _ ∧ (_ → ((if j = y then endT (s.T y) e.k e.n e.o else s.T j)).st = _)
        by_cases hjy : j = y
        · subst hjy
          rw [if_pos rfl]
          obtain ⟨g1, g2⟩ := h2 j hj
          refine ⟨?_, fun hne => ?_⟩
          · rw [← g1]; unfold endT; split
            · rfl
            · split <;> rfl
          · exact absurd ((g2 hne).symm.trans hy0) hne
        · rw [if_neg hjy]; exact h2 j hj
end Go.Proofs.Ytgpnjgpbblookaa
