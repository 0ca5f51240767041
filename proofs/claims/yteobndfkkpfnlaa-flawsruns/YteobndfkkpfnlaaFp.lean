/-
  In a history each value is written by one: mathematics.
-/
import Derived.Test.YteobndfkkpfnlaaFl
namespace Go.Proofs.Yteobndfkkpfnlaa
set_option linter.unusedVariables false

theorem wmI_new {o : Nat → O3} {m : Nat} {wm : Int → Option Int} : ∀ n, ∀ x, x < n → (o x).k = 2 → wmI o m wm n (o x).v = some (m : Int) := by
  intro n
  induction n with
  | zero => intro x hx; omega
  | succ n ih =>
    intro x hx hk
    unfold wmI
    by_cases hn : (o n).k = 2
    · rw [if_pos hn]
      by_cases hv : (o x).v = (o n).v
      · rw [if_pos hv]
      · rw [if_neg hv]
        exact ih x (by
          rcases Nat.lt_or_ge x n with h | h
          · exact h
          · exact absurd (by rw [show x = n by omega]) hv) hk
    · rw [if_neg hn]
      exact ih x (by
        rcases Nat.lt_or_ge x n with h | h
        · exact h
        · exact absurd (by rw [← show x = n by omega]; exact hk) hn) hk
theorem wmI_old {o : Nat → O3} {m : Nat} {wm : Int → Option Int} {v j : Int} (hw : wm v = some j) : ∀ n, (∀ i, i < n → ¬ Dup o m wm i) → wmI o m wm n v = some j := by
  intro n
  induction n with
  | zero => intro _; exact hw
  | succ n ih =>
    intro hd
    have h := ih fun i hi => hd i (by omega)
    unfold wmI
    by_cases hn : (o n).k = 2
    · rw [if_pos hn]
      by_cases hv : v = (o n).v
      · exact absurd ⟨hn, by rw [← hv, h]; rfl⟩ (hd n (by omega))
      · rw [if_neg hv]; exact h
    · rw [if_neg hn]; exact h
/-- each value that is written is written by one -/
def UqI (s : St) : Prop := ∀ j, j < s.m → ∀ x, x < (s.T j).n → ((s.T j).o x).k = 2 → 0 < ((s.T j).o x).v ∧ s.wm ((s.T j).o x).v = some (j : Int)
theorem uq_at (E : Nat → Ev) : ∀ i, Good E i → UqI (stateAt E i) := by
  intro i
  induction i with
  | zero => intro _ j hj; exact absurd hj (Nat.not_lt_zero _)
  | succ i ih =>
    intro hg
    have hu := ih fun j hj => hg j (by omega)
    have he := hg i (by omega)
    show UqI (nextS (stateAt E i) (E i))
    generalize stateAt E i = s at *
    generalize E i = e at *
    rcases he with ⟨_, h⟩ | ⟨_, _, h⟩ | ⟨_, _, _, _, h⟩ | ⟨hs, hk, _, hd, _⟩ | ⟨hs, hk, _, h | ⟨_, hf⟩⟩
    · exact absurd h (by decide)
    · exact absurd h (by decide)
    · exact absurd h (by decide)
    · unfold nextS
      rw [if_pos hk]
      intro j hj x hx h2
      dsimp only at hj hx h2 ⊢
      by_cases hjm : j = s.m
      · subst hjm
        rw [if_pos rfl] at hx h2 ⊢
        dsimp only at hx h2 ⊢
        refine ⟨?_, wmI_new _ x hx h2⟩
        rcases (hs.2.2.2.2.2.2 x hx).2.2.2.2 with h | h
        · rw [h.1] at h2; exact absurd h2 (by decide)
        · exact h.2
      · rw [if_neg hjm] at hx h2 ⊢
        obtain ⟨u1, u2⟩ := hu j (by omega) x hx h2
        exact ⟨u1, wmI_old u2 _ hd⟩
    · exact absurd rfl h.1
    · unfold nextS
      rw [if_neg hk]
      intro j hj x hx h2
      dsimp only at hj hx h2 ⊢
      by_cases hji : j = idx s e
      · rw [if_pos hji] at hx h2 ⊢
        rw [← hji] at hx h2 ⊢
        unfold endT at hx h2 ⊢
        by_cases k2 : e.k = 2
        · rw [if_pos k2] at hx h2 ⊢
          dsimp only at hx h2 ⊢
          rcases hf with ⟨_, ha⟩ | ⟨h, _⟩
          · rcases ha with ⟨_, h⟩ | ⟨hn, ⟨_, h⟩ | ⟨i, _, _, h, _⟩⟩
            · exact absurd h (by decide)
            · have hx' := h x hx
              unfold errAt at hx'
              split at hx'
              · exact absurd hx' (by decide)
              · rename_i hkk
                split at hx'
                · rename_i hv
                  rw [hv]
                  rw [← hji] at hkk hv hn
                  have hka : (e.o x).k = ((s.T j).o x).k := by
                    rcases Classical.em ((e.o x).k = ((s.T j).o x).k) with h | h
                    · exact h
                    · exact absurd (.inl h) hkk
                  rw [← hji]
                  exact hu j hj x (by omega) (by rw [← hka]; exact h2)
                · exact absurd hx' (by decide)
            · exact absurd rfl h
          · exact absurd k2 h
        · rw [if_neg k2] at hx h2 ⊢
          by_cases k3 : e.k = 3
          · rw [if_pos k3] at hx h2 ⊢
            exact hu j hj x hx h2
          · rw [if_neg k3] at hx h2 ⊢
            exact hu j hj x hx h2
      · rw [if_neg hji] at hx h2 ⊢
        exact hu j hj x hx h2
/-- .. so -/
structure Uq (m : Nat) (T : Nat → Tx) : Prop where
  pos : ∀ j, j < m → ∀ x, x < (T j).n → ((T j).o x).k = 2 → 0 < ((T j).o x).v
  one : ∀ i j k k' v, i < m → j < m → Has (T i) k v → Has (T j) k' v → i = j
theorem uq_of {E : Nat → Ev} {len : Nat} (h : Good E len) : Uq (stateAt E len).m (stateAt E len).T := by
  have hu := uq_at E len h
  refine ⟨fun j hj x hx h2 => (hu j hj x hx h2).1, fun i j k k' v hi hj ⟨x, hx, h2, _, hv⟩ ⟨y, hy, k2, _, kv⟩ => ?_⟩
  have a := (hu i hi x hx h2).2
  have b := (hu j hj y hy k2).2
  rw [hv] at a
  rw [kv, a] at b
  injection b with b
  omega
theorem opsV_iff {o : Nat → O3} {at_ : Int} {A : VM} {k v x : Int} : ∀ n, opsV o at_ A n k v = some x → (x = at_ ∧ ∃ y, y < n ∧ (o y).k = 2 ∧ (o y).key = k ∧ (o y).v = v) ∨ A k v = some x := by
  intro n
  induction n with
  | zero => exact fun h => .inr h
  | succ n ih =>
    intro h
    unfold opsV at h
    by_cases h2 : (o n).k = 2
    · rw [if_pos h2] at h
      unfold updV at h
      split at h
      · rename_i he
        injection h with h
        exact .inl ⟨h.symm, n, by omega, h2, he.1.symm, he.2.symm⟩
      · rcases ih h with ⟨e, y, hy, r⟩ | r
        · exact .inl ⟨e, y, by omega, r⟩
        · exact .inr r
    · rw [if_neg h2] at h
      rcases ih h with ⟨e, y, hy, r⟩ | r
      · exact .inl ⟨e, y, by omega, r⟩
      · exact .inr r
theorem opsV_some {o : Nat → O3} {at_ : Int} {A : VM} {k v : Int} : ∀ n, ((∃ y, y < n ∧ (o y).k = 2 ∧ (o y).key = k ∧ (o y).v = v) ∨ (A k v).isSome = true) → (opsV o at_ A n k v).isSome = true := by
  intro n
  induction n with
  | zero =>
    intro h
    rcases h with ⟨y, hy, _⟩ | h
    · omega
    · exact h
  | succ n ih =>
    intro h
    unfold opsV
    by_cases h2 : (o n).k = 2
    · rw [if_pos h2]
      unfold updV
      split
      · rfl
      · rename_i he
        refine ih ?_
        rcases h with ⟨y, hy, r⟩ | h
        · refine .inl ⟨y, ?_, r⟩
          rcases Nat.lt_or_ge y n with h | h
          · exact h
          · have : y = n := by omega
            subst this
            exact absurd ⟨r.2.1.symm, r.2.2.symm⟩ he
        · exact .inr h
    · rw [if_neg h2]
      refine ih ?_
      rcases h with ⟨y, hy, r⟩ | h
      · refine .inl ⟨y, ?_, r⟩
        rcases Nat.lt_or_ge y n with h | h
        · exact h
        · have : y = n := by omega
          subst this
          exact absurd r.1 h2
      · exact .inr h
theorem allV_has {T : Nat → Tx} {k v x : Int} : ∀ m, allV T m k v = some x → ∃ j, j < m ∧ x = (j : Int) ∧ Has (T j) k v := by
  intro m
  induction m with
  | zero => intro h; cases h
  | succ m ih =>
    intro h
    unfold allV at h
    rcases opsV_iff _ h with ⟨e, h⟩ | h
    · exact ⟨m, by omega, e, h⟩
    · obtain ⟨j, hj, r⟩ := ih h
      exact ⟨j, by omega, r⟩
theorem allV_some {T : Nat → Tx} {k v : Int} : ∀ m j, j < m → Has (T j) k v → (allV T m k v).isSome = true := by
  intro m
  induction m with
  | zero => intro j hj; omega
  | succ m ih =>
    intro j hj h
    unfold allV
    refine opsV_some _ ?_
    by_cases hjm : j = m
    · subst hjm; exact .inl h
    · exact .inr (ih j (by omega) h)
theorem first_all {T : Nat → Tx} {m : Nat} {k v : Int} {r : Option Nat} (hu : Uq m T) (h : FirstW T m k v r) : allV T m k v = r.map fun i => (i : Int) := by
  rcases h with ⟨rfl, h⟩ | ⟨i, hi, rfl, h, _⟩
  · cases hA : allV T m k v with
    | none => rfl
    | some x =>
      obtain ⟨j, hj, _, hh⟩ := allV_has m hA
      exact absurd hh (h j hj)
  · have hs := allV_some m i hi h
    cases hA : allV T m k v with
    | none => rw [hA] at hs; cases hs
    | some x =>
      obtain ⟨j, hj, e, hh⟩ := allV_has m hA
      rw [e, hu.one j i k k v hj hi hh h]
      rfl
/-- a transaction's last write of a key -/
def Fin_ (t : Tx) (k v : Int) : Prop := ∃ r ∈ wrl t.o t.n 16, r.key = k ∧ r.v = v
theorem lstV_iff {l : List O3} {at_ : Int} {A : VM} {k v : Int} : ∀ n, n ≤ l.length → ((lstV l at_ A n k v).isSome = true ↔ ((∃ y, y < n ∧ (lf l y).key = k ∧ (lf l y).v = v) ∨ (A k v).isSome = true)) := by
  intro n
  induction n with
  | zero =>
    intro _
    exact ⟨fun h => .inr h, fun h => by rcases h with ⟨y, hy, _⟩ | h; omega; exact h⟩
  | succ n ih =>
    intro hn
    unfold lstV updV
    split
    · rename_i he
      exact ⟨fun _ => .inl ⟨n, by omega, he.1.symm, he.2.symm⟩, fun _ => rfl⟩
    · rename_i he
      rw [ih (by omega)]
      constructor
      · rintro (⟨y, hy, r⟩ | h)
        · exact .inl ⟨y, by omega, r⟩
        · exact .inr h
      · rintro (⟨y, hy, r⟩ | h)
        · refine .inl ⟨y, ?_, r⟩
          rcases Nat.lt_or_ge y n with h | h
          · exact h
          · have : y = n := by omega
            subst this
            exact absurd ⟨r.1.symm, r.2.symm⟩ he
        · exact .inr h
theorem endV_iff {T : Nat → Tx} {k v : Int} : ∀ m, (endV T m k v).isSome = true ↔ ∃ j, j < m ∧ Fin_ (T j) k v := by
  intro m
  induction m with
  | zero => exact ⟨fun h => (by cases h), fun ⟨j, hj, _⟩ => by omega⟩
  | succ m ih =>
    unfold endV
    rw [lstV_iff _ (Nat.le_refl _), ih]
    have hf : (∃ y, y < (wrl (T m).o (T m).n 16).length ∧ (lf (wrl (T m).o (T m).n 16) y).key = k ∧ (lf (wrl (T m).o (T m).n 16) y).v = v) ↔ Fin_ (T m) k v := by
      constructor
      · rintro ⟨y, hy, r⟩
        exact ⟨_, lf_mem hy, r⟩
      · rintro ⟨r, hr, e⟩
        obtain ⟨y, hy, rfl⟩ := List.getElem_of_mem hr
        refine ⟨y, hy, ?_⟩
        have : lf (wrl (T m).o (T m).n 16) y = (wrl (T m).o (T m).n 16)[y] := by unfold lf; rw [List.getD_eq_getElem?_getD, List.getElem?_eq_getElem hy]; rfl
        rw [this]; exact e
    rw [hf]
    constructor
    · rintro (h | ⟨j, hj, h⟩)
      · exact ⟨m, by omega, h⟩
      · exact ⟨j, by omega, h⟩
    · rintro ⟨j, hj, h⟩
      by_cases e : j = m
      · subst e; exact .inl h
      · exact .inr ⟨j, by omega, h⟩
theorem Fin_.has {t : Tx} {k v : Int} (h : Fin_ t k v) : Has t k v := by
  obtain ⟨r, hr, e1, e2⟩ := h
  obtain ⟨i, hi, he, hk⟩ := wrl_mem hr
  exact ⟨i, hi, hk, by rw [he]; exact e1, by rw [he]; exact e2⟩
theorem end_fin {T : Nat → Tx} {m i : Nat} {k v : Int} (hu : Uq m T) (hi : i < m) (h : Has (T i) k v) : (endV T m k v).isSome = true ↔ Fin_ (T i) k v := by
  rw [endV_iff]
  constructor
  · rintro ⟨j, hj, hf⟩
    rw [← hu.one j i k k v hj hi hf.has h]; exact hf
  · exact fun hf => ⟨i, hi, hf⟩
end Go.Proofs.Yteobndfkkpfnlaa
