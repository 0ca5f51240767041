/-
  Bytes that are no history's (mathematics), ahead of Decode.
-/
import Derived.Test.YtaddmegghikhpaaEl
namespace Go.Proofs.Ytaddmegghikhpaa
open Go.ChangeShapes Go.WideShapes Go.ChangeAt Go.RowKit

/-- j events of m stand there -/
def Got (f : Nat → Nat) (n m j : Nat) (E : Nat → Ev) : Prop := m ≤ 400 ∧ Sp f 0 (numL m) ∧ Sp f (numL m).length (evsL E j) ∧ (numL m).length + (evsL E j).length ≤ 8 * n ∧ ∀ i, i < j → Fit (E i)
/-- why no history stands there -/
def ErrB (f : Nat → Nat) (n : Nat) (er : Int) : Prop := ErrN f n 0 er ∨ (er = 4 ∧ ∃ m, 400 < m ∧ m < 18446744073709551616 ∧ Sp f 0 (numL m) ∧ (numL m).length ≤ 8 * n) ∨
  (∃ m j E, j < m ∧ Got f n m j E ∧ ErrE f n ((numL m).length + (evsL E j).length) er) ∨
  (er = 12 ∧ ∃ m E, Got f n m m E ∧ ¬ (8 * n < (numL m).length + (evsL E m).length + 8 ∧ Ends f ((numL m).length + (evsL E m).length)))
def NoBk (f : Nat → Nat) (n : Nat) (er : Int) : Prop := ErrB f n er ∧ ∀ (E : Nat → Ev) (len : Nat), len ≤ 400 → (∀ i, i < len → Fit (E i)) → Al f n 0 (BL E len) → (er = 10 ∧ 8 * n < (BL E len).length) ∨ ((BL E len).length ≤ 8 * n ∧ ¬ (8 * n < (BL E len).length + 8 ∧ Ends f (BL E len).length))
theorem bl_parts {f : Nat → Nat} {n : Nat} {E : Nat → Ev} {len : Nat} (h : Al f n 0 (BL E len)) : Al f n 0 (numL len) ∧ Al f n (numL len).length (evsL E len) := by
  obtain ⟨h1, h2⟩ := Al.app (show Al f n 0 (numL len ++ evsL E len) from h)
  rw [Nat.zero_add] at h2
  exact ⟨h1, h2⟩
theorem noBk_num {f : Nat → Nat} {n : Nat} {er : Int} (h : NoNum f n 0 er) : NoBk f n er := ⟨.inl h.1, fun E len hl _ hal => by
  obtain ⟨h1, h2⟩ := h.2 len (by omega) (bl_parts hal).1
  exact .inl ⟨h1, by unfold BL; rw [List.length_append]; omega⟩⟩
theorem noBk_many {f : Nat → Nat} {n m : Nat} (hx : m < 18446744073709551616) (h : Sp f 0 (numL m)) (hl : (numL m).length ≤ 8 * n) (hm : 400 < m) : NoBk f n 4 := ⟨.inr (.inl ⟨rfl, m, hm, hx, h, hl⟩), fun E len hlen _ hal => by
  have := sp_al_num h (by rw [Nat.zero_add]; exact hl) (bl_parts hal).1
  omega⟩
theorem evsL_succ (E : Nat → Ev) (n : Nat) : (evsL E (n + 1)).length = (evsL E n).length + (evL (E n)).length := by
  show (evsL E n ++ evL (E n)).length = _
  rw [List.length_append]
theorem evsL_mono (E : Nat → Ev) (i : Nat) : ∀ n, i ≤ n → ∃ M, evsL E n = evsL E i ++ M := by
  intro n
  induction n with
  | zero => intro h; obtain rfl : i = 0 := by omega
            exact ⟨[], by simp⟩
  | succ n ih =>
    intro h
    by_cases hi : i = n + 1
    · subst hi; exact ⟨[], by simp⟩
    · obtain ⟨M, e⟩ := ih (by omega)
      exact ⟨M ++ evL (E n), by show evsL E n ++ evL (E n) = _; rw [e, List.append_assoc]⟩
theorem evs_al {f : Nat → Nat} {n a : Nat} (E E' : Nat → Ev) : ∀ m, Sp f a (evsL E m) → a + (evsL E m).length ≤ 8 * n → Al f n a (evsL E' m) → (∀ i, i < m → Fit (E i)) → (∀ i, i < m → Fit (E' i)) → ∀ i, i < m → SameE1 (E i) (E' i) := by
  intro m
  induction m with
  | zero => intro _ _ _ _ _ i hi; exact absurd hi (Nat.not_lt_zero _)
  | succ m ih =>
    intro h hl h' hf hf' i hi
    obtain ⟨h1, h2⟩ := Sp.app.1 (show Sp f a (evsL E m ++ evL (E m)) from h)
    obtain ⟨g1, g2⟩ := Al.app (show Al f n a (evsL E' m ++ evL (E' m)) from h')
    have hs := evsL_succ E m
    have he := ih h1 (by omega) g1 (fun i hi => hf i (by omega)) (fun i hi => hf' i (by omega))
    by_cases hin : i = m
    · subst hin
      rw [← evsL_congr E E' i he] at g2
      exact ev_al h2 (by omega) g2 (hf i (by omega)) (hf' i (by omega))
    · exact he i (by omega)
theorem noBk_ev {f : Nat → Nat} {n m j : Nat} {er : Int} {E : Nat → Ev} (h4 : m ≤ 400) (hj : j < m) (hn : Sp f 0 (numL m)) (hsp : Sp f (numL m).length (evsL E j)) (hl : (numL m).length + (evsL E j).length ≤ 8 * n) (hf : ∀ i, i < j → Fit (E i)) (hno : NoEv f n ((numL m).length + (evsL E j).length) er) : NoBk f n er := by
  refine ⟨.inr (.inr (.inl ⟨m, j, E, hj, ⟨h4, hn, hsp, hl, hf⟩, hno.1⟩)), ?_⟩
  intro E' len hlen hf' hal
  obtain ⟨a1, a2⟩ := bl_parts hal
  obtain rfl := sp_al_num hn (by rw [Nat.zero_add]; omega) a1
  obtain ⟨M, eM⟩ := evsL_mono E' (j + 1) m (by omega)
  rw [eM] at a2
  obtain ⟨g1, g2⟩ := Al.app (show Al f n (numL m).length (evsL E' j ++ evL (E' j)) from a2.app.1)
  have heq := evs_al E E' j hsp hl g1 hf (fun i hi => hf' i (by omega))
  rw [← evsL_congr E E' j heq] at g2
  obtain ⟨r1, r2⟩ := hno.2 (E' j) (hf' j (by omega)) g2
  refine .inl ⟨r1, ?_⟩
  have hs := evsL_succ E' j
  rw [evsL_congr E E' j heq] at r2
  unfold BL
  rw [List.length_append, eM, List.length_append]
  omega
theorem noBk_trail {f : Nat → Nat} {n m : Nat} {E : Nat → Ev} (h4 : m ≤ 400) (hn : Sp f 0 (numL m)) (hsp : Sp f (numL m).length (evsL E m)) (hl : (numL m).length + (evsL E m).length ≤ 8 * n) (hf : ∀ i, i < m → Fit (E i)) (hbad : ¬ (8 * n < (numL m).length + (evsL E m).length + 8 ∧ Ends f ((numL m).length + (evsL E m).length))) : NoBk f n 12 := by
  refine ⟨.inr (.inr (.inr ⟨rfl, m, E, ⟨h4, hn, hsp, hl, hf⟩, hbad⟩)), ?_⟩
  intro E' len hlen hf' hal
  obtain ⟨a1, a2⟩ := bl_parts hal
  obtain rfl := sp_al_num hn (by rw [Nat.zero_add]; omega) a1
  have heq := evs_al E E' m hsp hl a2 hf hf'
  have : (BL E' m).length = (numL m).length + (evsL E m).length := by
    unfold BL; rw [List.length_append, evsL_congr E E' m heq]
  rw [this]
  exact .inr ⟨hl, hbad⟩
end Go.Proofs.Ytaddmegghikhpaa
