/-
  Orders and who is ahead of whom: mathematics. No condition but those that stand in each line.
-/
namespace Go.Proofs.Yteobndfkkpfnlaa
set_option linter.unusedVariables false

theorem perm_of_sub : ∀ {l o : List Int}, l.Pairwise (fun a b => a ≠ b) → (∀ x ∈ l, x ∈ o) → l.length = o.length → l.Perm o
  | [], o, _, _, h => by
    have : o = [] := List.eq_nil_of_length_eq_zero (by simpa using h.symm)
    subst this
    exact List.Perm.refl _
  | a :: l, o, hn, hs, h => by
    obtain ⟨h1, h2⟩ := List.pairwise_cons.1 hn
    have ha : a ∈ o := hs a (List.mem_cons_self ..)
    have hp := List.perm_cons_erase ha
    have hl : (o.erase a).length = l.length := by
      have := hp.length_eq
      simp only [List.length_cons] at this h
      omega
    refine ((perm_of_sub h2 (fun x hx => ?_) hl.symm).cons a).trans hp.symm
    have hne : x ≠ a := fun e => h1 x hx e.symm
    exact (List.mem_erase_of_ne hne).2 (hs x (List.mem_cons_of_mem _ hx))
theorem count_all {α : Type} {p : α → Bool} : ∀ {l : List α}, l.countP p = l.length → ∀ x ∈ l, p x = true := by
  intro l h
  exact List.countP_eq_length.1 h
theorem count_none {α : Type} {p : α → Bool} {l : List α} (h : ∀ x ∈ l, ¬ p x = true) : l.countP p = 0 := List.countP_eq_zero.2 h

/-- one is ahead of the other, never both, never of itself -/
structure Ahd (A : Int → Int → Bool) : Prop where
  anti : ∀ a b, A a b = true → A b a = false
theorem Ahd.irr {A : Int → Int → Bool} (h : Ahd A) (a : Int) : A a a = false := by
  cases e : A a a with
  | false => rfl
  | true => have := h.anti a a e; rw [e] at this; cases this
/-- a list in which each stands ahead of all behind it -/
def Lin (A : Int → Int → Bool) (o : List Int) : Prop := ∀ j k, j < k → k < o.length → A (o.getD j 0) (o.getD k 0) = true
theorem getD_take {o : List Int} {k i : Nat} (hi : i < k) : (o.take k).getD i 0 = o.getD i 0 := by
  rw [List.getD_eq_getElem?_getD, List.getD_eq_getElem?_getD, List.getElem?_take, if_pos hi]
theorem getD_drop {o : List Int} {k i : Nat} : (o.drop k).getD i 0 = o.getD (k + i) 0 := by
  rw [List.getD_eq_getElem?_getD, List.getD_eq_getElem?_getD, List.getElem?_drop]
theorem mem_getD {o : List Int} {x : Int} (h : x ∈ o) : ∃ i, i < o.length ∧ o.getD i 0 = x := by
  obtain ⟨i, hi, e⟩ := List.getElem_of_mem h
  exact ⟨i, hi, by rw [List.getD_eq_getElem?_getD, List.getElem?_eq_getElem hi]; exact e⟩
theorem getD_in {o : List Int} {i : Nat} (h : i < o.length) : o.getD i 0 ∈ o := by
  rw [List.getD_eq_getElem?_getD, List.getElem?_eq_getElem h]; exact List.getElem_mem h
/-- in such a list as many are ahead of one as stand ahead of it -/
theorem Lin.count {A : Int → Int → Bool} (hA : Ahd A) {o : List Int} (h : Lin A o) {k : Nat} (hk : k < o.length) : o.countP (fun a => A a (o.getD k 0)) = k := by
  have e : o = o.take k ++ o.drop k := (List.take_append_drop k o).symm
  have h1 : (o.take k).countP (fun a => A a (o.getD k 0)) = k := by
    rw [List.countP_eq_length.2]
    · rw [List.length_take]; omega
    · intro a ha
      obtain ⟨i, hi, rfl⟩ := mem_getD ha
      rw [List.length_take] at hi
      rw [getD_take (by omega)]
      exact h i k (by omega) hk
  have h2 : (o.drop k).countP (fun a => A a (o.getD k 0)) = 0 := by
    refine count_none fun a ha => ?_
    obtain ⟨i, hi, rfl⟩ := mem_getD ha
    rw [List.length_drop] at hi
    rw [getD_drop]
    by_cases h0 : i = 0
    · subst h0
      rw [Nat.add_zero, hA.irr]
      exact Bool.false_ne_true
    · rw [hA.anti _ _ (h k (k + i) (by omega) (by omega))]
      exact Bool.false_ne_true
  have h3 : o.countP (fun a => A a (o.getD k 0)) = (o.take k ++ o.drop k).countP (fun a => A a (o.getD k 0)) := by rw [← e]
  rw [h3, List.countP_append, h1, h2, Nat.add_zero]
theorem Lin.nodup {A : Int → Int → Bool} (hA : Ahd A) {o : List Int} (h : Lin A o) {j k : Nat} (hj : j < o.length) (hk : k < o.length) (e : o.getD j 0 = o.getD k 0) : j = k := by
  have h1 := h.count hA hj
  have h2 := h.count hA hk
  rw [e] at h1
  omega
/-- where each stands at the place that has as many ahead, all stand so -/
theorem lin_of {A : Int → Int → Bool} (hA : Ahd A) {o : List Int} (h : ∀ k, k < o.length → o.countP (fun a => A a (o.getD k 0)) = k) : Lin A o := by
  have key : ∀ d k, k + d + 1 = o.length → ∀ j, j < k → A (o.getD j 0) (o.getD k 0) = true := by
    intro d
    induction d using Nat.strongRecOn with
    | _ d ih =>
      intro k hk j hj
      have hc := h k (by omega)
      have e : o.countP (fun a => A a (o.getD k 0)) = (o.take k ++ o.drop k).countP (fun a => A a (o.getD k 0)) := by rw [List.take_append_drop]
      have h2 : (o.drop k).countP (fun a => A a (o.getD k 0)) = 0 := by
        refine count_none fun a ha => ?_
        obtain ⟨i, hi, rfl⟩ := mem_getD ha
        rw [List.length_drop] at hi
        rw [getD_drop]
        by_cases h0 : i = 0
        · subst h0
          rw [Nat.add_zero, hA.irr]
          exact Bool.false_ne_true
        · rw [hA.anti _ _ (ih (d - i) (by omega) (k + i) (by omega) k (by omega))]
          exact Bool.false_ne_true
      rw [e, List.countP_append, h2, Nat.add_zero] at hc
      have h3 := count_all (p := fun a => A a (o.getD k 0)) (l := o.take k) (by rw [hc, List.length_take]; omega)
      have h4 := h3 _ (getD_in (o := o.take k) (i := j) (by rw [List.length_take]; omega))
      rw [getD_take hj] at h4
      exact h4
  intro j k hjk hk
  exact key (o.length - k - 1) k (by omega) j hjk
/-- of the same ones, in whatever order, as many are ahead -/
theorem perm_count {A : Int → Int → Bool} {l o : List Int} (h : l.Perm o) (x : Int) : l.countP (fun a => A a x) = o.countP (fun a => A a x) := h.countP_eq _
/-- if one list of them stands so, no two have as many ahead -/
theorem lin_inj {A : Int → Int → Bool} (hA : Ahd A) {l o : List Int} (hp : l.Perm o) (h : Lin A o) {x y : Int} (hx : x ∈ l) (hy : y ∈ l) (e : l.countP (fun a => A a x) = l.countP (fun a => A a y)) : x = y := by
  obtain ⟨j, hj, rfl⟩ := mem_getD (hp.mem_iff.1 hx)
  obtain ⟨k, hk, rfl⟩ := mem_getD (hp.mem_iff.1 hy)
  rw [perm_count hp, perm_count hp, h.count hA hj, h.count hA hk] at e
  rw [e]
/-- .. and of each two one is ahead -/
theorem lin_said {A : Int → Int → Bool} {l o : List Int} (hp : l.Perm o) (h : Lin A o) {x y : Int} (hx : x ∈ l) (hy : y ∈ l) (hne : x ≠ y) : A x y = true ∨ A y x = true := by
  obtain ⟨j, hj, rfl⟩ := mem_getD (hp.mem_iff.1 hx)
  obtain ⟨k, hk, rfl⟩ := mem_getD (hp.mem_iff.1 hy)
  rcases Nat.lt_trichotomy j k with h1 | h1 | h1
  · exact .inl (h j k h1 hk)
  · subst h1; exact absurd rfl hne
  · exact .inr (h k j h1 hj)
end Go.Proofs.Yteobndfkkpfnlaa
