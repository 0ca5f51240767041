/-
  chains: which orders are right: mathematics.
-/
import Derived.Test.YteobndfkkpfnlaaJ17
import Derived.Test.YteobndfkkpfnlaaMa
namespace Go.Proofs.Yteobndfkkpfnlaa
open Go.ChangeShapes Go.WideShapes Go.ChangeAt Go.RowKit Go.Maps
set_option linter.unusedVariables false

/-- one is ahead of the other, by the facts -/
def aF (F : CM) (y : Int) (a b : Int) : Bool := decide (a ≠ b) && if a < b then F 2 y a b == some true else F 2 y b a == some false
theorem aF_ahd (F : CM) (y : Int) : Ahd (aF F y) := ⟨fun a b h => by
  unfold aF at h ⊢
  rw [Bool.and_eq_true, decide_eq_true_eq] at h
  obtain ⟨h1, h2⟩ := h
  by_cases hab : a < b
  · rw [if_pos hab] at h2
    rw [if_neg (by omega), eq_of_beq h2]
    simp
  · rw [if_neg hab] at h2
    rw [if_pos (by omega), eq_of_beq h2]
    simp⟩
theorem ah_count {F : CM} {y : Int} {l : List Int} (h : l.Pairwise (fun a b => a < b)) : ∀ n, n ≤ l.length → ∀ x ∈ l.take n, ahN F (prP y l n) x = (l.take n).countP (fun a => aF F y a x)
  | 0, _, x, hx => by simp at hx
  | n + 1, hn, x, hx => by
    have htk := take_snoc (l := l) (k := n) (by omega)
    have hlen : (l.take n).length = n := by rw [List.length_take]; omega
    have hlt : ∀ a, a ∈ l.take n → a < l.getD n 0 := by
      intro a ha
      obtain ⟨i, hi, rfl⟩ := List.getElem_of_mem ha
      rw [List.getElem_take, List.getD_eq_getElem?_getD, List.getElem?_eq_getElem (by omega)]
      rw [hlen] at hi
      exact List.pairwise_iff_getElem.1 h i n (by omega) (by omega) hi
    rw [prP_succ]
    unfold ahN
    rw [List.countP_append, htk, List.countP_append]
    unfold rwP
    rw [List.countP_map]
    rw [htk] at hx
    by_cases hxl : x = l.getD n 0
    · have hnot : x ∉ l.take n := fun hm => by have := hlt x hm; omega
      have h0 : (prP y l n).countP (fun c => bhP F c x) = 0 := by
        have h1 := ahN_le_in F (prP y l n) x
        have h2 := (prP_count (y := y) h x n (by omega)).2 hnot
        unfold ahN at h1
        omega
      have h2 : (l.take n).countP ((fun c => bhP F c x) ∘ fun a => (⟨2, y, a, l.getD n 0⟩ : C4)) = (l.take n).countP (fun a => aF F y a x) := by
        refine List.countP_congr fun a ha => ?_
        have hax := hlt a ha
        rw [← hxl] at hax ⊢
        unfold bhP aF
        simp only [Function.comp]
        have h3 : (a == x) = false := beq_eq_false_iff_ne.2 (by omega)
        have h4 : decide (a ≠ x) = true := decide_eq_true (by omega)
        rw [h3, h4, if_pos hax]
        simp
      have h5 : [l.getD n 0].countP (fun a => aF F y a x) = 0 := by
        rw [← hxl, List.countP_cons, List.countP_nil, (aF_ahd F y).irr]
        rfl
      rw [h0, h2, h5]
      omega
    · have hm : x ∈ l.take n := by
        rcases List.mem_append.1 hx with hx | hx
        · exact hx
        · exact absurd (List.mem_singleton.1 hx) hxl
      have ih := ah_count (F := F) (y := y) h n (by omega) x hm
      unfold ahN at ih
      rw [ih]
      congr 1
      have hxb := hlt x hm
      have hinc : (l.take n).Pairwise (fun a b => a < b) := List.Pairwise.sublist (List.take_sublist _ _) h
      have h1 := inc_count hinc x
      have h2 : 0 < (l.take n).countP (fun a => decide (a = x)) := List.countP_pos_iff.2 ⟨x, hm, by simp⟩
      have e1 : (l.take n).countP ((fun c => bhP F c x) ∘ fun a => (⟨2, y, a, l.getD n 0⟩ : C4)) = (l.take n).countP (fun a => (F 2 y x (l.getD n 0) == some false) && decide (a = x)) := by
        refine List.countP_congr fun a ha => ?_
        unfold bhP
        simp only [Function.comp]
        have h3 : (l.getD n 0 == x) = false := beq_eq_false_iff_ne.2 (fun e => hxl e.symm)
        rw [h3, Bool.and_false, Bool.false_or]
        by_cases e : a = x
        · subst e; simp
        · have h4 : (a == x) = false := beq_eq_false_iff_ne.2 e
          rw [h4, decide_eq_false e, Bool.and_false, Bool.and_false]
      rw [e1, List.countP_cons, List.countP_nil]
      have e2 : aF F y (l.getD n 0) x = (F 2 y x (l.getD n 0) == some false) := by
        unfold aF
        have hd : decide (l.getD n 0 ≠ x) = true := decide_eq_true (by omega)
        rw [if_neg (by omega), hd]
        rfl
      rw [e2]
      cases hb : (F 2 y x (l.getD n 0) == some false) with
      | false => simp
      | true =>
        simp only [Bool.true_and, if_true]
        omega
/-- as many are ahead of one as the pairs say -/
theorem ah_all {F : CM} {y : Int} {l : List Int} (h : l.Pairwise (fun a b => a < b)) {x : Int} (hx : x ∈ l) : ahN F (prP y l l.length) x = l.countP (fun a => aF F y a x) := by
  have h1 := ah_count (F := F) (y := y) h l.length (Nat.le_refl _) x (by rw [List.take_length]; exact hx)
  rw [List.take_length] at h1
  exact h1
theorem inc_ne {l : List Int} (h : l.Pairwise (fun a b => a < b)) : l.Pairwise (fun a b => a ≠ b) := h.imp fun h e => by omega
theorem mem_prP {y : Int} {l : List Int} : ∀ {n : Nat} {c : C4}, c ∈ prP y l n → n ≤ l.length → ∃ i j, i < j ∧ j < n ∧ c = ⟨2, y, l.getD i 0, l.getD j 0⟩
  | 0, c, h, _ => by simp [prP] at h
  | n + 1, c, h, hn => by
    rw [prP_succ] at h
    rcases List.mem_append.1 h with h | h
    · obtain ⟨i, j, h1, h2, h3⟩ := mem_prP h (by omega)
      exact ⟨i, j, h1, by omega, h3⟩
    · unfold rwP at h
      obtain ⟨a, ha, rfl⟩ := List.mem_map.1 h
      obtain ⟨i, hi, rfl⟩ := mem_getD ha
      rw [List.length_take] at hi
      rw [getD_take (by omega)]
      exact ⟨i, n, by omega, by omega, rfl⟩

/-- a list in which all of them stand, each ahead of all behind it -/
structure RgtP (l : List Int) (G : Int → Int → Bool) (o : List Int) : Prop where
  all : ∀ x ∈ l, x ∈ o
  len : l.length = o.length
  lin : ∀ j k, j < k → k < o.length → G (o.getD j 0) (o.getD k 0) = true
theorem RgtP.perm {l o : List Int} {G : Int → Int → Bool} (h : RgtP l G o) (hl : l.Pairwise (fun a b => a < b)) : l.Perm o := perm_of_sub (inc_ne hl) h.all h.len
theorem perm_ne {l o : List Int} (hp : l.Perm o) (hl : l.Pairwise (fun a b => a < b)) {j k : Nat} (hjk : j < k) (hk : k < o.length) : o.getD j 0 ≠ o.getD k 0 := by
  have hn : o.Pairwise (fun a b => a ≠ b) := hp.pairwise (inc_ne hl) (fun h e => h e.symm)
  rw [List.getD_eq_getElem?_getD, List.getD_eq_getElem?_getD, List.getElem?_eq_getElem hk, List.getElem?_eq_getElem (show j < o.length by omega)]
  exact List.pairwise_iff_getElem.1 hn j k (by omega) hk hjk
/-- the reference's Ahead is the facts' -/
def AgP (F : CM) (y : Int) (G : Int → Int → Bool) : Prop := ∀ a b, a ≠ b → G a b = aF F y a b
theorem RgtP.lin' {F : CM} {y : Int} {l o : List Int} {G : Int → Int → Bool} (hG : AgP F y G) (h : RgtP l G o) (hl : l.Pairwise (fun a b => a < b)) : Lin (aF F y) o := fun j k hjk hk => by
  rw [← hG _ _ (perm_ne (h.perm hl) hl hjk hk)]
  exact h.lin j k hjk hk
/-- what Chain makes is right -/
theorem fil_right {F : CM} {y : Int} {l o : List Int} {G : Int → Int → Bool} (hG : AgP F y G) (hl : l.Pairwise (fun a b => a < b)) (hpos : ∀ x ∈ l, 0 ≤ x) (h : Fil l (ahN F (prP y l l.length)) l.length o) : RgtP l G o := by
  have hall : ∀ x ∈ l, x ∈ o := fun x hx => by
    obtain ⟨i, hi, rfl⟩ := mem_getD hx
    have h1 := h.at_ i hi
    rw [← h1]
    exact getD_in (by rw [h.len]; exact ahN_lt hl hx)
  have hp : l.Perm o := perm_of_sub (inc_ne hl) hall h.len.symm
  have hlin : Lin (aF F y) o := lin_of (aF_ahd F y) fun k hk => by
    have hm := h.full _ (getD_in hk)
    rcases h.is k (by rw [← h.len]; exact hk) with h1 | ⟨i, hi, h1, h2⟩
    · have := hpos _ hm
      omega
    · rw [← perm_count hp, h1, ← ah_all hl (getD_in hi), h2]
  exact ⟨hall, h.len.symm, fun j k hjk hk => by rw [hG _ _ (perm_ne hp hl hjk hk)]; exact hlin j k hjk hk⟩
/-- where Chain tells none, no list is right -/
theorem no_right {F : CM} {y : Int} {l : List Int} {G : Int → Int → Bool} (hG : AgP F y G) (hl : l.Pairwise (fun a b => a < b))
    (h : (∃ x ∈ prP y l l.length, F x.k x.y x.a x.b = none) ∨ ∃ i j, i < j ∧ j < l.length ∧ ahN F (prP y l l.length) (l.getD i 0) = ahN F (prP y l l.length) (l.getD j 0)) (o : List Int) : ¬ RgtP l G o := fun hr => by
  have hp := hr.perm hl
  have hlin := hr.lin' hG hl
  have hlt : ∀ i j, i < j → j < l.length → l.getD i 0 < l.getD j 0 := fun i j hij hj => by
    rw [List.getD_eq_getElem?_getD, List.getD_eq_getElem?_getD, List.getElem?_eq_getElem hj, List.getElem?_eq_getElem (show i < l.length by omega)]
    exact List.pairwise_iff_getElem.1 hl i j (by omega) hj hij
  rcases h with ⟨c, hc, hn⟩ | ⟨i, j, hij, hj, e⟩
  · obtain ⟨i, j, hij, hj, rfl⟩ := mem_prP hc (Nat.le_refl _)
    dsimp only at hn
    have h1 := hlt i j hij hj
    rcases lin_said hp hlin (getD_in (show i < l.length by omega)) (getD_in hj) (by omega) with h2 | h2
    · unfold aF at h2
      rw [if_pos h1, hn] at h2
      simp at h2
    · unfold aF at h2
      rw [if_neg (by omega), hn] at h2
      simp at h2
  · rw [ah_all hl (getD_in (show i < l.length by omega)), ah_all hl (getD_in hj)] at e
    have h1 := lin_inj (aF_ahd F y) hp hlin (getD_in (show i < l.length by omega)) (getD_in hj) e
    have h2 := hlt i j hij hj
    omega
end Go.Proofs.Yteobndfkkpfnlaa
