/-
  One of the open ones called failed: mathematics, memory.
-/
import Derived.Test.YteobndfkkpfnlaaFm
namespace Go.Proofs.Yteobndfkkpfnlaa
open Go.ChangeShapes Go.WideShapes Go.ChangeAt Go.RowKit
set_option linter.unusedVariables false

/-- the i-th one is called failed -/
def gone (T : Nat → Tx) (i : Nat) : Nat → Tx := fun j => if j = i then ⟨(T i).c, 2, (T i).n, (T i).o⟩ else T j
theorem gone_n (T : Nat → Tx) (i j : Nat) : (gone T i j).n = (T j).n ∧ (gone T i j).o = (T j).o := by
  unfold gone
  by_cases h : j = i
  · subst h; rw [if_pos rfl]; exact ⟨rfl, rfl⟩
  · rw [if_neg h]; exact ⟨rfl, rfl⟩
theorem gone_all (T : Nat → Tx) (i : Nat) : ∀ m, allV (gone T i) m = allV T m := by
  intro m
  induction m with
  | zero => rfl
  | succ m ih => unfold allV; rw [ih, (gone_n T i m).1, (gone_n T i m).2]
theorem gone_end (T : Nat → Tx) (i : Nat) : ∀ m, endV (gone T i) m = endV T m := by
  intro m
  induction m with
  | zero => rfl
  | succ m ih => unfold endV; rw [ih, (gone_n T i m).1, (gone_n T i m).2]
theorem gone_rd {T : Nat → Tx} {i : Nat} (h0 : (T i).st = 0) (j : Nat) : rdT (gone T i j) = rdT (T j) := by
  unfold rdT
  rw [(gone_n T i j).1, (gone_n T i j).2]
  unfold gone
  by_cases h : j = i
  · subst h; rw [if_pos rfl, h0]; rfl
  · rw [if_neg h]
theorem gone_fl {T : Nat → Tx} {i : Nat} {A L : VM} {t : Int} {r : O3} (h : flK A L T t r ≠ 0) : flK A L (gone T i) t r ≠ 0 := by
  unfold flK at h ⊢
  by_cases hv : r.v = 0
  · rw [if_pos hv] at h; exact absurd rfl h
  · rw [if_neg hv] at h ⊢
    cases hA : A r.key r.v with
    | none => simp
    | some x =>
      rw [hA] at h
      dsimp only at h ⊢
      by_cases hx : x = t
      · rw [if_pos hx]; decide
      · rw [if_neg hx] at h ⊢
        by_cases hg : (gone T i x.toNat).st = 2
        · rw [if_pos hg]; decide
        · rw [if_neg hg]
          have hst : ¬ (T x.toNat).st = 2 := fun e => hg (by
            unfold gone
            by_cases he : x.toNat = i
            · rw [if_pos he]
            · rw [if_neg he]; exact e)
          rw [if_neg hst] at h
          exact h
/-- all flaws of the one are flaws of the other -/
def Fewer (l l' : List O3) : Prop := l.length ≤ l'.length ∧ ∀ f ∈ l, ∃ g ∈ l', f.k = g.k ∧ f.key = g.key
theorem Fewer.app {a b a' b' : List O3} (h : Fewer a a') (k : Fewer b b') : Fewer (a ++ b) (a' ++ b') := by
  refine ⟨by rw [List.length_append, List.length_append]; have := h.1; have := k.1; omega, fun f hf => ?_⟩
  rcases List.mem_append.1 hf with hf | hf
  · obtain ⟨g, hg, e⟩ := h.2 f hf
    exact ⟨g, List.mem_append_left _ hg, e⟩
  · obtain ⟨g, hg, e⟩ := k.2 f hf
    exact ⟨g, List.mem_append_right _ hg, e⟩
theorem gone_flR {T : Nat → Tx} {i : Nat} (A L : VM) (t : Nat) (rs : List O3) : ∀ n, Fewer (flR A L T t rs n) (flR A L (gone T i) t rs n) := by
  intro n
  induction n with
  | zero => exact ⟨Nat.le_refl _, fun f hf => by cases hf⟩
  | succ n ih =>
    unfold flR
    by_cases h : flK A L T (t : Int) (lf rs n) = 0
    · rw [if_pos h]
      by_cases h' : flK A L (gone T i) (t : Int) (lf rs n) = 0
      · rw [if_pos h']; exact ih
      · rw [if_neg h']
        have := ih.app (b := []) (b' := [⟨(t : Int), (n : Int), flK A L (gone T i) (t : Int) (lf rs n)⟩]) ⟨by simp, fun f hf => by cases hf⟩
        rw [List.append_nil] at this
        exact this
    · rw [if_neg h, if_neg (gone_fl h)]
      refine ih.app ⟨by simp, fun f hf => ?_⟩
      simp at hf
      exact ⟨_, List.mem_singleton.2 rfl, by rw [hf], by rw [hf]⟩
theorem gone_flL {T : Nat → Tx} {i : Nat} (h0 : (T i).st = 0) (m : Nat) : Fewer (flL T m) (flL (gone T i) m) := by
  unfold flL
  rw [gone_all, gone_end]
  generalize allV T m = A
  generalize endV T m = L
  induction m with
  | zero => exact ⟨Nat.le_refl _, fun f hf => by cases hf⟩
  | succ m ih =>
    unfold flT
    rw [gone_rd h0]
    exact ih.app (gone_flR A L m _ _)
theorem gone_suR {T : Nat → Tx} {i : Nat} {A : VM} (rs : List O3) (S : Nat → Bool) (hS : S i = false) : ∀ n, suR A (gone T i) rs S n i = false := by
  intro n
  induction n with
  | zero => exact hS
  | succ n ih =>
    unfold suR
    cases hA : A (lf rs n).key (lf rs n).v with
    | none => exact ih
    | some x =>
      dsimp only
      by_cases hx : (gone T i x.toNat).st = 0
      · rw [if_pos hx]
        unfold setB
        by_cases he : i = x.toNat
        · subst he
          unfold gone at hx
          rw [if_pos rfl] at hx
          exact absurd (show (2 : Int) = 0 from hx) (by decide)
        · rw [if_neg he]; exact ih
      · rw [if_neg hx]; exact ih
theorem gone_su (T : Nat → Tx) (i m : Nat) : suL (gone T i) m i = false := by
  unfold suL
  generalize allV (gone T i) m = A
  induction m with
  | zero => rfl
  | succ m ih =>
    unfold suT
    by_cases h : (gone T i m).st = 1
    · rw [if_pos h]
      refine gone_suR _ _ ?_ _
      unfold setB
      by_cases he : i = m
      · subst he
        unfold gone at h
        rw [if_pos rfl] at h
        exact absurd (show (2 : Int) = 1 from h) (by decide)
      · rw [if_neg he]; exact ih
    · rw [if_neg h]; exact ih
theorem gone_ok {T : Nat → Tx} {i m : Nat} (h : TOk m T) : TOk m (gone T i) :=
  ⟨h.cnt, fun j hj => by rw [(gone_n T i j).1]; exact h.n j hj, fun j hj x hx => by rw [(gone_n T i j).2]; rw [(gone_n T i j).1] at hx; exact h.key j hj x hx, fun j hj x hx => by rw [(gone_n T i j).2]; rw [(gone_n T i j).1] at hx; exact h.val j hj x hx⟩
theorem cell_set_ne {W : World} {g i k : Nat} {cs : Array Value} {t : TypeId} {u : Value} (h : W.heap[g]? = some (.cells cs t (0, 0))) (hk : k ≠ i) : (W.setCell ⟨g, i, none⟩ u).cell? ⟨g, k, none⟩ = W.cell? ⟨g, k, none⟩ := by
  rw [cell_of_row _ _ _ _ _ _ (heap_setCell_same W g i cs t u h), cell_of_row _ _ _ _ _ _ h, Array.getElem?_setIfInBounds_ne (Ne.symm hk)]
theorem gone_mem {W : World} {g m cp i : Nat} {T : Nat → Tx} {cs : Array Value} (hT : TxS W (some ⟨g, 0, none⟩) m T) (hg : W.heap[g]? = some (.cells cs 47 (0, 0))) (hi : i < m) : TxS (W.setCell ⟨g, i * 3 + 1, none⟩ (.int .i64 2)) (some ⟨g, 0, none⟩) m (gone T i) := by
  have hsz : (W.setCell ⟨g, i * 3 + 1, none⟩ (.int .i64 2)).heap.size = W.heap.size := by simp [World.setCell]
  intro hm
  obtain ⟨b, off, e, hb, hc⟩ := hT hm
  injection e with e
  injection e with e1 e2
  subst e1 e2
  simp only [Nat.zero_add] at hc
  obtain ⟨spi, cpi, i0, i1, i2, _⟩ := hc i hi
  have hops : ∀ (sp : Option Addr) (n : Nat) (o : Nat → O3), OpS W sp n o → OpS (W.setCell ⟨g, i * 3 + 1, none⟩ (.int .i64 2)) sp n o := by
    intro sp n o h hn
    obtain ⟨b3, off3, e, hb3, hc3⟩ := h hn
    refine ⟨b3, off3, e, by rw [hsz]; exact hb3, fun x hx => ?_⟩
    obtain ⟨d0, d1, d2⟩ := hc3 x hx
    by_cases hbg : b3 = g
    · subst hbg
      have n0 : off3 + x * 3 ≠ i * 3 + 1 := fun e => by
        rw [show off3 + x * 3 + 1 = i * 3 + 2 by omega, i2] at d1
        cases d1
      have n1 : off3 + x * 3 + 1 ≠ i * 3 + 1 := fun e => by
        rw [show off3 + x * 3 + 2 = i * 3 + 2 by omega, i2] at d2
        cases d2
      have n2 : off3 + x * 3 + 2 ≠ i * 3 + 1 := fun e => by
        rcases Nat.eq_zero_or_pos i with h0 | h0
        · subst h0; omega
        · obtain ⟨spj, cpj, j0, j1, j2, _⟩ := hc (i - 1) (by omega)
          rw [show off3 + x * 3 = (i - 1) * 3 + 2 by omega, j2] at d0
          cases d0
      rw [cell_set_ne hg n0, cell_set_ne hg n1, cell_set_ne hg n2]
      exact ⟨d0, d1, d2⟩
    · have hbl : ∀ k, (W.setCell ⟨g, i * 3 + 1, none⟩ (.int .i64 2)).cell? ⟨b3, k, none⟩ = W.cell? ⟨b3, k, none⟩ := fun k => by
        have := heap_setCell_other W ⟨g, i * 3 + 1, none⟩ b3 (.int .i64 2) hbg
        simp [World.cell?, this]
      rw [hbl, hbl, hbl]
      exact ⟨d0, d1, d2⟩
  refine ⟨g, 0, rfl, by rw [hsz]; exact hb, fun j hj => ?_⟩
  obtain ⟨sp, cap, c0, c1, c2, ho⟩ := hc j hj
  simp only [Nat.zero_add]
  refine ⟨sp, cap, ?_, ?_, ?_, ?_⟩
  · rw [cell_set_ne hg (by omega), c0]
    unfold gone
    by_cases h : j = i
    · subst h; rw [if_pos rfl]
    · rw [if_neg h]
  · by_cases h : j = i
    · subst h
      rw [cell_of_row _ _ _ _ _ _ (heap_setCell_same W g (j * 3 + 1) cs 47 _ hg)]
      rw [cell_of_row _ _ _ _ _ _ hg] at c1
      have hlt : j * 3 + 1 < cs.size := (Array.getElem?_eq_some_iff.1 c1).1
      rw [Array.getElem?_setIfInBounds_self_of_lt hlt]
      unfold gone; rw [if_pos rfl]
    · rw [cell_set_ne hg (by omega), c1]
      unfold gone; rw [if_neg h]
  · rw [cell_set_ne hg (by omega), c2, (gone_n T i j).1]
  · rw [(gone_n T i j).1, (gone_n T i j).2]; exact hops _ _ _ ho
end Go.Proofs.Yteobndfkkpfnlaa
