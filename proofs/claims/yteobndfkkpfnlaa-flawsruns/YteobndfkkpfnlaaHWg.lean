/-
  The last writes by rising keys (mathematics).
-/
import Derived.Test.YteobndfkkpfnlaaHWd
import Derived.Test.YteobndfkkpfnlaaHWe
namespace Go.Proofs.Yteobndfkkpfnlaa
/-- what is kept of a place -/
def stp (o : Nat → O3) (s : List O3 × (Int → Option Int)) (i : Nat) : List O3 × (Int → Option Int) :=
  if (o i).k = 2 ∧ (s.2 (o i).key).isSome = false then (s.1 ++ [o i], fun y => if y = (o i).key then some (i : Int) else s.2 y) else s

def colS (o : Nat → O3) {n : Nat} (pre : List (Pl n)) : List O3 × (Int → Option Int) := (pre.map (·.1)).foldl (stp o) ([], fun _ => none)

set_option maxRecDepth 100000 in
theorem colS_snoc (o : Nat → O3) {n : Nat} (pre : List (Pl n)) (x : Pl n) : colS o (pre ++ [x]) = stp o (colS o pre) x.1 := by
  unfold colS; rw [List.map_append, List.foldl_append]; rfl

set_option maxRecDepth 100000 in
theorem colS_le (o : Nat → O3) {n : Nat} (pre : List (Pl n)) : (colS o pre).1.length ≤ pre.length := by
  have h : ∀ (q : List Nat) (s : List O3 × (Int → Option Int)), (q.foldl (stp o) s).1.length ≤ s.1.length + q.length := by
    intro q
    induction q with
    | nil => intro s; exact Nat.le_refl _
    | cons i q ih =>
      intro s
      have h1 := ih (stp o s i)
      have h2 : (stp o s i).1.length ≤ s.1.length + 1 := by
        unfold stp
        split
        · simp
        · omega
      rw [List.foldl_cons, List.length_cons]
      omega
  have := h (pre.map (·.1)) ([], fun _ => none)
  rw [List.length_map] at this
  simpa [colS] using this

set_option maxRecDepth 100000 in
theorem strict_eq : ∀ (l1 l2 : List O3), l1.Pairwise (fun a b => a.key < b.key) → l2.Pairwise (fun a b => a.key < b.key) → (∀ x, x ∈ l1 ↔ x ∈ l2) → l1 = l2
  | [], [], _, _, _ => rfl
  | [], b :: l2, _, _, h => by have := (h b).2 (List.mem_cons_self ..); cases this
  | a :: l1, [], _, _, h => by have := (h a).1 (List.mem_cons_self ..); cases this
  | a :: l1, b :: l2, h1, h2, h => by
    rw [List.pairwise_cons] at h1 h2
    have hab : a = b := by
      rcases List.mem_cons.1 ((h a).1 (List.mem_cons_self ..)) with e | e
      · exact e
      · rcases List.mem_cons.1 ((h b).2 (List.mem_cons_self ..)) with e' | e'
        · exact e'.symm
        · have := h2.1 a e
          have := h1.1 b e'
          omega
    subst hab
    rw [strict_eq l1 l2 h1.2 h2.2 fun x => ?_]
    constructor
    · intro hx
      rcases List.mem_cons.1 ((h x).1 (List.mem_cons_of_mem _ hx)) with e | e
      · have := h1.1 x hx; rw [e] at this; omega
      · exact e
    · intro hx
      rcases List.mem_cons.1 ((h x).2 (List.mem_cons_of_mem _ hx)) with e | e
      · have := h2.1 x hx; rw [e] at this; omega
      · exact e

set_option maxRecDepth 100000 in
theorem lastIx_iff (o : Nat → O3) (key : Int) : ∀ n i, lastIx o key n = some i ↔ (i < n ∧ (o i).k = 2 ∧ (o i).key = key ∧ ∀ j, i < j → j < n → ¬ ((o j).k = 2 ∧ (o j).key = key)) := by
  intro n
  induction n with
  | zero => intro i; exact ⟨fun h => (by cases h), fun h => absurd h.1 (Nat.not_lt_zero _)⟩
  | succ n ih =>
    intro i
    unfold lastIx
    by_cases hc : (o n).k = 2 ∧ (o n).key = key
    · rw [if_pos hc]
      constructor
      · intro h
        injection h with h
        subst h
        exact ⟨Nat.lt_succ_self _, hc.1, hc.2, fun j h1 h2 => by omega⟩
      · rintro ⟨h1, _, _, h4⟩
        by_cases hin : i = n
        · rw [hin]
        · exact absurd hc (h4 n (by omega) (Nat.lt_succ_self _))
    · rw [if_neg hc, ih]
      constructor
      · rintro ⟨h1, h2, h3, h4⟩
        refine ⟨by omega, h2, h3, fun j hj1 hj2 => ?_⟩
        by_cases hjn : j = n
        · rw [hjn]; exact hc
        · exact h4 j hj1 (by omega)
      · rintro ⟨h1, h2, h3, h4⟩
        have hin : i ≠ n := fun e => hc (by rw [← e]; exact ⟨h2, h3⟩)
        exact ⟨by omega, h2, h3, fun j hj1 hj2 => h4 j hj1 (by omega)⟩

set_option maxRecDepth 100000 in
theorem wrl_spec (o : Nat → O3) (n : Nat) : ∀ K, (wrl o n K).Pairwise (fun a b => a.key < b.key) ∧ (∀ x, x ∈ wrl o n K ↔ ∃ kk i, kk < K ∧ lastIx o ((kk : Nat) : Int) n = some i ∧ x = o i) := by
  intro K
  induction K with
  | zero => exact ⟨List.Pairwise.nil, fun x => ⟨fun h => (by cases h), fun ⟨kk, i, h, _⟩ => absurd h (Nat.not_lt_zero _)⟩⟩
  | succ K ih =>
    obtain ⟨h1, h2⟩ := ih
    cases hl : lastIx o (K : Int) n with
    | none =>
      have e : wrl o n (K + 1) = wrl o n K := by
        show (match lastIx o (K : Int) n with | some i => wrl o n K ++ [o i] | none => wrl o n K) = _
        rw [hl]
      rw [e]
      refine ⟨h1, fun x => ?_⟩
      rw [h2]
      constructor
      · rintro ⟨kk, i, a, b, c⟩; exact ⟨kk, i, by omega, b, c⟩
      · rintro ⟨kk, i, a, b, c⟩
        by_cases hk : kk = K
        · subst hk; rw [hl] at b; cases b
        · exact ⟨kk, i, by omega, b, c⟩
    | some j =>
      have e : wrl o n (K + 1) = wrl o n K ++ [o j] := by
        show (match lastIx o (K : Int) n with | some i => wrl o n K ++ [o i] | none => wrl o n K) = _
        rw [hl]
      rw [e]
      have hj := (lastIx_iff o K n j).1 hl
      refine ⟨?_, fun x => ?_⟩
      · rw [List.pairwise_append]
        refine ⟨h1, List.pairwise_singleton _ _, fun a ha b hb => ?_⟩
        rw [List.mem_singleton] at hb
        subst hb
        obtain ⟨kk, i, h3, h4, rfl⟩ := (h2 a).1 ha
        have hi := (lastIx_iff o kk n i).1 h4
        rw [hi.2.2.1, hj.2.2.1]
        omega
      · rw [List.mem_append, h2, List.mem_singleton]
        constructor
        · rintro (⟨kk, i, a, b, c⟩ | h)
          · exact ⟨kk, i, by omega, b, c⟩
          · exact ⟨K, j, by omega, hl, h⟩
        · rintro ⟨kk, i, a, b, c⟩
          by_cases hk : kk = K
          · subst hk; rw [hl] at b; injection b with b; subst b; exact .inr c
          · exact .inl ⟨kk, i, by omega, b, c⟩

set_option maxRecDepth 100000 in
/-- behind k places from behind -/
theorem col_spec (o : Nat → O3) (len : Nat) (h : 0 < len) : ∀ k, k ≤ len → (colS o (upto (pf len h) k)).1.Pairwise (fun a b => ¬ a.key = b.key) ∧
    (∀ x, x ∈ (colS o (upto (pf len h) k)).1 ↔ ∃ i, len - k ≤ i ∧ lastIx o (o i).key len = some i ∧ x = o i) ∧
    (∀ key, ((colS o (upto (pf len h) k)).2 key).isSome = true ↔ ∃ i, len - k ≤ i ∧ i < len ∧ (o i).k = 2 ∧ (o i).key = key) := by
  intro k
  induction k with
  | zero =>
    intro _
    refine ⟨List.Pairwise.nil, fun x => ⟨fun h => (by cases h), fun ⟨i, h1, h2, _⟩ => ?_⟩, fun key => ⟨fun h => (by cases h), fun ⟨i, h1, h2, _⟩ => by omega⟩⟩
    have := ((lastIx_iff o _ len i).1 h2).1
    omega
  | succ k ih =>
    intro hk
    obtain ⟨h1, h2, h3⟩ := ih (by omega)
    rw [← upto_succ, colS_snoc]
    have ev : (pf len h k).1 = len - 1 - k := rfl
    rw [ev]
    obtain ⟨u, eu⟩ : ∃ u, u = len - 1 - k := ⟨_, rfl⟩
    rw [← eu]
    generalize colS o (upto (pf len h) k) = s at *
    have hcase : ((o u).k = 2 ∧ (s.2 (o u).key).isSome = false) ↔ lastIx o (o u).key len = some u := by
      rw [lastIx_iff]
      constructor
      · rintro ⟨a, b⟩
        refine ⟨by omega, a, rfl, fun j hj1 hj2 hj3 => ?_⟩
        have := (h3 (o u).key).2 ⟨j, by omega, hj2, hj3.1, hj3.2⟩
        rw [b] at this; cases this
      · rintro ⟨a, b, _, d⟩
        refine ⟨b, ?_⟩
        cases hs : (s.2 (o u).key).isSome with
        | false => rfl
        | true =>
          obtain ⟨i, hi1, hi2, hi3, hi4⟩ := (h3 (o u).key).1 hs
          exact absurd ⟨hi3, hi4⟩ (d i (by omega) hi2)
    unfold stp
    by_cases hc : (o u).k = 2 ∧ (s.2 (o u).key).isSome = false
    · rw [if_pos hc]
      have hlu := hcase.1 hc
      refine ⟨?_, fun x => ?_, fun key => ?_⟩
      · dsimp only
        rw [List.pairwise_append]
        refine ⟨h1, List.pairwise_singleton _ _, fun a ha b hb he => ?_⟩
        rw [List.mem_singleton] at hb
        subst hb
        obtain ⟨i, hi1, hi2, rfl⟩ := (h2 a).1 ha
        have hi := (lastIx_iff o _ len i).1 hi2
        have := (h3 (o u).key).2 ⟨i, hi1, hi.1, hi.2.1, he⟩
        rw [hc.2] at this; cases this
      · dsimp only
        rw [List.mem_append, h2, List.mem_singleton]
        constructor
        · rintro (⟨i, a, b, c⟩ | h)
          · exact ⟨i, by omega, b, c⟩
          · exact ⟨u, by omega, hlu, h⟩
        · rintro ⟨i, a, b, c⟩
          by_cases hi : i = u
          · subst hi; exact .inr c
          · exact .inl ⟨i, by omega, b, c⟩
      · dsimp only
        by_cases hkey : key = (o u).key
        · rw [if_pos hkey]
          exact ⟨fun _ => ⟨u, by omega, by omega, hc.1, hkey.symm⟩, fun _ => rfl⟩
        · rw [if_neg hkey, h3]
          constructor
          · rintro ⟨i, a, b, c, d⟩; exact ⟨i, by omega, b, c, d⟩
          · rintro ⟨i, a, b, c, d⟩
            by_cases hi : i = u
            · subst hi; exact absurd d.symm hkey
            · exact ⟨i, by omega, b, c, d⟩
    · rw [if_neg hc]
      refine ⟨h1, fun x => ?_, fun key => ?_⟩
      · rw [h2]
        constructor
        · rintro ⟨i, a, b, c⟩; exact ⟨i, by omega, b, c⟩
        · rintro ⟨i, a, b, c⟩
          by_cases hi : i = u
          · subst hi; exact absurd (hcase.2 b) hc
          · exact ⟨i, by omega, b, c⟩
      · rw [h3]
        constructor
        · rintro ⟨i, a, b, c, d⟩; exact ⟨i, by omega, b, c, d⟩
        · rintro ⟨i, a, b, c, d⟩
          by_cases hi : i = u
          · subst hi
            have hs : (s.2 (o i).key).isSome = true := by
              cases hs : (s.2 (o i).key).isSome with
              | true => rfl
              | false => exact absurd ⟨c, hs⟩ hc
            obtain ⟨j, a', b', c', d'⟩ := (h3 (o i).key).1 hs
            exact ⟨j, a', b', c', d'.trans d⟩
          · exact ⟨i, by omega, b, c, d⟩

set_option maxRecDepth 100000 in
theorem cols_wrl (o : Nat → O3) (len : Nat) (hk : ∀ i, i < len → 0 ≤ (o i).key ∧ (o i).key ≤ 15) (ys : List (Pl len)) (hC : Comes len ys len) (hl : ys.length = len) (l' : List O3) (hp : l'.Perm (colS o ys).1)
    (hs : ∀ i j, i < j → j < (colS o ys).1.length → ¬ (lf l' j).key < (lf l' i).key) : l' = wrl o len 16 := by
  obtain ⟨w1, w2⟩ := wrl_spec o len 16
  by_cases h0 : 0 < len
  · rw [hC h0] at hp hs
    obtain ⟨h1, h2, _⟩ := col_spec o len h0 len (Nat.le_refl _)
    have hd : l'.Pairwise (fun a b => ¬ a.key = b.key) := (hp.pairwise_iff (fun {x y} h e => h e.symm)).2 h1
    refine strict_eq _ _ ?_ w1 fun x => ?_
    · rw [List.pairwise_iff_getElem] at hd ⊢
      intro i j hi hj hij
      have ha := hd i j hi hj hij
      have hb := hs i j hij (by rw [← hp.length_eq]; exact hj)
      have e1 : lf l' i = l'[i] := by unfold lf; rw [List.getD_eq_getElem?_getD, List.getElem?_eq_getElem hi]; rfl
      have e2 : lf l' j = l'[j] := by unfold lf; rw [List.getD_eq_getElem?_getD, List.getElem?_eq_getElem hj]; rfl
      rw [e1, e2] at hb
      omega
    · rw [hp.mem_iff, h2, w2]
      constructor
      · rintro ⟨i, _, b, c⟩
        have hi := (lastIx_iff o _ len i).1 b
        have hkr := hk i hi.1
        refine ⟨(o i).key.toNat, i, by omega, ?_, c⟩
        rw [show (((o i).key.toNat : Nat) : Int) = (o i).key by omega]
        exact b
      · rintro ⟨kk, i, _, b, c⟩
        have hi := (lastIx_iff o _ len i).1 b
        exact ⟨i, by omega, by rw [hi.2.2.1]; exact b, c⟩
  · obtain rfl : len = 0 := by omega
    have hy : ys = [] := List.length_eq_zero_iff.1 hl
    subst hy
    have e : l' = [] := hp.eq_nil
    rw [e]
    symm
    cases hw : wrl o 0 16 with
    | nil => rfl
    | cons a t =>
      have := (w2 a).1 (by rw [hw]; exact List.mem_cons_self ..)
      obtain ⟨kk, i, _, b, _⟩ := this
      cases b

end Go.Proofs.Yteobndfkkpfnlaa
