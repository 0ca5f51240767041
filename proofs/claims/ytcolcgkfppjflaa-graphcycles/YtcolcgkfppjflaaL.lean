/-
  Ways: mathematics; contract of reached.
-/
import Derived.Test.YtcolcgkfppjflaaI
import Derived.Deep.LoopGhost
namespace Go.Proofs.Ytcolcgkfppjflaa
open Go.ChangeShapes Go.WideShapes Go.ChangeAt Go.RowKit
set_option linter.unusedVariables false

/-- from one node to another one by one arc or more -/
inductive Way (A : Nat → Nat → Prop) (N : Nat) : Nat → Nat → Prop
  | one {i j : Nat} : i < N → j < N → A i j → Way A N i j
  | more {i j k : Nat} : Way A N i j → k < N → A j k → Way A N i k
theorem Way.lt {A : Nat → Nat → Prop} {N i j : Nat} (h : Way A N i j) : i < N ∧ j < N := by
  induction h with
  | one h1 h2 _ => exact ⟨h1, h2⟩
  | more _ h2 _ ih => exact ⟨ih.1, h2⟩
theorem Way.trans {A : Nat → Nat → Prop} {N i j k : Nat} (h : Way A N i j) (h2 : Way A N j k) : Way A N i k := by
  induction h2 with
  | one h1 h2 h3 => exact h.more h2 h3
  | more _ h2 h3 ih => exact ih.more h2 h3
theorem Way.mono {A B : Nat → Nat → Prop} {N i j : Nat} (hAB : ∀ i j, i < N → j < N → A i j → B i j) (h : Way A N i j) : Way B N i j := by
  induction h with
  | one h1 h2 h3 => exact .one h1 h2 (hAB _ _ h1 h2 h3)
  | more h1 h2 h3 ih => exact .more ih h2 (hAB _ _ h1.lt.2 h2 h3)
/-- by nodes between that are below k -/
inductive WayK (A : Nat → Nat → Prop) (k : Nat) : Nat → Nat → Prop
  | one {i j : Nat} : A i j → WayK A k i j
  | cat {i m j : Nat} : WayK A k i m → m < k → WayK A k m j → WayK A k i j
theorem WayK.up {A : Nat → Nat → Prop} {k i j : Nat} (h : WayK A k i j) : WayK A (k + 1) i j := by
  induction h with
  | one h => exact .one h
  | cat _ hm _ h1 h2 => exact .cat h1 (by omega) h2
theorem WayK.zero {A : Nat → Nat → Prop} {i j : Nat} : WayK A 0 i j ↔ A i j := by
  constructor
  · intro h
    cases h with
    | one h => exact h
    | cat _ hm _ => exact absurd hm (Nat.not_lt_zero _)
  · exact .one
theorem WayK.succ {A : Nat → Nat → Prop} {k i j : Nat} : WayK A (k + 1) i j ↔ WayK A k i j ∨ (WayK A k i k ∧ WayK A k k j) := by
  constructor
  · intro h
    induction h with
    | one h => exact .inl (.one h)
    | @cat i m j _ hm _ h1 h2 =>
      by_cases hmk : m < k
      · rcases h1 with h1 | ⟨h1, h1'⟩
        · rcases h2 with h2 | ⟨h2, h2'⟩
          · exact .inl (.cat h1 hmk h2)
          · exact .inr ⟨.cat h1 hmk h2, h2'⟩
        · rcases h2 with h2 | ⟨h2, h2'⟩
          · exact .inr ⟨h1, .cat h1' hmk h2⟩
          · exact .inr ⟨h1, h2'⟩
      · obtain rfl : m = k := by omega
        have a : WayK A m i m := by rcases h1 with h1 | ⟨h1, _⟩ <;> exact h1
        have b : WayK A m m j := by rcases h2 with h2 | ⟨_, h2⟩ <;> exact h2
        exact .inr ⟨a, b⟩
  · rintro (h | ⟨h1, h2⟩)
    · exact h.up
    · exact .cat h1.up (by omega) h2.up
theorem WayK.all {A : Nat → Nat → Prop} {N i j : Nat} (hi : i < N) (hj : j < N) : WayK A N i j ↔ Way A N i j := by
  constructor
  · intro h
    induction h with
    | one h => exact .one hi hj h
    | cat _ hm _ h1 h2 => exact (h1 hi hm).trans (h2 hm hj)
  · intro h
    induction h with
    | one _ _ h => exact .one h
    | more h1 hk h2 ih => exact .cat (ih h1.lt.2) h1.lt.2 (.one h2)

def falses (M : Nat → Bool) : Nat → Nat
  | 0 => 0
  | n + 1 => falses M n + (if M n = true then 0 else 1)
theorem falses_le (M : Nat → Bool) (N : Nat) : falses M N ≤ N := by
  induction N with
  | zero => exact Nat.le_refl _
  | succ n ih => unfold falses; split <;> omega
theorem falses_past (M : Nat → Bool) (y N : Nat) (h : N ≤ y) : falses (fun x => if x = y then true else M x) N = falses M N := by
  induction N with
  | zero => rfl
  | succ n ih =>
    unfold falses
    rw [ih (by omega), if_neg (show ¬ n = y by omega)]
theorem falses_set (M : Nat → Bool) (y N : Nat) (hy : y < N) (hm : M y = false) : falses (fun x => if x = y then true else M x) N + 1 = falses M N := by
  induction N with
  | zero => omega
  | succ n ih =>
    unfold falses
    by_cases h : n = y
    · subst h
      rw [falses_past M n n (Nat.le_refl _)]
      simp [hm]
    · rw [if_neg h]
      have := ih (by omega)
      omega
theorem own_cut {w : World} {base g n cap : Nat} {xs : List Value} {x : Value} (hl : xs.length = n) (h : w.ownsRow base 3 1 (.slice (some ⟨g, 0, none⟩) (n + 1) cap) (n + 1) (xs ++ [x])) : w.ownsRow base 3 1 (.slice (some ⟨g, 0, none⟩) n cap) n xs := by
  refine ⟨by omega, ?_⟩
  rcases h.2 with ⟨h0, _⟩ | ⟨g', cap', cur, hv, hg, hh, h1, h2, h3, h4⟩
  · cases h0
  · injection hv with hv1 _ hv2
    injection hv1 with hv1
    injection hv1 with hv1 _ _
    subst hv1 hv2
    refine .inr ⟨g, cap, cur, rfl, hg, hh, by omega, h2, h3, ?_⟩
    have e1 : cur.toList.take (n * 1) = (cur.toList.take ((n + 1) * 1)).take (n * 1) := by
      rw [List.take_take]; congr 1; omega
    rw [e1, h4, List.take_append_of_le_length (by omega), List.take_of_length_le (by omega)]

/-- the search in memory -/
structure RchR (w0 w : World) (gm gl cp N : Nat) (S : List Nat) (M : Nat → Bool) : Prop where
  met : MetS w w0.heap.size gm N M
  stk : w.ownsRow w0.heap.size 3 1 (.slice (some ⟨gl, 0, none⟩) S.length cp) S.length (rowN S)
  bel : Below w0.heap.size w0 w
/-- what it has found; ex: the node whose arcs are being followed -/
structure RchI (L : Nat → List Nat) (N st : Nat) (ex : Nat → Prop) (S : List Nat) (M : Nat → Bool) : Prop where
  way : ∀ x, x < N → M x = true → Way (fun i j => j ∈ L i) N st x
  inS : ∀ x ∈ S, x < N ∧ (x = st ∨ M x = true)
  cl : ∀ y, y < N → (y = st ∨ M y = true) → y ∈ S ∨ ex y ∨ ∀ z ∈ L y, M z = true
section
variable {w0 w w' : World} {gm gl cp N : Nat} {S : List Nat} {M : Nat → Bool}
theorem RchR.ne (h : RchR w0 w gm gl cp N S M) : gm ≠ gl := fun e => by
  obtain ⟨c1, e1⟩ := own_cells h.met (g := gm) rfl
  obtain ⟨c2, e2⟩ := own_cells h.stk (g := gl) rfl
  rw [e, e2] at e1
  injection e1 with e1
  injection e1 with _ e1 _
  cases e1
theorem RchR.below (h : RchR w0 w gm gl cp N S M) (hb : Below w.heap.size w w') : RchR w0 w' gm gl cp N S M :=
  ⟨h.met.keep (hb.block _ h.met.lt.2), own_keep h.stk fun q e => hb.block q (h.stk.lt q e).2, h.bel.trans (hb.mono h.bel.size)⟩
theorem RchR.mark (h : RchR w0 w gm gl cp N S M) (y : Nat) : RchR w0 (w.setCell ⟨gm, y, none⟩ (.bool true)) gm gl cp N S (fun x => if x = y then true else M x) := by
  refine ⟨h.met.set y true, own_keep h.stk fun q e => ?_, h.bel.setCell (by exact h.met.lt.1) _⟩
  have : gl = q := Option.some.inj e
  rw [← this]
  exact Below.heap_setCell _ _ _ _ (fun e => h.ne e.symm)
theorem RchR.push (h : RchR w0 w gm gl cp N S M) {y g7 c7 : Nat} (ho : w'.ownsRow w0.heap.size 3 1 (.slice (some ⟨g7, 0, none⟩) (S.length + 1) c7) (S.length + 1) (rowN S ++ [.int .i64 (y : Int)])) (hg : w.grownBy w' (some gl)) : RchR w0 w' gm g7 c7 N (S ++ [y]) M := by
  refine ⟨h.met.keep (hg.block gm h.met.lt.2 (fun e => h.ne (Option.some.inj e))), ?_, h.bel.grown hg h.bel.size (fun k e => by have := (h.stk.lt gl rfl).1; injection e with e; omega)⟩
  rw [rowN_snoc, List.length_append, List.length_singleton]
  exact ho
end
theorem RchI.pop {L : Nat → List Nat} {N st nd : Nat} {S : List Nat} {M : Nat → Bool} (h : RchI L N st (fun _ => False) (S ++ [nd]) M) : RchI L N st (fun y => y = nd) S M ∧ nd < N ∧ (nd = st ∨ M nd = true) := by
  refine ⟨⟨h.way, fun x hx => h.inS x (List.mem_append_left _ hx), fun y hy h1 => ?_⟩, h.inS nd (List.mem_append_right _ (List.mem_singleton.2 rfl))⟩
  rcases h.cl y hy h1 with h2 | h2 | h2
  · rcases List.mem_append.1 h2 with h3 | h3
    · exact .inl h3
    · exact .inr (.inl (List.mem_singleton.1 h3))
  · exact h2.elim
  · exact .inr (.inr h2)
theorem RchI.add {L : Nat → List Nat} {N st nd y : Nat} {S : List Nat} {M : Nat → Bool} (h : RchI L N st (fun y => y = nd) S M) (hn : nd < N) (hs : nd = st ∨ M nd = true) (hst : st < N) (hy : y < N) (hm : y ∈ L nd) :
    RchI L N st (fun y => y = nd) (S ++ [y]) (fun x => if x = y then true else M x) := by
  have hway : Way (fun i j => j ∈ L i) N st y := by
    rcases hs with rfl | h1
    · exact .one hst hy hm
    · exact .more (h.way nd hn h1) hy hm
  refine ⟨fun x hx h1 => ?_, fun x hx => ?_, fun z hz h1 => ?_⟩
  · by_cases hxy : x = y
    · rw [hxy]; exact hway
    · rw [if_neg hxy] at h1; exact h.way x hx h1
  · rcases List.mem_append.1 hx with h1 | h1
    · obtain ⟨h2, h3⟩ := h.inS x h1
      refine ⟨h2, h3.imp id (fun h4 => ?_)⟩
      split
      · rfl
      · exact h4
    · obtain rfl := List.mem_singleton.1 h1
      exact ⟨hy, .inr (if_pos rfl)⟩
  · by_cases hzy : z = y
    · exact .inl (List.mem_append_right _ (by rw [hzy]; exact List.mem_singleton.2 rfl))
    · rw [if_neg hzy] at h1
      rcases h.cl z hz h1 with h2 | h2 | h2
      · exact .inl (List.mem_append_left _ h2)
      · exact .inr (.inl h2)
      · refine .inr (.inr fun q hq => ?_)
        split
        · rfl
        · exact h2 q hq
theorem RchI.shut {L : Nat → List Nat} {N st nd : Nat} {S : List Nat} {M : Nat → Bool} (h : RchI L N st (fun y => y = nd) S M) (ha : ∀ z ∈ L nd, M z = true) : RchI L N st (fun _ => False) S M :=
  ⟨h.way, h.inS, fun y hy h1 => by
    rcases h.cl y hy h1 with h2 | h2 | h2
    · exact .inl h2
    · exact .inr (.inr (by rw [h2]; exact ha))
    · exact .inr (.inr h2)⟩
theorem RchI.fin {L : Nat → List Nat} {N st : Nat} {M : Nat → Bool} (h : RchI L N st (fun _ => False) [] M) (x : Nat) (hx : x < N) : M x = true ↔ Way (fun i j => j ∈ L i) N st x := by
  refine ⟨h.way x hx, fun hw => ?_⟩
  induction hw with
  | one h1 h2 h3 =>
    rcases h.cl _ h1 (.inl rfl) with h4 | h4 | h4
    · cases h4
    · exact h4.elim
    · exact h4 _ h3
  | more h1 h2 h3 ih =>
    rcases h.cl _ h1.lt.2 (.inr (ih h1.lt.2)) with h4 | h4 | h4
    · cases h4
    · exact h4.elim
    · exact h4 _ h3
end Go.Proofs.Ytcolcgkfppjflaa
