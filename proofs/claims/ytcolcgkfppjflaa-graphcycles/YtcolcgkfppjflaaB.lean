/-
  A graph's lists in memory, while they are built.
-/
import Derived.Test.YtcolcgkfppjflaaA
namespace Go.Proofs.Ytcolcgkfppjflaa
open Go.ChangeShapes Go.WideShapes Go.ChangeAt Go.RowKit

/-- nodes as cells -/
def rowN (L : List Nat) : List Value := L.map fun (b : Nat) => Value.int .i64 (b : Int)
theorem rowN_length (L : List Nat) : (rowN L).length = L.length := by unfold rowN; simp
theorem rowN_get (L : List Nat) (j : Nat) (h : j < L.length) : (rowN L)[j]? = some (.int .i64 ((L.getD j 0 : Nat) : Int)) := by
  unfold rowN
  simp [List.getD_eq_getElem?_getD, h]
theorem rowN_snoc (L : List Nat) (x : Nat) : rowN (L ++ [x]) = rowN L ++ [.int .i64 (x : Int)] := by unfold rowN; simp
def rowV (V : Nat → Value) (N : Nat) : List Value := (List.range N).map V
theorem rowV_length (V : Nat → Value) (N : Nat) : (rowV V N).length = N := by unfold rowV; simp
theorem rowV_get (V : Nat → Value) (N i : Nat) (h : i < N) : (rowV V N)[i]? = some (V i) := by unfold rowV; simp [h]
theorem rowV_set (V : Nat → Value) (N i : Nat) (u : Value) : (rowV V N).set i u = rowV (fun x => if x = i then u else V x) N := by
  apply List.ext_getElem?
  intro j
  by_cases hj : j < N
  · rw [List.getElem?_set, rowV_length, rowV_get _ _ _ hj, rowV_get _ _ _ hj]
    by_cases h : i = j
    · subst h; rw [if_pos rfl, if_pos hj, if_pos rfl]
    · rw [if_neg h, if_neg (fun e => h e.symm)]
  · rw [List.getElem?_eq_none (by rw [List.length_set, rowV_length]; omega), List.getElem?_eq_none (by rw [rowV_length]; omega)]
def rowH (H : Nat → Nat → Bool) (N : Nat) : List Value := (List.range (N * N)).map fun k => .bool (H (k / N) (k % N))
theorem rowH_length (H : Nat → Nat → Bool) (N : Nat) : (rowH H N).length = N * N := by unfold rowH; simp
theorem mul_lt (N i j : Nat) (hi : i < N) (hj : j < N) : i * N + j < N * N := by
  have h1 : (i + 1) * N ≤ N * N := Nat.mul_le_mul_right _ hi
  rw [Nat.add_mul, Nat.one_mul] at h1
  omega
theorem div_at (N i j : Nat) (hj : j < N) : (i * N + j) / N = i ∧ (i * N + j) % N = j := by
  constructor
  · rw [Nat.mul_comm, Nat.mul_add_div (by omega), Nat.div_eq_of_lt hj, Nat.add_zero]
  · rw [Nat.mul_comm, Nat.mul_add_mod, Nat.mod_eq_of_lt hj]
theorem rowH_get (H : Nat → Nat → Bool) (N i j : Nat) (hi : i < N) (hj : j < N) : (rowH H N)[i * N + j]? = some (.bool (H i j)) := by
  obtain ⟨h1, h2⟩ := div_at N i j hj
  unfold rowH
  simp [mul_lt N i j hi hj, h1, h2]
theorem rowH_set (H : Nat → Nat → Bool) (N i j : Nat) (hj : j < N) : (rowH H N).set (i * N + j) (.bool true) = rowH (fun x y => if x = i ∧ y = j then true else H x y) N := by
  obtain ⟨h1, h2⟩ := div_at N i j hj
  apply List.ext_getElem?
  intro k
  by_cases hk : k < N * N
  · rw [List.getElem?_set, rowH_length]
    unfold rowH
    rw [List.getElem?_map, List.getElem?_map, List.getElem?_range hk]
    simp only [Option.map_some]
    by_cases h : i * N + j = k
    · subst h; rw [if_pos rfl, if_pos hk, if_pos ⟨h1, h2⟩]
    · rw [if_neg h, if_neg]
      rintro ⟨a, b⟩
      have := Nat.div_add_mod k N
      rw [a, b, Nat.mul_comm] at this
      exact h this
  · rw [List.getElem?_eq_none (by rw [List.length_set, rowH_length]; omega), List.getElem?_eq_none (by rw [rowH_length]; omega)]

/-- the lists while they are built -/
structure NetM (w : World) (B g : Nat) (gb : Bool → Nat) (gh N : Nat) (H : Nat → Nat → Bool) (L : Bool → Nat → List Nat) (V : Bool → Nat → Value) : Prop where
  box : w.heap[B]? = some (.cells #[.int .i64 (N : Int)] 3 (0, 0))
  net : w.heap[g]? = some (.cells #[.slice (some ⟨gb true, 0, none⟩) N N, .slice (some ⟨gb false, 0, none⟩) N N] 47 (0, 0))
  low : B < g
  row : ∀ s, w.ownsRow (B + 1) 33 1 (.slice (some ⟨gb s, 0, none⟩) N N) N (rowV (V s) N)
  two : gb true ≠ gb false
  has : w.ownsRow (B + 1) 4 1 (.slice (some ⟨gh, 0, none⟩) (N * N) (N * N)) (N * N) (rowH H N)
  lst : ∀ s i, i < N → w.ownsRow (B + 1) 3 1 (V s i) (L s i).length (rowN (L s i))
  dj : ∀ s i s' i' q, i < N → i' < N → (V s i).ownBlock = some q → (V s' i').ownBlock = some q → s = s' ∧ i = i'

theorem blk_lt {w : World} {q : Nat} {o : Obj} (e : w.heap[q]? = some o) : q < w.heap.size := by
  rcases Nat.lt_or_ge q w.heap.size with h' | h'
  · exact h'
  · rw [Array.getElem?_eq_none h'] at e; cases e

section
variable {w w' : World} {B g gh N : Nat} {gb : Bool → Nat} {H : Nat → Nat → Bool} {L : Bool → Nat → List Nat} {V : Bool → Nat → Value}
theorem NetM.below (h : NetM w B g gb gh N H L V) (hb : Below w.heap.size w w') : NetM w' B g gb gh N H L V :=
  ⟨(hb.block _ (blk_lt h.box)).trans h.box, (hb.block _ (blk_lt h.net)).trans h.net, h.low, fun s => own_keep (h.row s) fun q e => hb.block q ((h.row s).lt q e).2, h.two, own_keep h.has fun q e => hb.block q (h.has.lt q e).2,
    fun s i hi => own_keep (h.lst s i hi) fun q e => hb.block q ((h.lst s i hi).lt q e).2, h.dj⟩
theorem NetM.cellBox (h : NetM w B g gb gh N H L V) : w.cell? ⟨B, 0, none⟩ = some (.int .i64 (N : Int)) := by
  rw [cell_of_row _ _ _ _ _ _ h.box]; rfl
theorem NetM.cellNet (h : NetM w B g gb gh N H L V) : w.cell? ⟨g, 0, none⟩ = some (.slice (some ⟨gb true, 0, none⟩) N N) ∧ w.cell? ⟨g, 1, none⟩ = some (.slice (some ⟨gb false, 0, none⟩) N N) := by
  rw [cell_of_row _ _ _ _ _ _ h.net, cell_of_row _ _ _ _ _ _ h.net]; exact ⟨rfl, rfl⟩
theorem NetM.cellHas (h : NetM w B g gb gh N H L V) {i j : Nat} (hi : i < N) (hj : j < N) : w.cell? ⟨gh, i * N + j, none⟩ = some (.bool (H i j)) :=
  (h.has.cellAt (i * N + j) (by have := mul_lt N i j hi hj; omega)).trans (rowH_get H N i j hi hj)
theorem NetM.cellRow (h : NetM w B g gb gh N H L V) (s : Bool) {i : Nat} (hi : i < N) : w.cell? ⟨gb s, i, none⟩ = some (V s i) :=
  ((h.row s).cellAt i (by omega)).trans (rowV_get _ _ _ hi)
/-- a pair is marked -/
theorem NetM.mark (h : NetM w B g gb gh N H L V) {i j : Nat} (hj : j < N) : NetM (w.setCell ⟨gh, i * N + j, none⟩ (.bool true)) B g gb gh N (fun x y => if x = i ∧ y = j then true else H x y) L V := by
  obtain ⟨h1, h2⟩ := h.has.stored (i * N + j) (.bool true)
  rw [rowH_set _ _ _ _ hj] at h1
  have stays : ∀ {q : Nat} {o : Obj}, w.heap[q]? = some o → (∀ cs, o ≠ .cells cs 4 (0, 0)) → (w.setCell ⟨gh, i * N + j, none⟩ (.bool true)).heap[q]? = w.heap[q]? := fun {q o} e hno => by
    refine h2.block q (blk_lt e) (fun e' => ?_)
    obtain ⟨cur, e3⟩ := own_cells h.has e'.symm
    rw [e] at e3
    injection e3 with e3
    exact hno cur e3
  refine ⟨(stays h.box (fun cs e => by injection e with _ e _; cases e)).trans h.box, (stays h.net (fun cs e => by injection e with _ e _; cases e)).trans h.net, h.low, fun s => own_keep (h.row s) fun q e => ?_, h.two, h1, fun s i hi => own_keep (h.lst s i hi) fun q e => ?_, h.dj⟩
  · obtain ⟨cur, e⟩ := own_cells (h.row s) e
    exact stays e (fun cs e => by injection e with _ e _; cases e)
  · obtain ⟨cur, e⟩ := own_cells (h.lst s i hi) e
    exact stays e (fun cs e => by injection e with _ e _; cases e)
/-- a list grows by one -/
theorem NetM.add (h : NetM w B g gb gh N H L V) (s : Bool) {i x g7 c7 : Nat} (hi : i < N) (ho : w'.ownsRow (B + 1) 3 1 (.slice (some ⟨g7, 0, none⟩) ((L s i).length + 1) c7) ((L s i).length + 1) (rowN (L s i) ++ [.int .i64 (x : Int)]))
    (hg : w.grownBy w' (V s i).ownBlock) (hat : (V s i).ownBlock = some g7 ∨ g7 = w.heap.size) :
    NetM (w'.setCell ⟨gb s, i, none⟩ (.slice (some ⟨g7, 0, none⟩) ((L s i).length + 1) c7)) B g gb gh N H (fun s' i' => if s' = s ∧ i' = i then L s i ++ [x] else L s' i') (fun s' i' => if s' = s ∧ i' = i then .slice (some ⟨g7, 0, none⟩) ((L s i).length + 1) c7 else V s' i') := by
  have stays : ∀ {q : Nat} {o : Obj}, w.heap[q]? = some o → (∀ cs, o ≠ .cells cs 3 (0, 0)) → w'.heap[q]? = w.heap[q]? := fun {q o} e hno => by
    refine hg.block q (blk_lt e) (fun e' => ?_)
    obtain ⟨cur, e3⟩ := own_cells (h.lst s i hi) e'.symm
    rw [e] at e3
    injection e3 with e3
    exact hno cur e3
  have hrow : ∀ s', w'.ownsRow (B + 1) 33 1 (.slice (some ⟨gb s', 0, none⟩) N N) N (rowV (V s') N) := fun s' => own_keep (h.row s') fun q e => by
    obtain ⟨cur, e⟩ := own_cells (h.row s') e
    exact stays e (fun cs e => by injection e with _ e _; cases e)
  have hlt' : g7 < w'.heap.size := (ho.lt g7 rfl).2
  obtain ⟨k1, k2⟩ := (hrow s).stored i (.slice (some ⟨g7, 0, none⟩) ((L s i).length + 1) c7)
  rw [rowV_set] at k1
  generalize hw8 : w'.setCell ⟨gb s, i, none⟩ (.slice (some ⟨g7, 0, none⟩) ((L s i).length + 1) c7) = w8 at *
  have stays2 : ∀ {q : Nat} {o : Obj}, w'.heap[q]? = some o → q ≠ gb s → w8.heap[q]? = w'.heap[q]? := fun {q o} e hne => by
    refine k2.block q (blk_lt e) (fun e' => ?_)
    exact hne (Option.some.inj e')
  have hgt : ∀ s', ∃ cur, w'.heap[gb s']? = some (.cells cur 33 (0, 0)) := fun s' => own_cells (hrow s') rfl
  have ne33 : ∀ {q : Nat} {cur : Array Value} {t : Nat}, w'.heap[q]? = some (.cells cur t (0, 0)) → t ≠ 33 → q ≠ gb s := fun {q cur t} e ht eq => by
    obtain ⟨c2, e2⟩ := hgt s
    rw [eq, e2] at e
    injection e with e
    injection e with _ e _
    exact ht e.symm
  have hbox : w'.heap[B]? = w.heap[B]? := hg.block B (blk_lt h.box) (fun e => by have := ((h.lst s i hi).lt B e.symm).1; omega)
  have hnet : w'.heap[g]? = w.heap[g]? := stays h.net (fun cs e => by injection e with _ e _; cases e)
  refine ⟨?_, ?_, h.low, fun s' => ?_, h.two, ?_, fun s' i' hi' => ?_, ?_⟩
  · have e := hbox.trans h.box
    exact (stays2 e (ne33 e (by decide))).trans e
  · have e := hnet.trans h.net
    exact (stays2 e (ne33 e (by decide))).trans e
  · by_cases hs : s' = s
    · subst hs
      have : (fun i' => if s' = s' ∧ i' = i then Value.slice (some ⟨g7, 0, none⟩) ((L s' i).length + 1) c7 else V s' i') = fun x => if x = i then Value.slice (some ⟨g7, 0, none⟩) ((L s' i).length + 1) c7 else V s' x := by
        funext x; simp
      rw [this]; exact k1
    · have : (fun i' => if s' = s ∧ i' = i then Value.slice (some ⟨g7, 0, none⟩) ((L s i).length + 1) c7 else V s' i') = V s' := by
        funext x; rw [if_neg (fun e => hs e.1)]
      rw [this]
      refine own_keep (hrow s') fun q e => ?_
      have eq : gb s' = q := Option.some.inj e
      obtain ⟨cur, e2⟩ := hgt s'
      rw [← eq]
      refine stays2 e2 (fun e3 => ?_)
      cases s <;> cases s' <;> first | exact hs rfl | exact h.two e3 | exact h.two e3.symm
  · have k3 : w'.ownsRow (B + 1) 4 1 (.slice (some ⟨gh, 0, none⟩) (N * N) (N * N)) (N * N) (rowH H N) := own_keep h.has fun q e => by
      obtain ⟨cur, e⟩ := own_cells h.has e
      exact stays e (fun cs e => by injection e with _ e _; cases e)
    refine own_keep k3 fun q e => ?_
    obtain ⟨cur, e⟩ := own_cells k3 e
    exact stays2 e (ne33 e (by decide))
  · by_cases hs : s' = s ∧ i' = i
    · rw [if_pos hs, if_pos hs, rowN_snoc, List.length_append, List.length_singleton]
      refine own_keep ho fun q e => ?_
      obtain ⟨cur, e⟩ := own_cells ho e
      exact stays2 e (ne33 e (by decide))
    · rw [if_neg hs, if_neg hs]
      have k4 : w'.ownsRow (B + 1) 3 1 (V s' i') (L s' i').length (rowN (L s' i')) := own_keep (h.lst s' i' hi') fun q e =>
        hg.block q ((h.lst s' i' hi').lt q e).2 (fun e' => hs (h.dj s' i' s i q hi' hi e e'.symm))
      refine own_keep k4 fun q e => ?_
      obtain ⟨cur, e⟩ := own_cells k4 e
      exact stays2 e (ne33 e (by decide))
  · intro s1 i1 s2 i2 q h1 h2
    by_cases c1 : s1 = s ∧ i1 = i
    · by_cases c2 : s2 = s ∧ i2 = i
      · intro _ _; exact ⟨c1.1.trans c2.1.symm, c1.2.trans c2.2.symm⟩
      · rw [if_pos c1, if_neg c2]
        intro e1 e2
        have eq : g7 = q := Option.some.inj e1
        exfalso
        rcases hat with ha | ha
        · rw [eq] at ha
          exact c2 (h.dj s2 i2 s i q h2 hi e2 ha)
        · have := ((h.lst s2 i2 h2).lt q e2).2
          omega
    · by_cases c2 : s2 = s ∧ i2 = i
      · rw [if_neg c1, if_pos c2]
        intro e1 e2
        have eq : g7 = q := Option.some.inj e2
        exfalso
        rcases hat with ha | ha
        · rw [eq] at ha
          exact c1 (h.dj s1 i1 s i q h1 hi e1 ha)
        · have := ((h.lst s1 i1 h1).lt q e1).2
          omega
      · rw [if_neg c1, if_neg c2]
        exact h.dj s1 i1 s2 i2 q h1 h2
end
end Go.Proofs.Ytcolcgkfppjflaa
