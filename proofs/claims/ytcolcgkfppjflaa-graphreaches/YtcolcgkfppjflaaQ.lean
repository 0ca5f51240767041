/-
  A table whose rows have spare room; the reference's Reach.
-/
import Derived.Test.YtcolcgkfppjflaaL
namespace Go.Proofs.Ytcolcgkfppjflaa
open Go.ChangeShapes Go.WideShapes Go.ChangeAt Go.RowKit
set_option linter.unusedVariables false

/-- a row of bools of our own, with spare room -/
def MetQ (w : World) (base g N c : Nat) (M : Nat → Bool) : Prop := w.ownsRow base 4 1 (.slice (some ⟨g, 0, none⟩) N c) N (rowB M N)
theorem MetQ.cell {w : World} {base g N c : Nat} {M : Nat → Bool} (h : MetQ w base g N c M) {i : Nat} (hi : i < N) : w.cell? ⟨g, i, none⟩ = some (.bool (M i)) :=
  (World.ownsRow.cellAt h i (by omega)).trans (rowV_get _ _ _ hi)
theorem MetQ.fz {w : World} {base g N c : Nat} {M : Nat → Bool} (h : MetQ w base g N c M) (i : Nat) : w.frozen? ⟨g, i, none⟩ = false := World.ownsRow.frozenAt h i
theorem MetQ.set {w : World} {base g N c : Nat} {M : Nat → Bool} (h : MetQ w base g N c M) (i : Nat) (u : Bool) : MetQ (w.setCell ⟨g, i, none⟩ (.bool u)) base g N c (fun x => if x = i then u else M x) := by
  have := (World.ownsRow.stored h i (.bool u)).1
  rw [rowB_set] at this
  exact this
theorem MetQ.lt {w : World} {base g N c : Nat} {M : Nat → Bool} (h : MetQ w base g N c M) : base ≤ g ∧ g < w.heap.size := World.ownsRow.lt h g rfl
theorem MetQ.keep {w w' : World} {base g N c : Nat} {M : Nat → Bool} (h : MetQ w base g N c M) (hk : w'.heap[g]? = w.heap[g]?) : MetQ w' base g N c M :=
  own_keep h fun q e => by
    have : g = q := Option.some.inj e
    rw [← this]; exact hk
/-- a table, its first t rows there -/
structure TabQ (w0 w : World) (g N t : Nat) (rb cp : Nat → Nat) (T : Nat → Nat → Bool) : Prop where
  top : w.ownsRow w0.heap.size 28 1 (.slice (some ⟨g, 0, none⟩) N N) N (rowV (fun i => if i < t then .slice (some ⟨rb i, 0, none⟩) N (cp i) else .slice none 0 0) N)
  met : ∀ i, i < t → MetQ w w0.heap.size (rb i) N (cp i) (T i)
  dj : ∀ i j, i < t → j < t → rb i = rb j → i = j
  bel : Below w0.heap.size w0 w
section
variable {w0 w w' : World} {g N t : Nat} {rb cp : Nat → Nat} {T : Nat → Nat → Bool}
theorem TabQ.below (h : TabQ w0 w g N t rb cp T) (hb : Below w.heap.size w w') : TabQ w0 w' g N t rb cp T :=
  ⟨own_keep h.top fun q e => hb.block q (h.top.lt q e).2, fun i hi => (h.met i hi).keep (hb.block _ (h.met i hi).lt.2), h.dj, h.bel.trans (hb.mono h.bel.size)⟩
theorem TabQ.start {mc : Array Value} (hN : N ≤ 400) (hb : Below w0.heap.size w0 w) (hmc : mc = madeCells #[.slice none 0 0] N) : TabQ w0 (w.alloc (.cells mc 28)) w.heap.size N 0 rb cp T := by
  refine ⟨⟨by rw [rowV_length]; omega, .inr ⟨w.heap.size, N, _, rfl, hb.size, heap_alloc_new _ _, Nat.le_refl _, by unfold maxLen; omega, by rw [hmc, size_madeCells]; omega, ?_⟩⟩, fun i hi => absurd hi (Nat.not_lt_zero _), fun i j hi => absurd hi (Nat.not_lt_zero _), hb.alloc hb.size _⟩
  rw [hmc, made_row, List.take_of_length_le (by rw [rowV_length]; omega)]
  rfl
theorem TabQ.topAt (h : TabQ w0 w g N t rb cp T) : g < w.heap.size ∧ w0.heap.size ≤ g ∧ ∃ cur, w.heap[g]? = some (.cells cur 28 (0, 0)) := ⟨(h.top.lt g rfl).2, (h.top.lt g rfl).1, own_cells h.top rfl⟩
theorem TabQ.cellTop (h : TabQ w0 w g N N rb cp T) {i : Nat} (hi : i < N) : w.cell? ⟨g, i, none⟩ = some (.slice (some ⟨rb i, 0, none⟩) N (cp i)) := by
  rw [h.top.cellAt i (by omega), rowV_get _ _ _ hi, if_pos hi]
theorem TabQ.cell (h : TabQ w0 w g N N rb cp T) {i j : Nat} (hi : i < N) (hj : j < N) : w.cell? ⟨rb i, j, none⟩ = some (.bool (T i j)) := (h.met i hi).cell hj
/-- one cell is set -/
theorem TabQ.set (h : TabQ w0 w g N N rb cp T) {i j : Nat} (hi : i < N) : TabQ w0 (w.setCell ⟨rb i, j, none⟩ (.bool true)) g N N rb cp (fun x y => if x = i ∧ y = j then true else T x y) := by
  have hst : ∀ q, q ≠ rb i → (w.setCell ⟨rb i, j, none⟩ (.bool true)).heap[q]? = w.heap[q]? := fun q hq => Below.heap_setCell _ _ _ _ hq
  have hgr : g ≠ rb i := fun e => by
    obtain ⟨cur, e2⟩ := h.topAt.2.2
    obtain ⟨cur', e3⟩ := own_cells (h.met i hi) (g := rb i) rfl
    rw [e, e3] at e2
    injection e2 with e3
    injection e3 with _ e3 _
    cases e3
  refine ⟨own_keep h.top fun q e => ?_, fun x hx => ?_, h.dj, h.bel.setCell (by exact (h.met i hi).lt.1) _⟩
  · have : g = q := Option.some.inj e
    rw [← this]; exact hst g hgr
  · by_cases hxi : x = i
    · subst hxi
      have := (h.met x hx).set j true
      have e : (fun y => if x = x ∧ y = j then true else T x y) = fun y => if y = j then true else T x y := by funext y; simp
      rw [e]; exact this
    · have e : (fun y => if x = i ∧ y = j then true else T x y) = T x := by funext y; rw [if_neg (fun e => hxi e.1)]
      rw [e]
      exact (h.met x hx).keep (hst _ (fun e => hxi (h.dj x i hx hi e)))
end
theorem TabQ.put {w0 w w' : World} {g N t gm c : Nat} {rb cp : Nat → Nat} {T : Nat → Nat → Bool} {M : Nat → Bool} (h : TabQ w0 w g N t rb cp T) (ht : t < N) (hb : Below w.heap.size w w') (hm : MetQ w' w.heap.size gm N c M) :
    TabQ w0 (w'.setCell ⟨g, t, none⟩ (.slice (some ⟨gm, 0, none⟩) N c)) g N (t + 1) (fun i => if i = t then gm else rb i) (fun i => if i = t then c else cp i) (fun i => if i = t then M else T i) := by
  have h1 := h.below hb
  obtain ⟨k1, k2⟩ := h1.top.stored t (.slice (some ⟨gm, 0, none⟩) N c)
  have hg := h.topAt.1
  have hgm := hm.lt
  have hst : ∀ q, q ≠ g → (w'.setCell ⟨g, t, none⟩ (.slice (some ⟨gm, 0, none⟩) N c)).heap[q]? = w'.heap[q]? := fun q hq => Below.heap_setCell _ _ _ _ hq
  refine ⟨?_, fun i hi => ?_, fun i j hi hj e => ?_, h1.bel.setCell (by exact h.topAt.2.1) _⟩
  · rw [rowV_set] at k1
    have e : (fun x => if x = t then Value.slice (some ⟨gm, 0, none⟩) N c else if x < t then .slice (some ⟨rb x, 0, none⟩) N (cp x) else .slice none 0 0) = fun i => if i < t + 1 then Value.slice (some ⟨if i = t then gm else rb i, 0, none⟩) N (if i = t then c else cp i) else .slice none 0 0 := by
      funext x
      by_cases hx : x = t
      · rw [if_pos hx, if_pos (by omega), if_pos hx, if_pos hx]
      · rw [if_neg hx, if_neg hx, if_neg hx]
        by_cases hx2 : x < t
        · rw [if_pos hx2, if_pos (by omega)]
        · rw [if_neg hx2, if_neg (by omega)]
    rw [e] at k1
    exact k1
  · by_cases hit : i = t
    · rw [if_pos hit, if_pos hit, if_pos hit]
      have h3 : MetQ w' w0.heap.size gm N c M := by
        refine ⟨hm.1, ?_⟩
        rcases hm.2 with h0 | ⟨g', cap, cur, hv, hg', hrest⟩
        · exact .inl h0
        · exact .inr ⟨g', cap, cur, hv, Nat.le_trans h.bel.size hg', hrest⟩
      exact h3.keep (hst _ (by omega))
    · rw [if_neg hit, if_neg hit, if_neg hit]
      have h2 := h1.met i (by omega)
      refine h2.keep (hst _ (fun e => ?_))
      obtain ⟨cur, e2⟩ := h1.topAt.2.2
      obtain ⟨cur', e3⟩ := own_cells h2 (g := rb i) rfl
      rw [e, e2] at e3
      injection e3 with e3
      injection e3 with _ e3 _
      cases e3
  · by_cases hit : i = t
    · by_cases hjt : j = t
      · rw [hit, hjt]
      · rw [if_pos hit, if_neg hjt] at e
        have := (h.met j (by omega)).lt.2
        omega
    · by_cases hjt : j = t
      · rw [if_neg hit, if_pos hjt] at e
        have := (h.met i (by omega)).lt.2
        omega
      · rw [if_neg hit, if_neg hjt] at e
        exact h.dj i j (by omega) (by omega) e

/-- a table as it is read, its rows with spare room -/
structure TabS (w : World) (g N : Nat) (rb cp : Nat → Nat) (T : Nat → Nat → Bool) : Prop where
  lt : g < w.heap.size
  top : ∀ i, i < N → w.cell? ⟨g, i, none⟩ = some (.slice (some ⟨rb i, 0, none⟩) N (cp i)) ∧ rb i < w.heap.size
  cell : ∀ i j, i < N → j < N → w.cell? ⟨rb i, j, none⟩ = some (.bool (T i j))
theorem TabS.below {w w' : World} {g N : Nat} {rb cp : Nat → Nat} {T : Nat → Nat → Bool} (h : TabS w g N rb cp T) (hb : Below w.heap.size w w') : TabS w' g N rb cp T :=
  ⟨Nat.lt_of_lt_of_le h.lt hb.size, fun i hi => ⟨(hb.cell (p := ⟨g, i, none⟩) h.lt).trans (h.top i hi).1, Nat.lt_of_lt_of_le (h.top i hi).2 hb.size⟩, fun i j hi hj => (hb.cell (p := ⟨rb i, j, none⟩) (h.top i hi).2).trans (h.cell i j hi hj)⟩
theorem TabQ.read {w0 w : World} {g N : Nat} {rb cp : Nat → Nat} {T : Nat → Nat → Bool} (h : TabQ w0 w g N N rb cp T) : TabS w g N rb cp T :=
  ⟨h.topAt.1, fun i hi => ⟨h.cellTop hi, (h.met i hi).lt.2⟩, fun i j hi hj => h.cell hi hj⟩
/-- within a phase -/
def Ph (A : Nat → Nat → Prop) (N k i j : Nat) (T : Nat → Nat → Bool) : Prop :=
  ∀ x y, x < N → y < N → (T x y = true ↔ WayK A k x y ∨ ((x < i ∨ (x = i ∧ y < j)) ∧ WayK A k x k ∧ WayK A k k y))
section
variable {A : Nat → Nat → Prop} {N k i j : Nat} {T : Nat → Nat → Bool}
theorem Ph.col (h : Ph A N k i j T) (hk : k < N) (hi : i < N) : T i k = true ↔ WayK A k i k := by
  rw [h i k hi hk]
  exact ⟨fun h => h.elim id (fun h => h.2.1), .inl⟩
theorem Ph.line (h : Ph A N k i j T) (hk : k < N) (hj : j < N) : T k j = true ↔ WayK A k k j := by
  rw [h k j hk hj]
  exact ⟨fun h => h.elim id (fun h => h.2.2), .inl⟩
theorem Ph.skip (h : Ph A N k i j T) (hk : k < N) (hi : i < N) (hj : j < N) (hno : ¬ (T i k = true ∧ T k j = true)) : Ph A N k i (j + 1) T := fun x y hx hy => by
  rw [h x y hx hy]
  constructor
  · rintro (h1 | ⟨h1, h2⟩)
    · exact .inl h1
    · exact .inr ⟨by omega, h2⟩
  · rintro (h1 | ⟨h1, h2, h3⟩)
    · exact .inl h1
    · by_cases hxy : x = i ∧ y = j
      · exfalso
        apply hno
        rw [h.col hk hi, h.line hk hj]
        rw [hxy.1] at h2
        rw [hxy.2] at h3
        exact ⟨h2, h3⟩
      · exact .inr ⟨by omega, h2, h3⟩
theorem Ph.put (h : Ph A N k i j T) (hk : k < N) (hi : i < N) (hj : j < N) (h1 : T i k = true) (h2 : T k j = true) : Ph A N k i (j + 1) (fun x y => if x = i ∧ y = j then true else T x y) := fun x y hx hy => by
  by_cases hxy : x = i ∧ y = j
  · show (if x = i ∧ y = j then true else T x y) = true ↔ _
    rw [if_pos hxy]
    refine ⟨fun _ => .inr ⟨by omega, ?_, ?_⟩, fun _ => rfl⟩
    · rw [hxy.1]; exact (h.col hk hi).1 h1
    · rw [hxy.2]; exact (h.line hk hj).1 h2
  · show (if x = i ∧ y = j then true else T x y) = true ↔ _
    rw [if_neg hxy, h x y hx hy]
    constructor
    · rintro (h1 | ⟨h1, h2⟩)
      · exact .inl h1
      · exact .inr ⟨by omega, h2⟩
    · rintro (h1 | ⟨h1, h2, h3⟩)
      · exact .inl h1
      · exact .inr ⟨by omega, h2, h3⟩
theorem Ph.row (h : Ph A N k i N T) : Ph A N k (i + 1) 0 T := fun x y hx hy => by
  rw [h x y hx hy]
  constructor
  · rintro (h1 | ⟨h1, h2⟩)
    · exact .inl h1
    · exact .inr ⟨by omega, h2⟩
  · rintro (h1 | ⟨h1, h2⟩)
    · exact .inl h1
    · exact .inr ⟨by omega, h2⟩
theorem Ph.next (h : Ph A N k N 0 T) : Ph A N (k + 1) 0 0 T := fun x y hx hy => by
  rw [h x y hx hy, WayK.succ]
  constructor
  · rintro (h1 | ⟨h1, h2⟩)
    · exact .inl (.inl h1)
    · exact .inl (.inr h2)
  · rintro ((h1 | h1) | ⟨h1, _⟩)
    · exact .inl h1
    · exact .inr ⟨.inl hx, h1⟩
    · omega
end
theorem Ph.start {A : Nat → Nat → Prop} {N : Nat} {T : Nat → Nat → Bool} (h : ∀ i j, i < N → j < N → (T i j = true ↔ A i j)) : Ph A N 0 0 0 T := fun x y hx hy => by
  rw [h x y hx hy, WayK.zero]
  exact ⟨.inl, fun h => h.elim id (fun h => by omega)⟩
end Go.Proofs.Ytcolcgkfppjflaa
