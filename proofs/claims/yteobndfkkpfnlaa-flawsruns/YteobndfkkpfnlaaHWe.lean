/-
  slices.SortFunc over operations, by their keys.
-/
import Derived.Test.YteobndfkkpfnlaaHShelf
import Derived.Test.YteobndfkkpfnlaaHWc
namespace Go.Proofs.Yteobndfkkpfnlaa
open Go.Shelf Go.RowKit Go.Lib Go.Sort

instance : Inhabited O3 := ⟨⟨0, 0, 0⟩⟩

/-- an operation's cells -/
def encO (x : O3) : List Value := [.int .i64 x.k, .int .i64 x.key, .int .i64 x.v]

set_option maxRecDepth 100000 in
set_option maxHeartbeats 1000000 in
theorem closure29 (x y : O3) (W : World) : Calls Try.prog 82 #[.agg #[.int .i64 x.k, .int .i64 x.key, .int .i64 x.v], .agg #[.int .i64 y.k, .int .i64 y.key, .int .i64 y.v]] W fun e w' => e = .returned (.int .i64 (Lib.compareInt x.key y.key)) ∧ ∃ q os', w' = grow (W.drewN q) os' := by
  have hcon := fun W' => AnyG.cmp_Compare_int Try.cmpInt x.key y.key W'
  change ∀ W', Calls Try.prog 83 _ _ _ at hcon
  generalize Lib.compareInt x.key y.key = r at hcon ⊢
  go_enter Try.func82, Try.ntmps82
  go_wp2_with (go_at_call 83; refine (hcon _).mono ?_; rintro e w' ⟨rfl, rfl⟩)
  go_ret
  exact ⟨rfl, 0, _, by rw [alloc_eq_grow, alloc_eq_grow, grow_grow]; rfl⟩

set_option maxRecDepth 100000 in
theorem ltKey (x y : O3) : ltOf (fun x y : O3 => Lib.compareInt x.key y.key) x y = decide (x.key < y.key) := by
  unfold ltOf Lib.compareInt
  by_cases h1 : x.key < y.key
  · simp [h1]
  · by_cases h2 : y.key < x.key <;> simp [h1, h2]

set_option maxRecDepth 100000 in
theorem swoKey : SWO (ltOf fun x y : O3 => Lib.compareInt x.key y.key) where
  irrefl x := by rw [ltKey]; simp
  trans x y z h1 h2 := by rw [ltKey] at *; simp at *; omega
  ntrans x y z h1 h2 := by rw [ltKey] at *; simp at *; omega

set_option maxRecDepth 100000 in
theorem cmpLays29 (blk off size : Nat) (w : World) : CmpLays Try.prog 82 #[] encO 3 (fun x y => Lib.compareInt x.key y.key) blk off size w :=
  fun _ _ _ _ x y => closure29 x y _

set_option maxRecDepth 100000 in
theorem rowO_at (o : Nat → O3) (n j : Nat) (hj : j < n * 3) : (rowO o n)[j]? = some ((encO (o (j / 3)))[j % 3]!) := by
  obtain ⟨h0, h1, h2⟩ := rowO_get o n (j / 3) (by omega)
  have hm : j % 3 = 0 ∨ j % 3 = 1 ∨ j % 3 = 2 := by omega
  rcases hm with hm | hm | hm
  · rw [hm]; rw [show j / 3 * 3 = j by omega] at h0; exact h0
  · rw [hm]; rw [show j / 3 * 3 + 1 = j by omega] at h1; exact h1
  · rw [hm]; rw [show j / 3 * 3 + 2 = j by omega] at h2; exact h2

set_option maxRecDepth 100000 in
theorem lf_get (l : List O3) (i : Nat) : lf l i = l.toArray[i]! := by
  unfold lf; simp [List.getD_eq_getElem?_getD, getElem!_def]; rfl

set_option maxRecDepth 100000 in
theorem flat_size (l : List O3) : (flatK encO 3 l.toArray).size = l.length * 3 := by unfold flatK; simp

set_option maxRecDepth 100000 in
theorem flat_at (l : List O3) (j : Nat) (hj : j < l.length * 3) : (flatK encO 3 l.toArray)[j]? = some ((encO (lf l (j / 3)))[j % 3]!) := by
  unfold flatK
  rw [Array.getElem?_map, Array.getElem?_range, if_pos (by simpa using hj), lf_get]
  rfl

set_option maxRecDepth 100000 in
theorem flat_row (l : List O3) : (flatK encO 3 l.toArray).toList = rowO (lf l) l.length := by
  apply List.ext_getElem?
  intro j
  by_cases hj : j < l.length * 3
  · rw [rowO_at _ _ _ hj, ← flat_at l j hj, Array.getElem?_toList]
  · rw [List.getElem?_eq_none (by rw [Array.length_toList, flat_size]; omega), List.getElem?_eq_none (by rw [rowO_length]; omega)]

/-- the same operations, by rising keys -/
def SortP (l : List O3) (sp : Option Addr) (cp base : Nat) (w : World) (e : Ending) (w' : World) : Prop :=
  e = .returned (.tuple #[]) ∧ ∃ l' : List O3, l'.Perm l ∧ (∀ i j, i < j → j < l.length → ¬ (lf l' j).key < (lf l' i).key) ∧ w'.ownsRow base 44 3 (.slice sp l.length cp) l.length (rowO (lf l') l.length) ∧ w.grownBy w' (Value.ownBlock (.slice sp l.length cp))

set_option maxRecDepth 100000 in
set_option maxHeartbeats 1000000 in
theorem sort_some (l : List O3) (g cp base : Nat) (w : World) (hl : l.length ≤ 1000) (h : w.ownsRow base 44 3 (.slice (some ⟨g, 0, none⟩) l.length cp) l.length (rowO (lf l) l.length)) :
    Calls Try.prog 81 #[.slice (some ⟨g, 0, none⟩) l.length cp, .func (.func 82) #[] #[]] w (SortP l (some ⟨g, 0, none⟩) cp base w) := by
  have eg : ∀ args w, (callFunc 82 args).run Try.prog w = .ok (.enter 82 args) w := enters_of Try.func82 (by kernel_rfl) rfl
  obtain ⟨g', cap', cur, e1, hb, hh, hc1, hc2, hcs, htk⟩ : ∃ g' cap' cur, Value.slice (some ⟨g, 0, none⟩) l.length cp = .slice (some ⟨g', 0, none⟩) l.length cap' ∧ base ≤ g' ∧ w.heap[g']? = some (.cells cur 44 (0, 0)) ∧ l.length ≤ cap' ∧ cap' ≤ maxLen ∧ cur.size = cap' * 3 ∧ cur.toList.take (l.length * 3) = rowO (lf l) l.length := by
    rcases h.2 with ⟨e, _⟩ | h
    · cases e
    · exact h
  have eg' : g = g' := by injection e1 with e1; injection e1 with e1; injection e1
  have ec' : cp = cap' := by injection e1
  subst eg' ec'
  have hgl : g < w.heap.size := (h.lt g rfl).2
  have hH : HoldsK encO 3 w g 0 l.toArray := by
    intro j hj
    rw [flat_size] at hj
    rw [Nat.zero_add]
    have h1 := (h.cellAt j hj).trans (rowO_at _ _ _ hj)
    refine ⟨?_, h.frozenAt j⟩
    have h2 := flat_at l j hj
    have h3 : (flatK encO 3 l.toArray)[j]! = (encO (lf l (j / 3)))[j % 3]! := by
      generalize flatK encO 3 l.toArray = F at *
      rw [getElem!_def, h2]
    rw [h1, h3]
    rfl
  have hcon := AnyQ.slices_SortFunc Try.sortOps 3 Try.isAgg44 Try.sizeOf44 encO (fun _ => rfl) (fun x v hv => by simp [encO] at hv; rcases hv with rfl | rfl | rfl <;> rfl) (fun x y => Lib.compareInt x.key y.key) swoKey 82 #[] g 0 cp l.toArray w eg (cmpLays29 g 0 l.toArray.size w) hH hgl (by simp; omega)
  change Calls Try.prog 81 _ _ _ at hcon
  rw [List.size_toArray] at hcon
  refine hcon.mono ?_
  rintro e w' ⟨rfl, d', n, os, ⟨hp1, _, hp3⟩, hs, rfl⟩
  have hsz : d'.size = l.length := by rw [hp1, List.size_toArray]
  have hperm : d'.toList.Perm l := by
    have h' := hp3
    rw [← hsz] at h'
    simp only [Array.extract_size] at h'
    rw [hsz] at h'
    simpa using h'
  refine ⟨rfl, d'.toList, hperm, fun i j hij hj hlt => ?_, ?_, ?_⟩
  · have h' := hs i j (Nat.zero_le _) hij (by simpa using hj)
    rw [ltKey, decide_eq_false_iff_not] at h'
    rw [lf_get, lf_get] at hlt
    exact h' hlt
  · refine ⟨by rw [rowO_length], .inr ⟨g, cp, putCells id 0 (flatK encO 3 d') cur, rfl, hb, ?_, hc1, hc2, ?_, ?_⟩⟩
    · show ((w.heap.modify g (onCells (putCells id 0 (flatK encO 3 d')))) ++ os)[g]? = _
      rw [Array.getElem?_append_left (by simpa using hgl), Array.getElem?_modify, if_pos rfl, hh]
      rfl
    · unfold putCells; rw [Array.size_mapIdx]; exact hcs
    · have hf := flat_row d'.toList
      rw [Array.toArray_toList] at hf
      rw [Array.length_toList, hsz] at hf
      rw [← hf]
      have hfs : (flatK encO 3 d').size = l.length * 3 := by have := flat_size d'.toList; rw [Array.toArray_toList, Array.length_toList, hsz] at this; exact this
      apply List.ext_getElem?
      intro j
      by_cases hj : j < l.length * 3
      · rw [List.getElem?_take, if_pos hj, Array.getElem?_toList, Array.getElem?_toList]
        unfold putCells
        rw [Array.getElem?_mapIdx, Array.getElem?_eq_getElem (h := by omega)]
        simp [hfs, hj]
      · rw [List.getElem?_eq_none (by simp; omega), List.getElem?_eq_none (by rw [Array.length_toList, hfs]; omega)]
  · refine ⟨rfl, rfl, rfl, ?_, fun k hk hne => ?_⟩
    · show w.heap.size ≤ ((w.heap.modify g (onCells (putCells id 0 (flatK encO 3 d')))) ++ os).size
      simp
    · show ((w.heap.modify g (onCells (putCells id 0 (flatK encO 3 d')))) ++ os)[k]? = _
      have hkg : ¬ g = k := fun e => hne (by rw [e]; rfl)
      rw [Array.getElem?_append_left (by simpa using hk), Array.getElem?_modify, if_neg hkg]

end Go.Proofs.Yteobndfkkpfnlaa
