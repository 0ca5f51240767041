/-
  Contract of Is; rows of bools; slices.Contains.
-/
import Derived.Test.YtcolcgkfppjflaaDb
namespace Go.Proofs.Ytcolcgkfppjflaa
open Go.ChangeShapes Go.WideShapes Go.ChangeAt Go.RowKit

/-- integers in a slice that may be anybody's -/
def IsS (w : World) (a : Option Addr) (n : Nat) (f : Nat → Int) : Prop :=
  0 < n → ∃ b off, a = some ⟨b, off, none⟩ ∧ b < w.heap.size ∧ ∀ i, i < n → w.cell? ⟨b, off + i, none⟩ = some (.int .i64 (f i))
theorem IsS.below {w w' : World} {a : Option Addr} {n : Nat} {f : Nat → Int} (h : IsS w a n f) (hb : Below w.heap.size w w') : IsS w' a n f := by
  intro hn
  obtain ⟨b, off, e, hl, hc⟩ := h hn
  exact ⟨b, off, e, Nat.lt_of_lt_of_le hl hb.size, fun i hi => (hb.cell (p := ⟨b, off + i, none⟩) hl).trans (hc i hi)⟩
/-- bools as cells -/
def rowB (M : Nat → Bool) (N : Nat) : List Value := rowV (fun i => .bool (M i)) N
theorem rowB_set (M : Nat → Bool) (N i : Nat) (u : Bool) : (rowB M N).set i (.bool u) = rowB (fun x => if x = i then u else M x) N := by
  unfold rowB
  rw [rowV_set]
  unfold rowV
  apply List.map_congr_left
  intro x _
  by_cases h : x = i
  · show _ = Value.bool (if x = i then u else M x)
    rw [if_pos h, if_pos h]
  · show _ = Value.bool (if x = i then u else M x)
    rw [if_neg h, if_neg h]
theorem made_bools (N : Nat) : (madeCells #[Value.bool false] N).toList = rowB (fun _ => false) N := by
  rw [toList_madeCells_one]; unfold rowB rowV; rw [List.map_const', List.length_range]
/-- a row of bools of our own -/
def MetS (w : World) (base g N : Nat) (M : Nat → Bool) : Prop := w.ownsRow base 4 1 (.slice (some ⟨g, 0, none⟩) N N) N (rowB M N)
theorem MetS.made {w : World} {base N : Nat} (hN : N ≤ 400) (hb : base ≤ w.heap.size) : MetS (w.alloc (.cells (madeCells #[.bool false] N) 4)) base w.heap.size N (fun _ => false) :=
  ⟨by unfold rowB; rw [rowV_length]; omega, .inr ⟨w.heap.size, N, _, rfl, hb, heap_alloc_new _ _, Nat.le_refl _, by unfold maxLen; omega, by rw [size_madeCells]; omega, by rw [made_bools, List.take_of_length_le]; unfold rowB; rw [rowV_length]; omega⟩⟩
theorem MetS.cell {w : World} {base g N : Nat} {M : Nat → Bool} (h : MetS w base g N M) {i : Nat} (hi : i < N) : w.cell? ⟨g, i, none⟩ = some (.bool (M i)) :=
  (World.ownsRow.cellAt h i (by omega)).trans (rowV_get _ _ _ hi)
theorem MetS.fz {w : World} {base g N : Nat} {M : Nat → Bool} (h : MetS w base g N M) (i : Nat) : w.frozen? ⟨g, i, none⟩ = false := World.ownsRow.frozenAt h i
theorem MetS.set {w : World} {base g N : Nat} {M : Nat → Bool} (h : MetS w base g N M) (i : Nat) (u : Bool) : MetS (w.setCell ⟨g, i, none⟩ (.bool u)) base g N (fun x => if x = i then u else M x) := by
  have := (World.ownsRow.stored h i (.bool u)).1
  rw [rowB_set] at this
  exact this
theorem MetS.lt {w : World} {base g N : Nat} {M : Nat → Bool} (h : MetS w base g N M) : base ≤ g ∧ g < w.heap.size := World.ownsRow.lt h g rfl
theorem MetS.keep {w w' : World} {base g N : Nat} {M : Nat → Bool} (h : MetS w base g N M) (hk : w'.heap[g]? = w.heap[g]?) : MetS w' base g N M :=
  own_keep h fun q e => by
    have : g = q := Option.some.inj e
    rw [← this]; exact hk

theorem contains_any (w : World) (v : Value) (l : List Nat) (x : Int) (b : Bool) (hs : LsS w v l) (hl : l.length ≤ 100000) (hb : b = true ↔ ∃ y ∈ l, (y : Int) = x) :
    Calls Try.prog 29 #[v, .int .i64 x] w (fun e w' => e = .returned (.bool b) ∧ w = w') := by
  obtain ⟨sp, cp, rfl, hc⟩ := hs
  by_cases h0 : 0 < l.length
  · obtain ⟨bb, rfl, _, hcell⟩ := hc h0
    have hzl : (l.map (fun (x : Nat) => (x : Int))).length = l.length := by simp
    have h := Try.slices_Contains_int bb 0 l.length cp (l.map (fun (x : Nat) => (x : Int))) x w (by omega) (by omega) (fun j hj => by
      rw [hzl] at hj
      rw [Nat.zero_add, hcell j hj]
      simp [List.getD_eq_getElem?_getD, hj])
    refine h.mono ?_
    rintro e w' ⟨rfl, rfl⟩
    refine ⟨?_, rfl⟩
    have : ((l.map (fun (x : Nat) => (x : Int))).take l.length).contains x = b := by
      rw [List.take_of_length_le (by omega)]
      apply Bool.eq_iff_iff.2
      rw [hb, List.contains_iff_mem]
      simp
    rw [this]
  · have hl0 : l = [] := List.eq_nil_of_length_eq_zero (by omega)
    subst hl0
    refine (Try.slices_Contains_int_empty sp cp x w).mono ?_
    rintro e w' ⟨rfl, rfl⟩
    have : b = false := by
      cases b with
      | false => rfl
      | true => obtain ⟨y, hy, _⟩ := hb.1 rfl; cases hy
    exact ⟨by rw [this], rfl⟩

theorem pigeon (N : Nat) : ∀ l : List Nat, l.Nodup → (∀ x ∈ l, x < N) → l.length ≤ N := by
  induction N with
  | zero =>
    intro l _ h
    cases l with
    | nil => exact Nat.le_refl _
    | cons a l => exact absurd (h a (List.mem_cons_self ..)) (Nat.not_lt_zero _)
  | succ N ih =>
    intro l hn h
    have h1 := ih (l.erase N) (hn.erase N) (fun x hx => by
      have h2 := h x (List.mem_of_mem_erase hx)
      have h3 : x ≠ N := fun e => by rw [e] at hx; exact (List.Nodup.not_mem_erase hn) hx
      omega)
    by_cases hm : N ∈ l
    · rw [List.length_erase_of_mem hm] at h1; omega
    · rw [List.erase_of_not_mem hm] at h1; omega
/-- a list of k nodes is a cycle -/
def Cyc (N k : Nat) (A : Nat → Nat → Prop) (f : Nat → Int) : Prop :=
  0 < k ∧ (∀ i, i < k → 0 ≤ f i ∧ f i < N) ∧ (∀ i j, i < j → j < k → f i ≠ f j) ∧ ∀ i, i < k → A (f (if i = 0 then k - 1 else i - 1)).toNat (f i).toNat
theorem Cyc.le {N k : Nat} {A : Nat → Nat → Prop} {f : Nat → Int} (h : Cyc N k A f) : k ≤ N := by
  have := pigeon N ((List.range k).map (fun i => (f i).toNat)) (by
    rw [List.nodup_iff_pairwise_ne, List.pairwise_map]
    refine List.Pairwise.imp_of_mem ?_ List.pairwise_lt_range
    intro a b ha hb hab e
    have hb' := List.mem_range.1 hb
    have h1 := h.2.2.1 a b hab hb'
    have h2 := h.2.1 a (by omega)
    have h3 := h.2.1 b hb'
    omega) (by
    intro x hx
    simp at hx
    obtain ⟨i, hi, rfl⟩ := hx
    have := h.2.1 i hi
    omega)
  simpa using this
end Go.Proofs.Ytcolcgkfppjflaa
