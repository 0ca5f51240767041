/-
  The lists sorted; the graph as it is read.
-/
import Derived.Test.YtcolcgkfppjflaaD
import Derived.Test.YtcolcgkfppjflaaSh
import Derived.Sort.OwnSortedInts
namespace Go.Proofs.Ytcolcgkfppjflaa
open Go.ChangeShapes Go.WideShapes Go.ChangeAt Go.RowKit

theorem grown_refl (w : World) (r : Option Nat) : w.grownBy w r := ⟨rfl, rfl, rfl, Nat.le_refl _, fun _ _ _ => rfl⟩
def SortP (base : Nat) (v : Value) (l : List Nat) (w : World) (e : Ending) (w' : World) : Prop :=
  e = .returned (.tuple #[]) ∧ ∃ l' : List Nat, l'.Perm l ∧ l'.Pairwise (· ≤ ·) ∧ w'.ownsRow base 3 1 v l'.length (rowN l') ∧ w.grownBy w' v.ownBlock
theorem sort_own (w : World) (base : Nat) (v : Value) (l : List Nat) (h : w.ownsRow base 3 1 v l.length (rowN l)) (hl : l.length ≤ 100000) : Calls Try.prog 31 #[v] w (SortP base v l w) := by
  rcases h.2 with ⟨h0, hx⟩ | ⟨g, cap, cur, hv, hg, hh, h1, h2, h3, h4⟩
  · subst h0
    have hl0 : l = [] := List.eq_nil_of_length_eq_zero hx
    subst hl0
    refine (Try.slices_Sort_int_none none 0 w).mono ?_
    rintro e w' ⟨rfl, rfl⟩
    exact ⟨rfl, [], List.Perm.refl _, List.Pairwise.nil, h, grown_refl _ _⟩
  · subst hv
    have hzl : (l.map (fun (x : Nat) => (x : Int))).length = l.length := by simp
    have hrow : rowN l = (l.map (fun (x : Nat) => (x : Int))).map (Value.int .i64) := by unfold rowN; rw [List.map_map]; rfl
    have hH : Go.Sort.Holds (Value.int .i64) w g 0 (l.map (fun (x : Nat) => (x : Int))).toArray := holds_of_blockI (e := 3) hh (by rw [hzl, ← hrow]; simpa using h4)
    have hc := Try.slices_Sort_int g 0 cap (l.map (fun (x : Nat) => (x : Int))) w hH (blk_lt hh) (by rw [hzl]; omega)
    rw [hzl] at hc
    refine hc.mono ?_
    rintro e w' ⟨rfl, n, os, rfl⟩
    obtain ⟨ts, hts⟩ : ∃ ts, ts = (l.map (fun (x : Nat) => (x : Int))).mergeSort (fun x y => decide (x ≤ y)) := ⟨_, rfl⟩
    have hp : ts.Perm (l.map (fun (x : Nat) => (x : Int))) := by rw [hts]; exact List.mergeSort_perm _ _
    have hs : ts.Pairwise (fun x y => decide (x ≤ y) = true) := by
      rw [hts]
      exact List.pairwise_mergeSort (by intro a b c; simp; omega) (by intro a b; simp; omega) _
    have hnn : ∀ x ∈ ts, (0 : Int) ≤ x := fun x hx => by
      have := (hp.mem_iff).1 hx
      simp at this
      obtain ⟨a, _, rfl⟩ := this
      omega
    rw [← hts]
    have hback : ∀ us : List Int, (∀ x ∈ us, (0 : Int) ≤ x) → (us.map Int.toNat).map (fun (x : Nat) => (x : Int)) = us := fun us => by
      induction us with
      | nil => intro _; rfl
      | cons a us ih =>
        intro hh
        rw [List.map_cons, List.map_cons, ih (fun x hx => hh x (List.mem_cons_of_mem _ hx))]
        have := hh a (List.mem_cons_self ..)
        rw [Int.toNat_of_nonneg this]
    have hln : ts.length = l.length := by rw [hp.length_eq, hzl]
    refine ⟨rfl, ts.map Int.toNat, ?_, ?_, ?_, grownBy_sortedI _⟩
    · have := hp.map Int.toNat
      rw [List.map_map] at this
      have e : (Int.toNat ∘ fun (x : Nat) => (x : Int)) = id := by funext x; simp
      rw [e, List.map_id] at this
      exact this
    · rw [List.pairwise_map]
      exact hs.imp (fun {a b} h => by have := of_decide_eq_true h; omega)
    · have hr2 : rowN (ts.map Int.toNat) = ts.map (Value.int .i64) := by
        have : rowN (ts.map Int.toNat) = ((ts.map Int.toNat).map (fun (x : Nat) => (x : Int))).map (Value.int .i64) := by unfold rowN; simp only [List.map_map]; rfl
        rw [this, hback ts hnn]
      have hlen : (ts.map Int.toNat).length = (l.map (fun (x : Nat) => (x : Int))).length := by rw [List.length_map, hln, hzl]
      rw [hr2, hlen, show (Value.slice (some ⟨g, 0, none⟩) l.length cap) = .slice (some ⟨g, 0, none⟩) (l.map (fun (x : Nat) => (x : Int))).length cap by rw [hzl]]
      exact ownsRow_sortedI (by rw [hln, hzl]) hg hh (by rw [hzl]; exact h1) h2 h3

theorem NetM.sorted {w w' : World} {B g gh N : Nat} {gb : Bool → Nat} {H : Nat → Nat → Bool} {L : Bool → Nat → List Nat} {V : Bool → Nat → Value} (h : NetM w B g gb gh N H L V) (s : Bool) {i : Nat} {l' : List Nat} (hi : i < N)
    (ho : w'.ownsRow (B + 1) 3 1 (V s i) l'.length (rowN l')) (hg : w.grownBy w' (V s i).ownBlock) :
    NetM w' B g gb gh N H (fun s' i' => if s' = s ∧ i' = i then l' else L s' i') V := by
  refine ⟨?_, h.keepA s hi hg h.net (by decide), h.low, fun s' => h.rowA' s s' hi hg, h.two, ?_, fun s' i' hi' => ?_, h.dj⟩
  · exact (hg.block B (blk_lt h.box) (fun e => by have := ((h.lst s i hi).lt B e.symm).1; omega)).trans h.box
  · refine own_keep h.has fun q e => ?_
    obtain ⟨cur, e⟩ := own_cells h.has e
    rw [e]
    exact own_ty (h.lst s i hi) hg e (by decide)
  · by_cases hs : s' = s ∧ i' = i
    · rw [if_pos hs, hs.1, hs.2]; exact ho
    · rw [if_neg hs]
      exact own_keep (h.lst s' i' hi') fun q e => hg.block q ((h.lst s' i' hi').lt q e).2 (fun e' => hs (h.dj s' i' s i q hi' hi e e'.symm))

/-- a list of nodes as it is read -/
def LsS (w : World) (v : Value) (l : List Nat) : Prop :=
  ∃ sp cp, v = .slice sp l.length cp ∧ (0 < l.length → ∃ b, sp = some ⟨b, 0, none⟩ ∧ b < w.heap.size ∧ ∀ j, j < l.length → w.cell? ⟨b, j, none⟩ = some (.int .i64 ((l.getD j 0 : Nat) : Int)))
theorem LsS.below {w w' : World} {v : Value} {l : List Nat} (h : LsS w v l) (hb : Below w.heap.size w w') : LsS w' v l := by
  obtain ⟨sp, cp, e, h1⟩ := h
  refine ⟨sp, cp, e, fun h0 => ?_⟩
  obtain ⟨b, e2, hl, hc⟩ := h1 h0
  exact ⟨b, e2, Nat.lt_of_lt_of_le hl hb.size, fun j hj => (hb.cell (p := ⟨b, j, none⟩) hl).trans (hc j hj)⟩
theorem LsS.of {w : World} {base : Nat} {v : Value} {l : List Nat} (h : w.ownsRow base 3 1 v l.length (rowN l)) : LsS w v l := by
  rcases h.2 with ⟨h0, hx⟩ | ⟨g, cap, cur, hv, hg, hh, _⟩
  · have hl0 : l = [] := List.eq_nil_of_length_eq_zero hx
    subst hl0
    exact ⟨none, 0, h0, fun h => absurd h (Nat.lt_irrefl _)⟩
  · subst hv
    exact ⟨_, _, rfl, fun _ => ⟨g, rfl, blk_lt hh, fun j hj => (h.cellAt j (by omega)).trans (rowN_get l j hj)⟩⟩
/-- a graph as it is read -/
structure NetR (w : World) (gb : Bool → Nat) (N : Nat) (L : Bool → Nat → List Nat) : Prop where
  lt : ∀ s, gb s < w.heap.size
  row : ∀ s i, i < N → ∃ v, w.cell? ⟨gb s, i, none⟩ = some v ∧ LsS w v (L s i)
theorem NetR.below {w w' : World} {gb : Bool → Nat} {N : Nat} {L : Bool → Nat → List Nat} (h : NetR w gb N L) (hb : Below w.heap.size w w') : NetR w' gb N L :=
  ⟨fun s => Nat.lt_of_lt_of_le (h.lt s) hb.size, fun s i hi => by
    obtain ⟨v, e, hv⟩ := h.row s i hi
    exact ⟨v, (hb.cell (p := ⟨gb s, i, none⟩) (h.lt s)).trans e, hv.below hb⟩⟩
theorem NetM.read {w : World} {B g gh N : Nat} {gb : Bool → Nat} {H : Nat → Nat → Bool} {L : Bool → Nat → List Nat} {V : Bool → Nat → Value} (h : NetM w B g gb gh N H L V) : NetR w gb N L :=
  ⟨fun s => ((h.row s).lt (gb s) rfl).2, fun s i hi => ⟨V s i, h.cellRow s hi, LsS.of (h.lst s i hi)⟩⟩
/-- what the lists are -/
structure NetG (p : Nat → Int × Int) (n N : Nat) (L : Bool → Nat → List Nat) : Prop where
  tt : ∀ i, i < N → ∀ j, j ∈ L true i ↔ j < N ∧ adj p n i j
  fr : ∀ i, i < N → ∀ j, j ∈ L false i ↔ j < N ∧ adj p n j i
  nd : ∀ s i, i < N → (L s i).Nodup
  le : ∀ s i, i < N → (L s i).length ≤ n
  up : ∀ i, i < N → (L true i).Pairwise (· < ·)
theorem pairwise_lt {l : List Nat} (h : l.Pairwise (· ≤ ·)) (hn : l.Nodup) : l.Pairwise (· < ·) := by
  have := h.and hn
  exact this.imp (fun {a b} h => by have := h.1; have := h.2; omega)
theorem NetG.of {p : Nat → Int × Int} {n N : Nat} {L L' : Bool → Nat → List Nat} (hs : Spec p n N L) (hp : ∀ s i, i < N → (L' s i).Perm (L s i)) (hu : ∀ i, i < N → (L' true i).Pairwise (· ≤ ·)) : NetG p n N L' :=
  ⟨fun i hi j => by rw [(hp true i hi).mem_iff]; exact hs.tt i hi j, fun i hi j => by rw [(hp false i hi).mem_iff]; exact hs.fr i hi j, fun s i hi => (hp s i hi).nodup_iff.2 (hs.nd s i hi), fun s i hi => by rw [(hp s i hi).length_eq]; exact hs.le s i,
    fun i hi => pairwise_lt (hu i hi) ((hp true i hi).nodup_iff.2 (hs.nd true i hi))⟩
def NetP (p : Nat → Int × Int) (n N : Nat) (w : World) (e : Ending) (w' : World) : Prop :=
  ∃ gb L, e = .returned (.agg #[.slice (some ⟨gb true, 0, none⟩) N N, .slice (some ⟨gb false, 0, none⟩) N N]) ∧ NetR w' gb N L ∧ NetG p n N L ∧ Below w.heap.size w w'
theorem NetB.last' {w0 w : World} {Q g gh N n i j : Nat} {gb : Bool → Nat} {p : Nat → Int × Int} {H : Nat → Nat → Bool} {L L1 : Bool → Nat → List Nat} {V : Bool → Nat → Value} (hs : Spec p n N L) (hh : ∀ i j, i < N → j < N → (H i j = true ↔ j ∈ L true i)) (hi : i < N) (hj : j < N) (hno : H i j = false) (e : p n = ((i : Int), (j : Int)))
    (hL : L1 = fun s' i' => if s' = true ∧ i' = i then L true i ++ [j] else L s' i') (h : ArcB w0 w Q g gb gh N i j (fun x y => if x = i ∧ y = j then true else H x y) (fun s' i' => if s' = false ∧ i' = j then L1 false j ++ [i] else L1 s' i') V) :
    NetB w0 w g gb gh N (n + 1) p (fun x y => if x = i ∧ y = j then true else H x y) (fun s' i' => if s' = false ∧ i' = j then L1 false j ++ [i] else L1 s' i') V := by
  rw [hL] at h ⊢
  exact NetB.last hs hh hi hj hno e h
theorem set2 {w : World} {Q t : Nat} {x y A B : Value} (h : w.heap[Q]? = some (.cells #[x, y] t (0, 0))) :
    ((w.setCell ⟨Q, 0, none⟩ A).setCell ⟨Q, 1, none⟩ B).cell? ⟨Q, 0, none⟩ = some A ∧ ((w.setCell ⟨Q, 0, none⟩ A).setCell ⟨Q, 1, none⟩ B).cell? ⟨Q, 1, none⟩ = some B := by
  have h1 := heap_setCell_same w Q 0 _ t A h
  have h2 := heap_setCell_same (w.setCell ⟨Q, 0, none⟩ A) Q 1 _ t B h1
  rw [cell_of_row _ _ _ _ _ _ h2, cell_of_row _ _ _ _ _ _ h2]
  exact ⟨rfl, rfl⟩
/-- while they are sorted -/
structure NetT (w0 w : World) (g : Nat) (gb : Bool → Nat) (gh N t : Nat) (H : Nat → Nat → Bool) (L L' : Bool → Nat → List Nat) (V : Bool → Nat → Value) : Prop where
  m : NetM w w0.heap.size g gb gh N H L' V
  pm : ∀ s i, i < N → (L' s i).Perm (L s i)
  up : ∀ i, i < N → i < t → (L' true i).Pairwise (· ≤ ·)
  res : w.heap[w0.heap.size + 1]? = some (.cells #[.slice none 0 0, .slice none 0 0] 47 (0, 0))
  bel : Below w0.heap.size w0 w
theorem NetT.next {w0 w w' : World} {g : Nat} {gb : Bool → Nat} {gh N t : Nat} {H : Nat → Nat → Bool} {L L' : Bool → Nat → List Nat} {V : Bool → Nat → Value} (h : NetT w0 w g gb gh N t H L L' V) (ht : t < N) {l' : List Nat}
    (hp : l'.Perm (L' true t)) (hs : l'.Pairwise (· ≤ ·)) (ho : w'.ownsRow (w0.heap.size + 1) 3 1 (V true t) l'.length (rowN l')) (hg : w.grownBy w' (V true t).ownBlock) :
    NetT w0 w' g gb gh N (t + 1) H L (fun s' i' => if s' = true ∧ i' = t then l' else L' s' i') V := by
  refine ⟨h.m.sorted true ht ho hg, fun s i hi => ?_, fun i hi hit => ?_, h.m.keepA true ht hg h.res (by decide), h.bel.grown hg h.bel.size (fun q e => by have := ((h.m.lst true t ht).lt q e).1; omega)⟩
  · by_cases hc : s = true ∧ i = t
    · rw [if_pos hc, hc.1, hc.2]; exact hp.trans (h.pm true t ht)
    · rw [if_neg hc]; exact h.pm s i hi
  · by_cases hc : i = t
    · rw [if_pos ⟨rfl, hc⟩]; exact hs
    · rw [if_neg (fun e => hc e.2)]; exact h.up i hi (by omega)
theorem NetT.fin {w0 w : World} {g : Nat} {gb : Bool → Nat} {gh N n : Nat} {p : Nat → Int × Int} {H : Nat → Nat → Bool} {L L' : Bool → Nat → List Nat} {V : Bool → Nat → Value} (h : NetT w0 w g gb gh N N H L L' V) (hs : Spec p n N L) (a b : Value) :
    NetP p n N w0 (.returned (.agg #[.slice (some ⟨gb true, 0, none⟩) N N, .slice (some ⟨gb false, 0, none⟩) N N])) ((w.setCell ⟨w0.heap.size + 1, 0, none⟩ a).setCell ⟨w0.heap.size + 1, 1, none⟩ b) := by
  have hne : ∀ q, q ≠ w0.heap.size + 1 → ((w.setCell ⟨w0.heap.size + 1, 0, none⟩ a).setCell ⟨w0.heap.size + 1, 1, none⟩ b).heap[q]? = w.heap[q]? := fun q hq => by
    rw [Below.heap_setCell _ _ _ _ hq, Below.heap_setCell _ _ _ _ hq]
  have hty : ∀ {q ty : Nat} {cs : Array Value}, w.heap[q]? = some (.cells cs ty (0, 0)) → ty ≠ 47 → ((w.setCell ⟨w0.heap.size + 1, 0, none⟩ a).setCell ⟨w0.heap.size + 1, 1, none⟩ b).heap[q]? = w.heap[q]? := fun {q ty cs} e ht => hne q (fun eq => by
    rw [eq, h.res] at e
    injection e with e
    injection e with _ e _
    exact ht e.symm)
  have hsz : ((w.setCell ⟨w0.heap.size + 1, 0, none⟩ a).setCell ⟨w0.heap.size + 1, 1, none⟩ b).heap.size = w.heap.size := by simp
  have hl : ∀ s i, i < N → ((w.setCell ⟨w0.heap.size + 1, 0, none⟩ a).setCell ⟨w0.heap.size + 1, 1, none⟩ b).ownsRow (w0.heap.size + 1) 3 1 (V s i) (L' s i).length (rowN (L' s i)) := fun s i hi => own_keep (h.m.lst s i hi) fun q e => by
    obtain ⟨cur, e⟩ := own_cells (h.m.lst s i hi) e
    exact hty e (by decide)
  have hr : ∀ s, ((w.setCell ⟨w0.heap.size + 1, 0, none⟩ a).setCell ⟨w0.heap.size + 1, 1, none⟩ b).ownsRow (w0.heap.size + 1) 33 1 (.slice (some ⟨gb s, 0, none⟩) N N) N (rowV (V s) N) := fun s => own_keep (h.m.row s) fun q e => by
    obtain ⟨cur, e⟩ := own_cells (h.m.row s) e
    exact hty e (by decide)
  refine ⟨gb, L', rfl, ⟨fun s => ((hr s).lt (gb s) rfl).2, fun s i hi => ⟨V s i, ((hr s).cellAt i (by omega)).trans (rowV_get _ _ _ hi), LsS.of (hl s i hi)⟩⟩, NetG.of hs h.pm (fun i hi => h.up i hi hi), ?_⟩
  exact (h.bel.setCell (by show w0.heap.size ≤ w0.heap.size + 1; omega) _).setCell (by show w0.heap.size ≤ w0.heap.size + 1; omega) _
end Go.Proofs.Ytcolcgkfppjflaa
