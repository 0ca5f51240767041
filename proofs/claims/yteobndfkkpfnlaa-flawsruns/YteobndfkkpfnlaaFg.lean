/-
  Rows of bools; who must have been done (mathematics, memory).
-/
import Derived.Test.YteobndfkkpfnlaaFf
import Derived.Deep.OwnRows
namespace Go.Proofs.Yteobndfkkpfnlaa
open Go.ChangeShapes Go.WideShapes Go.ChangeAt Go.RowKit Go.Maps
set_option linter.unusedVariables false

def rowW (V : Nat → Value) (N : Nat) : List Value := (List.range N).map V
theorem rowW_length (V : Nat → Value) (N : Nat) : (rowW V N).length = N := by unfold rowW; simp
theorem rowW_get (V : Nat → Value) (N i : Nat) (h : i < N) : (rowW V N)[i]? = some (V i) := by unfold rowW; simp [h]
theorem rowW_set (V : Nat → Value) (N i : Nat) (u : Value) : (rowW V N).set i u = rowW (fun x => if x = i then u else V x) N := by
  apply List.ext_getElem?
  intro j
  by_cases hj : j < N
  · rw [List.getElem?_set, rowW_length, rowW_get _ _ _ hj, rowW_get _ _ _ hj]
    by_cases h : i = j
    · subst h; rw [if_pos rfl, if_pos hj, if_pos rfl]
    · rw [if_neg h, if_neg (fun e => h e.symm)]
  · rw [List.getElem?_eq_none (by rw [List.length_set, rowW_length]; omega), List.getElem?_eq_none (by rw [rowW_length]; omega)]
/-- bools as cells -/
def rowB (M : Nat → Bool) (N : Nat) : List Value := rowW (fun i => .bool (M i)) N
theorem rowB_set (M : Nat → Bool) (N i : Nat) (u : Bool) : (rowB M N).set i (.bool u) = rowB (fun x => if x = i then u else M x) N := by
  unfold rowB
  rw [rowW_set]
  unfold rowW
  apply List.map_congr_left
  intro x _
  by_cases h : x = i
  · show _ = Value.bool (if x = i then u else M x)
    rw [if_pos h, if_pos h]
  · show _ = Value.bool (if x = i then u else M x)
    rw [if_neg h, if_neg h]
theorem made_bools (N : Nat) : (madeCells #[Value.bool false] N).toList = rowB (fun _ => false) N := by
  rw [toList_madeCells_one]; unfold rowB rowW; rw [List.map_const', List.length_range]
/-- a row of bools of our own -/
def MetS (w : World) (base g N : Nat) (M : Nat → Bool) : Prop := w.ownsRow base 4 1 (.slice (some ⟨g, 0, none⟩) N N) N (rowB M N)
theorem MetS.made {w : World} {base N : Nat} (hN : N ≤ 400) (hb : base ≤ w.heap.size) : MetS (w.alloc (.cells (madeCells #[.bool false] N) 4)) base w.heap.size N (fun _ => false) :=
  ⟨by unfold rowB; rw [rowW_length]; omega, .inr ⟨w.heap.size, N, _, rfl, hb, heap_alloc_new _ _, Nat.le_refl _, by unfold maxLen; omega, by rw [size_madeCells]; omega, by rw [made_bools, List.take_of_length_le]; unfold rowB; rw [rowW_length]; omega⟩⟩
theorem MetS.cell {w : World} {base g N : Nat} {M : Nat → Bool} (h : MetS w base g N M) {i : Nat} (hi : i < N) : w.cell? ⟨g, i, none⟩ = some (.bool (M i)) :=
  (World.ownsRow.cellAt h i (by omega)).trans (rowW_get _ _ _ hi)
theorem MetS.fz {w : World} {base g N : Nat} {M : Nat → Bool} (h : MetS w base g N M) (i : Nat) : w.frozen? ⟨g, i, none⟩ = false := World.ownsRow.frozenAt h i
theorem MetS.set {w : World} {base g N : Nat} {M : Nat → Bool} (h : MetS w base g N M) (i : Nat) (u : Bool) : MetS (w.setCell ⟨g, i, none⟩ (.bool u)) base g N (fun x => if x = i then u else M x) := by
  have := (World.ownsRow.stored h i (.bool u)).1
  rw [rowB_set] at this
  exact this
theorem MetS.lt {w : World} {base g N : Nat} {M : Nat → Bool} (h : MetS w base g N M) : base ≤ g ∧ g < w.heap.size := World.ownsRow.lt h g rfl
theorem MetS.keep {w w' : World} {base g N : Nat} {M : Nat → Bool} (h : MetS w base g N M) (hk : w'.heap[g]? = w.heap[g]?) : MetS w' base g N M :=
  own_keep h fun q e => by
    have : g = q := Option.some.inj e
    rw [← this]; exact hk


theorem info4 : (Try.prog.info? 4).map (fun i => (i.zero, i.size, i.bytes)) = some (some (.bool false), 1, 1) := by kernel_rfl
theorem makeB (M : Nat) (hM : M ≤ 1000000) (mc : Array Value) (hmc : mc = madeCells #[.bool false] M) (w : World) :
    (Instr.makeSlice 35 (.int .i64 (M : Int)) (.int .i64 (M : Int))).run Try.prog w = .ok (.slice (some ⟨w.heap.size, 0, none⟩) M M) (w.alloc (.cells mc 4)) := by
  subst hmc
  exact run_make_row' (P := Try.prog) 35 4 (.bool false) 1 Try.underlying35 info4 rfl .i64 .i64 M (by omega) (by omega) w


/-- one is done -/
def setB (S : Nat → Bool) (i : Nat) : Nat → Bool := fun x => if x = i then true else S x
def suR (A : VM) (T : Nat → Tx) (rs : List O3) (S : Nat → Bool) : Nat → (Nat → Bool)
  | 0 => S
  | i + 1 => match A (lf rs i).key (lf rs i).v with
    | none => suR A T rs S i
    | some x => if (T x.toNat).st = 0 then setB (suR A T rs S i) x.toNat else suR A T rs S i
def suT (A : VM) (T : Nat → Tx) : Nat → (Nat → Bool)
  | 0 => fun _ => false
  | t + 1 => if (T t).st = 1 then suR A T (rdT (T t)) (setB (suT A T t) t) (rdT (T t)).length else suT A T t
def suL (T : Nat → Tx) (m : Nat) : Nat → Bool := suT (allV T m) T m
/-- Sure's memory -/
structure SuS (w : World) (B X b1 b2 g m : Nat) (wr : World) (n1 : Nat) (A : VM) (S : Nat → Bool) : Prop where
  low : B ≤ wr.heap.size
  bel : Below B w wr
  all : MapV wr b1 n1 A
  box : wr.heap[X]? = some (.cells #[.map (some b1), .map (some b2)] 96 (0, 0))
  met : MetS wr B g m S
section
variable {w wr wr' : World} {B X b1 b2 g m n1 : Nat} {A : VM} {S : Nat → Bool}
theorem SuS.keep (h : SuS w B X b1 b2 g m wr n1 A S) (hb : Below wr.heap.size wr wr') : SuS w B X b1 b2 g m wr' n1 A S :=
  ⟨Nat.le_trans h.low hb.size, h.bel.trans (hb.mono h.low), h.all.below hb, (hb.block _ (hlt_of h.box)).trans h.box, h.met.keep (hb.block _ h.met.lt.2)⟩
theorem MetS.isCells (h : MetS wr B g m S) : ∃ cur, wr.heap[g]? = some (.cells cur 4 (0, 0)) := own_cells h rfl
theorem SuS.set (h : SuS w B X b1 b2 g m wr n1 A S) (i : Nat) : SuS w B X b1 b2 g m (wr.setCell ⟨g, i, none⟩ (.bool true)) n1 A (setB S i) := by
  obtain ⟨cur, hc⟩ := h.met.isCells
  refine ⟨by simpa [World.setCell] using h.low, h.bel.setCell (p := ⟨g, i, none⟩) h.met.lt.1 _, h.all.kept (heap_setCell_other _ _ _ _ (fun e => ?_)), (heap_setCell_other _ _ _ _ (fun e => ?_)).trans h.box, h.met.set i true⟩
  · obtain ⟨es, cl, e1⟩ := h.all.isMap
    dsimp only at e
    rw [e, hc] at e1; cases e1
  · have e1 := h.box
    dsimp only at e
    rw [e, hc] at e1
    injection e1 with e1
    injection e1 with _ e1 _
    cases e1
theorem row_setB {Bq n i : Nat} {u : Value} {xs : List Value} (h : wr.ownsRow Bq 44 3 u n xs) (hm : MetS wr B g m S) : (wr.setCell ⟨g, i, none⟩ (.bool true)).ownsRow Bq 44 3 u n xs :=
  own_keep h fun q hq => heap_setCell_other _ _ _ _ (fun e => by
    obtain ⟨c1, e1⟩ := own_cells h hq
    obtain ⟨c2, e2⟩ := hm.isCells
    dsimp only at e
    rw [e, e2] at e1
    injection e1 with e1
    injection e1 with _ e1 _
    cases e1)
end
def SuP (T : Nat → Tx) (m : Nat) (w : World) (e : Ending) (w' : World) : Prop :=
  ∃ g, e = .returned (.slice (some ⟨g, 0, none⟩) m m) ∧ MetS w' w.heap.size g m (suL T m) ∧ Below w.heap.size w w'
end Go.Proofs.Yteobndfkkpfnlaa
