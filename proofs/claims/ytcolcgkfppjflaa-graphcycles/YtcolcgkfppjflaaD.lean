/-
  The first half of netOf: the lists as they are built; the contract of its closure.
-/
import Derived.Test.YtcolcgkfppjflaaC
import Derived.WalkLawsBesides
import Derived.Deep.RegionLaw
import Derived.Deep.CutRange
import Derived.Deep.CutBlock
import Derived.BigQuiet
import Derived.BigRegion
namespace Go.Proofs.Ytcolcgkfppjflaa
open Go.ChangeShapes Go.WideShapes Go.ChangeAt Go.RowKit

set_option maxRecDepth 100000 in
set_option maxHeartbeats 1000000 in
theorem inside_any (x : Int) (B N : Nat) (b : Bool) (w : World) (hc : w.cell? ⟨B, 0, none⟩ = some (.int .i64 (N : Int))) (hb : b = true ↔ 0 ≤ x ∧ x < N) :
    Calls Try.prog 30 #[.int .i64 x, .pointer (some ⟨B, 0, none⟩)] w (fun e w' => e = .returned (.bool b) ∧ w = w') := by
  by_cases h0 : 0 ≤ x
  · by_cases h1 : x < N
    · have : b = true := hb.2 ⟨h0, h1⟩
      subst this
      have h1' : decide (x < (N : Int)) = true := by simp [h1]
      go_enter Try.func30, Try.ntmps30
      go_wp2
      go_ret
      exact ⟨rfl, rfl⟩
    · have : b = false := by cases b with | false => rfl | true => exact absurd (hb.1 rfl).2 h1
      subst this
      have h1' : decide (x < (N : Int)) = false := by simp [h1]
      go_enter Try.func30, Try.ntmps30
      go_wp2
      go_ret
      exact ⟨rfl, rfl⟩
  · have : b = false := by cases b with | false => rfl | true => exact absurd (hb.1 rfl).1 h0
    subst this
    go_enter Try.func30, Try.ntmps30
    go_wp2
    go_ret
    exact ⟨rfl, rfl⟩

section
variable {w w' : World} {B g gh N : Nat} {gb : Bool → Nat} {H : Nat → Nat → Bool} {L : Bool → Nat → List Nat} {V : Bool → Nat → Value}
/-- a block of another kind stays as it was -/
theorem NetM.mark_keeps (h : NetM w B g gb gh N H L V) {i j q : Nat} {cs : Array Value} (e : w.heap[q]? = some (.cells cs 47 (0, 0))) : (w.setCell ⟨gh, i * N + j, none⟩ (.bool true)).heap[q]? = some (.cells cs 47 (0, 0)) := by
  obtain ⟨_, h2⟩ := h.has.stored (i * N + j) (.bool true)
  refine (h2.block q (blk_lt e) (fun e' => ?_)).trans e
  obtain ⟨cur, e3⟩ := own_cells h.has e'.symm
  rw [e] at e3
  injection e3 with e3
  injection e3 with _ e3 _
  cases e3
theorem NetM.add_keeps (h : NetM w B g gb gh N H L V) (s : Bool) {i q : Nat} {cs : Array Value} {u : Value} (hi : i < N) (hg : w.grownBy w' (V s i).ownBlock) (e : w.heap[q]? = some (.cells cs 47 (0, 0))) : (w'.setCell ⟨gb s, i, none⟩ u).heap[q]? = some (.cells cs 47 (0, 0)) := by
  have e1 : w'.heap[q]? = some (.cells cs 47 (0, 0)) := by
    refine (hg.block q (blk_lt e) (fun e' => ?_)).trans e
    obtain ⟨cur, e3⟩ := own_cells (h.lst s i hi) e'.symm
    rw [e] at e3
    injection e3 with e3
    injection e3 with _ e3 _
    cases e3
  refine (Below.heap_setCell _ _ _ _ (fun e' => ?_)).trans e1
  obtain ⟨cur, e3⟩ := own_cells (h.row s) (g := gb s) rfl
  rw [show q = gb s from e', e3] at e
  injection e with e
  injection e with _ e _
  cases e
end
def ins (N : Nat) (x : Int) : Bool := decide (0 ≤ x ∧ x < N)
theorem ins_any (x : Int) (B N : Nat) (w : World) (hc : w.cell? ⟨B, 0, none⟩ = some (.int .i64 (N : Int))) :
    Calls Try.prog 30 #[.int .i64 x, .pointer (some ⟨B, 0, none⟩)] w (fun e w' => e = .returned (.bool (ins N x)) ∧ w = w') :=
  inside_any x B N _ w hc (by unfold ins; simp)
/-- all while the lists are built -/
structure NetB (w0 w : World) (g : Nat) (gb : Bool → Nat) (gh N n : Nat) (p : Nat → Int × Int) (H : Nat → Nat → Bool) (L : Bool → Nat → List Nat) (V : Bool → Nat → Value) : Prop where
  m : NetM w w0.heap.size g gb gh N H L V
  sp : Spec p n N L
  hh : ∀ i j, i < N → j < N → (H i j = true ↔ j ∈ L true i)
  res : w.heap[w0.heap.size + 1]? = some (.cells #[.slice none 0 0, .slice none 0 0] 47 (0, 0))
  bel : Below w0.heap.size w0 w

theorem NetB.same {w0 w w' : World} {g : Nat} {gb : Bool → Nat} {gh N n : Nat} {p : Nat → Int × Int} {H : Nat → Nat → Bool} {L : Bool → Nat → List Nat} {V : Bool → Nat → Value} (h : NetB w0 w g gb gh N n p H L V) (hb : Below w.heap.size w w')
    (hno : ∀ i j, i < N → j < N → p n = ((i : Int), (j : Int)) → j ∈ L true i) : NetB w0 w' g gb gh N (n + 1) p H L V :=
  ⟨h.m.below hb, h.sp.same hno, h.hh, (hb.block _ (blk_lt h.res)).trans h.res, h.bel.trans (hb.mono h.bel.size)⟩
theorem hp_drew (w : World) (k : Nat) : w.drew.heap[k]? = w.heap[k]? := rfl
section
variable (w : World) (o0 o1 o2 o3 o4 : Obj)
theorem hp4 : (((((w.alloc o0).alloc o1).alloc o2).alloc o3).alloc o4).drew.heap[w.heap.size + 1 + 1 + 1 + 1]? = some o4 := by
  rw [hp_drew]
  have := heap_alloc_new ((((w.alloc o0).alloc o1).alloc o2).alloc o3) o4
  simpa using this
theorem hp3 : (((((w.alloc o0).alloc o1).alloc o2).alloc o3).alloc o4).drew.heap[w.heap.size + 1 + 1 + 1]? = some o3 := by
  rw [hp_drew, Below.heap_alloc _ _ _ (by simp)]
  have := heap_alloc_new (((w.alloc o0).alloc o1).alloc o2) o3
  simpa using this
theorem hp2 : (((((w.alloc o0).alloc o1).alloc o2).alloc o3).alloc o4).drew.heap[w.heap.size + 1 + 1]? = some o2 := by
  rw [hp_drew, Below.heap_alloc _ _ _ (by simp), Below.heap_alloc _ _ _ (by simp)]
  have := heap_alloc_new ((w.alloc o0).alloc o1) o2
  simpa using this
theorem hp1 : (((((w.alloc o0).alloc o1).alloc o2).alloc o3).alloc o4).drew.heap[w.heap.size + 1]? = some o1 := by
  rw [hp_drew, Below.heap_alloc _ _ _ (by simp <;> omega), Below.heap_alloc _ _ _ (by simp <;> omega), Below.heap_alloc _ _ _ (by simp <;> omega)]
  have := heap_alloc_new (w.alloc o0) o1
  simpa using this
theorem hp0 : (((((w.alloc o0).alloc o1).alloc o2).alloc o3).alloc o4).drew.heap[w.heap.size]? = some o0 := by
  rw [hp_drew, Below.heap_alloc _ _ _ (by simp <;> omega), Below.heap_alloc _ _ _ (by simp <;> omega), Below.heap_alloc _ _ _ (by simp <;> omega), Below.heap_alloc _ _ _ (by simp <;> omega)]
  have := heap_alloc_new w o0
  simpa using this
theorem hpB : Below w.heap.size w (((((w.alloc o0).alloc o1).alloc o2).alloc o3).alloc o4).drew :=
  ((((((Below.refl _ _).alloc (Nat.le_refl _) _).alloc (by simp <;> omega) _).alloc (by simp <;> omega) _).alloc (by simp <;> omega) _).alloc (by simp <;> omega) _).drew
end
theorem fin5 {w W : World} {N g gt gf : Nat} (hb : Below w.heap.size w W) (h0 : W.heap[w.heap.size]? = some (.cells #[.int .i64 (N : Int)] 3 (0, 0))) (h1 : W.heap[w.heap.size + 1]? = some (.cells #[.slice none 0 0, .slice none 0 0] 47 (0, 0)))
    (hg : W.heap[g]? = some (.cells #[.slice (some ⟨gt, 0, none⟩) N N, .slice (some ⟨gf, 0, none⟩) N N] 47 (0, 0))) (ht : W.heap[gt]? = some (.cells (madeCells #[.slice none 0 0] N) 33 (0, 0))) (hf : W.heap[gf]? = some (.cells (madeCells #[.slice none 0 0] N) 33 (0, 0)))
    (hl : w.heap.size < g ∧ w.heap.size < gt ∧ w.heap.size < gf ∧ gt ≠ gf) :
    ∃ g' gb, Value.pointer (some ⟨g, 0, none⟩) = .pointer (some ⟨g', 0, none⟩) ∧ Hid (PreM W w.heap.size g' gb N ∧ Below w.heap.size w W ∧ W.heap[w.heap.size + 1]? = some (.cells #[.slice none 0 0, .slice none 0 0] 47 (0, 0))) :=
  ⟨g, fun s => cond s gt gf, rfl, Lib.hid ⟨⟨h0, hg, hl.1, fun s => by cases s; exact ⟨hf, hl.2.2.1⟩; exact ⟨ht, hl.2.1⟩, hl.2.2.2⟩, hb, h1⟩⟩
theorem made_row (N : Nat) : (madeCells #[Value.slice none 0 0] N).toList = rowV (fun _ => Value.slice none 0 0) N := by
  rw [toList_madeCells_one]; unfold rowV; rw [List.map_const', List.length_range]
theorem made_has (N : Nat) : (madeCells #[Value.bool false] (N * N)).toList = rowH (fun _ _ => false) N := by
  rw [toList_madeCells_one]; unfold rowH; rw [List.map_const', List.length_range]
theorem NetB.start {w wc : World} {g : Nat} {gb : Bool → Nat} {N : Nat} {p : Nat → Int × Int} (hN : N ≤ 400) (h : PreM wc w.heap.size g gb N) (hb : Below w.heap.size w wc) (hr : wc.heap[w.heap.size + 1]? = some (.cells #[.slice none 0 0, .slice none 0 0] 47 (0, 0))) :
    NetB w (wc.alloc (.cells (madeCells #[.bool false] (N * N)) 4)) g gb wc.heap.size N 0 p (fun _ _ => false) (fun _ _ => []) (fun _ _ => .slice none 0 0) := by
  have hal : ∀ {q : Nat} {o : Obj}, wc.heap[q]? = some o → (wc.alloc (.cells (madeCells #[.bool false] (N * N)) 4)).heap[q]? = some o := fun {q o} e => (Below.heap_alloc _ _ _ (blk_lt e)).trans e
  have hNN : N * N ≤ 400 * 400 := Nat.mul_le_mul hN hN
  refine ⟨⟨hal h.box, hal h.net, h.low, fun s => ⟨by rw [rowV_length]; omega, .inr ⟨gb s, N, _, rfl, (h.row s).2, hal (h.row s).1, Nat.le_refl _, by unfold maxLen; omega, by rw [size_madeCells]; omega, ?_⟩⟩, h.two, ⟨by rw [rowH_length]; omega, .inr ⟨wc.heap.size, N * N, _, rfl, ?_, heap_alloc_new _ _, Nat.le_refl _, by unfold maxLen; omega, by rw [size_madeCells]; omega, ?_⟩⟩, fun s i hi => World.ownsRow_nil _ _ _ _, fun s i s' i' q _ _ e => by cases e⟩, Spec.init p N, fun i j _ _ => by simp, hal hr, hb.alloc hb.size _⟩
  · rw [made_row, List.take_of_length_le]; rw [rowV_length]; omega
  · have := blk_lt h.net; have := h.low; omega
  · rw [made_has, List.take_of_length_le]; rw [rowH_length]; omega

section
variable {w w' : World} {B g gh N : Nat} {gb : Bool → Nat} {H : Nat → Nat → Bool} {L : Bool → Nat → List Nat} {V : Bool → Nat → Value}
theorem own_ty {w w' : World} {base e size n : Nat} {v : Value} {xs : List Value} (h : w.ownsRow base e size v n xs) (hg : w.grownBy w' v.ownBlock) {q ty : Nat} {cs : Array Value} (hq : w.heap[q]? = some (.cells cs ty (0, 0))) (hty : ty ≠ e) : w'.heap[q]? = some (.cells cs ty (0, 0)) := by
  refine (hg.block q (blk_lt hq) (fun e' => ?_)).trans hq
  obtain ⟨cur, e3⟩ := own_cells h e'.symm
  rw [hq] at e3
  injection e3 with e3
  injection e3 with _ e3 _
  exact hty e3
theorem NetM.keepM (h : NetM w B g gb gh N H L V) {i j q ty : Nat} {cs : Array Value} (e : w.heap[q]? = some (.cells cs ty (0, 0))) (hty : ty ≠ 4) : (w.setCell ⟨gh, i * N + j, none⟩ (.bool true)).heap[q]? = some (.cells cs ty (0, 0)) :=
  own_ty h.has (h.has.stored (i * N + j) (.bool true)).2 e hty
theorem NetM.keepA (h : NetM w B g gb gh N H L V) (s : Bool) {i q ty : Nat} {cs : Array Value} (hi : i < N) (hg : w.grownBy w' (V s i).ownBlock) (e : w.heap[q]? = some (.cells cs ty (0, 0))) (hty : ty ≠ 3) : w'.heap[q]? = some (.cells cs ty (0, 0)) :=
  own_ty (h.lst s i hi) hg e hty
theorem NetM.rowA' (h : NetM w B g gb gh N H L V) (s s' : Bool) {i : Nat} (hi : i < N) (hg : w.grownBy w' (V s i).ownBlock) : w'.ownsRow (B + 1) 33 1 (.slice (some ⟨gb s', 0, none⟩) N N) N (rowV (V s') N) :=
  own_keep (h.row s') fun q e => by
    obtain ⟨cur, e⟩ := own_cells (h.row s') e
    rw [e]
    exact own_ty (h.lst s i hi) hg e (by decide)
end
/-- an arc in a box of its own, beside the lists -/
structure ArcB (w0 w : World) (Q g : Nat) (gb : Bool → Nat) (gh N i j : Nat) (H : Nat → Nat → Bool) (L : Bool → Nat → List Nat) (V : Bool → Nat → Value) : Prop where
  m : NetM w w0.heap.size g gb gh N H L V
  arc : w.heap[Q]? = some (.cells #[.int .i64 (i : Int), .int .i64 (j : Int)] 51 (0, 0))
  res : w.heap[w0.heap.size + 1]? = some (.cells #[.slice none 0 0, .slice none 0 0] 47 (0, 0))
  bel : Below w0.heap.size w0 w
section
variable {w0 w w' : World} {Q g gh N i j : Nat} {gb : Bool → Nat} {H : Nat → Nat → Bool} {L : Bool → Nat → List Nat} {V : Bool → Nat → Value}
theorem ArcB.below (h : ArcB w0 w Q g gb gh N i j H L V) (hb : Below w.heap.size w w') : ArcB w0 w' Q g gb gh N i j H L V :=
  ⟨h.m.below hb, (hb.block _ (blk_lt h.arc)).trans h.arc, (hb.block _ (blk_lt h.res)).trans h.res, h.bel.trans (hb.mono h.bel.size)⟩
theorem ArcB.add (h : ArcB w0 w Q g gb gh N i j H L V) (s : Bool) {k x g7 c7 : Nat} (hk : k < N) (ho : w'.ownsRow (w0.heap.size + 1) 3 1 (.slice (some ⟨g7, 0, none⟩) ((L s k).length + 1) c7) ((L s k).length + 1) (rowN (L s k) ++ [.int .i64 (x : Int)]))
    (hg : w.grownBy w' (V s k).ownBlock) (hat : (V s k).ownBlock = some g7 ∨ g7 = w.heap.size) :
    ArcB w0 (w'.setCell ⟨gb s, k, none⟩ (.slice (some ⟨g7, 0, none⟩) ((L s k).length + 1) c7)) Q g gb gh N i j H (fun s' i' => if s' = s ∧ i' = k then L s k ++ [x] else L s' i') (fun s' i' => if s' = s ∧ i' = k then .slice (some ⟨g7, 0, none⟩) ((L s k).length + 1) c7 else V s' i') := by
  have hne : ∀ {q ty : Nat} {cs : Array Value}, w'.heap[q]? = some (.cells cs ty (0, 0)) → ty ≠ 33 → (w'.setCell ⟨gb s, k, none⟩ (.slice (some ⟨g7, 0, none⟩) ((L s k).length + 1) c7)).heap[q]? = some (.cells cs ty (0, 0)) := fun {q ty cs} e ht =>
    own_ty (h.m.rowA' s s hk hg) ((h.m.rowA' s s hk hg).stored k _).2 e ht
  refine ⟨h.m.add s hk ho hg hat, hne (h.m.keepA s hk hg h.arc (by decide)) (by decide), hne (h.m.keepA s hk hg h.res (by decide)) (by decide), ?_⟩
  exact (h.bel.grown hg h.bel.size (fun q e => by have := ((h.m.lst s k hk).lt q e).1; omega)).setCell (by have := ((h.m.row s).lt (gb s) rfl).1; show w0.heap.size ≤ gb s; omega) _
theorem ArcB.cells (h : ArcB w0 w Q g gb gh N i j H L V) : w.cell? ⟨Q, 0, none⟩ = some (.int .i64 (i : Int)) ∧ w.cell? ⟨Q, 1, none⟩ = some (.int .i64 (j : Int)) := by
  rw [cell_of_row _ _ _ _ _ _ h.arc, cell_of_row _ _ _ _ _ _ h.arc]; exact ⟨rfl, rfl⟩
/-- what a region reads behind the append -/
theorem ArcB.behind (h : ArcB w0 w Q g gb gh N i j H L V) (s : Bool) {k : Nat} (hk : k < N) (hg : w.grownBy w' (V s k).ownBlock) :
    (w'.cell? ⟨g, 0, none⟩ = some (.slice (some ⟨gb true, 0, none⟩) N N) ∧ w'.cell? ⟨g, 1, none⟩ = some (.slice (some ⟨gb false, 0, none⟩) N N)) ∧ (w'.cell? ⟨Q, 0, none⟩ = some (.int .i64 (i : Int)) ∧ w'.cell? ⟨Q, 1, none⟩ = some (.int .i64 (j : Int))) ∧
    w'.cell? ⟨gb s, k, none⟩ = some (V s k) ∧ w'.frozen? ⟨gb s, k, none⟩ = false := by
  have e1 := h.m.keepA s hk hg h.m.net (by decide)
  have e2 := h.m.keepA s hk hg h.arc (by decide)
  have e3 := h.m.rowA' s s hk hg
  rw [cell_of_row _ _ _ _ _ _ e1, cell_of_row _ _ _ _ _ _ e1, cell_of_row _ _ _ _ _ _ e2, cell_of_row _ _ _ _ _ _ e2]
  exact ⟨⟨rfl, rfl⟩, ⟨rfl, rfl⟩, (e3.cellAt k (by omega)).trans (rowV_get _ _ _ hk), e3.frozenAt k⟩
theorem one_new (x : Int) (W : World) (k : Nat) (u : Value) (hu : [Value.int .i64 x][k]? = some u) : (W.alloc (.cells #[.int .i64 x] 3)).cell? ((⟨W.heap.size, 0, none⟩ : Addr).add k) = some u := by
  rw [Go.WideShapes.add_plain, cell_of_row _ _ _ _ 3 (0, 0) (heap_alloc_new W _), Nat.zero_add]
  simpa using hu
end
/-- the cells that the regions read, which nothing there writes -/
def ReadA (w : World) (Q g : Nat) (gb : Bool → Nat) (N i j : Nat) : Prop :=
  (w.cell? ⟨g, 0, none⟩ = some (.slice (some ⟨gb true, 0, none⟩) N N) ∧ w.cell? ⟨Q, 0, none⟩ = some (.int .i64 (i : Int)) ∧ w.cell? ⟨Q, 1, none⟩ = some (.int .i64 (j : Int))) ∧
  (w.cell? ⟨g, 1, none⟩ = some (.slice (some ⟨gb false, 0, none⟩) N N) ∧ w.cell? ⟨Q, 0, none⟩ = some (.int .i64 (i : Int)) ∧ w.cell? ⟨Q, 1, none⟩ = some (.int .i64 (j : Int)))
section
variable {w0 w w' : World} {Q g gh N i j : Nat} {gb : Bool → Nat} {H : Nat → Nat → Bool} {L : Bool → Nat → List Nat} {V : Bool → Nat → Value}
theorem ArcB.read (h : ArcB w0 w Q g gb gh N i j H L V) : ReadA w Q g gb N i j := ⟨⟨h.m.cellNet.1, h.cells⟩, ⟨h.m.cellNet.2, h.cells⟩⟩
theorem ArcB.read7 (h : ArcB w0 w Q g gb gh N i j H L V) (s : Bool) {k : Nat} (hk : k < N) (hg : w.grownBy w' (V s k).ownBlock) : ReadA w' Q g gb N i j := by
  obtain ⟨⟨a, b⟩, c, _⟩ := h.behind s hk hg
  exact ⟨⟨a, c⟩, ⟨b, c⟩⟩
theorem ArcB.read8 (h : ArcB w0 w Q g gb gh N i j H L V) (s : Bool) {k : Nat} (hk : k < N) (hg : w.grownBy w' (V s k).ownBlock) (u : Value) : ReadA (w'.setCell ⟨gb s, k, none⟩ u) Q g gb N i j := by
  have e1 := own_ty (h.m.rowA' s s hk hg) ((h.m.rowA' s s hk hg).stored k u).2 (h.m.keepA s hk hg h.m.net (by decide)) (by decide)
  have e2 := own_ty (h.m.rowA' s s hk hg) ((h.m.rowA' s s hk hg).stored k u).2 (h.m.keepA s hk hg h.arc (by decide)) (by decide)
  unfold ReadA
  rw [cell_of_row _ _ _ _ _ _ e1, cell_of_row _ _ _ _ _ _ e1, cell_of_row _ _ _ _ _ _ e2, cell_of_row _ _ _ _ _ _ e2]
  exact ⟨⟨rfl, rfl, rfl⟩, ⟨rfl, rfl, rfl⟩⟩
end
theorem NetB.last {w0 w : World} {Q g gh N n i j : Nat} {gb : Bool → Nat} {p : Nat → Int × Int} {H : Nat → Nat → Bool} {L : Bool → Nat → List Nat} {V : Bool → Nat → Value} (hs : Spec p n N L) (hh : ∀ i j, i < N → j < N → (H i j = true ↔ j ∈ L true i)) (hi : i < N) (hj : j < N) (hno : H i j = false) (e : p n = ((i : Int), (j : Int)))
    (h : ArcB w0 w Q g gb gh N i j (fun x y => if x = i ∧ y = j then true else H x y) (fun s' i' => if s' = false ∧ i' = j then (if false = true ∧ j = i then L true i ++ [j] else L false j) ++ [i] else if s' = true ∧ i' = i then L true i ++ [j] else L s' i') V) :
    NetB w0 w g gb gh N (n + 1) p (fun x y => if x = i ∧ y = j then true else H x y) (fun s' i' => if s' = false ∧ i' = j then (if false = true ∧ j = i then L true i ++ [j] else L false j) ++ [i] else if s' = true ∧ i' = i then L true i ++ [j] else L s' i') V := by
  refine ⟨h.m, hs.more hi hj e (fun hm => ?_), fun x y hx hy => ?_, h.res, h.bel⟩
  · rw [(hh i j hi hj).2 hm] at hno; exact Bool.noConfusion hno
  · have e1 : (if true = false ∧ x = j then (if false = true ∧ j = i then L true i ++ [j] else L false j) ++ [i] else if true = true ∧ x = i then L true i ++ [j] else L true x) = if x = i then L true i ++ [j] else L true x := by simp
    show (if x = i ∧ y = j then true else H x y) = true ↔ y ∈ (if true = false ∧ x = j then (if false = true ∧ j = i then L true i ++ [j] else L false j) ++ [i] else if true = true ∧ x = i then L true i ++ [j] else L true x)
    rw [e1]
    by_cases hxi : x = i
    · subst hxi
      rw [if_pos (rfl : x = x), List.mem_append, List.mem_singleton, ← hh x y hx hy]
      by_cases hyj : y = j
      · subst hyj; simp
      · simp [hyj]
    · rw [if_neg hxi, if_neg (fun e => hxi e.1)]
      exact hh x y hx hy
end Go.Proofs.Ytcolcgkfppjflaa
