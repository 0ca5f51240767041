/-
  Contract of package mix's method Shuffle: the numbers from 0 to n - 1 in some order, in new memory.
-/
import Derived.Test.YtjaldaopaohppaaS0
import Derived.Deep.OwnRows
namespace Go.Proofs.Ytjaldaopaohppaa
open Go.ChangeShapes Go.WideShapes Go.ChangeAt Go.RowKit RefMath

theorem info3 : (Try.prog.info? 3).map (fun i => (i.zero, i.size, i.bytes)) = some (some (.int .i64 0), 1, 8) := by kernel_rfl

/-- what memory holds at the head of round k of Shuffle -/
structure ShAt (B : Nat) (w wr : World) (sb M x k : Nat) : Prop where
  cs : wr.cell? ⟨sb, 0, none⟩ = some (.int .u64 ((nk x k : Nat) : Int))
  fs : wr.frozen? ⟨sb, 0, none⟩ = false
  cl : ∀ j, j < M → wr.cell? ⟨w.heap.size, j, none⟩ = some (.int .i64 ((sl x k j : Nat) : Int))
  fl : ∀ j, wr.frozen? ⟨w.heap.size, j, none⟩ = false
  size : w.heap.size < wr.heap.size
  bel : Below B w wr

theorem ShAt.step {B : Nat} {w wr : World} {sb M x k : Nat} (h : ShAt B w wr sb M x k) (hk : k < M) (hsb : sb < w.heap.size) (hB : B ≤ sb) :
    ShAt B w (((wr.setCell ⟨sb, 0, none⟩ (.int .u64 ((MixMath.nxt (nk x k) : Nat) : Int))).setCell ⟨w.heap.size, k, none⟩ (.int .i64 ((sl x k (dr x k) : Nat) : Int))).setCell ⟨w.heap.size, dr x k, none⟩ (.int .i64 (k : Int))) sb M x (k + 1) where
  cs := by
    rw [World.cell?_setCell_other _ _ _ _ (by intro h; injection h with h; omega), World.cell?_setCell_other _ _ _ _ (by intro h; injection h with h; omega)]
    exact World.cell?_setCell_same _ _ _ h.cs
  fs := by have := h.fs; go_simp
  cl := fun j hj => by
    have hd := dr_le x k
    have h0 : ∀ j, j < M → (wr.setCell ⟨sb, 0, none⟩ (.int .u64 ((MixMath.nxt (nk x k) : Nat) : Int))).cell? ⟨w.heap.size, j, none⟩ = some (.int .i64 ((sl x k j : Nat) : Int)) := fun j hj => by
      rw [World.cell?_setCell_other _ _ _ _ (by intro h; injection h with h; omega)]; exact h.cl j hj
    have h1 : ∀ j, j < M → ((wr.setCell ⟨sb, 0, none⟩ (.int .u64 ((MixMath.nxt (nk x k) : Nat) : Int))).setCell ⟨w.heap.size, k, none⟩ (.int .i64 ((sl x k (dr x k) : Nat) : Int))).cell? ⟨w.heap.size, j, none⟩ = some (.int .i64 ((upd (sl x k) k (sl x k (dr x k)) j : Nat) : Int)) := fun j hj => by
      by_cases e : j = k
      · subst e; rw [upd_same]; exact World.cell?_setCell_same _ _ _ (h0 j hj)
      · rw [upd_other _ _ _ _ e, World.cell?_setCell_other _ _ _ _ (by intro h; injection h with _ h; omega)]; exact h0 j hj
    rw [sl_succ]
    by_cases e : j = dr x k
    · rw [e, upd_same]; exact World.cell?_setCell_same _ _ _ (h1 _ (by omega))
    · rw [upd_other _ _ _ _ e, World.cell?_setCell_other _ _ _ _ (by intro h; injection h with _ h; omega)]; exact h1 j hj
  fl := fun j => by have := h.fl j; go_simp
  size := by have := h.size; simp; omega
  bel := by
    have hlt : B ≤ w.heap.size := by omega
    exact ((h.bel.setCell (by exact hB) _).setCell (by exact hlt) _).setCell (by exact hlt) _

/-- what Shuffle answers: a new row of M numbers -/
def ShPost (B : Nat) (w : World) (M x : Nat) (e : Ending) (w' : World) : Prop :=
  e = .returned (.slice (some ⟨w.heap.size, 0, none⟩) M M) ∧ (∀ j, j < M → w'.cell? ⟨w.heap.size, j, none⟩ = some (.int .i64 ((sl x M j : Nat) : Int))) ∧ w.heap.size < w'.heap.size ∧ Below B w w'

theorem made_cell (z : Value) (n j : Nat) (h : j < n) : (madeCells #[z] n)[j]? = some z := by
  have e : (madeCells #[z] n)[j]? = (madeCells #[z] n).toList[j]? := by simp
  rw [e, toList_madeCells_one]; simp [h]

theorem ShAt.start (B : Nat) (w : World) (sb M x : Nat) (hs : w.cell? ⟨sb, 0, none⟩ = some (.int .u64 (x : Int))) (hf : w.frozen? ⟨sb, 0, none⟩ = false) (hsb : sb < w.heap.size) (hB : B ≤ sb) :
    ShAt B w (w.alloc (.cells (madeCells #[.int .i64 0] M) 3)) sb M x 0 where
  cs := by rw [World.cell?_alloc_lt _ _ _ hsb]; exact hs
  fs := by have := hf; go_simp
  cl := fun j hj => by
    have := made_cell (.int .i64 0) M j hj
    go_simp
    rfl
  fl := fun j => by go_simp
  size := by simp
  bel := (Below.refl _ _).alloc (by omega) _

theorem own_below {w w' : World} {base e size n : Nat} {v : Value} {xs : List Value} (h : w.ownsRow base e size v n xs) (hb : Below w.heap.size w w') : w'.ownsRow base e size v n xs := by
  refine ⟨h.1, ?_⟩
  rcases h.2 with h0 | ⟨g, cap, cur, hv, hg, hh, hrest⟩
  · exact .inl h0
  · have hlt : g < w.heap.size := by
      rcases Nat.lt_or_ge g w.heap.size with h' | h'
      · exact h'
      · rw [Array.getElem?_eq_none h'] at hh; cases hh
    exact .inr ⟨g, cap, cur, hv, hg, (hb.block g hlt).trans hh, hrest⟩

theorem nk_lt (x k : Nat) (h : x < 18446744073709551616) : nk x k < 18446744073709551616 := by
  cases k with
  | zero => exact h
  | succ k => exact MixMath.nxt_lt' _

/-- the reference's list behind k steps, as cells -/
def rowL (x k : Nat) : List Value := (List.range k).map fun j => .int .i64 ((sl x k j : Nat) : Int)

theorem rowL_length (x k : Nat) : (rowL x k).length = k := by simp [rowL]
theorem rowL_get (x k j : Nat) (h : j < k) : (rowL x k)[j]? = some (.int .i64 ((sl x k j : Nat) : Int)) := by
  simp [rowL, h]

theorem rowL_same (x k : Nat) (h : dr x k = k) : rowL x k ++ [.int .i64 (k : Int)] = rowL x (k + 1) := by
  apply List.ext_getElem?
  intro j
  by_cases h1 : j < k
  · rw [List.getElem?_append_left (by rw [rowL_length]; exact h1), rowL_get x k j h1, rowL_get x (k + 1) j (by omega), sl_succ, h, upd_other _ _ _ _ (by omega), upd_other _ _ _ _ (by omega)]
  · by_cases h2 : j = k
    · subst h2
      rw [List.getElem?_append_right (by rw [rowL_length]; omega), rowL_length, rowL_get x (j + 1) j (by omega), sl_succ, h, upd_same]; simp
    · rw [List.getElem?_eq_none (by simp [rowL_length]; omega), List.getElem?_eq_none (by rw [rowL_length]; omega)]

theorem rowL_swap (x k d : Nat) (hd : dr x k = d) (h : ¬ d = k) (hk : d ≤ k) :
    ((rowL x k ++ [Value.int .i64 (k : Int)]).set k (.int .i64 ((sl x k d : Nat) : Int))).set d (.int .i64 (k : Int)) = rowL x (k + 1) := by
  apply List.ext_getElem?
  intro j
  have hl : (rowL x k ++ [Value.int .i64 (k : Int)]).length = k + 1 := by simp [rowL_length]
  by_cases h0 : j < k + 1
  · rw [rowL_get x (k + 1) j h0, sl_succ, hd]
    by_cases h1 : j = d
    · subst h1; rw [upd_same, List.getElem?_set_self (by simp [rowL_length]; omega)]
    · rw [upd_other _ _ _ _ h1, List.getElem?_set_ne (by omega)]
      by_cases h2 : j = k
      · subst h2; rw [upd_same, List.getElem?_set_self (by omega)]
      · rw [upd_other _ _ _ _ h2, List.getElem?_set_ne (by omega), List.getElem?_append_left (by rw [rowL_length]; omega), rowL_get x k j (by omega)]
  · rw [List.getElem?_eq_none (by simp [rowL_length]; omega), List.getElem?_eq_none (by rw [rowL_length]; omega)]

theorem info4 : (Try.prog.info? 4).map (fun i => (i.zero, i.size, i.bytes)) = some (some (.bool false), 1, 1) := by kernel_rfl

theorem makeb_at (M : Nat) (hM : M ≤ 1000) (mc : Array Value) (hmc : mc = madeCells #[.bool false] M) (w : World) :
    (Instr.makeSlice 38 (.int .i64 (M : Int)) (.int .i64 (M : Int))).run Try.prog w = .ok (.slice (some ⟨w.heap.size, 0, none⟩) M M) (w.alloc (.cells mc 4)) := by
  subst hmc
  exact run_make_row' (P := Try.prog) 38 4 (.bool false) 1 Try.underlying38 info4 rfl .i64 .i64 M (by omega) (by omega) w

/-- what memory holds at the head of round j of the law's last loop -/
structure SeenAt (w wr : World) (a g sg n : Nat) (f : Nat → Nat) (j : Nat) : Prop where
  ca : ∀ i, i < n → wr.cell? ⟨a, i, none⟩ = some (.int .i64 ((f i : Nat) : Int))
  cw : ∀ i, i < n → wr.cell? ⟨g, i, none⟩ = some (.int .i64 ((f i : Nat) : Int))
  ck : ∀ v, v < n → wr.cell? ⟨sg, v, none⟩ = some (.bool (seenB f j v))
  fk : ∀ v, wr.frozen? ⟨sg, v, none⟩ = false
  bel : Below w.heap.size w wr

theorem SeenAt.drewN {w wr : World} {a g sg n : Nat} {f : Nat → Nat} {j : Nat} (h : SeenAt w wr a g sg n f j) (q : Nat) : SeenAt w (wr.drewN q) a g sg n f j :=
  ⟨h.ca, h.cw, h.ck, h.fk, bdrewN h.bel q⟩

theorem SeenAt.step {w wr : World} {a g sg n : Nat} {f : Nat → Nat} {j : Nat} (h : SeenAt w wr a g sg n f j) (ha : a ≠ sg) (hg : g ≠ sg) (hw : w.heap.size ≤ sg) (hf : f j < n) :
    SeenAt w (wr.setCell ⟨sg, f j, none⟩ (.bool true)) a g sg n f (j + 1) where
  ca := fun i hi => by rw [World.cell?_setCell_other _ _ _ _ (by intro h; injection h with h; exact ha h.symm)]; exact h.ca i hi
  cw := fun i hi => by rw [World.cell?_setCell_other _ _ _ _ (by intro h; injection h with h; exact hg h.symm)]; exact h.cw i hi
  ck := fun v hv => by
    have e : seenB f (j + 1) v = if v = f j then true else seenB f j v := rfl
    rw [e]
    by_cases e1 : v = f j
    · rw [if_pos e1, e1]; exact World.cell?_setCell_same _ _ _ (h.ck _ hf)
    · rw [if_neg e1, World.cell?_setCell_other _ _ _ _ (by intro h; injection h with _ h; exact e1 h.symm)]; exact h.ck v hv
  fk := fun v => by have := h.fk v; go_simp
  bel := h.bel.setCell (by exact hw) _

theorem SeenAt.start {w wr : World} {a g n : Nat} {f : Nat → Nat} (mc : Array Value) (hmc : mc = madeCells #[.bool false] n) (ha : a < wr.heap.size) (hg : g < wr.heap.size) (hb : Below w.heap.size w wr)
    (ca : ∀ i, i < n → wr.cell? ⟨a, i, none⟩ = some (.int .i64 ((f i : Nat) : Int))) (cw : ∀ i, i < n → wr.cell? ⟨g, i, none⟩ = some (.int .i64 ((f i : Nat) : Int))) :
    SeenAt w (wr.alloc (.cells mc 4)) a g wr.heap.size n f 0 where
  ca := fun i hi => by rw [World.cell?_alloc_lt _ _ _ ha]; exact ca i hi
  cw := fun i hi => by rw [World.cell?_alloc_lt _ _ _ hg]; exact cw i hi
  ck := fun v hv => by
    subst hmc
    have := made_cell (.bool false) n v hv
    go_simp
    rfl
  fk := fun v => by go_simp
  bel := hb.alloc hb.size _

end Go.Proofs.Ytjaldaopaohppaa
