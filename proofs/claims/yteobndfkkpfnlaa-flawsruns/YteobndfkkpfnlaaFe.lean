/-
  All: the reads that nothing explains.
-/
import Derived.Test.YteobndfkkpfnlaaFd
namespace Go.Proofs.Yteobndfkkpfnlaa
open Go.ChangeShapes Go.WideShapes Go.ChangeAt Go.RowKit Go.Maps
set_option linter.unusedVariables false

theorem info33 : (Try.prog.info? 33).map (fun i => (i.zero, i.size, i.bytes)) = some (some (.agg #[.int .i64 0, .int .i64 0, .int .i64 0]), 3, 24) := by kernel_rfl
/-- what a transaction has read of others -/
def rdT (t : Tx) : List O3 := if t.st = 1 then rd t.o t.n else []
/-- its first reads' flaws: whose, which, why -/
def flR (A L : VM) (T : Nat → Tx) (at_ : Nat) (rs : List O3) : Nat → List O3
  | 0 => []
  | i + 1 => if flK A L T (at_ : Int) (lf rs i) = 0 then flR A L T at_ rs i else flR A L T at_ rs i ++ [⟨(at_ : Int), (i : Int), flK A L T (at_ : Int) (lf rs i)⟩]
def flT (A L : VM) (T : Nat → Tx) : Nat → List O3
  | 0 => []
  | t + 1 => flT A L T t ++ flR A L T t (rdT (T t)) (rdT (T t)).length
def flL (T : Nat → Tx) (m : Nat) : List O3 := flT (allV T m) (endV T m) T m
theorem flR_le (A L : VM) (T : Nat → Tx) (at_ : Nat) (rs : List O3) (i : Nat) : (flR A L T at_ rs i).length ≤ i := by
  induction i with
  | zero => exact Nat.le_refl _
  | succ i ih =>
    unfold flR
    split
    · omega
    · rw [List.length_append, List.length_singleton]; omega
theorem rdT_le (t : Tx) : (rdT t).length ≤ t.n := by
  unfold rdT
  split
  · exact rd_le _ _
  · simp
theorem opsV_pl {o : Nat → O3} {t m : Nat} {A : VM} (h : Pl_ m A) (ht : t < m) : ∀ i, Pl_ m (opsV o (t : Int) A i) := by
  intro i
  induction i with
  | zero => exact h
  | succ i ih =>
    unfold opsV
    split
    · intro k v x e
      unfold updV at e
      split at e
      · injection e with e; exact ⟨t, ht, e.symm⟩
      · exact ih k v x e
    · exact ih
theorem Pl_.mono {m m' : Nat} {A : VM} (h : Pl_ m A) (hm : m ≤ m') : Pl_ m' A := fun k v x e => by
  obtain ⟨j, hj, e⟩ := h k v x e
  exact ⟨j, by omega, e⟩
theorem allV_pl (T : Nat → Tx) : ∀ m, Pl_ m (allV T m) := by
  intro m
  induction m with
  | zero => intro k v x e; cases e
  | succ m ih => exact opsV_pl (ih.mono (Nat.le_succ m)) (Nat.lt_succ_self m) _
theorem rdT_in {t : Tx} {P : O3 → Prop} (h : ∀ i, i < t.n → P (t.o i)) {i : Nat} (hi : i < (rdT t).length) : P (lf (rdT t) i) := by
  have hm : lf (rdT t) i ∈ rdT t := by
    unfold lf
    rw [List.getD_eq_getElem?_getD, List.getElem?_eq_getElem hi]
    exact List.getElem_mem hi
  generalize lf (rdT t) i = x at hm
  unfold rdT at hm
  split at hm
  · have : ∀ n, x ∈ rd t.o n → ∃ j, j < n ∧ x = t.o j := by
      intro n
      induction n with
      | zero => intro h; cases h
      | succ n ih =>
        intro h
        unfold rd at h
        split at h
        · rcases List.mem_append.1 h with h | h
          · obtain ⟨j, hj, e⟩ := ih h; exact ⟨j, by omega, e⟩
          · simp at h; exact ⟨n, by omega, h⟩
        · obtain ⟨j, hj, e⟩ := ih h; exact ⟨j, by omega, e⟩
    obtain ⟨j, hj, rfl⟩ := this _ hm
    exact h j hj
  · cases hm

/-- All's memory -/
structure AlS (w : World) (B X b1 b2 : Nat) (wr : World) (n1 n2 : Nat) (A L : VM) (v : Value) (l : List O3) : Prop where
  low : B ≤ wr.heap.size
  bel : Below B w wr
  all : MapV wr b1 n1 A
  fin : MapV wr b2 n2 L
  box : wr.heap[X]? = some (.cells #[.map (some b1), .map (some b2)] 96 (0, 0))
  row : wr.ownsRow B 33 3 v l.length (rowO (lf l) l.length)
theorem AlS.keep {w wr wr' : World} {B X b1 b2 n1 n2 : Nat} {A L : VM} {v : Value} {l : List O3} (h : AlS w B X b1 b2 wr n1 n2 A L v l) (hb : Below wr.heap.size wr wr') : AlS w B X b1 b2 wr' n1 n2 A L v l :=
  ⟨Nat.le_trans h.low hb.size, h.bel.trans (hb.mono h.low), h.all.below hb, h.fin.below hb, (hb.block _ (hlt_of h.box)).trans h.box, own_keep h.row fun g hg => hb.block g (h.row.lt g hg).2⟩
theorem AlS.push {w wr wr' : World} {B X b1 b2 n1 n2 : Nat} {A L : VM} {v v' : Value} {l : List O3} {x : O3} (h : AlS w B X b1 b2 wr n1 n2 A L v l)
    (ho : wr'.ownsRow B 33 3 v' (l.length + 1) (rowO (lf l) l.length ++ [.int .i64 x.k, .int .i64 x.key, .int .i64 x.v])) (hg : wr.grownBy wr' v.ownBlock) : AlS w B X b1 b2 wr' n1 n2 A L v' (l ++ [x]) := by
  have nm : ∀ {q : Nat}, (∃ es cl, wr.heap[q]? = some (.map es cl)) → some q ≠ v.ownBlock := fun {q} hm e => by
    obtain ⟨es, cl, hm⟩ := hm
    obtain ⟨cur, e1⟩ := own_cells h.row e.symm
    rw [hm] at e1; cases e1
  refine ⟨Nat.le_trans h.low hg.size, h.bel.grown hg h.low (fun q hq => (h.row.lt q hq).1), h.all.kept (hg.block _ h.all.lt (nm h.all.isMap)), h.fin.kept (hg.block _ h.fin.lt (nm h.fin.isMap)), (hg.block _ (hlt_of h.box) (fun e => ?_)).trans h.box, ?_⟩
  · obtain ⟨cur, e1⟩ := own_cells h.row e.symm
    rw [h.box] at e1
    injection e1 with e1
    injection e1 with _ e1 _
    cases e1
  · rw [List.length_append, List.length_singleton]
    have := rowO_snoc l x
    rw [List.length_append, List.length_singleton] at this
    rw [this]
    exact ho
theorem row_other {wr wr' : World} {B Bq n n' : Nat} {v u : Value} {xs ys : List Value} (h : wr.ownsRow Bq 44 3 u n xs) (hr : wr.ownsRow B 33 3 v n' ys) (hg : wr.grownBy wr' v.ownBlock) : wr'.ownsRow Bq 44 3 u n xs :=
  own_keep h fun g hg' => hg.block g (h.lt g hg').2 (fun e => by
    obtain ⟨c1, e1⟩ := own_cells h hg'
    obtain ⟨c2, e2⟩ := own_cells hr e.symm
    rw [e1] at e2
    injection e2 with e2
    injection e2 with _ e2 _
    cases e2)
def AlP (T : Nat → Tx) (m : Nat) (w : World) (e : Ending) (w' : World) : Prop :=
  ∃ sp cp, e = .returned (.slice sp (flL T m).length cp) ∧ w'.ownsRow w.heap.size 33 3 (.slice sp (flL T m).length cp) (flL T m).length (rowO (lf (flL T m)) (flL T m).length) ∧ Below w.heap.size w w'
end Go.Proofs.Yteobndfkkpfnlaa
