/-
  Transactions in memory; who wrote a version (mathematics).
-/
import Derived.Test.YteobndfkkpfnlaaFa
namespace Go.Proofs.Yteobndfkkpfnlaa
open Go.ChangeShapes Go.WideShapes Go.ChangeAt Go.RowKit Go.Maps
set_option linter.unusedVariables false

/-- transactions in a slice that may be anybody's -/
def TxS (w : World) (a : Option Addr) (m : Nat) (T : Nat → Tx) : Prop :=
  0 < m → ∃ b off, a = some ⟨b, off, none⟩ ∧ b < w.heap.size ∧ ∀ j, j < m → ∃ sp cap, w.cell? ⟨b, off + j * 3, none⟩ = some (.int .i64 (T j).c) ∧ w.cell? ⟨b, off + j * 3 + 1, none⟩ = some (.int .i64 (T j).st) ∧ w.cell? ⟨b, off + j * 3 + 2, none⟩ = some (.slice sp (T j).n cap) ∧ OpS w sp (T j).n (T j).o
theorem TxS.below {w w' : World} {a : Option Addr} {m : Nat} {T : Nat → Tx} (h : TxS w a m T) (hb : Below w.heap.size w w') : TxS w' a m T := by
  intro hl
  obtain ⟨b, off, e, hbl, hc⟩ := h hl
  refine ⟨b, off, e, Nat.lt_of_lt_of_le hbl hb.size, fun j hj => ?_⟩
  obtain ⟨sp, cap, c0, c1, c2, ho⟩ := hc j hj
  exact ⟨sp, cap, (hb.cell (p := ⟨b, off + j * 3, none⟩) hbl).trans c0, (hb.cell (p := ⟨b, off + j * 3 + 1, none⟩) hbl).trans c1, (hb.cell (p := ⟨b, off + j * 3 + 2, none⟩) hbl).trans c2, ho.below hb⟩
/-- transactions that may be looked at -/
structure TOk (m : Nat) (T : Nat → Tx) : Prop where
  cnt : m ≤ 400
  n : ∀ j, j < m → (T j).n ≤ 100
  key : ∀ j, j < m → ∀ x, x < (T j).n → 0 ≤ ((T j).o x).key ∧ ((T j).o x).key ≤ 15
  val : ∀ j, j < m → ∀ x, x < (T j).n → In64 ((T j).o x).v

/-- versions' writers -/
abbrev VM := Int → Int → Option Int
def updV (m : VM) (x y v : Int) : VM := fun k z => if k = x ∧ z = y then some v else m k z
def opsV (o : Nat → O3) (at_ : Int) (m : VM) : Nat → VM
  | 0 => m
  | i + 1 => if (o i).k = 2 then updV (opsV o at_ m i) (o i).key (o i).v at_ else opsV o at_ m i
def lstV (l : List O3) (at_ : Int) (m : VM) : Nat → VM
  | 0 => m
  | i + 1 => updV (lstV l at_ m i) (lf l i).key (lf l i).v at_
def allV (T : Nat → Tx) : Nat → VM
  | 0 => fun _ _ => none
  | t + 1 => opsV (T t).o (t : Int) (allV T t) (T t).n
def endV (T : Nat → Tx) : Nat → VM
  | 0 => fun _ _ => none
  | t + 1 => lstV (wrl (T t).o (T t).n 16) (t : Int) (endV T t) (wrl (T t).o (T t).n 16).length

/-- writersOf's memory -/
structure WrS (w : World) (B R M1 M2 X : Nat) (wr : World) (n1 n2 : Nat) (A E : VM) : Prop where
  low : B ≤ wr.heap.size
  bel : Below B w wr
  all : MapV wr M1 n1 A
  fin : MapV wr M2 n2 E
  box : wr.heap[X]? = some (.cells #[.map (some M1), .map (some M2)] 96 (0, 0))
  res : wr.heap[R]? = some (.cells #[.map none, .map none] 96 (0, 0))
  rlow : B ≤ R
  ne : B ≤ M1 ∧ B ≤ M2 ∧ M1 ≠ M2 ∧ X ≠ M1 ∧ X ≠ M2 ∧ R ≠ M1 ∧ R ≠ M2
theorem hlt_of {w : World} {q : Nat} {o : Obj} (e : w.heap[q]? = some o) : q < w.heap.size := by
  rcases Nat.lt_or_ge q w.heap.size with h' | h'
  · exact h'
  · rw [Array.getElem?_eq_none h'] at e; cases e
theorem cells2 {w : World} {b t : Nat} {v0 v1 : Value} (h : w.heap[b]? = some (.cells #[v0, v1] t (0, 0))) :
    w.cell? ⟨b, 0, none⟩ = some v0 ∧ w.cell? ⟨b, 1, none⟩ = some v1 :=
  ⟨by simp [World.cell?, h], by simp [World.cell?, h]⟩
variable {w wr wr' : World} {B R M1 M2 X n1 n2 : Nat} {A E A' E' : VM}
theorem WrS.keep (h : WrS w B R M1 M2 X wr n1 n2 A E) (hb : Below wr.heap.size wr wr') : WrS w B R M1 M2 X wr' n1 n2 A E :=
  ⟨Nat.le_trans h.low hb.size, h.bel.trans (hb.mono h.low), h.all.below hb, h.fin.below hb, (hb.block _ (hlt_of h.box)).trans h.box, (hb.block _ (hlt_of h.res)).trans h.res, h.rlow, h.ne⟩
theorem WrS.wroteA (h : WrS w B R M1 M2 X wr n1 n2 A E) (hm : MapV wr' M1 (n1 + 1) A') (hg : wr.grownBy wr' (some M1)) : WrS w B R M1 M2 X wr' (n1 + 1) n2 A' E := by
  have hne := h.ne
  exact ⟨Nat.le_trans h.low hg.size, h.bel.grown hg h.low (fun q e => by injection e with e; omega), hm, h.fin.kept (hg.block _ h.fin.lt (fun e => by injection e with e; omega)), (hg.block _ (hlt_of h.box) (fun e => by injection e with e; omega)).trans h.box, (hg.block _ (hlt_of h.res) (fun e => by injection e with e; omega)).trans h.res, h.rlow, h.ne⟩
theorem WrS.wroteE (h : WrS w B R M1 M2 X wr n1 n2 A E) (hm : MapV wr' M2 (n2 + 1) E') (hg : wr.grownBy wr' (some M2)) : WrS w B R M1 M2 X wr' n1 (n2 + 1) A E' := by
  have hne := h.ne
  exact ⟨Nat.le_trans h.low hg.size, h.bel.grown hg h.low (fun q e => by injection e with e; omega), h.all.kept (hg.block _ h.all.lt (fun e => by injection e with e; omega)), hm, (hg.block _ (hlt_of h.box) (fun e => by injection e with e; omega)).trans h.box, (hg.block _ (hlt_of h.res) (fun e => by injection e with e; omega)).trans h.res, h.rlow, h.ne⟩
theorem WrS.mono {n1' n2' : Nat} (h : WrS w B R M1 M2 X wr n1 n2 A E) (h1 : n1 ≤ n1') (h2 : n2 ≤ n2') : WrS w B R M1 M2 X wr n1' n2' A E :=
  ⟨h.low, h.bel, h.all.mono h1, h.fin.mono h2, h.box, h.res, h.rlow, h.ne⟩
theorem WrS.start (w : World) : WrS w w.heap.size w.heap.size (w.heap.size + 1) (w.heap.size + 1 + 1) (w.heap.size + 1 + 1 + 1) ((((w.alloc (.cells #[.map none, .map none] 96)).alloc (.map #[] 0)).alloc (.map #[] 0)).alloc (.cells #[.map (some (w.heap.size + 1)), .map (some (w.heap.size + 1 + 1))] 96)) 0 0 (fun _ _ => none) (fun _ _ => none) := by
  have s1 : (w.alloc (.cells #[.map none, .map none] 96)).heap.size = w.heap.size + 1 := by simp
  have s2 : ((w.alloc (.cells #[.map none, .map none] 96)).alloc (.map #[] 0)).heap.size = w.heap.size + 1 + 1 := by simp
  have s3 : (((w.alloc (.cells #[.map none, .map none] 96)).alloc (.map #[] 0)).alloc (.map #[] 0)).heap.size = w.heap.size + 1 + 1 + 1 := by simp
  have m1 := MapV.made (w.alloc (.cells #[.map none, .map none] 96))
  have m2 := MapV.made ((w.alloc (.cells #[.map none, .map none] 96)).alloc (.map #[] 0))
  rw [s1] at m1
  rw [s2] at m2
  have b0 : Below w.heap.size w (w.alloc (.cells #[.map none, .map none] 96)) := (Below.refl _ _).alloc (Nat.le_refl _) _
  refine ⟨by simp; omega, ((b0.alloc (by simp) _).alloc (by simp; omega) _).alloc (by simp; omega) _, ?_, ?_, ?_, ?_, Nat.le_refl _, by omega⟩
  · exact (m1.kept (heap_alloc_old _ _ (by simp))).kept (heap_alloc_old _ _ (by simp))
  · exact m2.kept (heap_alloc_old _ _ (by simp))
  · have := heap_alloc_new (((w.alloc (.cells #[.map none, .map none] 96)).alloc (.map #[] 0)).alloc (.map #[] 0)) (.cells #[.map (some (w.heap.size + 1)), .map (some (w.heap.size + 1 + 1))] 96)
    rw [s3] at this
    exact this
  · rw [heap_alloc_old _ _ (by simp; omega), heap_alloc_old _ _ (by simp; omega), heap_alloc_old _ _ (by simp)]
    exact heap_alloc_new w _
theorem setC2 {w : World} {Q t : Nat} {x y A B : Value} (h : w.heap[Q]? = some (.cells #[x, y] t (0, 0))) :
    ((w.setCell ⟨Q, 0, none⟩ A).setCell ⟨Q, 1, none⟩ B).cell? ⟨Q, 0, none⟩ = some A ∧ ((w.setCell ⟨Q, 0, none⟩ A).setCell ⟨Q, 1, none⟩ B).cell? ⟨Q, 1, none⟩ = some B := by
  have h1 := heap_setCell_same w Q 0 _ t A h
  have h2 := heap_setCell_same (w.setCell ⟨Q, 0, none⟩ A) Q 1 _ t B h1
  rw [cell_of_row _ _ _ _ _ _ h2, cell_of_row _ _ _ _ _ _ h2]
  exact ⟨rfl, rfl⟩
theorem OpS.mapped {W W' : World} {sp : Option Addr} {n M : Nat} {o : Nat → O3} (h : OpS W sp n o) (hm : ∃ es cl, W.heap[M]? = some (.map es cl)) (hg : W.grownBy W' (some M)) : OpS W' sp n o := by
  intro hn
  obtain ⟨b, off, e, hb, hc⟩ := h hn
  obtain ⟨es, cl, hm⟩ := hm
  have hbM : b ≠ M := fun e2 => by
    have := (hc 0 hn).1
    subst e2
    simp [World.cell?, hm] at this
  have hbl := hg.block b hb (fun e => by injection e with e; exact hbM e)
  have hcc : ∀ k, W'.cell? ⟨b, k, none⟩ = W.cell? ⟨b, k, none⟩ := fun k => by simp [World.cell?, hbl]
  exact ⟨b, off, e, Nat.lt_of_lt_of_le hb hg.size, fun i hi => by rw [hcc, hcc, hcc]; exact hc i hi⟩
end Go.Proofs.Yteobndfkkpfnlaa
