/-
  SameTxns and SameEvents of the same.
  The reference's transactions and places in memory.
-/
import Derived.Test.YteobndfkkpfnlaaJ02
import Derived.Test.YteobndfkkpfnlaaJ03
import Derived.Test.YteobndfkkpfnlaaJ04

namespace Go.Proofs.Yteobndfkkpfnlaa
open Go.ChangeShapes Go.WideShapes Go.ChangeAt Go.RowKit

/-- two numbers and operations each, in a slice that may be anybody's -/
def E3 (w : World) (a : Option Addr) (len : Nat) (E : Nat → Ev) : Prop :=
  0 < len → ∃ b off, a = some ⟨b, off, none⟩ ∧ b < w.heap.size ∧ ∀ j, j < len → ∃ sp cap, w.cell? ⟨b, off + j * 3, none⟩ = some (.int .i64 (E j).k) ∧ w.cell? ⟨b, off + j * 3 + 1, none⟩ = some (.int .i64 (E j).c) ∧ w.cell? ⟨b, off + j * 3 + 2, none⟩ = some (.slice sp (E j).n cap) ∧ OpS w sp (E j).n (E j).o

set_option maxRecDepth 100000 in
theorem E3.below {w w' : World} {a : Option Addr} {len : Nat} {E : Nat → Ev} (h : E3 w a len E) (hb : Below w.heap.size w w') : E3 w' a len E := by
  intro hl
  obtain ⟨b, off, e, hbl, hc⟩ := h hl
  refine ⟨b, off, e, Nat.lt_of_lt_of_le hbl hb.size, fun j hj => ?_⟩
  obtain ⟨sp, cap, c0, c1, c2, ho⟩ := hc j hj
  exact ⟨sp, cap, (hb.cell hbl).trans c0, (hb.cell hbl).trans c1, (hb.cell hbl).trans c2, ho.below hb⟩

end Go.Proofs.Yteobndfkkpfnlaa

namespace Go.Proofs.Yteobndfkkpfnlaa
open Go.ChangeShapes Go.WideShapes Go.ChangeAt Go.RowKit

set_option maxRecDepth 100000 in
theorem info3 : (Try.prog.info? 3).map (fun i => (i.zero, i.size, i.bytes)) = some (some (.int .i64 0), 1, 8) := by kernel_rfl

/-- numbers' cells -/
def rowI (F : Nat → Nat) (n : Nat) : List Value := (List.range n).map fun i => Value.int .i64 (F i : Int)

set_option maxRecDepth 100000 in
theorem rowI_succ (F : Nat → Nat) (n : Nat) : rowI F (n + 1) = rowI F n ++ [Value.int .i64 (F n : Int)] := by
  unfold rowI; rw [List.range_succ, List.map_append]; rfl

set_option maxRecDepth 100000 in
theorem rowI_get (F : Nat → Nat) (n i : Nat) (h : i < n) : (rowI F n)[i]? = some (.int .i64 (F i : Int)) := by
  unfold rowI; rw [List.getElem?_map, List.getElem?_range h]; rfl

set_option maxRecDepth 100000 in
theorem rowI_congr (F G : Nat → Nat) (n : Nat) (h : ∀ i, i < n → F i = G i) : rowI F n = rowI G n := by
  unfold rowI; apply List.map_congr_left; intro i hi; rw [h i (by simpa using hi)]

/-- transactions in a row of our own, their operations in rows of our own -/
structure RO (w : World) (B : Nat) (v : Value) (m : Nat) (T : Nat → Tx) (V : Nat → Value) : Prop where
  row : w.ownsRow B 47 3 v m (rowT T V m)
  ops : ∀ i, i < m → ∃ sp cap, V i = .slice sp (T i).n cap ∧ w.ownsRow B 44 3 (.slice sp (T i).n cap) (T i).n (rowO (T i).o (T i).n) ∧ (sp = none → (T i).n = 0 ∧ cap = 0)

set_option maxRecDepth 100000 in
/-- whoever writes elsewhere -/
theorem RO.stays {w w' : World} {B m : Nat} {v : Value} {T : Nat → Tx} {V : Nat → Value} {ob : Option Nat} (h : RO w B v m T V) (hg : w.grownBy w' ob)
    (hne : ∀ g cs t, ob = some g → w.heap[g]? = some (.cells cs t (0, 0)) → t ≠ 47 ∧ t ≠ 44) : RO w' B v m T V := by
  have st : ∀ {q : Nat} {cs : Array Value} {t : Nat}, w.heap[q]? = some (.cells cs t (0, 0)) → (t = 47 ∨ t = 44) → w'.heap[q]? = w.heap[q]? := fun {q cs t} e ht => by
    have hq : q < w.heap.size := by
      rcases Nat.lt_or_ge q w.heap.size with h' | h'
      · exact h'
      · rw [Array.getElem?_eq_none h'] at e; cases e
    exact hg.block q hq (fun e' => by have := hne q cs t e'.symm e; rcases ht with ht | ht; exact this.1 ht; exact this.2 ht)
  refine ⟨own_keep h.row fun g hg' => ?_, fun i hi => ?_⟩
  · obtain ⟨cur, e⟩ := own_cells h.row hg'
    exact st e (.inl rfl)
  · obtain ⟨sp, cap, e, ho, hp⟩ := h.ops i hi
    exact ⟨sp, cap, e, own_keep ho fun g hg' => by obtain ⟨cur, e⟩ := own_cells ho hg'; exact st e (.inr rfl), hp⟩

set_option maxRecDepth 100000 in
theorem RO.below {w w' : World} {B m : Nat} {v : Value} {T : Nat → Tx} {V : Nat → Value} (h : RO w B v m T V) (hb : Below w.heap.size w w') : RO w' B v m T V := by
  refine ⟨own_keep h.row fun g hg => hb.block g (h.row.lt g hg).2, fun i hi => ?_⟩
  obtain ⟨sp, cap, e, ho, hp⟩ := h.ops i hi
  exact ⟨sp, cap, e, own_keep ho fun g hg => hb.block g (ho.lt g hg).2, hp⟩

set_option maxRecDepth 100000 in
theorem RO.congr {w : World} {B m : Nat} {v : Value} {T T' : Nat → Tx} {V : Nat → Value} (h : RO w B v m T V) (he : ∀ j, j < m → T j = T' j) : RO w B v m T' V := by
  refine ⟨?_, fun i hi => by rw [← he i hi]; exact h.ops i hi⟩
  rw [rowT_congr T' T V V m fun i hi => by rw [he i hi]; exact ⟨rfl, rfl, rfl⟩]
  exact h.row

set_option maxRecDepth 100000 in
/-- a transaction is added -/
theorem RO.added {w w' : World} {B m cap : Nat} {v v' : Value} {T : Nat → Tx} {V : Nat → Value} {t : Tx} {sp : Option Addr} (h : RO w B v m T V)
    (hn : w.ownsRow B 44 3 (.slice sp t.n cap) t.n (rowO t.o t.n)) (hsp : sp = none → t.n = 0 ∧ cap = 0)
    (ho : w'.ownsRow B 47 3 v' (m + 1) (rowT T V m ++ [.int .i64 t.c, .int .i64 t.st, .slice sp t.n cap])) (hg : w.grownBy w' v.ownBlock) :
    RO w' B v' (m + 1) (fun i => if i = m then t else T i) (fun i => if i = m then .slice sp t.n cap else V i) := by
  have keep : ∀ {n : Nat} {u : Value} {xs : List Value}, w.ownsRow B 44 3 u n xs → w'.ownsRow B 44 3 u n xs := fun {n u xs} ho' => own_keep ho' fun g hg' => by
    obtain ⟨cur, e⟩ := own_cells ho' hg'
    refine hg.block g (ho'.lt g hg').2 (fun e' => ?_)
    obtain ⟨cur', e3⟩ := own_cells h.row e'.symm
    rw [e] at e3
    injection e3 with e3
    injection e3 with _ e3 _
    cases e3
  refine ⟨?_, fun i hi => ?_⟩
  · have e : rowT T V m ++ [.int .i64 t.c, .int .i64 t.st, .slice sp t.n cap] = rowT (fun i => if i = m then t else T i) (fun i => if i = m then .slice sp t.n cap else V i) (m + 1) := by
      rw [rowT_succ, if_pos rfl, if_pos rfl]
      congr 1
      exact rowT_congr _ _ _ _ m fun i hi => by rw [if_neg (by omega), if_neg (by omega)]; exact ⟨rfl, rfl, rfl⟩
    rw [← e]; exact ho
  · by_cases hi' : i = m
    · subst hi'
      rw [if_pos rfl, if_pos rfl]
      exact ⟨sp, cap, rfl, keep hn, hsp⟩
    · rw [if_neg hi', if_neg hi']
      obtain ⟨sp1, cap1, e, ho', hp⟩ := h.ops i (by omega)
      exact ⟨sp1, cap1, e, keep ho', hp⟩

set_option maxRecDepth 100000 in
/-- whoever is no row of transactions stays where the row is written -/
theorem RO.rowed {w w' : World} {B m g cp : Nat} {T T' : Nat → Tx} {V V' : Nat → Value} (h : RO w B (.slice (some ⟨g, 0, none⟩) m cp) m T V)
    (hg : w.grownBy w' (some g)) (hrow : w'.ownsRow B 47 3 (.slice (some ⟨g, 0, none⟩) m cp) m (rowT T' V' m))
    (hops : ∀ i, i < m → ∃ sp cap, V' i = .slice sp (T' i).n cap ∧ w.ownsRow B 44 3 (.slice sp (T' i).n cap) (T' i).n (rowO (T' i).o (T' i).n) ∧ (sp = none → (T' i).n = 0 ∧ cap = 0)) :
    RO w' B (.slice (some ⟨g, 0, none⟩) m cp) m T' V' := by
  refine ⟨hrow, fun i hi => ?_⟩
  obtain ⟨sp, cap, e, ho, hp⟩ := hops i hi
  refine ⟨sp, cap, e, own_keep ho fun q hq => ?_, hp⟩
  obtain ⟨cur, e⟩ := own_cells ho hq
  refine hg.block q (ho.lt q hq).2 (fun e' => ?_)
  obtain ⟨cur', e3⟩ := own_cells h.row e'.symm
  rw [e] at e3
  injection e3 with e3
  injection e3 with _ e3 _
  cases e3

set_option maxRecDepth 100000 in
/-- State alone is written -/
theorem RO.state {w : World} {B m g cp : Nat} {T : Nat → Tx} {V : Nat → Value} (h : RO w B (.slice (some ⟨g, 0, none⟩) m cp) m T V) (i : Nat) (st : Int) :
    RO (w.setCell ⟨g, i * 3 + 1, none⟩ (.int .i64 st)) B (.slice (some ⟨g, 0, none⟩) m cp) m (fun x => if x = i then { T i with st := st } else T x) V := by
  obtain ⟨h1, h2⟩ := h.row.stored (i * 3 + 1) (.int .i64 st)
  rw [rowT_set1] at h1
  refine h.rowed h2 h1 fun x hx => ?_
  by_cases hxi : x = i
  · subst hxi
    obtain ⟨sp, cap, e, ho, hp⟩ := h.ops x hx
    exact ⟨sp, cap, by rw [e, if_pos rfl], by rw [if_pos rfl]; exact ho, by rw [if_pos rfl]; exact hp⟩
  · rw [if_neg hxi]; exact h.ops x hx

set_option maxRecDepth 100000 in
/-- Ops are written -/
theorem RO.opsed {w : World} {B m g cp : Nat} {T : Nat → Tx} {V : Nat → Value} (h : RO w B (.slice (some ⟨g, 0, none⟩) m cp) m T V) (i : Nat) (sp : Option Addr) (n cap : Nat) (o : Nat → O3)
    (ho : w.ownsRow B 44 3 (.slice sp n cap) n (rowO o n)) (hp : sp = none → n = 0 ∧ cap = 0) :
    RO (w.setCell ⟨g, i * 3 + 2, none⟩ (.slice sp n cap)) B (.slice (some ⟨g, 0, none⟩) m cp) m (fun x => if x = i then ⟨(T i).c, (T i).st, n, o⟩ else T x) (fun x => if x = i then .slice sp n cap else V x) := by
  obtain ⟨h1, h2⟩ := h.row.stored (i * 3 + 2) (.slice sp n cap)
  rw [rowT_set2] at h1
  have e : rowT T (fun x => if x = i then .slice sp n cap else V x) m = rowT (fun x => if x = i then ⟨(T i).c, (T i).st, n, o⟩ else T x) (fun x => if x = i then .slice sp n cap else V x) m :=
    rowT_congr _ _ _ _ m fun x hx => by
      by_cases hxi : x = i
      · subst hxi; rw [if_pos rfl]; exact ⟨rfl, rfl, rfl⟩
      · rw [if_neg hxi]; exact ⟨rfl, rfl, rfl⟩
  rw [e] at h1
  refine h.rowed h2 h1 fun x hx => ?_
  by_cases hxi : x = i
  · subst hxi
    rw [if_pos rfl, if_pos rfl]
    exact ⟨sp, cap, rfl, ho, hp⟩
  · rw [if_neg hxi, if_neg hxi]; exact h.ops x hx

set_option maxRecDepth 100000 in
/-- places stay where they are not written -/
theorem fo_stays {w w' : World} {B m : Nat} {v : Value} {F : Nat → Nat} {ob : Option Nat} (h : w.ownsRow B 3 1 v m (rowI F m)) (hg : w.grownBy w' ob)
    (hne : ∀ g cs t, ob = some g → w.heap[g]? = some (.cells cs t (0, 0)) → t ≠ 3) : w'.ownsRow B 3 1 v m (rowI F m) := by
  refine own_keep h fun g hg' => ?_
  obtain ⟨cur, e⟩ := own_cells h hg'
  exact hg.block g (h.lt g hg').2 (fun e' => hne g cur 3 e'.symm e rfl)

set_option maxRecDepth 100000 in
theorem own_type {w : World} {B e size n : Nat} {v : Value} {xs : List Value} (h : w.ownsRow B e size v n xs) (k : Nat) (hk : e ≠ k) : ∀ g cs t, v.ownBlock = some g → w.heap[g]? = some (.cells cs t (0, 0)) → t ≠ k := by
  intro g cs t hg hc ht
  obtain ⟨cur, e'⟩ := own_cells h hg
  rw [hc] at e'
  injection e' with e'
  injection e' with _ e' _
  exact hk (by rw [← e', ht])

set_option maxRecDepth 100000 in
/-- what Of answers, by the reference's memory -/
theorem RO.ofq {w w' : World} {E : Nat → Ev} {len cp : Nat} {sp : Option Addr} {V : Nat → Value} (hl : len ≤ 400) (hg : Good E len) (h : RO w' w.heap.size (.slice sp (stateAt E len).m cp) (stateAt E len).m (stateAt E len).T V) (hb : Below w.heap.size w w') :
    OfQ E len w (.returned (.tuple #[.slice sp (stateAt E len).m cp, .int .i64 0, .int .i64 0])) w' := by
  refine ⟨_, sp, cp, 0, 0, _, V, rfl, by have := (inv_at E len hg).m; omega, by omega, h.row, fun j hj => ?_, hb, .inr ⟨hl, .inr ⟨hg, rfl, rfl, rfl, rfl⟩⟩⟩
  obtain ⟨sp, cap, e, ho, _⟩ := h.ops j hj
  exact ⟨sp, cap, e, own38_ops ho, by have := (inv_at E len hg).tn j hj; omega⟩

set_option maxRecDepth 100000 in
theorem err_ofq {w w' : World} {E : Nat → Ev} {len i : Nat} {er : Int} (hl : len ≤ 400) (hi : i < len) (hg : Good E i) (he : ErrOf (stateAt E i) (E i) er) (hne : ¬ er = 0) (hb : Below w.heap.size w w') :
    OfQ E len w (.returned (.tuple #[.slice none 0 0, .int .i64 (i : Int), .int .i64 er])) w' :=
  ⟨0, none, 0, i, er, fun _ => ⟨0, 0, 0, fun _ => ⟨0, 0, 0⟩⟩, fun _ => .slice none 0 0, rfl, by omega, by omega, World.ownsRow_nil _ _ _ _, fun j hj => absurd hj (Nat.not_lt_zero _), hb, .inr ⟨hl, .inl ⟨hi, hg, he, hne, rfl⟩⟩⟩

end Go.Proofs.Yteobndfkkpfnlaa

