/-
  What the events so far tell, in memory.
-/
import Derived.Test.YteobndfkkpfnlaaHD
namespace Go.Proofs.Yteobndfkkpfnlaa
open Go.ChangeShapes Go.WideShapes Go.ChangeAt Go.RowKit Go.Maps

set_option maxRecDepth 100000 in
theorem info36 : (Try.prog.info? 47).map (fun i => (i.zero, i.size, i.bytes)) = some (some (.agg #[.int .i64 0, .int .i64 0, .slice none 0 0]), 3, 40) := by kernel_rfl

/-- a transaction -/
structure Tx where
  c : Int
  st : Int
  n : Nat
  o : Nat → O3

/-- transactions' cells -/
def rowT (T : Nat → Tx) (V : Nat → Value) (n : Nat) : List Value := (List.range n).flatMap fun i => [Value.int .i64 (T i).c, .int .i64 (T i).st, V i]

set_option maxRecDepth 100000 in
theorem rowT_succ (T : Nat → Tx) (V : Nat → Value) (n : Nat) : rowT T V (n + 1) = rowT T V n ++ [Value.int .i64 (T n).c, .int .i64 (T n).st, V n] := by
  unfold rowT; rw [List.range_succ, List.flatMap_append]; rfl

set_option maxRecDepth 100000 in
theorem rowT_length (T : Nat → Tx) (V : Nat → Value) (n : Nat) : (rowT T V n).length = n * 3 := by
  induction n with
  | zero => rfl
  | succ n ih => rw [rowT_succ, List.length_append, ih]; simp; omega

set_option maxRecDepth 100000 in
theorem rowT_get (T : Nat → Tx) (V : Nat → Value) (n i : Nat) (hi : i < n) : (rowT T V n)[i * 3]? = some (.int .i64 (T i).c) ∧ (rowT T V n)[i * 3 + 1]? = some (.int .i64 (T i).st) ∧ (rowT T V n)[i * 3 + 2]? = some (V i) := by
  induction n with
  | zero => omega
  | succ n ih =>
    rw [rowT_succ]
    by_cases h : i < n
    · rw [List.getElem?_append_left (by rw [rowT_length]; omega), List.getElem?_append_left (by rw [rowT_length]; omega), List.getElem?_append_left (by rw [rowT_length]; omega)]
      exact ih h
    · obtain rfl : i = n := by omega
      rw [List.getElem?_append_right (by rw [rowT_length]; omega), List.getElem?_append_right (by rw [rowT_length]; omega), List.getElem?_append_right (by rw [rowT_length]; omega), rowT_length]
      exact ⟨by rw [Nat.sub_self]; rfl, by rw [Nat.add_sub_cancel_left]; rfl, by rw [Nat.add_sub_cancel_left]; rfl⟩

set_option maxRecDepth 100000 in
theorem rowT_congr (T T' : Nat → Tx) (V V' : Nat → Value) (n : Nat) (h : ∀ i, i < n → (T i).c = (T' i).c ∧ (T i).st = (T' i).st ∧ V i = V' i) : rowT T V n = rowT T' V' n := by
  induction n with
  | zero => rfl
  | succ n ih =>
    obtain ⟨h0, h1, h2⟩ := h n (by omega)
    rw [rowT_succ, rowT_succ, ih fun i hi => h i (by omega), h0, h1, h2]

set_option maxRecDepth 100000 in
theorem own_keep {w w' : World} {base e size n : Nat} {v : Value} {xs : List Value} (h : w.ownsRow base e size v n xs) (hk : ∀ g, v.ownBlock = some g → w'.heap[g]? = w.heap[g]?) : w'.ownsRow base e size v n xs := by
  refine ⟨h.1, ?_⟩
  rcases h.2 with h0 | ⟨g, cap, cur, hv, hg, hh, hrest⟩
  · exact .inl h0
  · exact .inr ⟨g, cap, cur, hv, hg, (hk g (by rw [hv]; rfl)).trans hh, hrest⟩

set_option maxRecDepth 100000 in
theorem own_cells {w : World} {base e size n : Nat} {v : Value} {xs : List Value} (h : w.ownsRow base e size v n xs) {g : Nat} (hg : v.ownBlock = some g) : ∃ cur, w.heap[g]? = some (.cells cur e (0, 0)) := by
  rcases h.2 with ⟨h0, _⟩ | ⟨g', cap, cur, hv, _, hh, _⟩
  · rw [h0] at hg; cases hg
  · rw [hv] at hg
    have e' : g' = g := Option.some.inj hg
    exact ⟨cur, e' ▸ hh⟩

set_option maxRecDepth 100000 in
theorem MapS.isMap {w : World} {b n : Nat} {m : Int → Option Int} (h : MapS w b n m) : ∃ es cl, w.heap[b]? = some (.map es cl) := by
  obtain ⟨D, ⟨es, clock, hb, _⟩, _⟩ := h
  exact ⟨es, clock, hb⟩

/-- what the events so far tell: transactions in a row of our own, two maps -/
structure HSt (w : World) (B hb mb mw m : Nat) (v : Value) (T : Nat → Tx) (V : Nat → Value) (nb nw : Nat) (bz wm : Int → Option Int) : Prop where
  blk : w.heap[hb]? = some (.cells #[v, .map (some mb), .map (some mw)] 49 (0, 0))
  row : w.ownsRow B 47 3 v m (rowT T V m)
  ops : ∀ i, i < m → ∃ sp cap, V i = .slice sp (T i).n cap ∧ w.ownsRow B 44 3 (.slice sp (T i).n cap) (T i).n (rowO (T i).o (T i).n) ∧ (sp = none → (T i).n = 0 ∧ cap = 0)
  busy : MapS w mb nb bz
  wri : MapS w mw nw wm
  low : B ≤ hb ∧ B ≤ mb ∧ B ≤ mw ∧ mb ≠ mw

set_option maxRecDepth 100000 in
theorem HSt.keep {w w' : World} {B hb mb mw m nb nw : Nat} {v : Value} {T : Nat → Tx} {V : Nat → Value} {bz wm : Int → Option Int} (h : HSt w B hb mb mw m v T V nb nw bz wm)
    (hk : ∀ q, q < w.heap.size → w'.heap[q]? = w.heap[q]?) : HSt w' B hb mb mw m v T V nb nw bz wm := by
  have lt : ∀ {q : Nat} {o : Obj}, w.heap[q]? = some o → q < w.heap.size := fun {q o} e => by
    rcases Nat.lt_or_ge q w.heap.size with h' | h'
    · exact h'
    · rw [Array.getElem?_eq_none h'] at e; cases e
  refine ⟨(hk _ (lt h.blk)).trans h.blk, own_keep h.row fun g hg => hk g (h.row.lt g hg).2, fun i hi => ?_, h.busy.kept (hk _ h.busy.lt), h.wri.kept (hk _ h.wri.lt), h.low⟩
  obtain ⟨sp, cap, e, ho, hp⟩ := h.ops i hi
  exact ⟨sp, cap, e, own_keep ho fun g hg => hk g (ho.lt g hg).2, hp⟩

set_option maxRecDepth 100000 in
theorem HSt.below {w w' : World} {B hb mb mw m nb nw : Nat} {v : Value} {T : Nat → Tx} {V : Nat → Value} {bz wm : Int → Option Int} (h : HSt w B hb mb mw m v T V nb nw bz wm)
    (hb' : Below w.heap.size w w') : HSt w' B hb mb mw m v T V nb nw bz wm := h.keep hb'.block

set_option maxRecDepth 100000 in
/-- a transaction is added -/
theorem HSt.added {w w' w2 : World} {B hb mb mw m nb nw : Nat} {v v' : Value} {T : Nat → Tx} {V : Nat → Value} {bz wm : Int → Option Int} {t : Tx} {sp : Option Addr} {cap : Nat} (h : HSt w B hb mb mw m v T V nb nw bz wm)
    (hn : w.ownsRow B 44 3 (.slice sp t.n cap) t.n (rowO t.o t.n)) (hsp : sp = none → t.n = 0 ∧ cap = 0)
    (ho : w'.ownsRow B 47 3 v' (m + 1) (rowT T V m ++ [.int .i64 t.c, .int .i64 t.st, .slice sp t.n cap])) (hg : w.grownBy w' v.ownBlock) (hnew : ∀ g, v'.ownBlock = some g → g ≠ hb)
    (e2 : w2 = w'.setCell ⟨hb, 0, none⟩ v') :
    HSt w2 B hb mb mw (m + 1) v' (fun i => if i = m then t else T i) (fun i => if i = m then .slice sp t.n cap else V i) nb nw bz wm := by
  have ltc : ∀ {q : Nat} {o : Obj}, w.heap[q]? = some o → q < w.heap.size := fun {q o} e => by
    rcases Nat.lt_or_ge q w.heap.size with h' | h'
    · exact h'
    · rw [Array.getElem?_eq_none h'] at e; cases e
  have other : ∀ q, q ≠ hb → w2.heap[q]? = w'.heap[q]? := fun q hq => by rw [e2]; exact heap_setCell_other w' ⟨hb, 0, none⟩ q v' (fun e => hq e)
  -- whoever is no row of transactions stays
  have stays : ∀ {q : Nat} {o : Obj}, w.heap[q]? = some o → (∀ cs, o ≠ .cells cs 47 (0, 0)) → w'.heap[q]? = w.heap[q]? := fun {q o} e hno => by
    refine hg.block q (ltc e) (fun e' => ?_)
    obtain ⟨cur, e3⟩ := own_cells h.row e'.symm
    rw [e] at e3
    injection e3 with e3
    exact hno cur e3
  have hblk : w'.heap[hb]? = some (.cells #[v, .map (some mb), .map (some mw)] 49 (0, 0)) := (stays h.blk (fun cs e => by injection e with _ e _; cases e)).trans h.blk
  obtain ⟨es, cl, hm1⟩ := h.busy.isMap
  obtain ⟨es', cl', hm2⟩ := h.wri.isMap
  have ne1 : mb ≠ hb := fun e => by rw [e, h.blk] at hm1; cases hm1
  have ne2 : mw ≠ hb := fun e => by rw [e, h.blk] at hm2; cases hm2
  refine ⟨?_, ?_, fun i hi => ?_, h.busy.kept ((other _ ne1).trans (stays hm1 (fun cs e => by cases e))), h.wri.kept ((other _ ne2).trans (stays hm2 (fun cs e => by cases e))), h.low⟩
  · rw [e2]; exact heap_setCell_same w' hb 0 _ 49 v' hblk
  · have e : rowT T V m ++ [.int .i64 t.c, .int .i64 t.st, .slice sp t.n cap] = rowT (fun i => if i = m then t else T i) (fun i => if i = m then .slice sp t.n cap else V i) (m + 1) := by
      rw [rowT_succ, if_pos rfl, if_pos rfl]
      congr 1
      exact rowT_congr _ _ _ _ m fun i hi => by rw [if_neg (by omega), if_neg (by omega)]; exact ⟨rfl, rfl, rfl⟩
    rw [← e]
    exact own_keep ho fun g hg' => other g (hnew g hg')
  · have keep : ∀ {n : Nat} {u : Value} {xs : List Value}, w.ownsRow B 44 3 u n xs → w2.ownsRow B 44 3 u n xs := fun {n u xs} ho' => own_keep ho' fun g hg' => by
      obtain ⟨cur, e⟩ := own_cells ho' hg'
      exact (other g (fun e' => by rw [e', h.blk] at e; injection e with e; injection e with _ e _; cases e)).trans (stays e (fun cs e => by injection e with _ e _; cases e))
    by_cases hi' : i = m
    · subst hi'
      rw [if_pos rfl, if_pos rfl]
      exact ⟨sp, cap, rfl, keep hn, hsp⟩
    · rw [if_neg hi', if_neg hi']
      obtain ⟨sp1, cap1, e, ho', hp⟩ := h.ops i (by omega)
      exact ⟨sp1, cap1, e, keep ho', hp⟩

/-- who has written what, behind i operations of the m-th transaction -/
def wmI (o : Nat → O3) (m : Nat) (wm : Int → Option Int) : Nat → Int → Option Int
  | 0 => wm
  | i + 1 => if (o i).k = 2 then (fun y => if y = (o i).v then some (m : Int) else wmI o m wm i y) else wmI o m wm i

/-- the i-th operation writes a value that was written ahead -/
def Dup (o : Nat → O3) (m : Nat) (wm : Int → Option Int) (i : Nat) : Prop := (o i).k = 2 ∧ (wmI o m wm i (o i).v).isSome = true

end Go.Proofs.Yteobndfkkpfnlaa
