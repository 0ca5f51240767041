/-
  A transaction is ended: its cells are written anew, its client is free.
-/
import Derived.Test.YteobndfkkpfnlaaHF
namespace Go.Proofs.Yteobndfkkpfnlaa
open Go.ChangeShapes Go.WideShapes Go.ChangeAt Go.RowKit Go.Maps

set_option maxRecDepth 100000 in
theorem rowT_at (T : Nat → Tx) (V : Nat → Value) (n j : Nat) (hj : j < n * 3) : (rowT T V n)[j]? = some (if j % 3 = 0 then .int .i64 (T (j / 3)).c else if j % 3 = 1 then .int .i64 (T (j / 3)).st else V (j / 3)) := by
  obtain ⟨h0, h1, h2⟩ := rowT_get T V n (j / 3) (by omega)
  have hm : j % 3 = 0 ∨ j % 3 = 1 ∨ j % 3 = 2 := by omega
  rcases hm with hm | hm | hm
  · rw [if_pos hm, ← h0, show j / 3 * 3 = j by omega]
  · rw [if_neg (by omega), if_pos hm, ← h1, show j / 3 * 3 + 1 = j by omega]
  · rw [if_neg (by omega), if_neg (by omega), ← h2, show j / 3 * 3 + 2 = j by omega]

set_option maxRecDepth 100000 in
theorem rowT_set1 (T : Nat → Tx) (V : Nat → Value) (n i : Nat) (st : Int) : (rowT T V n).set (i * 3 + 1) (.int .i64 st) = rowT (fun x => if x = i then { T i with st := st } else T x) V n := by
  apply List.ext_getElem?
  intro j
  by_cases hj : j < n * 3
  · rw [List.getElem?_set, rowT_length, rowT_at _ _ _ _ hj, rowT_at _ _ _ _ hj]
    by_cases h : i * 3 + 1 = j
    · subst h
      rw [if_pos rfl, if_pos hj, if_neg (by omega), if_pos (by omega), show (i * 3 + 1) / 3 = i by omega, if_pos rfl]
    · rw [if_neg h]
      by_cases hx : j / 3 = i
      · rw [hx, if_pos rfl]
        have : j % 3 ≠ 1 := by omega
        by_cases h0 : j % 3 = 0
        · rw [if_pos h0, if_pos h0]
        · rw [if_neg h0, if_neg this, if_neg h0, if_neg this]
      · rw [if_neg hx]
  · rw [List.getElem?_eq_none (by rw [List.length_set, rowT_length]; omega), List.getElem?_eq_none (by rw [rowT_length]; omega)]

set_option maxRecDepth 100000 in
theorem rowT_set2 (T : Nat → Tx) (V : Nat → Value) (n i : Nat) (u : Value) : (rowT T V n).set (i * 3 + 2) u = rowT T (fun x => if x = i then u else V x) n := by
  apply List.ext_getElem?
  intro j
  by_cases hj : j < n * 3
  · rw [List.getElem?_set, rowT_length, rowT_at _ _ _ _ hj, rowT_at _ _ _ _ hj]
    by_cases h : i * 3 + 2 = j
    · subst h
      rw [if_pos rfl, if_pos hj, if_neg (by omega), if_neg (by omega), show (i * 3 + 2) / 3 = i by omega, if_pos rfl]
    · rw [if_neg h]
      by_cases hx : j / 3 = i
      · have : j % 3 = 0 ∨ j % 3 = 1 := by omega
        rcases this with h0 | h0
        · rw [if_pos h0, if_pos h0]
        · rw [if_neg (by omega), if_pos h0, if_neg (by omega), if_pos h0]
      · rw [if_neg hx]
  · rw [List.getElem?_eq_none (by rw [List.length_set, rowT_length]; omega), List.getElem?_eq_none (by rw [rowT_length]; omega)]

set_option maxRecDepth 100000 in
/-- whoever is no row of transactions stays where the row is written -/
theorem HSt.rowed {w w' : World} {B hb mb mw m nb nw g cp : Nat} {T T' : Nat → Tx} {V V' : Nat → Value} {bz wm : Int → Option Int} (h : HSt w B hb mb mw m (.slice (some ⟨g, 0, none⟩) m cp) T V nb nw bz wm)
    (hg : w.grownBy w' (some g)) (hrow : w'.ownsRow B 47 3 (.slice (some ⟨g, 0, none⟩) m cp) m (rowT T' V' m))
    (hops : ∀ i, i < m → ∃ sp cap, V' i = .slice sp (T' i).n cap ∧ w.ownsRow B 44 3 (.slice sp (T' i).n cap) (T' i).n (rowO (T' i).o (T' i).n) ∧ (sp = none → (T' i).n = 0 ∧ cap = 0)) :
    HSt w' B hb mb mw m (.slice (some ⟨g, 0, none⟩) m cp) T' V' nb nw bz wm := by
  have ltc : ∀ {q : Nat} {o : Obj}, w.heap[q]? = some o → q < w.heap.size := fun {q o} e => by
    rcases Nat.lt_or_ge q w.heap.size with h' | h'
    · exact h'
    · rw [Array.getElem?_eq_none h'] at e; cases e
  have stays : ∀ {q : Nat} {o : Obj}, w.heap[q]? = some o → (∀ cs, o ≠ .cells cs 47 (0, 0)) → w'.heap[q]? = w.heap[q]? := fun {q o} e hno => by
    refine hg.block q (ltc e) (fun e' => ?_)
    obtain ⟨cur, e3⟩ := own_cells h.row e'.symm
    rw [e] at e3
    injection e3 with e3
    exact hno cur e3
  obtain ⟨es, cl, hm1⟩ := h.busy.isMap
  obtain ⟨es', cl', hm2⟩ := h.wri.isMap
  refine ⟨(stays h.blk (fun cs e => by injection e with _ e _; cases e)).trans h.blk, hrow, fun i hi => ?_, h.busy.kept (stays hm1 (fun cs e => by cases e)), h.wri.kept (stays hm2 (fun cs e => by cases e)), h.low⟩
  obtain ⟨sp, cap, e, ho, hp⟩ := hops i hi
  refine ⟨sp, cap, e, own_keep ho fun q hq => ?_, hp⟩
  obtain ⟨cur, e⟩ := own_cells ho hq
  exact stays e (fun cs e => by injection e with _ e _; cases e)

set_option maxRecDepth 100000 in
/-- State alone is written -/
theorem HSt.state {w : World} {B hb mb mw m nb nw g cp : Nat} {T : Nat → Tx} {V : Nat → Value} {bz wm : Int → Option Int} (h : HSt w B hb mb mw m (.slice (some ⟨g, 0, none⟩) m cp) T V nb nw bz wm) (i : Nat) (st : Int) :
    HSt (w.setCell ⟨g, i * 3 + 1, none⟩ (.int .i64 st)) B hb mb mw m (.slice (some ⟨g, 0, none⟩) m cp) (fun x => if x = i then { T i with st := st } else T x) V nb nw bz wm := by
  obtain ⟨h1, h2⟩ := h.row.stored (i * 3 + 1) (.int .i64 st)
  rw [rowT_set1] at h1
  refine h.rowed h2 h1 fun x hx => ?_
  by_cases hxi : x = i
  · subst hxi
    obtain ⟨sp, cap, e, ho, hp⟩ := h.ops x hx
    exact ⟨sp, cap, by rw [e, if_pos rfl], by rw [if_pos rfl]; exact ho, by rw [if_pos rfl]; exact hp⟩
  · rw [if_neg hxi]; exact h.ops x hx

set_option maxRecDepth 100000 in
/-- Ops are written -/
theorem HSt.opsed {w : World} {B hb mb mw m nb nw g cp : Nat} {T : Nat → Tx} {V : Nat → Value} {bz wm : Int → Option Int} (h : HSt w B hb mb mw m (.slice (some ⟨g, 0, none⟩) m cp) T V nb nw bz wm) (i : Nat) (sp : Option Addr) (n cap : Nat) (o : Nat → O3)
    (ho : w.ownsRow B 44 3 (.slice sp n cap) n (rowO o n)) (hp : sp = none → n = 0 ∧ cap = 0) :
    HSt (w.setCell ⟨g, i * 3 + 2, none⟩ (.slice sp n cap)) B hb mb mw m (.slice (some ⟨g, 0, none⟩) m cp) (fun x => if x = i then ⟨(T i).c, (T i).st, n, o⟩ else T x) (fun x => if x = i then .slice sp n cap else V x) nb nw bz wm := by
  obtain ⟨h1, h2⟩ := h.row.stored (i * 3 + 2) (.slice sp n cap)
  rw [rowT_set2] at h1
  have e : rowT T (fun x => if x = i then .slice sp n cap else V x) m = rowT (fun x => if x = i then ⟨(T i).c, (T i).st, n, o⟩ else T x) (fun x => if x = i then .slice sp n cap else V x) m :=
    rowT_congr _ _ _ _ m fun x hx => by
      by_cases hxi : x = i
      · subst hxi; rw [if_pos rfl]; exact ⟨rfl, rfl, rfl⟩
      · rw [if_neg hxi]; exact ⟨rfl, rfl, rfl⟩
  rw [e] at h1
  refine h.rowed h2 h1 fun x hx => ?_
  by_cases hxi : x = i
  · subst hxi
    rw [if_pos rfl, if_pos rfl]
    exact ⟨sp, cap, rfl, ho, hp⟩
  · rw [if_neg hxi, if_neg hxi]; exact h.ops x hx

end Go.Proofs.Yteobndfkkpfnlaa
