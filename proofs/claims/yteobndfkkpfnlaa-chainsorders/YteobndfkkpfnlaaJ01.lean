/-
  Operations in memory; contracts of soundOp and sound.
  Maps of our own from numbers to numbers.
  Contracts of slices.Clone and of answers.
  Contract of answers.
  What the events so far tell, in memory.
  Contract of begin.
  A transaction is ended: its cells are written anew, its client is free.
  Contract of end.
  Contract of take.
  Contract of Of.
  Events that came in, opened.
  The laws' big and head.
  Contract of the reference's Same.
  Contract of the reference's Copy.
  The reference's Copy.
  What a transaction read of others: the program's Reads.
  The reference's Reads.
  The reference's Writes.
-/
import Derived.Test.YteobndfkkpfnlaaRows
import Derived.WalkKit
import Derived.ProofKit
import Derived.OpenShut
import Derived.Below
import Derived.Lib.Hide
import Derived.Deep.AppendLies
import Derived.WalkArith
import Derived.Maps.OwnSet
import Derived.Maps.Views
import Derived.BigQuiet
import Derived.WalkSpells
import Derived.Deep.RegionHeld3
import Derived.Deep.RegionLaw
import Derived.Deep.Slices
import Derived.Deep.Fields
import Derived.ChangeSame
import Derived.ChangeSlices
import Derived.Laws.StructEq

namespace Go.Proofs.Yteobndfkkpfnlaa
open Go.ChangeShapes Go.WideShapes Go.ChangeAt Go.RowKit

set_option maxRecDepth 100000 in
theorem ret_int {k : IntKind} {a b : Int} (h : a = b) : Ending.returned (.int k a) = .returned (.int k b) := by rw [h]

set_option maxRecDepth 100000 in
theorem val_int {k : IntKind} {a b : Int} (h : a = b) : Value.int k a = .int k b := by rw [h]

set_option maxRecDepth 100000 in
theorem block_add (a : Addr) (n : Nat) : (a.add n).block = a.block := by unfold Addr.add; split <;> rfl

set_option maxRecDepth 100000 in
theorem cell_lt {w : World} {a : Addr} {v : Value} (h : w.cell? a = some v) : a.block < w.heap.size := by
  rcases Nat.lt_or_ge a.block w.heap.size with h' | h'
  · exact h'
  · simp [World.cell?, Array.getElem?_eq_none h'] at h

set_option maxRecDepth 100000 in
/-- three cells of a block -/
theorem cells3 {w : World} {b t : Nat} {v0 v1 v2 : Value} (h : w.heap[b]? = some (.cells #[v0, v1, v2] t (0, 0))) :
    (w.cell? ⟨b, 0, none⟩ = some v0 ∧ w.cell? ⟨b, 1, none⟩ = some v1 ∧ w.cell? ⟨b, 2, none⟩ = some v2) ∧ ∀ j, w.frozen? ⟨b, j, none⟩ = false :=
  ⟨⟨by simp [World.cell?, h], by simp [World.cell?, h], by simp [World.cell?, h]⟩, fun j => by simp [World.frozen?, h]⟩

/-- who tells whether something holds -/
def Tells (p : Prop) (w : World) (e : Ending) (w' : World) : Prop := ∃ b : Bool, e = .returned (.bool b) ∧ (b = true ↔ p) ∧ Below w.heap.size w w'

/-- an operation -/
structure O3 where
  k : Int
  key : Int
  v : Int

/-- operations in a slice that may be anybody's -/
def OpS (w : World) (sp : Option Addr) (n : Nat) (o : Nat → O3) : Prop :=
  0 < n → ∃ b off, sp = some ⟨b, off, none⟩ ∧ b < w.heap.size ∧ ∀ i, i < n → w.cell? ⟨b, off + i * 3, none⟩ = some (.int .i64 (o i).k) ∧ w.cell? ⟨b, off + i * 3 + 1, none⟩ = some (.int .i64 (o i).key) ∧ w.cell? ⟨b, off + i * 3 + 2, none⟩ = some (.int .i64 (o i).v)

set_option maxRecDepth 100000 in
theorem OpS.below {w w' : World} {sp : Option Addr} {n : Nat} {o : Nat → O3} (h : OpS w sp n o) (hb : Below w.heap.size w w') : OpS w' sp n o := by
  intro hn
  obtain ⟨b, off, e, hl, hc⟩ := h hn
  refine ⟨b, off, e, Nat.lt_of_lt_of_le hl hb.size, fun i hi => ?_⟩
  obtain ⟨c0, c1, c2⟩ := hc i hi
  exact ⟨(hb.cell hl).trans c0, (hb.cell hl).trans c1, (hb.cell hl).trans c2⟩

/-- may an operation stand in an event of that kind? -/
def SOp (o : O3) (ev : Int) : Prop := 0 ≤ o.key ∧ o.key ≤ 15 ∧ 0 ≤ o.v ∧ o.v < 1099511627776 ∧ ((o.k = 1 ∧ (¬ ev = 1 ∨ o.v = 0)) ∨ (o.k = 2 ∧ 0 < o.v))

/-- may an event be, by itself? -/
def Snd (k c : Int) (n : Nat) (o : Nat → O3) : Prop := 1 ≤ k ∧ k ≤ 4 ∧ 1 ≤ c ∧ c ≤ 16 ∧ n ≤ 12 ∧ ¬ (n = 0 ∧ (k = 1 ∨ k = 2)) ∧ ∀ i, i < n → SOp (o i) k

end Go.Proofs.Yteobndfkkpfnlaa

namespace Go.Proofs.Yteobndfkkpfnlaa
open Go.ChangeShapes Go.WideShapes Go.ChangeAt Go.RowKit Go.Maps

set_option maxRecDepth 100000 in
theorem law3 : Keyed Try.prog 3 := int_keyed Try.underlying3

set_option maxRecDepth 100000 in
theorem zero3 (w : World) : (zeroValue 3).run Try.prog w = .ok (.int .i64 0) w := by kernel_rfl

set_option maxRecDepth 100000 in
theorem wf64 {x : Int} (h : -9223372036854775808 ≤ x ∧ x ≤ 9223372036854775807) : (Lit.int .i64 x).wf = true := by
  simp [Lit.wf, IntKind.min, IntKind.max, IntKind.signed, IntKind.bits]; omega

/-- block b is a map that has m's entries, at most n -/
def MapS (w : World) (b n : Nat) (m : Int → Option Int) : Prop :=
  ∃ D : DataW Unit, w.ownsMap Try.prog 3 (plainElem Try.prog 3) b n D ∧ ∀ x, Maps.has D (.int .i64 x) = (m x).isSome ∧ D.atKey (.int .i64 x) (.lit (.int .i64 0)) = .lit (.int .i64 ((m x).getD 0))

set_option maxRecDepth 100000 in
theorem MapS.made (w : World) : MapS (w.alloc (.map #[] 0)) w.heap.size 0 (fun _ => none) :=
  ⟨.map [], World.ownsMap_made w Try.prog 3 _, fun _ => ⟨rfl, rfl⟩⟩

set_option maxRecDepth 100000 in
theorem MapS.lt {w : World} {b n : Nat} {m : Int → Option Int} (h : MapS w b n m) : b < w.heap.size := by
  obtain ⟨D, ho, _⟩ := h; exact ho.lt

set_option maxRecDepth 100000 in
theorem MapS.kept {w w' : World} {b n : Nat} {m : Int → Option Int} (h : MapS w b n m) (hb : w'.heap[b]? = w.heap[b]?) : MapS w' b n m := by
  obtain ⟨D, ⟨es, clock, hb', F, hs, hD⟩, hv⟩ := h
  exact ⟨D, ⟨es, clock, hb.trans hb', F, hs, hD⟩, hv⟩

set_option maxRecDepth 100000 in
theorem MapS.mono {w : World} {b n n' : Nat} {m : Int → Option Int} (h : MapS w b n m) (hn : n ≤ n') : MapS w b n' m := by
  obtain ⟨D, ho, hv⟩ := h; exact ⟨D, ho.mono hn, hv⟩

set_option maxRecDepth 100000 in
theorem MapS.look {w : World} {b n : Nat} {m : Int → Option Int} (h : MapS w b n m) (x : Int) (hx : -9223372036854775808 ≤ x ∧ x ≤ 9223372036854775807) :
    (Instr.lookup 120 (.map (some b)) (.int .i64 x) true).run Try.prog w = .ok (.tuple #[.int .i64 ((m x).getD 0), .bool (m x).isSome]) w := by
  obtain ⟨D, ho, hv⟩ := h
  obtain ⟨v, ps, hrun, hR⟩ := ho.look_ok law3 Try.underlying120 (zero3 w) (plainElem_int Try.underlying3 (by decide)) (keyOf_int_mk Try.underlying3 (wf64 hx))
  obtain ⟨c, rfl, hc, _⟩ := plainElem_int_inv Try.underlying3 hR
  simp only [Prod.mk.injEq] at hc
  have e := hc.1
  rw [(hv x).2] at e
  injection e with e
  injection e with _ e
  rw [hrun, (hv x).1, e]

set_option maxRecDepth 100000 in
theorem MapS.update {w : World} {b n : Nat} {m : Int → Option Int} (h : MapS w b n m) (x v : Int) (hn : n < 1000000) (hx : -9223372036854775808 ≤ x ∧ x ≤ 9223372036854775807) (hv : -9223372036854775808 ≤ v ∧ v ≤ 9223372036854775807) :
    ∃ w', (Instr.mapUpdate 120 (.map (some b)) (.int .i64 x) (.int .i64 v)).run Try.prog w = .ok () w' ∧ MapS w' b (n + 1) (fun y => if y = x then some v else m y) ∧ w.grownBy w' (some b) := by
  obtain ⟨D, ho, hD⟩ := h
  obtain ⟨w', hrun, ho', hg⟩ := ho.update law3 Try.underlying120 (by unfold maxLen; omega) (keyOf_int_mk Try.underlying3 (wf64 hx)) (plainElem_int Try.underlying3 (wf64 hv))
  refine ⟨w', hrun, ⟨_, ho', fun y => ?_⟩, hg⟩
  by_cases hy : y = x
  · subst hy
    dsimp only
    rw [if_pos rfl]
    exact ⟨has_put_same (k := Lit.int .i64 y) ho.isMap (law3.key (keyOf_int_mk Try.underlying3 (wf64 hx))) _, atKey_put_same (k := Lit.int .i64 y) ho.isMap (law3.key (keyOf_int_mk Try.underlying3 (wf64 hx))) _ _⟩
  · dsimp only
    rw [if_neg hy]
    have hne : (Lit.int .i64 y) ≠ Lit.int .i64 x := fun e => by injection e with _ e; exact hy e
    rw [has_put_other hne, atKey_put_other hne]
    exact hD y

end Go.Proofs.Yteobndfkkpfnlaa

namespace Go.Proofs.Yteobndfkkpfnlaa
open Go.ChangeShapes Go.WideShapes Go.ChangeAt Go.RowKit

set_option maxRecDepth 100000 in
theorem info38 : (Try.prog.info? 44).map (fun i => (i.zero, i.size, i.bytes)) = some (some (.agg #[.int .i64 0, .int .i64 0, .int .i64 0]), 3, 24) := by kernel_rfl

/-- operations' cells -/
def rowO (o : Nat → O3) (n : Nat) : List Value := (List.range n).flatMap fun i => [Value.int .i64 (o i).k, .int .i64 (o i).key, .int .i64 (o i).v]

set_option maxRecDepth 100000 in
theorem rowO_succ (o : Nat → O3) (n : Nat) : rowO o (n + 1) = rowO o n ++ [Value.int .i64 (o n).k, .int .i64 (o n).key, .int .i64 (o n).v] := by
  unfold rowO; rw [List.range_succ, List.flatMap_append]; rfl

set_option maxRecDepth 100000 in
theorem rowO_length (o : Nat → O3) (n : Nat) : (rowO o n).length = n * 3 := by
  induction n with
  | zero => rfl
  | succ n ih => rw [rowO_succ, List.length_append, ih]; simp; omega

set_option maxRecDepth 100000 in
theorem rowO_get (o : Nat → O3) (n i : Nat) (hi : i < n) : (rowO o n)[i * 3]? = some (.int .i64 (o i).k) ∧ (rowO o n)[i * 3 + 1]? = some (.int .i64 (o i).key) ∧ (rowO o n)[i * 3 + 2]? = some (.int .i64 (o i).v) := by
  induction n with
  | zero => omega
  | succ n ih =>
    rw [rowO_succ]
    by_cases h : i < n
    · rw [List.getElem?_append_left (by rw [rowO_length]; omega), List.getElem?_append_left (by rw [rowO_length]; omega), List.getElem?_append_left (by rw [rowO_length]; omega)]
      exact ih h
    · obtain rfl : i = n := by omega
      rw [List.getElem?_append_right (by rw [rowO_length]; omega), List.getElem?_append_right (by rw [rowO_length]; omega), List.getElem?_append_right (by rw [rowO_length]; omega), rowO_length]
      exact ⟨by rw [Nat.sub_self]; rfl, by rw [Nat.add_sub_cancel_left]; rfl, by rw [Nat.add_sub_cancel_left]; rfl⟩

set_option maxRecDepth 100000 in
theorem rowO_one (o : Nat → O3) (n : Nat) : ∀ u ∈ rowO o n, u.oneCell' = true := by
  intro u hu
  unfold rowO at hu
  rw [List.mem_flatMap] at hu
  obtain ⟨i, _, hu⟩ := hu
  simp at hu
  rcases hu with rfl | rfl | rfl <;> rfl

set_option maxRecDepth 100000 in
theorem OpS.cellAt {w : World} {b off n : Nat} {o : Nat → O3} (h : OpS w (some ⟨b, off, none⟩) n o) (j : Nat) (u : Value) (hj : (rowO o n)[j]? = some u) : w.cell? ⟨b, off + j, none⟩ = some u := by
  have hjl : j < n * 3 := by
    rcases Nat.lt_or_ge j (n * 3) with h' | h'
    · exact h'
    · rw [List.getElem?_eq_none (by rw [rowO_length]; exact h')] at hj; cases hj
  obtain ⟨b', off', e, _, hc⟩ := h (by omega)
  injection e with e
  injection e with e1 e2
  subst e1 e2
  obtain ⟨c0, c1, c2⟩ := hc (j / 3) (by omega)
  obtain ⟨g0, g1, g2⟩ := rowO_get o n (j / 3) (by omega)
  have hm : j % 3 = 0 ∨ j % 3 = 1 ∨ j % 3 = 2 := by omega
  rcases hm with hm | hm | hm
  · have e2 : j / 3 * 3 = j := by omega
    rw [e2] at c0 g0
    rw [c0, ← g0, hj]
  · have e2 : j / 3 * 3 + 1 = j := by omega
    rw [e2] at g1
    rw [show off + j / 3 * 3 + 1 = off + j by omega] at c1
    rw [c1, ← g1, hj]
  · have e2 : j / 3 * 3 + 2 = j := by omega
    rw [e2] at g2
    rw [show off + j / 3 * 3 + 2 = off + j by omega] at c2
    rw [c2, ← g2, hj]

set_option maxRecDepth 100000 in
theorem own38_ops {w : World} {base n cap : Nat} {sp : Option Addr} {o : Nat → O3} (h : w.ownsRow base 44 3 (.slice sp n cap) n (rowO o n)) : OpS w sp n o := by
  intro hn
  obtain ⟨g, cap', e, _, hl⟩ := h.form hn
  injection e with e1 e2 e3
  subst e1
  refine ⟨g, 0, rfl, hl, fun i hi => ?_⟩
  obtain ⟨g0, g1, g2⟩ := rowO_get o n i hi
  have h0 := (h.cellAt (i * 3) (by omega)).trans g0
  have h1 := (h.cellAt (i * 3 + 1) (by omega)).trans g1
  have h2 := (h.cellAt (i * 3 + 2) (by omega)).trans g2
  simp only [Nat.zero_add]
  exact ⟨h0, h1, h2⟩

/-- what a transaction wrote last to a key, ahead of its i-th operation -/
def lastW (t : Nat → O3) : Nat → Int → Option Int
  | 0 => fun _ => none
  | i + 1 => fun key => if (t i).k = 2 ∧ key = (t i).key then some (t i).v else lastW t i key

/-- what is wrong with the i-th answer -/
def errAt (a t : Nat → O3) (i : Nat) : Int :=
  if ¬ (t i).k = (a i).k ∨ ¬ (t i).key = (a i).key then 22
  else if (t i).k = 2 then (if (t i).v = (a i).v then 0 else 22)
  else match lastW t i (t i).key with
    | some v => if (t i).v = v then 0 else 24
    | none => 0

/-- what is wrong with answers -/
def AnsP (na nt : Nat) (a t : Nat → O3) (er : Int) : Prop :=
  (¬ nt = na ∧ er = 22) ∨ (nt = na ∧ ((er = 0 ∧ ∀ j, j < nt → errAt a t j = 0) ∨ ∃ i, i < nt ∧ er = errAt a t i ∧ ¬ er = 0 ∧ ∀ j, j < i → errAt a t j = 0))

def AnsPost (na nt : Nat) (a t : Nat → O3) (w : World) (e : Ending) (w' : World) : Prop := ∃ er : Int, e = .returned (.int .i64 er) ∧ AnsP na nt a t er ∧ Below w.heap.size w w'

end Go.Proofs.Yteobndfkkpfnlaa

namespace Go.Proofs.Yteobndfkkpfnlaa
open Go.ChangeShapes Go.WideShapes Go.ChangeAt Go.RowKit Go.Maps

set_option maxRecDepth 100000 in
theorem MapS.drewN {w : World} {b n : Nat} {m : Int → Option Int} (h : MapS w b n m) (q : Nat) : MapS (w.drewN q) b n m := h.kept rfl

set_option maxRecDepth 100000 in
theorem below_drewN {B : Nat} {a w : World} (h : Below B a w) (n : Nat) : Below B a (w.drewN n) := ⟨h.os, h.tape, h.output, h.size, h.block⟩

set_option maxRecDepth 100000 in
theorem wpList_update_S {w : World} {ops : Array Oper} {rest : List Oper} {o : Oper} {a : Act} {Q : Exit → Act → World → Prop}
    (hg : o.guard = none) (m x v : Operand) (hop : o.op = Op.mapUpdate 120 m x v) (b n : Nat) (M : Int → Option Int)
    (hm : a.eval m = .map (some b)) (hown : MapS w b n M) (hn : n < 1000000) (key val : Int) (hx : a.eval x = .int .i64 key) (hv : a.eval v = .int .i64 val)
    (hkr : -9223372036854775808 ≤ key ∧ key ≤ 9223372036854775807) (hvr : -9223372036854775808 ≤ val ∧ val ≤ 9223372036854775807)
    (hK : ∀ w', MapS w' b (n + 1) (fun y => if y = key then some val else M y) → w.grownBy w' (some b) → wpList Try.prog ops Q rest (a.put o.dst undef) w') :
    wpList Try.prog ops Q (o :: rest) a w := by
  refine wpList_plain hg fun K' hK' => ?_
  obtain ⟨w', hrun, h1, h2⟩ := hown.update key val hn hkr hvr
  unfold Oper.wp
  simp [execOp, hop, hm, hx, hv, hrun, Result.andThen]
  exact hK' _ _ (hK w' h1 h2)

end Go.Proofs.Yteobndfkkpfnlaa

namespace Go.Proofs.Yteobndfkkpfnlaa
open Go.ChangeShapes Go.WideShapes Go.ChangeAt Go.RowKit Go.Maps

set_option maxRecDepth 100000 in
theorem info36 : (Try.prog.info? 47).map (fun i => (i.zero, i.size, i.bytes)) = some (some (.agg #[.int .i64 0, .int .i64 0, .slice none 0 0]), 3, 40) := by kernel_rfl

/-- a transaction -/
structure Tx where
  c : Int
  st : Int
  n : Nat
  o : Nat → O3

/-- transactions' cells -/
def rowT (T : Nat → Tx) (V : Nat → Value) (n : Nat) : List Value := (List.range n).flatMap fun i => [Value.int .i64 (T i).c, .int .i64 (T i).st, V i]

set_option maxRecDepth 100000 in
theorem rowT_succ (T : Nat → Tx) (V : Nat → Value) (n : Nat) : rowT T V (n + 1) = rowT T V n ++ [Value.int .i64 (T n).c, .int .i64 (T n).st, V n] := by
  unfold rowT; rw [List.range_succ, List.flatMap_append]; rfl

set_option maxRecDepth 100000 in
theorem rowT_length (T : Nat → Tx) (V : Nat → Value) (n : Nat) : (rowT T V n).length = n * 3 := by
  induction n with
  | zero => rfl
  | succ n ih => rw [rowT_succ, List.length_append, ih]; simp; omega

set_option maxRecDepth 100000 in
theorem rowT_get (T : Nat → Tx) (V : Nat → Value) (n i : Nat) (hi : i < n) : (rowT T V n)[i * 3]? = some (.int .i64 (T i).c) ∧ (rowT T V n)[i * 3 + 1]? = some (.int .i64 (T i).st) ∧ (rowT T V n)[i * 3 + 2]? = some (V i) := by
  induction n with
  | zero => omega
  | succ n ih =>
    rw [rowT_succ]
    by_cases h : i < n
    · rw [List.getElem?_append_left (by rw [rowT_length]; omega), List.getElem?_append_left (by rw [rowT_length]; omega), List.getElem?_append_left (by rw [rowT_length]; omega)]
      exact ih h
    · obtain rfl : i = n := by omega
      rw [List.getElem?_append_right (by rw [rowT_length]; omega), List.getElem?_append_right (by rw [rowT_length]; omega), List.getElem?_append_right (by rw [rowT_length]; omega), rowT_length]
      exact ⟨by rw [Nat.sub_self]; rfl, by rw [Nat.add_sub_cancel_left]; rfl, by rw [Nat.add_sub_cancel_left]; rfl⟩

set_option maxRecDepth 100000 in
theorem rowT_congr (T T' : Nat → Tx) (V V' : Nat → Value) (n : Nat) (h : ∀ i, i < n → (T i).c = (T' i).c ∧ (T i).st = (T' i).st ∧ V i = V' i) : rowT T V n = rowT T' V' n := by
  induction n with
  | zero => rfl
  | succ n ih =>
    obtain ⟨h0, h1, h2⟩ := h n (by omega)
    rw [rowT_succ, rowT_succ, ih fun i hi => h i (by omega), h0, h1, h2]

set_option maxRecDepth 100000 in
theorem own_keep {w w' : World} {base e size n : Nat} {v : Value} {xs : List Value} (h : w.ownsRow base e size v n xs) (hk : ∀ g, v.ownBlock = some g → w'.heap[g]? = w.heap[g]?) : w'.ownsRow base e size v n xs := by
  refine ⟨h.1, ?_⟩
  rcases h.2 with h0 | ⟨g, cap, cur, hv, hg, hh, hrest⟩
  · exact .inl h0
  · exact .inr ⟨g, cap, cur, hv, hg, (hk g (by rw [hv]; rfl)).trans hh, hrest⟩

set_option maxRecDepth 100000 in
theorem own_cells {w : World} {base e size n : Nat} {v : Value} {xs : List Value} (h : w.ownsRow base e size v n xs) {g : Nat} (hg : v.ownBlock = some g) : ∃ cur, w.heap[g]? = some (.cells cur e (0, 0)) := by
  rcases h.2 with ⟨h0, _⟩ | ⟨g', cap, cur, hv, _, hh, _⟩
  · rw [h0] at hg; cases hg
  · rw [hv] at hg
    have e' : g' = g := Option.some.inj hg
    exact ⟨cur, e' ▸ hh⟩

set_option maxRecDepth 100000 in
theorem MapS.isMap {w : World} {b n : Nat} {m : Int → Option Int} (h : MapS w b n m) : ∃ es cl, w.heap[b]? = some (.map es cl) := by
  obtain ⟨D, ⟨es, clock, hb, _⟩, _⟩ := h
  exact ⟨es, clock, hb⟩

/-- what the events so far tell: transactions in a row of our own, two maps -/
structure HSt (w : World) (B hb mb mw m : Nat) (v : Value) (T : Nat → Tx) (V : Nat → Value) (nb nw : Nat) (bz wm : Int → Option Int) : Prop where
  blk : w.heap[hb]? = some (.cells #[v, .map (some mb), .map (some mw)] 49 (0, 0))
  row : w.ownsRow B 47 3 v m (rowT T V m)
  ops : ∀ i, i < m → ∃ sp cap, V i = .slice sp (T i).n cap ∧ w.ownsRow B 44 3 (.slice sp (T i).n cap) (T i).n (rowO (T i).o (T i).n) ∧ (sp = none → (T i).n = 0 ∧ cap = 0)
  busy : MapS w mb nb bz
  wri : MapS w mw nw wm
  low : B ≤ hb ∧ B ≤ mb ∧ B ≤ mw ∧ mb ≠ mw

set_option maxRecDepth 100000 in
theorem HSt.keep {w w' : World} {B hb mb mw m nb nw : Nat} {v : Value} {T : Nat → Tx} {V : Nat → Value} {bz wm : Int → Option Int} (h : HSt w B hb mb mw m v T V nb nw bz wm)
    (hk : ∀ q, q < w.heap.size → w'.heap[q]? = w.heap[q]?) : HSt w' B hb mb mw m v T V nb nw bz wm := by
  have lt : ∀ {q : Nat} {o : Obj}, w.heap[q]? = some o → q < w.heap.size := fun {q o} e => by
    rcases Nat.lt_or_ge q w.heap.size with h' | h'
    · exact h'
    · rw [Array.getElem?_eq_none h'] at e; cases e
  refine ⟨(hk _ (lt h.blk)).trans h.blk, own_keep h.row fun g hg => hk g (h.row.lt g hg).2, fun i hi => ?_, h.busy.kept (hk _ h.busy.lt), h.wri.kept (hk _ h.wri.lt), h.low⟩
  obtain ⟨sp, cap, e, ho, hp⟩ := h.ops i hi
  exact ⟨sp, cap, e, own_keep ho fun g hg => hk g (ho.lt g hg).2, hp⟩

set_option maxRecDepth 100000 in
theorem HSt.below {w w' : World} {B hb mb mw m nb nw : Nat} {v : Value} {T : Nat → Tx} {V : Nat → Value} {bz wm : Int → Option Int} (h : HSt w B hb mb mw m v T V nb nw bz wm)
    (hb' : Below w.heap.size w w') : HSt w' B hb mb mw m v T V nb nw bz wm := h.keep hb'.block

set_option maxRecDepth 100000 in
/-- a transaction is added -/
theorem HSt.added {w w' w2 : World} {B hb mb mw m nb nw : Nat} {v v' : Value} {T : Nat → Tx} {V : Nat → Value} {bz wm : Int → Option Int} {t : Tx} {sp : Option Addr} {cap : Nat} (h : HSt w B hb mb mw m v T V nb nw bz wm)
    (hn : w.ownsRow B 44 3 (.slice sp t.n cap) t.n (rowO t.o t.n)) (hsp : sp = none → t.n = 0 ∧ cap = 0)
    (ho : w'.ownsRow B 47 3 v' (m + 1) (rowT T V m ++ [.int .i64 t.c, .int .i64 t.st, .slice sp t.n cap])) (hg : w.grownBy w' v.ownBlock) (hnew : ∀ g, v'.ownBlock = some g → g ≠ hb)
    (e2 : w2 = w'.setCell ⟨hb, 0, none⟩ v') :
    HSt w2 B hb mb mw (m + 1) v' (fun i => if i = m then t else T i) (fun i => if i = m then .slice sp t.n cap else V i) nb nw bz wm := by
  have ltc : ∀ {q : Nat} {o : Obj}, w.heap[q]? = some o → q < w.heap.size := fun {q o} e => by
    rcases Nat.lt_or_ge q w.heap.size with h' | h'
    · exact h'
    · rw [Array.getElem?_eq_none h'] at e; cases e
  have other : ∀ q, q ≠ hb → w2.heap[q]? = w'.heap[q]? := fun q hq => by rw [e2]; exact heap_setCell_other w' ⟨hb, 0, none⟩ q v' (fun e => hq e)
  -- whoever is no row of transactions stays
  have stays : ∀ {q : Nat} {o : Obj}, w.heap[q]? = some o → (∀ cs, o ≠ .cells cs 47 (0, 0)) → w'.heap[q]? = w.heap[q]? := fun {q o} e hno => by
    refine hg.block q (ltc e) (fun e' => ?_)
    obtain ⟨cur, e3⟩ := own_cells h.row e'.symm
    rw [e] at e3
    injection e3 with e3
    exact hno cur e3
  have hblk : w'.heap[hb]? = some (.cells #[v, .map (some mb), .map (some mw)] 49 (0, 0)) := (stays h.blk (fun cs e => by injection e with _ e _; cases e)).trans h.blk
  obtain ⟨es, cl, hm1⟩ := h.busy.isMap
  obtain ⟨es', cl', hm2⟩ := h.wri.isMap
  have ne1 : mb ≠ hb := fun e => by rw [e, h.blk] at hm1; cases hm1
  have ne2 : mw ≠ hb := fun e => by rw [e, h.blk] at hm2; cases hm2
  refine ⟨?_, ?_, fun i hi => ?_, h.busy.kept ((other _ ne1).trans (stays hm1 (fun cs e => by cases e))), h.wri.kept ((other _ ne2).trans (stays hm2 (fun cs e => by cases e))), h.low⟩
  · rw [e2]; exact heap_setCell_same w' hb 0 _ 49 v' hblk
  · have e : rowT T V m ++ [.int .i64 t.c, .int .i64 t.st, .slice sp t.n cap] = rowT (fun i => if i = m then t else T i) (fun i => if i = m then .slice sp t.n cap else V i) (m + 1) := by
      rw [rowT_succ, if_pos rfl, if_pos rfl]
      congr 1
      exact rowT_congr _ _ _ _ m fun i hi => by rw [if_neg (by omega), if_neg (by omega)]; exact ⟨rfl, rfl, rfl⟩
    rw [← e]
    exact own_keep ho fun g hg' => other g (hnew g hg')
  · have keep : ∀ {n : Nat} {u : Value} {xs : List Value}, w.ownsRow B 44 3 u n xs → w2.ownsRow B 44 3 u n xs := fun {n u xs} ho' => own_keep ho' fun g hg' => by
      obtain ⟨cur, e⟩ := own_cells ho' hg'
      exact (other g (fun e' => by rw [e', h.blk] at e; injection e with e; injection e with _ e _; cases e)).trans (stays e (fun cs e => by injection e with _ e _; cases e))
    by_cases hi' : i = m
    · subst hi'
      rw [if_pos rfl, if_pos rfl]
      exact ⟨sp, cap, rfl, keep hn, hsp⟩
    · rw [if_neg hi', if_neg hi']
      obtain ⟨sp1, cap1, e, ho', hp⟩ := h.ops i (by omega)
      exact ⟨sp1, cap1, e, keep ho', hp⟩

/-- who has written what, behind i operations of the m-th transaction -/
def wmI (o : Nat → O3) (m : Nat) (wm : Int → Option Int) : Nat → Int → Option Int
  | 0 => wm
  | i + 1 => if (o i).k = 2 then (fun y => if y = (o i).v then some (m : Int) else wmI o m wm i y) else wmI o m wm i

/-- the i-th operation writes a value that was written ahead -/
def Dup (o : Nat → O3) (m : Nat) (wm : Int → Option Int) (i : Nat) : Prop := (o i).k = 2 ∧ (wmI o m wm i (o i).v).isSome = true

end Go.Proofs.Yteobndfkkpfnlaa

namespace Go.Proofs.Yteobndfkkpfnlaa
open Go.ChangeShapes Go.WideShapes Go.ChangeAt Go.RowKit Go.Maps

set_option maxRecDepth 100000 in
theorem own_form' {w : World} {base e size n : Nat} {v : Value} {xs : List Value} (h : w.ownsRow base e size v n xs) : ∃ sp cp, v = .slice sp n cp := by
  rcases h.2 with ⟨e, rfl⟩ | ⟨g, cp, cur, e, _⟩
  · exact ⟨_, _, e⟩
  · exact ⟨_, _, e⟩

end Go.Proofs.Yteobndfkkpfnlaa

namespace Go.Proofs.Yteobndfkkpfnlaa
open Go.ChangeShapes Go.WideShapes Go.ChangeAt Go.RowKit Go.Maps

set_option maxRecDepth 100000 in
theorem rowT_at (T : Nat → Tx) (V : Nat → Value) (n j : Nat) (hj : j < n * 3) : (rowT T V n)[j]? = some (if j % 3 = 0 then .int .i64 (T (j / 3)).c else if j % 3 = 1 then .int .i64 (T (j / 3)).st else V (j / 3)) := by
  obtain ⟨h0, h1, h2⟩ := rowT_get T V n (j / 3) (by omega)
  have hm : j % 3 = 0 ∨ j % 3 = 1 ∨ j % 3 = 2 := by omega
  rcases hm with hm | hm | hm
  · rw [if_pos hm, ← h0, show j / 3 * 3 = j by omega]
  · rw [if_neg (by omega), if_pos hm, ← h1, show j / 3 * 3 + 1 = j by omega]
  · rw [if_neg (by omega), if_neg (by omega), ← h2, show j / 3 * 3 + 2 = j by omega]

set_option maxRecDepth 100000 in
theorem rowT_set1 (T : Nat → Tx) (V : Nat → Value) (n i : Nat) (st : Int) : (rowT T V n).set (i * 3 + 1) (.int .i64 st) = rowT (fun x => if x = i then { T i with st := st } else T x) V n := by
  apply List.ext_getElem?
  intro j
  by_cases hj : j < n * 3
  · rw [List.getElem?_set, rowT_length, rowT_at _ _ _ _ hj, rowT_at _ _ _ _ hj]
    by_cases h : i * 3 + 1 = j
    · subst h
      rw [if_pos rfl, if_pos hj, if_neg (by omega), if_pos (by omega), show (i * 3 + 1) / 3 = i by omega, if_pos rfl]
    · rw [if_neg h]
      by_cases hx : j / 3 = i
      · rw [hx, if_pos rfl]
        have : j % 3 ≠ 1 := by omega
        by_cases h0 : j % 3 = 0
        · rw [if_pos h0, if_pos h0]
        · rw [if_neg h0, if_neg this, if_neg h0, if_neg this]
      · rw [if_neg hx]
  · rw [List.getElem?_eq_none (by rw [List.length_set, rowT_length]; omega), List.getElem?_eq_none (by rw [rowT_length]; omega)]

set_option maxRecDepth 100000 in
theorem rowT_set2 (T : Nat → Tx) (V : Nat → Value) (n i : Nat) (u : Value) : (rowT T V n).set (i * 3 + 2) u = rowT T (fun x => if x = i then u else V x) n := by
  apply List.ext_getElem?
  intro j
  by_cases hj : j < n * 3
  · rw [List.getElem?_set, rowT_length, rowT_at _ _ _ _ hj, rowT_at _ _ _ _ hj]
    by_cases h : i * 3 + 2 = j
    · subst h
      rw [if_pos rfl, if_pos hj, if_neg (by omega), if_neg (by omega), show (i * 3 + 2) / 3 = i by omega, if_pos rfl]
    · rw [if_neg h]
      by_cases hx : j / 3 = i
      · have : j % 3 = 0 ∨ j % 3 = 1 := by omega
        rcases this with h0 | h0
        · rw [if_pos h0, if_pos h0]
        · rw [if_neg (by omega), if_pos h0, if_neg (by omega), if_pos h0]
      · rw [if_neg hx]
  · rw [List.getElem?_eq_none (by rw [List.length_set, rowT_length]; omega), List.getElem?_eq_none (by rw [rowT_length]; omega)]

set_option maxRecDepth 100000 in
/-- whoever is no row of transactions stays where the row is written -/
theorem HSt.rowed {w w' : World} {B hb mb mw m nb nw g cp : Nat} {T T' : Nat → Tx} {V V' : Nat → Value} {bz wm : Int → Option Int} (h : HSt w B hb mb mw m (.slice (some ⟨g, 0, none⟩) m cp) T V nb nw bz wm)
    (hg : w.grownBy w' (some g)) (hrow : w'.ownsRow B 47 3 (.slice (some ⟨g, 0, none⟩) m cp) m (rowT T' V' m))
    (hops : ∀ i, i < m → ∃ sp cap, V' i = .slice sp (T' i).n cap ∧ w.ownsRow B 44 3 (.slice sp (T' i).n cap) (T' i).n (rowO (T' i).o (T' i).n) ∧ (sp = none → (T' i).n = 0 ∧ cap = 0)) :
    HSt w' B hb mb mw m (.slice (some ⟨g, 0, none⟩) m cp) T' V' nb nw bz wm := by
  have ltc : ∀ {q : Nat} {o : Obj}, w.heap[q]? = some o → q < w.heap.size := fun {q o} e => by
    rcases Nat.lt_or_ge q w.heap.size with h' | h'
    · exact h'
    · rw [Array.getElem?_eq_none h'] at e; cases e
  have stays : ∀ {q : Nat} {o : Obj}, w.heap[q]? = some o → (∀ cs, o ≠ .cells cs 47 (0, 0)) → w'.heap[q]? = w.heap[q]? := fun {q o} e hno => by
    refine hg.block q (ltc e) (fun e' => ?_)
    obtain ⟨cur, e3⟩ := own_cells h.row e'.symm
    rw [e] at e3
    injection e3 with e3
    exact hno cur e3
  obtain ⟨es, cl, hm1⟩ := h.busy.isMap
  obtain ⟨es', cl', hm2⟩ := h.wri.isMap
  refine ⟨(stays h.blk (fun cs e => by injection e with _ e _; cases e)).trans h.blk, hrow, fun i hi => ?_, h.busy.kept (stays hm1 (fun cs e => by cases e)), h.wri.kept (stays hm2 (fun cs e => by cases e)), h.low⟩
  obtain ⟨sp, cap, e, ho, hp⟩ := hops i hi
  refine ⟨sp, cap, e, own_keep ho fun q hq => ?_, hp⟩
  obtain ⟨cur, e⟩ := own_cells ho hq
  exact stays e (fun cs e => by injection e with _ e _; cases e)

set_option maxRecDepth 100000 in
/-- State alone is written -/
theorem HSt.state {w : World} {B hb mb mw m nb nw g cp : Nat} {T : Nat → Tx} {V : Nat → Value} {bz wm : Int → Option Int} (h : HSt w B hb mb mw m (.slice (some ⟨g, 0, none⟩) m cp) T V nb nw bz wm) (i : Nat) (st : Int) :
    HSt (w.setCell ⟨g, i * 3 + 1, none⟩ (.int .i64 st)) B hb mb mw m (.slice (some ⟨g, 0, none⟩) m cp) (fun x => if x = i then { T i with st := st } else T x) V nb nw bz wm := by
  obtain ⟨h1, h2⟩ := h.row.stored (i * 3 + 1) (.int .i64 st)
  rw [rowT_set1] at h1
  refine h.rowed h2 h1 fun x hx => ?_
  by_cases hxi : x = i
  · subst hxi
    obtain ⟨sp, cap, e, ho, hp⟩ := h.ops x hx
    exact ⟨sp, cap, by rw [e, if_pos rfl], by rw [if_pos rfl]; exact ho, by rw [if_pos rfl]; exact hp⟩
  · rw [if_neg hxi]; exact h.ops x hx

set_option maxRecDepth 100000 in
/-- Ops are written -/
theorem HSt.opsed {w : World} {B hb mb mw m nb nw g cp : Nat} {T : Nat → Tx} {V : Nat → Value} {bz wm : Int → Option Int} (h : HSt w B hb mb mw m (.slice (some ⟨g, 0, none⟩) m cp) T V nb nw bz wm) (i : Nat) (sp : Option Addr) (n cap : Nat) (o : Nat → O3)
    (ho : w.ownsRow B 44 3 (.slice sp n cap) n (rowO o n)) (hp : sp = none → n = 0 ∧ cap = 0) :
    HSt (w.setCell ⟨g, i * 3 + 2, none⟩ (.slice sp n cap)) B hb mb mw m (.slice (some ⟨g, 0, none⟩) m cp) (fun x => if x = i then ⟨(T i).c, (T i).st, n, o⟩ else T x) (fun x => if x = i then .slice sp n cap else V x) nb nw bz wm := by
  obtain ⟨h1, h2⟩ := h.row.stored (i * 3 + 2) (.slice sp n cap)
  rw [rowT_set2] at h1
  have e : rowT T (fun x => if x = i then .slice sp n cap else V x) m = rowT (fun x => if x = i then ⟨(T i).c, (T i).st, n, o⟩ else T x) (fun x => if x = i then .slice sp n cap else V x) m :=
    rowT_congr _ _ _ _ m fun x hx => by
      by_cases hxi : x = i
      · subst hxi; rw [if_pos rfl]; exact ⟨rfl, rfl, rfl⟩
      · rw [if_neg hxi]; exact ⟨rfl, rfl, rfl⟩
  rw [e] at h1
  refine h.rowed h2 h1 fun x hx => ?_
  by_cases hxi : x = i
  · subst hxi
    rw [if_pos rfl, if_pos rfl]
    exact ⟨sp, cap, rfl, ho, hp⟩
  · rw [if_neg hxi, if_neg hxi]; exact h.ops x hx

end Go.Proofs.Yteobndfkkpfnlaa

namespace Go.Proofs.Yteobndfkkpfnlaa
open Go.ChangeShapes Go.WideShapes Go.ChangeAt Go.RowKit Go.Maps

/-- what becomes of a transaction -/
def endT (t : Tx) (k : Int) (n : Nat) (o : Nat → O3) : Tx := if k = 2 then ⟨t.c, 1, n, o⟩ else if k = 3 then ⟨t.c, 2, t.n, t.o⟩ else t

/-- an end that may be -/
def FinP (k : Int) (n : Nat) (p : Prop) : Prop := (k = 2 ∧ p) ∨ (¬ k = 2 ∧ n = 0)

end Go.Proofs.Yteobndfkkpfnlaa

namespace Go.Proofs.Yteobndfkkpfnlaa
open Go.ChangeShapes Go.WideShapes Go.ChangeAt Go.RowKit Go.Maps

/-- an event -/
structure Ev where
  k : Int
  c : Int
  n : Nat
  o : Nat → O3

/-- what the events so far tell -/
structure St where
  m : Nat
  T : Nat → Tx
  nb : Nat
  nw : Nat
  bz : Int → Option Int
  wm : Int → Option Int

/-- whose end an event is -/
def idx (s : St) (e : Ev) : Nat := ((s.bz e.c).getD 0).toNat

/-- what is told behind an event that may be -/
def nextS (s : St) (e : Ev) : St :=
  if e.k = 1 then ⟨s.m + 1, fun i => if i = s.m then ⟨e.c, 0, e.n, e.o⟩ else s.T i, s.nb + 1, s.nw + e.n, fun y => if y = e.c then some (s.m : Int) else s.bz y, wmI e.o s.m s.wm e.n⟩
  else ⟨s.m, fun x => if x = idx s e then endT (s.T (idx s e)) e.k e.n e.o else s.T x, s.nb, s.nw, fun y => if y = e.c then none else s.bz y, s.wm⟩

/-- what is wrong with an event (0: nothing) -/
def ErrOf (s : St) (e : Ev) (er : Int) : Prop :=
  (¬ Snd e.k e.c e.n e.o ∧ er = 20) ∨
  (Snd e.k e.c e.n e.o ∧ (e.k = 1 ↔ (s.bz e.c).isSome = true) ∧ er = 21) ∨
  (Snd e.k e.c e.n e.o ∧ e.k = 1 ∧ s.bz e.c = none ∧ (∃ i, i < e.n ∧ Dup e.o s.m s.wm i) ∧ er = 23) ∨
  (Snd e.k e.c e.n e.o ∧ e.k = 1 ∧ s.bz e.c = none ∧ (∀ i, i < e.n → ¬ Dup e.o s.m s.wm i) ∧ er = 0) ∨
  (Snd e.k e.c e.n e.o ∧ ¬ e.k = 1 ∧ (s.bz e.c).isSome = true ∧
    ((¬ er = 0 ∧ ((e.k = 2 ∧ AnsP (s.T (idx s e)).n e.n (s.T (idx s e)).o e.o er) ∨ (¬ e.k = 2 ∧ 0 < e.n ∧ er = 22))) ∨ (er = 0 ∧ FinP e.k e.n (AnsP (s.T (idx s e)).n e.n (s.T (idx s e)).o e.o 0))))

/-- what always holds of it -/
structure Inv (s : St) (i : Nat) : Prop where
  m : s.m ≤ i
  nb : s.nb ≤ i
  nw : s.nw ≤ 12 * i
  bz : ∀ c x, s.bz c = some x → ∃ j : Nat, x = (j : Int) ∧ j < s.m
  tn : ∀ j, j < s.m → (s.T j).n ≤ 12

set_option maxRecDepth 100000 in
theorem Inv.next {s : St} {i : Nat} (h : Inv s i) {e : Ev} (hs : Snd e.k e.c e.n e.o) : Inv (nextS s e) (i + 1) := by
  have hn : e.n ≤ 12 := hs.2.2.2.2.1
  unfold nextS
  by_cases hk : e.k = 1
  · rw [if_pos hk]
    refine ⟨by have := h.m; simp only; omega, by have := h.nb; simp only; omega, by have := h.nw; simp only; omega, fun c x hx => ?_, fun j hj => ?_⟩
    · simp only at hx
      split at hx
      · injection hx with hx
        exact ⟨s.m, hx.symm, Nat.lt_succ_self _⟩
      · obtain ⟨j, e1, e2⟩ := h.bz c x hx
        exact ⟨j, e1, Nat.lt_succ_of_lt e2⟩
    · simp only at hj ⊢
      split
      · exact hn
      · exact h.tn j (by omega)
  · rw [if_neg hk]
    refine ⟨Nat.le_succ_of_le h.m, Nat.le_succ_of_le h.nb, by have := h.nw; simp only; omega, fun c x hx => ?_, fun j hj => ?_⟩
    · simp only at hx
      split at hx
      · cases hx
      · exact h.bz c x hx
    · simp only at hj ⊢
      split
      · rename_i hji
        unfold endT
        split
        · exact hn
        · split
          · exact h.tn _ (by rw [← hji]; exact hj)
          · exact h.tn _ (by rw [← hji]; exact hj)
      · exact h.tn j hj

end Go.Proofs.Yteobndfkkpfnlaa

namespace Go.Proofs.Yteobndfkkpfnlaa
open Go.ChangeShapes Go.WideShapes Go.ChangeAt Go.RowKit Go.Maps

/-- events in a slice that may be anybody's -/
def EvS (w : World) (a : Option Addr) (len : Nat) (E : Nat → Ev) : Prop :=
  0 < len → ∃ b off, a = some ⟨b, off, none⟩ ∧ b < w.heap.size ∧ ∀ j, j < len → ∃ sp cap, w.cell? ⟨b, off + j * 3, none⟩ = some (.int .i64 (E j).k) ∧ w.cell? ⟨b, off + j * 3 + 1, none⟩ = some (.int .i64 (E j).c) ∧ w.cell? ⟨b, off + j * 3 + 2, none⟩ = some (.slice sp (E j).n cap) ∧ OpS w sp (E j).n (E j).o ∧ (sp = none → (E j).n = 0 ∧ cap = 0) ∧ (E j).n ≤ 9223372036854775807

set_option maxRecDepth 100000 in
theorem EvS.below {w w' : World} {a : Option Addr} {len : Nat} {E : Nat → Ev} (h : EvS w a len E) (hb : Below w.heap.size w w') : EvS w' a len E := by
  intro hl
  obtain ⟨b, off, e, hbl, hc⟩ := h hl
  refine ⟨b, off, e, Nat.lt_of_lt_of_le hbl hb.size, fun j hj => ?_⟩
  obtain ⟨sp, cap, c0, c1, c2, ho, hp, hn⟩ := hc j hj
  exact ⟨sp, cap, (hb.cell hbl).trans c0, (hb.cell hbl).trans c1, (hb.cell hbl).trans c2, ho.below hb, hp, hn⟩

def init : St := ⟨0, fun _ => ⟨0, 0, 0, fun _ => ⟨0, 0, 0⟩⟩, 0, 0, fun _ => none, fun _ => none⟩

/-- what the first i events tell -/
def stateAt (E : Nat → Ev) : Nat → St
  | 0 => init
  | i + 1 => nextS (stateAt E i) (E i)

/-- the first i events make a history -/
def Good (E : Nat → Ev) (i : Nat) : Prop := ∀ j, j < i → ErrOf (stateAt E j) (E j) 0

set_option maxRecDepth 100000 in
theorem err0_snd {s : St} {e : Ev} (h : ErrOf s e 0) : Snd e.k e.c e.n e.o := by
  rcases h with ⟨_, h⟩ | ⟨_, _, h⟩ | ⟨h, _⟩ | ⟨h, _⟩ | ⟨h, _⟩
  · cases h
  · cases h
  · exact h
  · exact h
  · exact h

set_option maxRecDepth 100000 in
theorem inv_at (E : Nat → Ev) (i : Nat) (h : Good E i) : Inv (stateAt E i) i := by
  induction i with
  | zero => exact ⟨Nat.le_refl _, Nat.le_refl _, Nat.le_refl _, fun c x hx => (by cases hx), fun j hj => absurd hj (Nat.not_lt_zero _)⟩
  | succ i ih => exact (ih fun j hj => h j (by omega)).next (err0_snd (h i (by omega)))

end Go.Proofs.Yteobndfkkpfnlaa

namespace Go.Proofs.Yteobndfkkpfnlaa
open Go.ChangeShapes Go.WideShapes Go.ChangeAt Go.RowKit Go.Deep

set_option maxRecDepth 100000 in
theorem cells43 : Try.prog.cellsOf 90 = 3 := by kernel_rfl

set_option maxRecDepth 100000 in
theorem cells38 : Try.prog.cellsOf 44 = 3 := by kernel_rfl

set_option maxRecDepth 100000 in
theorem cellsI : Try.prog.cellsOf 3 = 1 := by kernel_rfl

set_option maxRecDepth 100000 in
theorem cells34 : Try.prog.cellsOf 45 = 1 := by kernel_rfl

section

variable {H : Type} {enc : TypeId × Value → H} {w : World} {base : Nat} {spare : Nat → Bool} {held : Bool}

set_option maxRecDepth 100000 in
theorem op_of {n : Nat} {cs : List Value} {y : DataW H × List MemPlace} {a : Addr} (hc : w.cells? base a 3 = some cs) (h : DataW.trod enc Try.prog w base spare held n 44 cs = some y) :
    ∃ t : O3, w.cell? (a.add 0) = some (.int .i64 t.k) ∧ w.cell? (a.add 1) = some (.int .i64 t.key) ∧ w.cell? (a.add 2) = some (.int .i64 t.v) := by
  obtain ⟨_, hlen, hat⟩ := World.cells?_some hc
  obtain ⟨xs, n', _, _, _, hxl, hf⟩ := DataW.trod_struct Try.underlying44 h
  match cs, hlen with
  | [c0, c1, c2], _ =>
    match xs, hxl with
    | [y0, y1, y2], _ =>
      have g0 := hf 0 _ rfl
      have g1 := hf 1 _ rfl
      have g2 := hf 2 _ rfl
      simp [cellsI] at g0 g1 g2
      obtain ⟨k, e0, _, _⟩ := DataW.trod_int Try.underlying3 g0
      obtain ⟨key, e1, _, _⟩ := DataW.trod_int Try.underlying3 g1
      obtain ⟨v, e2, _, _⟩ := DataW.trod_int Try.underlying3 g2
      simp at e0 e1 e2
      subst e0 e1 e2
      exact ⟨⟨k, key, v⟩, hat 0 (by decide), hat 1 (by decide), hat 2 (by decide)⟩

set_option maxRecDepth 100000 in
theorem ops_of {fuel : Nat} {a : Option Addr} {len cap : Nat} {x : DataW H × List MemPlace} (h : DataW.trod enc Try.prog w base spare held fuel 45 [.slice a len cap] = some x) :
    ∃ o, OpS w a len o ∧ (a = none → len = 0 ∧ cap = 0) ∧ len ≤ 9223372036854775807 := by
  rcases open_slice Try.underlying45 h with ⟨e, _⟩ | ⟨ad, len', cap', m, n, D, Pl, e, _, hl, hm, hmm, _, hi⟩
  · simp at e; obtain ⟨rfl, rfl, rfl⟩ := e
    exact ⟨fun _ => ⟨0, 0, 0⟩, fun h => absurd h (Nat.lt_irrefl 0), fun _ => ⟨rfl, rfl⟩, Nat.zero_le _⟩
  · simp at e; obtain ⟨rfl, rfl, rfl⟩ := e
    rw [cells38] at hi
    have hlm : len ≤ m := by rw [hmm]; split <;> omega
    have hex : ∀ j, ∃ t : O3, j < len → w.cell? ((ad.add (j * 3)).add 0) = some (.int .i64 t.k) ∧ w.cell? ((ad.add (j * 3)).add 1) = some (.int .i64 t.key) ∧ w.cell? ((ad.add (j * 3)).add 2) = some (.int .i64 t.v) := fun j => by
      by_cases hj : j < len
      · obtain ⟨cs, h1, h2⟩ := hi j (by omega)
        obtain ⟨t, ht⟩ := op_of h1 h2
        exact ⟨t, fun _ => ht⟩
      · exact ⟨⟨0, 0, 0⟩, fun h => absurd h hj⟩
    obtain ⟨o, ho⟩ := Classical.skolem.mp hex
    refine ⟨o, fun hpos => ?_, fun h => (by cases h), by unfold maxLen at hm; omega⟩
    obtain ⟨b, off, spot⟩ := ad
    have h0 := (ho 0 hpos).1
    have hspot : spot = none := by simpa [Addr.add] using World.cell?_spot h0
    subst hspot
    refine ⟨b, off, rfl, ?_, fun j hj => ?_⟩
    · have := cell_lt h0; simpa [block_add] using this
    · obtain ⟨h1, h2, h3⟩ := ho j hj
      rw [Go.WideShapes.add_plain, Go.WideShapes.add_plain] at h1 h2 h3
      exact ⟨h1, h2, h3⟩

set_option maxRecDepth 100000 in
theorem ev_of {n : Nat} {cs : List Value} {y : DataW H × List MemPlace} {a : Addr} (hc : w.cells? base a 3 = some cs) (h : DataW.trod enc Try.prog w base spare held n 90 cs = some y) :
    ∃ t : Ev, ∃ sp cap, w.cell? (a.add 0) = some (.int .i64 t.k) ∧ w.cell? (a.add 1) = some (.int .i64 t.c) ∧ w.cell? (a.add 2) = some (.slice sp t.n cap) ∧ OpS w sp t.n t.o ∧ (sp = none → t.n = 0 ∧ cap = 0) ∧ t.n ≤ 9223372036854775807 := by
  obtain ⟨_, hlen, hat⟩ := World.cells?_some hc
  obtain ⟨xs, n', _, _, _, hxl, hf⟩ := DataW.trod_struct Try.underlying90 h
  match cs, hlen with
  | [c0, c1, c2], _ =>
    match xs, hxl with
    | [y0, y1, y2], _ =>
      have g0 := hf 0 _ rfl
      have g1 := hf 1 _ rfl
      have g2 := hf 2 _ rfl
      simp [cellsI, cells34] at g0 g1 g2
      obtain ⟨k, e0, _, _⟩ := DataW.trod_int Try.underlying3 g0
      obtain ⟨c, e1, _, _⟩ := DataW.trod_int Try.underlying3 g1
      simp at e0 e1
      subst e0 e1
      obtain ⟨sp, l, cp, e2⟩ : ∃ sp l cp, c2 = .slice sp l cp := by
        rcases open_slice Try.underlying45 g2 with ⟨e, _⟩ | ⟨ad, len', cap', m, n, D, Pl, e, _⟩
        · simp at e; exact ⟨_, _, _, e⟩
        · simp at e; exact ⟨_, _, _, e⟩
      subst e2
      obtain ⟨o, h1, h2, h3⟩ := ops_of g2
      exact ⟨⟨k, c, l, o⟩, sp, cp, hat 0 (by decide), hat 1 (by decide), hat 2 (by decide), h1, h2, h3⟩

set_option maxRecDepth 100000 in
theorem evs_of {fuel : Nat} {a : Option Addr} {len cap : Nat} {x : DataW H × List MemPlace} (h : DataW.trod enc Try.prog w base spare held fuel 22 [.slice a len cap] = some x) :
    ∃ E, EvS w a len E ∧ (a = none → len = 0 ∧ cap = 0) ∧ len ≤ cap ∧ len ≤ 9223372036854775807 := by
  rcases open_slice Try.underlying22 h with ⟨e, _⟩ | ⟨ad, len', cap', m, n, D, Pl, e, _, hl, hm, hmm, _, hi⟩
  · simp at e; obtain ⟨rfl, rfl, rfl⟩ := e
    exact ⟨fun _ => ⟨0, 0, 0, fun _ => ⟨0, 0, 0⟩⟩, fun h => absurd h (Nat.lt_irrefl 0), fun _ => ⟨rfl, rfl⟩, Nat.le_refl _, Nat.zero_le _⟩
  · simp at e; obtain ⟨rfl, rfl, rfl⟩ := e
    rw [cells43] at hi
    have hlm : len ≤ m := by rw [hmm]; split <;> omega
    have hex : ∀ j, ∃ t : Ev, j < len → ∃ sp cap, w.cell? ((ad.add (j * 3)).add 0) = some (.int .i64 t.k) ∧ w.cell? ((ad.add (j * 3)).add 1) = some (.int .i64 t.c) ∧ w.cell? ((ad.add (j * 3)).add 2) = some (.slice sp t.n cap) ∧ OpS w sp t.n t.o ∧ (sp = none → t.n = 0 ∧ cap = 0) ∧ t.n ≤ 9223372036854775807 := fun j => by
      by_cases hj : j < len
      · obtain ⟨cs, h1, h2⟩ := hi j (by omega)
        obtain ⟨t, ht⟩ := ev_of h1 h2
        exact ⟨t, fun _ => ht⟩
      · exact ⟨⟨0, 0, 0, fun _ => ⟨0, 0, 0⟩⟩, fun h => absurd h hj⟩
    obtain ⟨E, hE⟩ := Classical.skolem.mp hex
    refine ⟨E, fun hpos => ?_, fun h => (by cases h), hl, by unfold maxLen at hm; omega⟩
    obtain ⟨b, off, spot⟩ := ad
    obtain ⟨_, _, h0, _⟩ := hE 0 hpos
    have hspot : spot = none := by simpa [Addr.add] using World.cell?_spot h0
    subst hspot
    refine ⟨b, off, rfl, ?_, fun j hj => ?_⟩
    · have := cell_lt h0; simpa [block_add] using this
    · obtain ⟨sp, cap, h1, h2, h3, h4, h5, h6⟩ := hE j hj
      rw [Go.WideShapes.add_plain, Go.WideShapes.add_plain] at h1 h2 h3
      exact ⟨sp, cap, h1, h2, h3, h4, h5, h6⟩

end

end Go.Proofs.Yteobndfkkpfnlaa

namespace Go.Proofs.Yteobndfkkpfnlaa
open Go.ChangeShapes Go.WideShapes Go.ChangeAt Go.RowKit

set_option maxRecDepth 100000 in
theorem two {p : Nat → Prop} (h0 : p 0) (h1 : p 1) : ∀ i, i < 2 → p i := fun i hi => by
  have : i = 0 ∨ i = 1 := by omega
  rcases this with rfl | rfl
  · exact h0
  · exact h1

end Go.Proofs.Yteobndfkkpfnlaa

namespace Go.Proofs.Yteobndfkkpfnlaa
open Go.ChangeShapes Go.WideShapes Go.ChangeAt Go.RowKit

set_option maxRecDepth 100000 in
theorem str38 : Try.prog.underlying 44 = some (.struct (Try.prog.fieldsOf 44)) := by kernel_rfl

set_option maxRecDepth 100000 in
theorem held38 : Try.prog.stoodInHeld 44 = false := by kernel_rfl

set_option maxRecDepth 100000 in
theorem eqO (k key v k' key' v' : Int) (w : World) : (Op.equalIn 10000 44 (.agg #[.int .i64 k, .int .i64 key, .int .i64 v]) (.agg #[.int .i64 k', .int .i64 key', .int .i64 v'])).run Try.prog w = .ok (k == k' && (key == key' && v == v')) w := by
  refine (run_equalIn_struct (P := Try.prog) w 9999 44 _ _ str38 held38).trans ?_
  have hfs := TypeDesc.struct.inj (Option.some.inj (str38.symm.trans Try.underlying44))
  rw [hfs]
  have e : ∀ (a b : Int) (w : World), (Op.equalIn 9999 3 (.int .i64 a) (.int .i64 b)).run Try.prog w = .ok (a == b) w := fun a b w => run_equalIn_int w 9998 3 .i64 .i64 _ _ Try.underlying3
  have q0 : ∀ (a b c : Int) (w : World), (part 3 #[.int .i64 a, .int .i64 b, .int .i64 c] 0).run Try.prog w = .ok (.int .i64 a) w := fun a b c w => by simp [part, go_sem]
  have q1 : ∀ (a b c : Int) (w : World), (part 3 #[.int .i64 a, .int .i64 b, .int .i64 c] 1).run Try.prog w = .ok (.int .i64 b) w := fun a b c w => by simp [part, go_sem]
  have q2 : ∀ (a b c : Int) (w : World), (part 3 #[.int .i64 a, .int .i64 b, .int .i64 c] 2).run Try.prog w = .ok (.int .i64 c) w := fun a b c w => by simp [part, go_sem]
  by_cases h0 : k = k' <;> by_cases h1 : key = key' <;> by_cases h2 : v = v' <;> simp [Op.eqFields, q0, q1, q2, e, h0, h1, h2]

end Go.Proofs.Yteobndfkkpfnlaa

namespace Go.Proofs.Yteobndfkkpfnlaa
open Go.ChangeShapes Go.WideShapes Go.ChangeAt Go.RowKit

/-- an event's numbers, laid as a transaction's are -/
def asT (e : Ev) : Tx := ⟨e.k, e.c, e.n, e.o⟩

/-- events in a row of our own, their operations in rows of our own -/
structure EvO (w : World) (B : Nat) (v : Value) (len : Nat) (E : Nat → Ev) (V : Nat → Value) : Prop where
  row : w.ownsRow B 90 3 v len (rowT (fun i => asT (E i)) V len)
  ops : ∀ i, i < len → ∃ sp cap, V i = .slice sp (E i).n cap ∧ w.ownsRow B 44 3 (.slice sp (E i).n cap) (E i).n (rowO (E i).o (E i).n) ∧ (sp = none → (E i).n = 0 ∧ cap = 0) ∧ (E i).n ≤ 1000000

set_option maxRecDepth 100000 in
theorem EvO.below {w w' : World} {B len : Nat} {v : Value} {E : Nat → Ev} {V : Nat → Value} (h : EvO w B v len E V) (hb : Below w.heap.size w w') : EvO w' B v len E V := by
  refine ⟨own_keep h.row fun g hg => hb.block g (h.row.lt g hg).2, fun i hi => ?_⟩
  obtain ⟨sp, cap, e, ho, hp, hn⟩ := h.ops i hi
  exact ⟨sp, cap, e, own_keep ho fun g hg => hb.block g (ho.lt g hg).2, hp, hn⟩

set_option maxRecDepth 100000 in
/-- operations appended to none of our own -/
theorem step_append_ops {w : World} {ops : Array Oper} {o : Oper} {a : Act} {K : Act → World → Prop} {Q : Exit → Act → World → Prop} {E : Prop} (hgd : o.guard = none) (s x : Operand)
    (ho : o.op = .call { callee := .builtin .append, args := #[s, x], argTypes := #[45, 45] })
    (base : Nat) (v : Value) (hs : a.eval s = v) (hown : w.ownsRow base 44 3 v 0 [])
    (sp : Option Addr) (m c : Nat) (d : Nat → O3) (hx : a.eval x = .slice sp m c) (hsrc : OpS w sp m d) (hsp : sp = none → m = 0 ∧ c = 0)
    (h63 : m ≤ 1000000) (hbase : base ≤ w.heap.size)
    (h : ∀ v' w', w'.ownsRow base 44 3 v' m (rowO d m) → w.grownBy w' v.ownBlock → K (a.put o.dst v') w') :
    if Region.wanted o (yielded ops a.tmps) = true then Oper.wp Try.prog o a w K Q else E := by
  have hw : Region.wanted o (yielded ops a.tmps) = true := by simp [Region.wanted, hgd]
  rw [if_pos hw]
  obtain ⟨i0, hi, hz0, hz1, hz2⟩ := info_parts info38
  rcases sp with _ | ad
  · obtain ⟨rfl, rfl⟩ := hsp rfl
    have hrun := run_append_owned_none (P := Try.prog) (w := w) base 45 o.type 44 i0 3 Try.underlying45 hi v 0 [] hown
    unfold Oper.wp
    simp [execOp, ho, resolve, invoke, builtin, hs, hx, hrun, Result.andThen]
    exact h v w hown ⟨rfl, rfl, rfl, Nat.le_refl _, fun _ _ _ => rfl⟩
  · refine wp_append_own w s x 45 ho base 44 i0 (.agg #[.int .i64 0, .int .i64 0, .int .i64 0]) 3 24 Try.underlying45 hi hz0 hz1 hz2 rfl (by decide) v 0 [] hs hown ad m c (rowO d m) hx (by rw [rowO_length]) ?_ (rowO_one _ _) (by unfold maxLen; omega) (by omega) hbase ?_
    · intro j u hj
      have hjn : j < m * 3 := by
        rcases Nat.lt_or_ge j (m * 3) with h' | h'
        · exact h'
        · rw [List.getElem?_eq_none (by rw [rowO_length]; exact h')] at hj; cases hj
      obtain ⟨b, off, e', _, _⟩ := hsrc (by omega)
      injection e' with e'
      subst e'
      rw [Go.WideShapes.add_plain]
      exact hsrc.cellAt j u hj
    · intro v' w' h2 h3 _
      rw [Nat.zero_add] at h2
      exact h v' w' h2 h3

set_option maxRecDepth 100000 in
/-- an event is added -/
theorem EvO.added {w w' : World} {B len cap : Nat} {v v' : Value} {E : Nat → Ev} {V : Nat → Value} {sp : Option Addr} (h : EvO w B v len E V)
    (hn : w.ownsRow B 44 3 (.slice sp (E len).n cap) (E len).n (rowO (E len).o (E len).n)) (hsp : sp = none → (E len).n = 0 ∧ cap = 0) (hle : (E len).n ≤ 1000000)
    (ho : w'.ownsRow B 90 3 v' (len + 1) (rowT (fun i => asT (E i)) V len ++ [.int .i64 (E len).k, .int .i64 (E len).c, .slice sp (E len).n cap])) (hg : w.grownBy w' v.ownBlock) :
    EvO w' B v' (len + 1) E (fun i => if i = len then .slice sp (E len).n cap else V i) := by
  have keep : ∀ {n : Nat} {u : Value} {xs : List Value}, w.ownsRow B 44 3 u n xs → w'.ownsRow B 44 3 u n xs := fun {n u xs} ho' => own_keep ho' fun g hg' => by
    obtain ⟨cur, e⟩ := own_cells ho' hg'
    refine hg.block g (ho'.lt g hg').2 (fun e' => ?_)
    obtain ⟨cur', e3⟩ := own_cells h.row e'.symm
    rw [e] at e3
    injection e3 with e3
    injection e3 with _ e3 _
    cases e3
  refine ⟨?_, fun i hi => ?_⟩
  · have e : rowT (fun i => asT (E i)) V len ++ [.int .i64 (E len).k, .int .i64 (E len).c, .slice sp (E len).n cap] = rowT (fun i => asT (E i)) (fun i => if i = len then .slice sp (E len).n cap else V i) (len + 1) := by
      rw [rowT_succ, if_pos rfl]
      congr 1
      exact rowT_congr _ _ _ _ len fun i hi => by rw [if_neg (by omega)]; exact ⟨rfl, rfl, rfl⟩
    rw [← e]; exact ho
  · by_cases hi' : i = len
    · subst hi'
      rw [if_pos rfl]
      exact ⟨sp, cap, rfl, keep hn, hsp, hle⟩
    · rw [if_neg hi']
      obtain ⟨sp1, cap1, e, ho', hp, hn'⟩ := h.ops i (by omega)
      exact ⟨sp1, cap1, e, keep ho', hp, hn'⟩

end Go.Proofs.Yteobndfkkpfnlaa

namespace Go.Proofs.Yteobndfkkpfnlaa
open Go.ChangeShapes Go.WideShapes Go.ChangeAt Go.RowKit

set_option maxRecDepth 100000 in
theorem own_nil' {w : World} {base e size n cap : Nat} {sp : Option Addr} {xs : List Value} (h : w.ownsRow base e size (.slice sp n cap) n xs) : sp = none → n = 0 ∧ cap = 0 := by
  intro hs
  rcases h.2 with ⟨e, _⟩ | ⟨g, cp, cur, e, _⟩
  · injection e with e1 e2 e3; exact ⟨e2, e3⟩
  · injection e with e1 e2 e3; rw [hs] at e1; cases e1

end Go.Proofs.Yteobndfkkpfnlaa

namespace Go.Proofs.Yteobndfkkpfnlaa
open Go.ChangeShapes Go.WideShapes Go.ChangeAt Go.RowKit Go.Maps

/-- a list's elements -/
def lf (l : List O3) : Nat → O3 := fun i => l.getD i ⟨0, 0, 0⟩

set_option maxRecDepth 100000 in
theorem rowO_congr (o o' : Nat → O3) (n : Nat) (h : ∀ i, i < n → o i = o' i) : rowO o n = rowO o' n := by
  induction n with
  | zero => rfl
  | succ n ih => rw [rowO_succ, rowO_succ, ih fun i hi => h i (by omega), h n (by omega)]

set_option maxRecDepth 100000 in
theorem rowO_snoc (l : List O3) (x : O3) : rowO (lf (l ++ [x])) (l ++ [x]).length = rowO (lf l) l.length ++ [.int .i64 x.k, .int .i64 x.key, .int .i64 x.v] := by
  rw [List.length_append, List.length_singleton, rowO_succ]
  have e : lf (l ++ [x]) l.length = x := by unfold lf; simp
  rw [e]
  congr 1
  exact rowO_congr _ _ _ fun i hi => by unfold lf; rw [List.getD_eq_getElem?_getD, List.getD_eq_getElem?_getD, List.getElem?_append_left hi]

/-- what was read of others, of the first i operations -/
def rd (o : Nat → O3) : Nat → List O3
  | 0 => []
  | i + 1 => if (o i).k = 1 ∧ (lastW o i (o i).key).isSome = false then rd o i ++ [o i] else rd o i

set_option maxRecDepth 100000 in
theorem rd_le (o : Nat → O3) (i : Nat) : (rd o i).length ≤ i := by
  induction i with
  | zero => exact Nat.le_refl _
  | succ i ih =>
    unfold rd
    split
    · rw [List.length_append, List.length_singleton]; omega
    · omega

/-- who answers operations, in memory of its own -/
def OpsP (l : List O3) (w : World) (e : Ending) (w' : World) : Prop :=
  ∃ sp cp, e = .returned (.slice sp l.length cp) ∧ w'.ownsRow w.heap.size 44 3 (.slice sp l.length cp) l.length (rowO (lf l) l.length) ∧ Below w.heap.size w w'

set_option maxRecDepth 100000 in
set_option maxHeartbeats 4000000 in
theorem hreads_any (c st : Int) (sp : Option Addr) (n cap : Nat) (o : Nat → O3) (w : World) (hn : n ≤ 1000) (hk : ∀ i, i < n → 0 ≤ (o i).key ∧ (o i).key ≤ 15) (hv : ∀ i, i < n → -9223372036854775808 ≤ (o i).v ∧ (o i).v ≤ 9223372036854775807) (hs : OpS w sp n o) :
    Calls Try.prog 45 #[.agg #[.int .i64 c, .int .i64 st, .slice sp n cap]] w (OpsP (if st = 1 then rd o n else []) w) := by
  obtain ⟨i8, hi8, hx0, hx1, hx2⟩ := info_parts info38
  have HS := Lib.hid hs
  have HK := Lib.hid hk
  have HV := Lib.hid hv
  clear hs hk hv
  by_cases hst : st = 1
  · subst hst
    rw [if_pos rfl]
    have hmm := @run_makeMap Try.prog
    obtain ⟨wi, ewi⟩ : ∃ wi, wi = (w.alloc (.cells #[.int .i64 c, .int .i64 1, .slice sp n cap] 47)).alloc (.map #[] 0) := ⟨_, rfl⟩
    have hM : MapS wi (w.heap.size + 1) 0 (lastW o 0) := by
      have h := MapS.made (w.alloc (.cells #[.int .i64 c, .int .i64 1, .slice sp n cap] 47))
      rw [show (w.alloc (.cells #[.int .i64 c, .int .i64 1, .slice sp n cap] 47)).heap.size = w.heap.size + 1 by simp] at h
      rw [ewi]; exact h
    have hB : Below w.heap.size w wi := by rw [ewi]; exact ((Below.refl _ _).alloc (Nat.le_refl _) _).alloc (by simp) _
    obtain ⟨MB, eMB⟩ : ∃ MB, MB = w.heap.size + 1 := ⟨_, rfl⟩
    rw [← eMB] at hM
    have hMB : w.heap.size ≤ MB := by omega
    have HM := Lib.hid hM
    have HB := Lib.hid hB
    clear hM hB
    go_enter Try.func45, Try.ntmps45
    go_wp2
    rw [← ewi, ← eMB]
    clear ewi eMB hmm
    go_loopw [3, 6, 7, 8, 16] (fun vo _ _ _ x wr => ∃ (t : Nat) (spo : Option Addr) (cpo : Nat), t ≤ n ∧ x = .int .i64 (t : Int) ∧ vo = .slice spo (rd o t).length cpo ∧ Hid (Below w.heap.size w wr ∧ MapS wr MB t (lastW o t) ∧ wr.ownsRow w.heap.size 44 3 (.slice spo (rd o t).length cpo) (rd o t).length (rowO (lf (rd o t)) (rd o t).length))) (fun _ _ _ _ x _ => n - (intOf x).toNat)
    case atStart => exact ⟨0, none, 0, Nat.zero_le _, rfl, rfl, Lib.hid ⟨HB.out, HM.out, World.ownsRow_nil _ _ _ _⟩⟩
    case round =>
      obtain ⟨t, spo, cpo, ht, rfl, rfl, HT⟩ := hrel
      by_cases hlt : t < n
      · obtain ⟨b, off, rfl, hbl, hci⟩ := HS.out (by omega)
        obtain ⟨c0, c1, c2⟩ := hci t hlt
        have x0 := (HT.out.1.cell (p := ⟨b, off + t * 3, none⟩) hbl).trans c0
        have x1 := (HT.out.1.cell (p := ⟨b, off + t * 3 + 1, none⟩) hbl).trans c1
        have x2 := (HT.out.1.cell (p := ⟨b, off + t * 3 + 2, none⟩) hbl).trans c2
        have hlt' : (t : Int) < (n : Int) := by omega
        have hkr := HK.out t hlt
        have hvr := HV.out t hlt
        have HRD : Hid (rd o (t + 1) = if (o t).k = 1 ∧ (lastW o t (o t).key).isSome = false then rd o t ++ [o t] else rd o t) := Lib.hid rfl
        have HLW : Hid (lastW o (t + 1) = fun key => if (o t).k = 2 ∧ key = (o t).key then some (o t).v else lastW o t key) := Lib.hid rfl
        have hrl := rd_le o t
        have HBR := Lib.hid HT.out.1
        have HMR := Lib.hid HT.out.2.1
        have HOR := Lib.hid HT.out.2.2
        clear c0 c1 c2 hci HT
        obtain ⟨l, el⟩ : ∃ l, l = rd o t := ⟨_, rfl⟩
        rw [← el] at HRD HOR hrl ⊢
        obtain ⟨L, eL⟩ : ∃ L, L = lastW o t := ⟨_, rfl⟩
        rw [← eL] at HRD HLW HMR
        clear el eL
        generalize o t = ot at *
        obtain ⟨ok, okey, ov⟩ := ot
        dsimp only at x0 x1 x2 hkr hvr HRD HLW
        have hwx : Below wr.heap.size wr (wr.alloc (.cells #[.int .i64 ok, .int .i64 okey, .int .i64 ov] 44)) := (Below.refl _ _).alloc (Nat.le_refl _) _
        have HBX := Lib.hid (HBR.out.trans (hwx.mono HBR.out.size))
        have HMX := Lib.hid (HMR.out.kept (hwx.block _ HMR.out.lt))
        have HOX := Lib.hid (own_keep HOR.out fun g hg => hwx.block g (HOR.out.lt g hg).2)
        have hnl : l.length < 1001 := by omega
        clear hwx
        by_cases h2 : ok = 2
        · subst h2
          rw [if_neg (fun h => absurd h.1 (by decide))] at HRD
          have HL1 : Hid (lastW o (t + 1) = fun y => if y = okey then some ov else L y) := Lib.hid (by
            rw [HLW.out]; funext y
            by_cases hy : y = okey
            · rw [if_pos ⟨rfl, hy⟩, if_pos hy]
            · rw [if_neg (fun h => hy h.2), if_neg hy])
          go_wp2_with (at_mapUpdate; refine wpList_update_S rfl _ _ _ rfl MB t L rfl HMX.out (by omega) okey ov rfl rfl (by omega) (by omega) ?_)
          intro w5 hm5 hg5
          rw [← HL1.out] at hm5
          have HM5 := Lib.hid hm5
          have HB5 := Lib.hid (HBX.out.grown hg5 HBX.out.size (fun q hq => by injection hq with hq; omega))
          have HO5 : Hid (w5.ownsRow w.heap.size 44 3 (.slice spo l.length cpo) l.length (rowO (lf l) l.length)) := Lib.hid (own_keep HOX.out fun g hg => hg5.block g (HOX.out.lt g hg).2 (fun e => by
            injection e with e
            obtain ⟨cur, e1⟩ := own_cells HOX.out hg
            obtain ⟨es, cl, e2⟩ := HMX.out.isMap
            rw [e, e2] at e1; cases e1))
          clear hm5 hg5
          go_wp2
          go_roundw
          case rel => exact ⟨t + 1, spo, cpo, by omega, by go_num, by rw [HRD.out], Lib.hid ⟨HB5.out, HM5.out, by rw [HRD.out]; exact HO5.out⟩⟩
          case measure => simp [intOf]; omega
        · have h2b : (ok == 2) = false := by rw [beq_eq_false_iff_ne]; exact h2
          have HL1 : Hid (lastW o (t + 1) = L) := Lib.hid (by rw [HLW.out]; funext y; rw [if_neg (fun h => h2 h.1)])
          by_cases h1 : ok = 1
          · subst h1
            have hlook := HMX.out.look okey (by omega)
            cases hLk : L okey with
            | some x =>
              rw [hLk] at hlook HRD
              simp only [Option.getD_some, Option.isSome_some] at hlook
              rw [if_neg (fun h => by cases h.2)] at HRD
              clear hLk
              go_wp2
              go_roundw
              case rel => exact ⟨t + 1, spo, cpo, by omega, by go_num, by rw [HRD.out], Lib.hid ⟨HBX.out, by rw [HL1.out]; exact HMX.out.mono (by omega), by rw [HRD.out]; exact HOX.out⟩⟩
              case measure => simp [intOf]; omega
            | none =>
              rw [hLk] at hlook HRD
              simp only [Option.getD_none, Option.isSome_none] at hlook
              rw [if_pos ⟨rfl, rfl⟩] at HRD
              obtain ⟨wx, ewx⟩ : ∃ wx, wx = wr.alloc (.cells #[.int .i64 1, .int .i64 okey, .int .i64 ov] 44) := ⟨_, rfl⟩
              have HNW : Hid (∀ (W : World) (j : Nat) (u : Value), [Value.int .i64 1, .int .i64 okey, .int .i64 ov][j]? = some u → (W.alloc (.cells #[.int .i64 1, .int .i64 okey, .int .i64 ov] 44)).cell? ((⟨W.heap.size, 0, none⟩ : Addr).add j) = some u) := Lib.hid fun W j u hj => by
                rw [Go.WideShapes.add_plain, cell_of_row _ _ _ _ 44 (0, 0) (heap_alloc_new W _), Nat.zero_add]
                simpa using hj
              have hwy : ∀ W : World, Below W.heap.size W (W.alloc (.cells #[.int .i64 1, .int .i64 okey, .int .i64 ov] 44)) := fun W => (Below.refl _ _).alloc (Nat.le_refl _) _
              have HWY := Lib.hid hwy
              have HOY := Lib.hid (own_keep HOX.out fun g hg => (hwy _).block g (HOX.out.lt g hg).2)
              clear hLk hwy
              go_wp2_with (at_builtin; refine wpList_append_lies _ rfl _ _ 45 rfl w.heap.size 44 i8 (.agg #[.int .i64 0, .int .i64 0, .int .i64 0]) 3 24 Try.underlying45 hi8 hx0 hx1 hx2 rfl (by decide) _ l.length (rowO (lf l) l.length) rfl HOY.out ⟨(wr.alloc (.cells #[.int .i64 1, .int .i64 okey, .int .i64 ov] 44)).heap.size, 0, none⟩ 1 1 [.int .i64 1, .int .i64 okey, .int .i64 ov] (by simp [Act.eval]) rfl (HNW.out _) (by intro u hu; simp at hu; rcases hu with rfl | rfl | rfl <;> rfl) (by omega) (by unfold maxLen; omega) (by omega) (Nat.le_trans HBX.out.size (by simp)) _ rfl ?_)
              intro g7 c7 w7 ho7 hg7 hat7 hl7
              have HB7 := Lib.hid ((HBX.out.trans ((HWY.out _).mono HBX.out.size)).grown hg7 (Nat.le_trans HBX.out.size (by simp)) (fun q hq => (HOX.out.lt q hq).1))
              have HM7 : Hid (MapS w7 MB t L) := Lib.hid ((HMX.out.kept ((HWY.out _).block _ HMX.out.lt)).kept (hg7.block _ (Nat.lt_of_lt_of_le HMX.out.lt (by simp)) (fun e => by
                obtain ⟨cur, e1⟩ := own_cells HOX.out e.symm
                obtain ⟨es, cl, e2⟩ := HMX.out.isMap
                rw [e2] at e1; cases e1)))
              have HO7 : Hid (w7.ownsRow w.heap.size 44 3 (.slice (some ⟨g7, 0, none⟩) (rd o (t + 1)).length c7) (rd o (t + 1)).length (rowO (lf (rd o (t + 1))) (rd o (t + 1)).length)) := Lib.hid (by
                rw [HRD.out, rowO_snoc, List.length_append, List.length_singleton]; exact ho7)
              have HLN : Hid ((rd o (t + 1)).length = l.length + 1) := Lib.hid (by rw [HRD.out, List.length_append, List.length_singleton])
              clear ho7 hg7 hat7
              go_wp2
              go_roundw
              case rel => exact ⟨t + 1, some ⟨g7, 0, none⟩, c7, by omega, by go_num, by rw [HLN.out], Lib.hid ⟨HB7.out, by rw [HL1.out]; exact HM7.out.mono (by omega), HO7.out⟩⟩
              case measure => simp [intOf]; omega
          · have h1b : (ok == 1) = false := by rw [beq_eq_false_iff_ne]; exact h1
            rw [if_neg (fun h => h1 h.1)] at HRD
            clear h1 h2
            go_wp2
            go_roundw
            case rel => exact ⟨t + 1, spo, cpo, by omega, by go_num, by rw [HRD.out], Lib.hid ⟨HBX.out, by rw [HL1.out]; exact HMX.out.mono (by omega), by rw [HRD.out]; exact HOX.out⟩⟩
            case measure => simp [intOf]; omega
      · obtain rfl : n = t := by omega
        go_wp2
        go_ret
        exact ⟨spo, cpo, rfl, HT.out.2.2, HT.out.1⟩
  · have hsb : (st != 1) = true := by rw [bne_iff_ne]; exact hst
    rw [if_neg hst]
    clear hst
    go_enter Try.func45, Try.ntmps45
    go_wp2
    go_ret
    exact ⟨none, 0, rfl, World.ownsRow_nil _ _ _ _, (Below.refl _ _).alloc (Nat.le_refl _) _⟩

end Go.Proofs.Yteobndfkkpfnlaa

namespace Go.Proofs.Yteobndfkkpfnlaa
open Go.ChangeShapes Go.WideShapes Go.ChangeAt Go.RowKit

def rdS (st : Int) (o : Nat → O3) (t : Nat) : List O3 := if st = 1 then rd o t else []

set_option maxRecDepth 100000 in
theorem rdS_one (o : Nat → O3) (t : Nat) : rdS 1 o t = rd o t := if_pos rfl

set_option maxRecDepth 100000 in
theorem rdS_ne {st : Int} (h : ¬ st = 1) (o : Nat → O3) (t : Nat) : rdS st o t = [] := if_neg h

set_option maxRecDepth 100000 in
set_option maxHeartbeats 4000000 in
theorem rreads_any (c st : Int) (sp : Option Addr) (n cap : Nat) (o : Nat → O3) (w : World) (hn : n ≤ 1000) (hk : ∀ i, i < n → (o i).k = 1 ∨ (o i).k = 2) (hs : OpS w sp n o) :
    Calls Try.prog 47 #[.agg #[.int .i64 c, .int .i64 st, .slice sp n cap]] w (OpsP (rdS st o n) w) := by
  obtain ⟨i8, hi8, hx0, hx1, hx2⟩ := info_parts info38
  have HS := Lib.hid hs
  have HK := Lib.hid hk
  clear hs hk
  obtain ⟨wi, ewi⟩ : ∃ wi, wi = (w.alloc (.cells #[.int .i64 c, .int .i64 st, .slice sp n cap] 47)).alloc (.cells #[] 44) := ⟨_, rfl⟩
  have hX : wi.heap[w.heap.size]? = some (.cells #[.int .i64 c, .int .i64 st, .slice sp n cap] 47 (0, 0)) := by
    rw [ewi, heap_alloc_old _ _ (by simp)]; exact heap_alloc_new w _
  have hXl : w.heap.size < wi.heap.size := by rw [ewi]; simp; omega
  have hO : wi.ownsRow w.heap.size 44 3 (.slice (some ⟨w.heap.size + 1, 0, none⟩) 0 0) 0 [] := by
    have h := World.ownsRow_lit (base := w.heap.size) (e := 44) (size := 3) (w.alloc (.cells #[.int .i64 c, .int .i64 st, .slice sp n cap] 47)) #[] 0 (by simp) (Nat.zero_le _) rfl
    rw [show (w.alloc (.cells #[.int .i64 c, .int .i64 st, .slice sp n cap] 47)).heap.size = w.heap.size + 1 by simp] at h
    rw [ewi]; exact h
  have hOg : (w.heap.size : Nat) ≠ w.heap.size + 1 := by omega
  have hB : Below w.heap.size w wi := by rw [ewi]; exact ((Below.refl _ _).alloc (Nat.le_refl _) _).alloc (by simp) _
  obtain ⟨X, eX⟩ : ∃ X, X = w.heap.size := ⟨_, rfl⟩
  rw [← eX] at hX hXl
  have HX := Lib.hid hX
  have HO := Lib.hid hO
  have HB := Lib.hid hB
  have HE0 : Hid (rdS st o 0 = []) := Lib.hid (by unfold rdS; split <;> rfl)
  clear hX hO hB hOg
  go_enter Try.func47, Try.ntmps47
  go_wp2
  rw [← ewi, ← eX]
  have HEX := Lib.hid eX
  clear ewi eX
  go_loopw [3, 4, 5, 6, 7, 12] (fun vo _ _ _ _ x wr => ∃ (t nl : Nat) (spo : Option Addr) (cpo : Nat), t ≤ n ∧ nl ≤ t ∧ x = .int .i64 (t : Int) ∧ vo = .slice spo nl cpo ∧ Hid (nl = (rdS st o t).length ∧ Below w.heap.size w wr ∧ wr.heap[X]? = some (.cells #[.int .i64 c, .int .i64 st, .slice sp n cap] 47 (0, 0)) ∧ wr.ownsRow w.heap.size 44 3 (.slice spo nl cpo) nl (rowO (lf (rdS st o t)) nl))) (fun _ _ _ _ _ x _ => n - (intOf x).toNat)
  case atStart => exact ⟨0, 0, _, _, Nat.zero_le _, Nat.le_refl _, rfl, by rw [HEX.out], Lib.hid ⟨by rw [HE0.out]; rfl, HB.out, HX.out, HO.out⟩⟩
  case round =>
    obtain ⟨t, nl, spo, cpo, ht, hnl, rfl, rfl, HT⟩ := hrel
    by_cases hlt : t < n
    · obtain ⟨b, off, rfl, hbl, hci⟩ := HS.out (by omega)
      obtain ⟨c0, c1, c2⟩ := hci t hlt
      have HCI := Lib.hid hci
      have x0 := (HT.out.2.1.cell (p := ⟨b, off + t * 3, none⟩) hbl).trans c0
      have x1 := (HT.out.2.1.cell (p := ⟨b, off + t * 3 + 1, none⟩) hbl).trans c1
      have x2 := (HT.out.2.1.cell (p := ⟨b, off + t * 3 + 2, none⟩) hbl).trans c2
      have hlt' : (t : Int) < (n : Int) := by omega
      have hkr := HK.out t hlt
      have HRD : Hid (rd o (t + 1) = if (o t).k = 1 ∧ (lastW o t (o t).key).isSome = false then rd o t ++ [o t] else rd o t) := Lib.hid rfl
      have HBR := Lib.hid HT.out.2.1
      have HXR := Lib.hid HT.out.2.2.1
      have HOR := Lib.hid HT.out.2.2.2
      have HNL := Lib.hid HT.out.1
      clear c0 c1 c2 hci HT
      obtain ⟨ok, eok⟩ : ∃ z, z = (o t).k := ⟨_, rfl⟩
      obtain ⟨okey, eokey⟩ : ∃ z, z = (o t).key := ⟨_, rfl⟩
      obtain ⟨ov, eov⟩ : ∃ z, z = (o t).v := ⟨_, rfl⟩
      rw [← eok] at x0 hkr HRD
      rw [← eokey] at x1 HRD
      rw [← eov] at x2
      have HOT : Hid (o t = ⟨ok, okey, ov⟩) := Lib.hid (by rw [eok, eokey, eov])
      clear eok eokey eov
      obtain ⟨wz, ewz⟩ : ∃ wz, wz = wr.alloc (.cells #[.int .i64 ok, .int .i64 okey, .int .i64 ov] 44) := ⟨_, rfl⟩
      have hwx : Below wr.heap.size wr wz := by rw [ewz]; exact (Below.refl _ _).alloc (Nat.le_refl _) _
      have hZ : wz.heap[wr.heap.size]? = some (.cells #[.int .i64 ok, .int .i64 okey, .int .i64 ov] 44 (0, 0)) := by rw [ewz]; exact heap_alloc_new wr _
      have hZl : wr.heap.size < wz.heap.size := by rw [ewz]; simp
      have hXr : X < wr.heap.size := by
        rcases Nat.lt_or_ge X wr.heap.size with h' | h'
        · exact h'
        · have h := HXR.out; rw [Array.getElem?_eq_none h'] at h; cases h
      have HBZ := Lib.hid (HBR.out.trans (hwx.mono HBR.out.size))
      have HXZ := Lib.hid ((hwx.block _ hXr).trans HXR.out)
      have HOZ := Lib.hid (own_keep HOR.out fun g hg => hwx.block g (HOR.out.lt g hg).2)
      have HOG : Hid (∀ g, (Value.slice spo nl cpo).ownBlock = some g → g < wr.heap.size) := Lib.hid fun g hg => (HOR.out.lt g hg).2
      obtain ⟨Z, eZ⟩ : ∃ Z, Z = wr.heap.size := ⟨_, rfl⟩
      rw [← eZ] at hZ hZl HOG
      have hXZ : X < wz.heap.size := by omega
      have HZ := Lib.hid hZ
      clear hZ hwx
      go_wp2
      rw [← ewz, ← eZ]
      clear ewz eZ x0 x1 x2
      go_loopw [6, 7] (fun mv uv ws => ∃ (u : Nat) (mb : Bool), u ≤ t ∧ uv = .int .i64 (u : Int) ∧ mv = .bool mb ∧ Hid (Below wz.heap.size wz ws ∧ mb = (lastW o u okey).isSome)) (fun _ uv _ => t - (intOf uv).toNat)
      case atStart => exact ⟨0, false, Nat.zero_le _, rfl, rfl, Lib.hid ⟨Below.refl _ _, rfl⟩⟩
      case round =>
        obtain ⟨u, mb, hu, rfl, rfl, HU⟩ := hrel
        obtain ⟨⟨q0, q1, q2⟩, _⟩ := cells3 ((HU.out.1.block _ hXZ).trans HXZ.out)
        obtain ⟨⟨z0, z1, z2⟩, _⟩ := cells3 ((HU.out.1.block _ hZl).trans HZ.out)
        by_cases hul : u < t
        · obtain ⟨d0, d1, d2⟩ := HCI.out u (by omega)
          have hBU := HBZ.out.trans (HU.out.1.mono HBZ.out.size)
          have y0 := (hBU.cell (p := ⟨b, off + u * 3, none⟩) hbl).trans d0
          have y1 := (hBU.cell (p := ⟨b, off + u * 3 + 1, none⟩) hbl).trans d1
          have hul' : (u : Int) < (t : Int) := by omega
          have hun : (u : Int) < (n : Int) := by omega
          have HLW : Hid (lastW o (u + 1) okey = if (o u).k = 2 ∧ okey = (o u).key then some (o u).v else lastW o u okey) := Lib.hid rfl
          have HMB := Lib.hid HU.out.2
          clear d0 d1 d2 hBU
          generalize (o u).k = uk at *
          generalize (o u).key = ukey at *
          cases mb
          · by_cases h2 : uk = 2
            · subst h2
              by_cases hy : ukey = okey
              · subst hy
                rw [if_pos ⟨rfl, rfl⟩] at HLW
                have hyb : (ukey == ukey) = true := by simp
                go_wp2
                go_quiet (fail)
                go_wp2
                go_roundw
                case rel => exact ⟨u + 1, true, by omega, by go_num, rfl, Lib.hid ⟨below_drewN HU.out.1 _, by rw [HLW.out]; rfl⟩⟩
                case measure => simp [intOf]; omega
              · rw [if_neg (fun h => hy h.2.symm)] at HLW
                have hyb : (ukey == okey) = false := by rw [beq_eq_false_iff_ne]; exact hy
                clear hy
                go_wp2
                go_quiet (fail)
                go_wp2
                go_roundw
                case rel => exact ⟨u + 1, false, by omega, by go_num, rfl, Lib.hid ⟨below_drewN HU.out.1 _, by rw [HLW.out]; exact HMB.out⟩⟩
                case measure => simp [intOf]; omega
            · rw [if_neg (fun h => h2 h.1)] at HLW
              have h2b : (uk == 2) = false := by rw [beq_eq_false_iff_ne]; exact h2
              clear h2
              go_wp2
              go_quiet (fail)
              go_wp2
              go_roundw
              case rel => exact ⟨u + 1, false, by omega, by go_num, rfl, Lib.hid ⟨below_drewN HU.out.1 _, by rw [HLW.out]; exact HMB.out⟩⟩
              case measure => simp [intOf]; omega
          · go_wp2
            go_quiet (fail)
            go_wp2
            go_roundw
            case rel => exact ⟨u + 1, true, by omega, by go_num, rfl, Lib.hid ⟨below_drewN HU.out.1 _, by rw [HLW.out]; split; rfl; exact HMB.out⟩⟩
            case measure => simp [intOf]; omega
        · obtain rfl : u = t := by omega
          have hBU := HBZ.out.trans (HU.out.1.mono HBZ.out.size)
          have HBU := Lib.hid hBU
          have HMB := Lib.hid HU.out.2
          have HXU := Lib.hid ((HU.out.1.block _ hXZ).trans HXZ.out)
          have HOU := Lib.hid (own_keep HOZ.out fun g hg => HU.out.1.block g (HOZ.out.lt g hg).2)
          have HWU := Lib.hid HU.out.1
          have hXu : X < wr.heap.size := Nat.lt_of_lt_of_le hXZ HU.out.1.size
          clear hBU HU
          by_cases hall : st = 1 ∧ ok = 1 ∧ mb = false
          · obtain ⟨rfl, rfl, rfl⟩ := hall
            rw [if_pos ⟨rfl, HMB.out.symm⟩] at HRD
            have HNW : Hid (∀ (W : World) (j : Nat) (u : Value), [Value.int .i64 1, .int .i64 okey, .int .i64 ov][j]? = some u → (W.alloc (.cells #[.int .i64 1, .int .i64 okey, .int .i64 ov] 44)).cell? ((⟨W.heap.size, 0, none⟩ : Addr).add j) = some u) := Lib.hid fun W j u hj => by
              rw [Go.WideShapes.add_plain, cell_of_row _ _ _ _ 44 (0, 0) (heap_alloc_new W _), Nat.zero_add]
              simpa using hj
            have hwy : Below wr.heap.size wr (wr.alloc (.cells #[.int .i64 1, .int .i64 okey, .int .i64 ov] 44)) := (Below.refl _ _).alloc (Nat.le_refl _) _
            have HWY := Lib.hid hwy
            have HOY := Lib.hid (own_keep HOU.out fun g hg => hwy.block g (HOU.out.lt g hg).2)
            clear hwy
            go_wp2_with (at_builtin; refine wpList_append_lies _ rfl _ _ 45 rfl w.heap.size 44 i8 (.agg #[.int .i64 0, .int .i64 0, .int .i64 0]) 3 24 Try.underlying45 hi8 hx0 hx1 hx2 rfl (by decide) _ nl _ rfl HOY.out ⟨wr.heap.size, 0, none⟩ 1 1 [.int .i64 1, .int .i64 okey, .int .i64 ov] rfl rfl (HNW.out _) (by intro u hu; simp at hu; rcases hu with rfl | rfl | rfl <;> rfl) (by omega) (by unfold maxLen; omega) (by omega) (Nat.le_trans HBU.out.size (by simp)) _ rfl ?_)
            intro g7 c7 w7 ho7 hg7 hat7 hl7
            have HB7 := Lib.hid ((HBU.out.trans (HWY.out.mono HBU.out.size)).grown hg7 (Nat.le_trans HBU.out.size (by simp)) (fun q hq => (HOU.out.lt q hq).1))
            have HX7 : Hid (w7.heap[X]? = some (.cells #[.int .i64 c, .int .i64 1, .slice (some ⟨b, off, none⟩) n cap] 47 (0, 0))) := Lib.hid ((hg7.block _ (Nat.lt_of_lt_of_le hXu (by simp)) (fun e => by
              obtain ⟨cur, e1⟩ := own_cells HOU.out e.symm
              rw [HXU.out] at e1
              injection e1 with e1
              injection e1 with _ e1 _
              cases e1)).trans ((HWY.out.block _ hXu).trans HXU.out))
            have HLN : Hid (nl + 1 = (rdS 1 o (u + 1)).length) := Lib.hid (by rw [rdS_one, HRD.out, List.length_append, List.length_singleton]; have h := HNL.out; rw [rdS_one] at h; omega)
            have HO7 : Hid (w7.ownsRow w.heap.size 44 3 (.slice (some ⟨g7, 0, none⟩) (nl + 1) c7) (nl + 1) (rowO (lf (rdS 1 o (u + 1))) (nl + 1))) := Lib.hid (by
              have e := HNL.out
              rw [rdS_one] at e
              have h := rowO_snoc (rd o u) ⟨1, okey, ov⟩
              rw [List.length_append, List.length_singleton, ← e] at h
              rw [rdS_one, HRD.out, HOT.out, h]
              have h' := ho7
              rw [rdS_one] at h'
              exact h')
            clear ho7 hg7 hat7
            go_wp2
            go_roundw
            case rel => exact ⟨u + 1, nl + 1, some ⟨g7, 0, none⟩, c7, by omega, by omega, by go_num, rfl, Lib.hid ⟨HLN.out, HB7.out, HX7.out, HO7.out⟩⟩
            case measure => simp [intOf]; omega
          · have HSM : Hid (rdS st o (u + 1) = rdS st o u) := Lib.hid (by
              by_cases hst : st = 1
              · rw [hst, rdS_one, rdS_one, HRD.out, if_neg (fun h => hall ⟨hst, h.1, HMB.out.trans h.2⟩)]
              · rw [rdS_ne hst, rdS_ne hst])
            have hcs : (st == 1) = false ∨ ((st == 1) = true ∧ (ok != 2) = false) ∨ ((st == 1) = true ∧ (ok != 2) = true ∧ mb = true) := by
              by_cases hst : st = 1
              · right
                rcases hkr with h | h
                · right
                  refine ⟨by rw [beq_iff_eq]; exact hst, by rw [bne_iff_ne]; omega, ?_⟩
                  cases mb
                  · exact absurd ⟨hst, h, rfl⟩ hall
                  · rfl
                · left
                  exact ⟨by rw [beq_iff_eq]; exact hst, by rw [h]; rfl⟩
              · left; rw [beq_eq_false_iff_ne]; exact hst
            clear hall hkr
            rcases hcs with hc1 | ⟨hc1, hc2⟩ | ⟨hc1, hc2, rfl⟩
            all_goals
              go_wp2
              go_roundw
              case rel => exact ⟨u + 1, nl, spo, cpo, by omega, by omega, by go_num, rfl, Lib.hid ⟨by rw [HSM.out]; exact HNL.out, HBU.out, HXU.out, by rw [HSM.out]; exact HOU.out⟩⟩
              case measure => simp [intOf]; omega
    · obtain rfl : n = t := by omega
      go_wp2
      go_ret
      obtain ⟨e1, e2, _, e3⟩ := HT.out
      subst e1
      exact ⟨spo, cpo, rfl, e3, e2⟩

end Go.Proofs.Yteobndfkkpfnlaa

namespace Go.Proofs.Yteobndfkkpfnlaa
open Go.ChangeShapes Go.WideShapes Go.ChangeAt Go.RowKit

/-- the last write of a key among the first i operations -/
def lastIx (o : Nat → O3) (key : Int) : Nat → Option Nat
  | 0 => none
  | i + 1 => if (o i).k = 2 ∧ (o i).key = key then some i else lastIx o key i

def ixI (o : Nat → O3) (key : Int) (i : Nat) : Int := match lastIx o key i with
  | some j => (j : Int)
  | none => -1

set_option maxRecDepth 100000 in
theorem lastIx_lt {o : Nat → O3} {key : Int} : ∀ {i j : Nat}, lastIx o key i = some j → j < i ∧ (o j).k = 2 ∧ (o j).key = key := by
  intro i
  induction i with
  | zero => intro j h; cases h
  | succ i ih =>
    intro j h
    unfold lastIx at h
    split at h
    · rename_i hc
      injection h with h
      subst h
      exact ⟨Nat.lt_succ_self _, hc⟩
    · have := ih h
      exact ⟨by omega, this.2⟩

/-- the last writes of the first k keys -/
def wrl (o : Nat → O3) (n : Nat) : Nat → List O3
  | 0 => []
  | k + 1 => match lastIx o (k : Int) n with
    | some i => wrl o n k ++ [o i]
    | none => wrl o n k

set_option maxRecDepth 100000 in
theorem wrl_le (o : Nat → O3) (n k : Nat) : (wrl o n k).length ≤ k := by
  induction k with
  | zero => exact Nat.le_refl _
  | succ k ih =>
    unfold wrl
    split
    · rw [List.length_append, List.length_singleton]; omega
    · omega

set_option maxRecDepth 100000 in
set_option maxHeartbeats 4000000 in
theorem rwrites_any (c st : Int) (sp : Option Addr) (n cap : Nat) (o : Nat → O3) (w : World) (hn : n ≤ 1000) (hs : OpS w sp n o) :
    Calls Try.prog 52 #[.agg #[.int .i64 c, .int .i64 st, .slice sp n cap]] w (OpsP (wrl o n 16) w) := by
  obtain ⟨i8, hi8, hx0, hx1, hx2⟩ := info_parts info38
  have HS := Lib.hid hs
  clear hs
  obtain ⟨wi, ewi⟩ : ∃ wi, wi = (w.alloc (.cells #[.int .i64 c, .int .i64 st, .slice sp n cap] 47)).alloc (.cells #[] 44) := ⟨_, rfl⟩
  have hX : wi.heap[w.heap.size]? = some (.cells #[.int .i64 c, .int .i64 st, .slice sp n cap] 47 (0, 0)) := by
    rw [ewi, heap_alloc_old _ _ (by simp)]; exact heap_alloc_new w _
  have hO : wi.ownsRow w.heap.size 44 3 (.slice (some ⟨w.heap.size + 1, 0, none⟩) 0 0) 0 [] := by
    have h := World.ownsRow_lit (base := w.heap.size) (e := 44) (size := 3) (w.alloc (.cells #[.int .i64 c, .int .i64 st, .slice sp n cap] 47)) #[] 0 (by simp) (Nat.zero_le _) rfl
    rw [show (w.alloc (.cells #[.int .i64 c, .int .i64 st, .slice sp n cap] 47)).heap.size = w.heap.size + 1 by simp] at h
    rw [ewi]; exact h
  have hB : Below w.heap.size w wi := by rw [ewi]; exact ((Below.refl _ _).alloc (Nat.le_refl _) _).alloc (by simp) _
  obtain ⟨X, eX⟩ : ∃ X, X = w.heap.size := ⟨_, rfl⟩
  rw [← eX] at hX
  have HX := Lib.hid hX
  have HO := Lib.hid hO
  have HB := Lib.hid hB
  clear hX hO hB
  go_enter Try.func52, Try.ntmps52
  go_wp2
  rw [← ewi, ← eX]
  have HEX := Lib.hid eX
  clear ewi eX
  go_loopw [3, 4, 5, 6, 7] (fun vo kv _ _ _ wr => ∃ (kk nl : Nat) (spo : Option Addr) (cpo : Nat), kk ≤ 16 ∧ nl ≤ kk ∧ kv = .int .i64 (kk : Int) ∧ vo = .slice spo nl cpo ∧ Hid (nl = (wrl o n kk).length ∧ Below w.heap.size w wr ∧ wr.heap[X]? = some (.cells #[.int .i64 c, .int .i64 st, .slice sp n cap] 47 (0, 0)) ∧ wr.ownsRow w.heap.size 44 3 (.slice spo nl cpo) nl (rowO (lf (wrl o n kk)) nl))) (fun _ kv _ _ _ _ => 16 - (intOf kv).toNat)
  case atStart => exact ⟨0, 0, _, _, by omega, Nat.le_refl _, rfl, by rw [HEX.out], Lib.hid ⟨rfl, HB.out, HX.out, HO.out⟩⟩
  case round =>
    obtain ⟨kk, nl, spo, cpo, hkk, hnl, rfl, rfl, HT⟩ := hrel
    by_cases hlt : kk < 16
    · have hlt' : (kk : Int) < 16 := by omega
      have HBR := Lib.hid HT.out.2.1
      have HXR := Lib.hid HT.out.2.2.1
      have HOR := Lib.hid HT.out.2.2.2
      have HNL := Lib.hid HT.out.1
      have HWL : Hid (wrl o n (kk + 1) = match lastIx o (kk : Int) n with | some i => wrl o n kk ++ [o i] | none => wrl o n kk) := Lib.hid rfl
      have hXr : X < wr.heap.size := by
        rcases Nat.lt_or_ge X wr.heap.size with h' | h'
        · exact h'
        · have h := HXR.out; rw [Array.getElem?_eq_none h'] at h; cases h
      obtain ⟨⟨q0, q1, q2⟩, _⟩ := cells3 HXR.out
      obtain ⟨wz, ewz⟩ : ∃ wz, wz = wr := ⟨_, rfl⟩
      subst ewz
      clear HT
      go_wp2
      clear q0 q1 q2
      go_loopw [5, 6, 7, 16] (fun av _ _ uv ws => ∃ u : Nat, u ≤ n ∧ uv = .int .i64 (u : Int) ∧ av = .int .i64 (ixI o (kk : Int) u) ∧ Hid (Below wz.heap.size wz ws)) (fun _ _ _ uv _ => n - (intOf uv).toNat)
      case atStart => exact ⟨0, Nat.zero_le _, rfl, rfl, Lib.hid (Below.refl _ _)⟩
      case round =>
        obtain ⟨u, hu, rfl, rfl, HU⟩ := hrel
        by_cases hul : u < n
        · obtain ⟨b, off, rfl, hbl, hci⟩ := HS.out (by omega)
          obtain ⟨d0, d1, d2⟩ := hci u hul
          have hBU := HBR.out.trans (HU.out.mono HBR.out.size)
          have y0 := (hBU.cell (p := ⟨b, off + u * 3, none⟩) hbl).trans d0
          have y1 := (hBU.cell (p := ⟨b, off + u * 3 + 1, none⟩) hbl).trans d1
          have y2 := (hBU.cell (p := ⟨b, off + u * 3 + 2, none⟩) hbl).trans d2
          have hul' : (u : Int) < (n : Int) := by omega
          have HIX : Hid (ixI o (kk : Int) (u + 1) = if (o u).k = 2 ∧ (o u).key = (kk : Int) then (u : Int) else ixI o (kk : Int) u) := Lib.hid (by
            by_cases h : (o u).k = 2 ∧ (o u).key = (kk : Int)
            · rw [if_pos h]; unfold ixI lastIx; rw [if_pos h]
            · rw [if_neg h]; unfold ixI; rw [show lastIx o (kk : Int) (u + 1) = lastIx o (kk : Int) u from if_neg h])
          have HAL : Hid (∀ ob, Below wz.heap.size wz (wr.alloc ob)) := Lib.hid fun ob => HU.out.alloc HU.out.size _
          clear d0 d1 d2 hci hBU
          generalize ixI o (kk : Int) u = ix at *
          generalize (o u).k = uk at *
          generalize (o u).key = ukey at *
          generalize (o u).v = uv at *
          by_cases h2 : uk = 2
          · subst h2
            by_cases hy : ukey = (kk : Int)
            · rw [if_pos ⟨rfl, hy⟩] at HIX
              have hyb : (ukey == (kk : Int)) = true := by rw [beq_iff_eq]; exact hy
              subst hy
              go_wp2
              go_roundw
              case rel => exact ⟨u + 1, by omega, by go_num, val_int HIX.out.symm, Lib.hid (HAL.out _)⟩
              case measure => simp [intOf]; omega
            · rw [if_neg (fun h => hy h.2)] at HIX
              have hyb : (ukey == (kk : Int)) = false := by rw [beq_eq_false_iff_ne]; exact hy
              clear hy
              go_wp2
              go_roundw
              case rel => exact ⟨u + 1, by omega, by go_num, val_int HIX.out.symm, Lib.hid (HAL.out _)⟩
              case measure => simp [intOf]; omega
          · rw [if_neg (fun h => h2 h.1)] at HIX
            have h2b : (uk == 2) = false := by rw [beq_eq_false_iff_ne]; exact h2
            clear h2
            go_wp2
            go_roundw
            case rel => exact ⟨u + 1, by omega, by go_num, val_int HIX.out.symm, Lib.hid (HAL.out _)⟩
            case measure => simp [intOf]; omega
        · obtain rfl : u = n := by omega
          have HBU := Lib.hid (HBR.out.trans (HU.out.mono HBR.out.size))
          have HXU := Lib.hid ((HU.out.block _ hXr).trans HXR.out)
          have HOU := Lib.hid (own_keep HOR.out fun g hg => HU.out.block g (HOR.out.lt g hg).2)
          have hXu : X < wr.heap.size := Nat.lt_of_lt_of_le hXr HU.out.size
          obtain ⟨⟨q0, q1, q2⟩, _⟩ := cells3 HXU.out
          clear HU
          cases hli : lastIx o (kk : Int) u with
          | none =>
            rw [hli] at HWL
            have hix : ixI o (kk : Int) u = -1 := by unfold ixI; rw [hli]
            rw [hix]
            clear hix hli
            go_wp2
            go_roundw
            case rel => exact ⟨kk + 1, nl, spo, cpo, by omega, by omega, by go_num, rfl, Lib.hid ⟨by rw [HWL.out]; exact HNL.out, HBU.out, HXU.out, by rw [HWL.out]; exact HOU.out⟩⟩
            case measure => simp [intOf]; omega
          | some i =>
            rw [hli] at HWL
            dsimp only at HWL
            have hix : ixI o (kk : Int) u = (i : Int) := by unfold ixI; rw [hli]
            rw [hix]
            have hiu := (lastIx_lt hli).1
            obtain ⟨b, off, rfl, hbl, hci⟩ := HS.out (by omega)
            obtain ⟨d0, d1, d2⟩ := hci i hiu
            have y0 := (HBU.out.cell (p := ⟨b, off + i * 3, none⟩) hbl).trans d0
            have y1 := (HBU.out.cell (p := ⟨b, off + i * 3 + 1, none⟩) hbl).trans d1
            have y2 := (HBU.out.cell (p := ⟨b, off + i * 3 + 2, none⟩) hbl).trans d2
            have hiu' : (i : Int) < (u : Int) := by omega
            clear hix hli d0 d1 d2 hci
            generalize o i = oi at *
            obtain ⟨ok, okey, ov⟩ := oi
            dsimp only at y0 y1 y2 HWL
            have HNW : Hid (∀ (W : World) (j : Nat) (u : Value), [Value.int .i64 ok, .int .i64 okey, .int .i64 ov][j]? = some u → (W.alloc (.cells #[.int .i64 ok, .int .i64 okey, .int .i64 ov] 44)).cell? ((⟨W.heap.size, 0, none⟩ : Addr).add j) = some u) := Lib.hid fun W j u hj => by
              rw [Go.WideShapes.add_plain, cell_of_row _ _ _ _ 44 (0, 0) (heap_alloc_new W _), Nat.zero_add]
              simpa using hj
            have hwy : Below wr.heap.size wr (wr.alloc (.cells #[.int .i64 ok, .int .i64 okey, .int .i64 ov] 44)) := (Below.refl _ _).alloc (Nat.le_refl _) _
            have HWY := Lib.hid hwy
            have HOY := Lib.hid (own_keep HOU.out fun g hg => hwy.block g (HOU.out.lt g hg).2)
            clear hwy
            go_wp2_with (at_builtin; refine wpList_append_lies _ rfl _ _ 45 rfl w.heap.size 44 i8 (.agg #[.int .i64 0, .int .i64 0, .int .i64 0]) 3 24 Try.underlying45 hi8 hx0 hx1 hx2 rfl (by decide) _ nl _ rfl HOY.out ⟨wr.heap.size, 0, none⟩ 1 1 [.int .i64 ok, .int .i64 okey, .int .i64 ov] rfl rfl (HNW.out _) (by intro u hu; simp at hu; rcases hu with rfl | rfl | rfl <;> rfl) (by omega) (by unfold maxLen; omega) (by omega) (Nat.le_trans HBU.out.size (by simp)) _ rfl ?_)
            intro g7 c7 w7 ho7 hg7 hat7 hl7
            have HB7 := Lib.hid ((HBU.out.trans (HWY.out.mono HBU.out.size)).grown hg7 (Nat.le_trans HBU.out.size (by simp)) (fun q hq => (HOU.out.lt q hq).1))
            have HX7 : Hid (w7.heap[X]? = some (.cells #[.int .i64 c, .int .i64 st, .slice (some ⟨b, off, none⟩) u cap] 47 (0, 0))) := Lib.hid ((hg7.block _ (Nat.lt_of_lt_of_le hXu (by simp)) (fun e => by
              obtain ⟨cur, e1⟩ := own_cells HOU.out e.symm
              rw [HXU.out] at e1
              injection e1 with e1
              injection e1 with _ e1 _
              cases e1)).trans ((HWY.out.block _ hXu).trans HXU.out))
            have HLN : Hid (nl + 1 = (wrl o u (kk + 1)).length) := Lib.hid (by rw [HWL.out, List.length_append, List.length_singleton, ← HNL.out])
            have HO7 : Hid (w7.ownsRow w.heap.size 44 3 (.slice (some ⟨g7, 0, none⟩) (nl + 1) c7) (nl + 1) (rowO (lf (wrl o u (kk + 1))) (nl + 1))) := Lib.hid (by
              have h := rowO_snoc (wrl o u kk) ⟨ok, okey, ov⟩
              rw [List.length_append, List.length_singleton, ← HNL.out] at h
              rw [HWL.out, h]
              exact ho7)
            clear ho7 hg7 hat7
            go_wp2
            go_roundw
            case rel => exact ⟨kk + 1, nl + 1, some ⟨g7, 0, none⟩, c7, by omega, by omega, by go_num, rfl, Lib.hid ⟨HLN.out, HB7.out, HX7.out, HO7.out⟩⟩
            case measure => simp [intOf]; omega
    · obtain rfl : kk = 16 := by omega
      go_wp2
      go_ret
      obtain ⟨e1, e2, _, e3⟩ := HT.out
      subst e1
      exact ⟨spo, cpo, rfl, e3, e2⟩

end Go.Proofs.Yteobndfkkpfnlaa

