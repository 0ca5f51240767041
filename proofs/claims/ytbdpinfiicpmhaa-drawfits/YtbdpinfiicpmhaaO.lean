/-
  Operations in memory, as lists: rows of our own, appended to.
-/
import Derived.Test.YtbdpinfiicpmhaaRows
import Derived.WalkKit
import Derived.ProofKit
import Derived.OpenShut
import Derived.Below
import Derived.Lib.Hide
import Derived.Deep.AppendLies
import Derived.WalkArith
import Derived.WalkSpells
import Derived.Laws.AppendOwnNone
namespace Go.Proofs.Ytbdpinfiicpmhaa
open Go.ChangeShapes Go.WideShapes Go.ChangeAt Go.RowKit

theorem block_add (a : Addr) (n : Nat) : (a.add n).block = a.block := by unfold Addr.add; split <;> rfl
/-- an operation -/
structure O3 where
  k : Int
  key : Int
  v : Int
/-- a list's elements -/
def lf (l : List O3) : Nat → O3 := fun i => l.getD i ⟨0, 0, 0⟩
/-- operations' cells -/
def rowL (l : List O3) : List Value := l.flatMap fun x => [Value.int .i64 x.k, .int .i64 x.key, .int .i64 x.v]
theorem rowL_nil : rowL [] = [] := rfl
theorem rowL_cons (x : O3) (l : List O3) : rowL (x :: l) = [Value.int .i64 x.k, .int .i64 x.key, .int .i64 x.v] ++ rowL l := rfl
theorem rowL_app (l m : List O3) : rowL (l ++ m) = rowL l ++ rowL m := by unfold rowL; rw [List.flatMap_append]
theorem rowL_length (l : List O3) : (rowL l).length = l.length * 3 := by
  induction l with
  | nil => rfl
  | cons x l ih => rw [rowL_cons, List.length_append, ih, List.length_cons]; simp; omega
theorem rowL_get (l : List O3) (i : Nat) (hi : i < l.length) : (rowL l)[i * 3]? = some (.int .i64 (lf l i).k) ∧ (rowL l)[i * 3 + 1]? = some (.int .i64 (lf l i).key) ∧ (rowL l)[i * 3 + 2]? = some (.int .i64 (lf l i).v) := by
  induction l generalizing i with
  | nil => simp at hi
  | cons x l ih =>
    rw [rowL_cons]
    cases i with
    | zero => exact ⟨rfl, rfl, rfl⟩
    | succ i =>
      have hi' : i < l.length := by simpa using hi
      have e : lf (x :: l) (i + 1) = lf l i := rfl
      rw [e, show (i + 1) * 3 = i * 3 + 3 by omega]
      obtain ⟨h0, h1, h2⟩ := ih i hi'
      refine ⟨?_, ?_, ?_⟩
      · rw [List.getElem?_append_right (by simp)]; simpa using h0
      · rw [List.getElem?_append_right (by simp)]; simpa [show i * 3 + 3 + 1 - 3 = i * 3 + 1 by omega] using h1
      · rw [List.getElem?_append_right (by simp)]; simpa [show i * 3 + 3 + 2 - 3 = i * 3 + 2 by omega] using h2
theorem rowL_one (l : List O3) : ∀ u ∈ rowL l, u.oneCell' = true := by
  intro u hu
  unfold rowL at hu
  rw [List.mem_flatMap] at hu
  obtain ⟨i, _, hu⟩ := hu
  simp at hu
  rcases hu with rfl | rfl | rfl <;> rfl

/-- operations in a slice that may be anybody's -/
def OpS (w : World) (sp : Option Addr) (n : Nat) (o : Nat → O3) : Prop :=
  0 < n → ∃ b off, sp = some ⟨b, off, none⟩ ∧ b < w.heap.size ∧ ∀ i, i < n → w.cell? ⟨b, off + i * 3, none⟩ = some (.int .i64 (o i).k) ∧ w.cell? ⟨b, off + i * 3 + 1, none⟩ = some (.int .i64 (o i).key) ∧ w.cell? ⟨b, off + i * 3 + 2, none⟩ = some (.int .i64 (o i).v)
theorem OpS.below {w w' : World} {sp : Option Addr} {n : Nat} {o : Nat → O3} (h : OpS w sp n o) (hb : Below w.heap.size w w') : OpS w' sp n o := by
  intro hn
  obtain ⟨b, off, e, hl, hc⟩ := h hn
  refine ⟨b, off, e, Nat.lt_of_lt_of_le hl hb.size, fun i hi => ?_⟩
  obtain ⟨c0, c1, c2⟩ := hc i hi
  exact ⟨(hb.cell hl).trans c0, (hb.cell hl).trans c1, (hb.cell hl).trans c2⟩
theorem own_ops {w : World} {base cap : Nat} {sp : Option Addr} {l : List O3} (h : w.ownsRow base 45 3 (.slice sp l.length cap) l.length (rowL l)) : OpS w sp l.length (lf l) := by
  intro hn
  obtain ⟨g, cap', e, _, hl⟩ := h.form hn
  injection e with e1 e2 e3
  subst e1
  refine ⟨g, 0, rfl, hl, fun i hi => ?_⟩
  obtain ⟨g0, g1, g2⟩ := rowL_get l i hi
  have h0 := (h.cellAt (i * 3) (by omega)).trans g0
  have h1 := (h.cellAt (i * 3 + 1) (by omega)).trans g1
  have h2 := (h.cellAt (i * 3 + 2) (by omega)).trans g2
  simp only [Nat.zero_add]
  exact ⟨h0, h1, h2⟩
theorem OpS.cellAt {w : World} {b off : Nat} {l : List O3} (h : OpS w (some ⟨b, off, none⟩) l.length (lf l)) (j : Nat) (u : Value) (hj : (rowL l)[j]? = some u) : w.cell? ⟨b, off + j, none⟩ = some u := by
  have hjl : j < l.length * 3 := by
    rcases Nat.lt_or_ge j (l.length * 3) with h' | h'
    · exact h'
    · rw [List.getElem?_eq_none (by rw [rowL_length]; exact h')] at hj; cases hj
  obtain ⟨b', off', e, _, hc⟩ := h (by omega)
  injection e with e
  injection e with e1 e2
  subst e1 e2
  obtain ⟨c0, c1, c2⟩ := hc (j / 3) (by omega)
  obtain ⟨g0, g1, g2⟩ := rowL_get l (j / 3) (by omega)
  have hm : j % 3 = 0 ∨ j % 3 = 1 ∨ j % 3 = 2 := by omega
  rcases hm with hm | hm | hm
  · have e2 : j / 3 * 3 = j := by omega
    rw [e2] at c0 g0
    rw [c0, ← g0, hj]
  · have e2 : j / 3 * 3 + 1 = j := by omega
    rw [e2] at g1
    rw [show off + j / 3 * 3 + 1 = off + j by omega] at c1
    rw [c1, ← g1, hj]
  · have e2 : j / 3 * 3 + 2 = j := by omega
    rw [e2] at g2
    rw [show off + j / 3 * 3 + 2 = off + j by omega] at c2
    rw [c2, ← g2, hj]

theorem info45 : (Try.prog.info? 45).map (fun i => (i.zero, i.size, i.bytes)) = some (some (.agg #[.int .i64 0, .int .i64 0, .int .i64 0]), 3, 24) := by kernel_rfl
theorem own_keep {w w' : World} {base e size n : Nat} {v : Value} {xs : List Value} (h : w.ownsRow base e size v n xs) (hk : ∀ g, v.ownBlock = some g → w'.heap[g]? = w.heap[g]?) : w'.ownsRow base e size v n xs := by
  refine ⟨h.1, ?_⟩
  rcases h.2 with h0 | ⟨g, cap, cur, hv, hg, hh, hrest⟩
  · exact .inl h0
  · exact .inr ⟨g, cap, cur, hv, hg, (hk g (by rw [hv]; rfl)).trans hh, hrest⟩
theorem own_cells {w : World} {base e size n : Nat} {v : Value} {xs : List Value} (h : w.ownsRow base e size v n xs) {g : Nat} (hg : v.ownBlock = some g) : ∃ cur, w.heap[g]? = some (.cells cur e (0, 0)) := by
  rcases h.2 with ⟨h0, _⟩ | ⟨g', cap, cur, hv, _, hh, _⟩
  · rw [h0] at hg; cases hg
  · rw [hv] at hg
    have e' : g' = g := Option.some.inj hg
    exact ⟨cur, e' ▸ hh⟩
theorem own_form' {w : World} {base e size n : Nat} {v : Value} {xs : List Value} (h : w.ownsRow base e size v n xs) : ∃ sp cp, v = .slice sp n cp := by
  rcases h.2 with ⟨e, rfl⟩ | ⟨g, cp, cur, e, _⟩
  · exact ⟨none, 0, e⟩
  · exact ⟨_, _, e⟩
theorem own_nil' {w : World} {base e size n cap : Nat} {sp : Option Addr} {xs : List Value} (h : w.ownsRow base e size (.slice sp n cap) n xs) : sp = none → n = 0 ∧ cap = 0 := by
  intro hs
  rcases h.2 with ⟨e, _⟩ | ⟨g, cp, cur, e, _⟩
  · injection e with e1 e2 e3; exact ⟨e2, e3⟩
  · injection e with e1 e2 e3; rw [hs] at e1; cases e1
section
variable {w : World}
/-- operations appended to a row of our own -/
theorem wp_append_ops {o : Oper} {a : Act} {K : Act → World → Prop} {Q : Exit → Act → World → Prop} (s x : Operand)
    (ho : o.op = .call { callee := .builtin .append, args := #[s, x], argTypes := #[33, 33] })
    (base : Nat) (v : Value) (n : Nat) (l : List O3) (hn : n = l.length) (hs : a.eval s = v) (hown : w.ownsRow base 45 3 v n (rowL l))
    (sp : Option Addr) (k c : Nat) (d : List O3) (hk : k = d.length) (hx : a.eval x = .slice sp k c) (hsrc : OpS w sp k (lf d)) (hsp : sp = none → k = 0 ∧ c = 0)
    (h63 : n + k ≤ 10000) (hbase : base ≤ w.heap.size)
    (h : ∀ v' w', w'.ownsRow base 45 3 v' (n + k) (rowL (l ++ d)) → w.grownBy w' v.ownBlock → K (a.put o.dst v') w') : o.wp Try.prog a w K Q := by
  obtain ⟨i0, hi, hz0, hz1, hz2⟩ := info_parts info45
  subst hn hk
  rcases sp with _ | ad
  · obtain ⟨hd, rfl⟩ := hsp rfl
    obtain rfl : d = [] := List.eq_nil_of_length_eq_zero hd
    have hrun := run_append_owned_none (P := Try.prog) (w := w) base 33 o.type 45 i0 3 Try.underlying33 hi v l.length (rowL l) hown
    unfold Oper.wp
    simp [execOp, ho, resolve, invoke, builtin, hs, hx, hrun, Result.andThen]
    exact h v w (by rw [List.append_nil]; exact hown) ⟨rfl, rfl, rfl, Nat.le_refl _, fun _ _ _ => rfl⟩
  · refine wp_append_own w s x 33 ho base 45 i0 (.agg #[.int .i64 0, .int .i64 0, .int .i64 0]) 3 24 Try.underlying33 hi hz0 hz1 hz2 rfl (by decide) v l.length (rowL l) hs hown ad d.length c (rowL d) hx (by rw [rowL_length]) ?_ (rowL_one _) (by unfold maxLen; omega) (by omega) hbase ?_
    · intro j u hj
      have hjn : j < d.length * 3 := by
        rcases Nat.lt_or_ge j (d.length * 3) with h' | h'
        · exact h'
        · rw [List.getElem?_eq_none (by rw [rowL_length]; exact h')] at hj; cases hj
      obtain ⟨b, off, e', _, _⟩ := hsrc (by omega)
      injection e' with e'
      subst e'
      rw [Go.WideShapes.add_plain]
      exact hsrc.cellAt j u hj
    · intro v' w' h2 h3 _
      rw [← rowL_app] at h2
      exact h v' w' h2 h3
theorem wpList_append_ops {ops : Array Oper} {rest : List Oper} {o : Oper} {a : Act} {Q : Exit → Act → World → Prop} (hgd : o.guard = none) (s x : Operand)
    (ho : o.op = .call { callee := .builtin .append, args := #[s, x], argTypes := #[33, 33] })
    (base : Nat) (v : Value) (n : Nat) (l : List O3) (hn : n = l.length) (hs : a.eval s = v) (hown : w.ownsRow base 45 3 v n (rowL l))
    (sp : Option Addr) (k c : Nat) (d : List O3) (hk : k = d.length) (hx : a.eval x = .slice sp k c) (hsrc : OpS w sp k (lf d)) (hsp : sp = none → k = 0 ∧ c = 0)
    (h63 : n + k ≤ 10000) (hbase : base ≤ w.heap.size)
    (h : ∀ v' w', w'.ownsRow base 45 3 v' (n + k) (rowL (l ++ d)) → w.grownBy w' v.ownBlock → wpList Try.prog ops Q rest (a.put o.dst v') w') : wpList Try.prog ops Q (o :: rest) a w :=
  wpList_plain hgd fun _ hK => wp_append_ops s x ho base v n l hn hs hown sp k c d hk hx hsrc hsp h63 hbase fun v' w' h2 h3 => hK _ _ (h v' w' h2 h3)
theorem step_append_ops {ops : Array Oper} {o : Oper} {a : Act} {K : Act → World → Prop} {Q : Exit → Act → World → Prop} {E : Prop} (hgd : o.guard = none) (s x : Operand)
    (ho : o.op = .call { callee := .builtin .append, args := #[s, x], argTypes := #[33, 33] })
    (base : Nat) (v : Value) (n : Nat) (l : List O3) (hn : n = l.length) (hs : a.eval s = v) (hown : w.ownsRow base 45 3 v n (rowL l))
    (sp : Option Addr) (k c : Nat) (d : List O3) (hk : k = d.length) (hx : a.eval x = .slice sp k c) (hsrc : OpS w sp k (lf d)) (hsp : sp = none → k = 0 ∧ c = 0)
    (h63 : n + k ≤ 10000) (hbase : base ≤ w.heap.size)
    (h : ∀ v' w', w'.ownsRow base 45 3 v' (n + k) (rowL (l ++ d)) → w.grownBy w' v.ownBlock → K (a.put o.dst v') w') :
    if Region.wanted o (yielded ops a.tmps) = true then Oper.wp Try.prog o a w K Q else E := by
  have hw : Region.wanted o (yielded ops a.tmps) = true := by simp [Region.wanted, hgd]
  rw [if_pos hw]
  exact wp_append_ops s x ho base v n l hn hs hown sp k c d hk hx hsrc hsp h63 hbase h
end
end Go.Proofs.Ytbdpinfiicpmhaa
