/-
  Contract of the reference's Copy.
-/
import Derived.Test.YteobndfkkpfnlaaHQ
namespace Go.Proofs.Yteobndfkkpfnlaa
open Go.ChangeShapes Go.WideShapes Go.ChangeAt Go.RowKit

/-- an event's numbers, laid as a transaction's are -/
def asT (e : Ev) : Tx := ⟨e.k, e.c, e.n, e.o⟩

/-- events in a row of our own, their operations in rows of our own -/
structure EvO (w : World) (B : Nat) (v : Value) (len : Nat) (E : Nat → Ev) (V : Nat → Value) : Prop where
  row : w.ownsRow B 90 3 v len (rowT (fun i => asT (E i)) V len)
  ops : ∀ i, i < len → ∃ sp cap, V i = .slice sp (E i).n cap ∧ w.ownsRow B 44 3 (.slice sp (E i).n cap) (E i).n (rowO (E i).o (E i).n) ∧ (sp = none → (E i).n = 0 ∧ cap = 0) ∧ (E i).n ≤ 1000000

set_option maxRecDepth 100000 in
theorem EvO.below {w w' : World} {B len : Nat} {v : Value} {E : Nat → Ev} {V : Nat → Value} (h : EvO w B v len E V) (hb : Below w.heap.size w w') : EvO w' B v len E V := by
  refine ⟨own_keep h.row fun g hg => hb.block g (h.row.lt g hg).2, fun i hi => ?_⟩
  obtain ⟨sp, cap, e, ho, hp, hn⟩ := h.ops i hi
  exact ⟨sp, cap, e, own_keep ho fun g hg => hb.block g (ho.lt g hg).2, hp, hn⟩

set_option maxRecDepth 100000 in
/-- operations appended to none of our own -/
theorem step_append_ops {w : World} {ops : Array Oper} {o : Oper} {a : Act} {K : Act → World → Prop} {Q : Exit → Act → World → Prop} {E : Prop} (hgd : o.guard = none) (s x : Operand)
    (ho : o.op = .call { callee := .builtin .append, args := #[s, x], argTypes := #[45, 45] })
    (base : Nat) (v : Value) (hs : a.eval s = v) (hown : w.ownsRow base 44 3 v 0 [])
    (sp : Option Addr) (m c : Nat) (d : Nat → O3) (hx : a.eval x = .slice sp m c) (hsrc : OpS w sp m d) (hsp : sp = none → m = 0 ∧ c = 0)
    (h63 : m ≤ 1000000) (hbase : base ≤ w.heap.size)
    (h : ∀ v' w', w'.ownsRow base 44 3 v' m (rowO d m) → w.grownBy w' v.ownBlock → K (a.put o.dst v') w') :
    if Region.wanted o (yielded ops a.tmps) = true then Oper.wp Try.prog o a w K Q else E := by
  have hw : Region.wanted o (yielded ops a.tmps) = true := by simp [Region.wanted, hgd]
  rw [if_pos hw]
  obtain ⟨i0, hi, hz0, hz1, hz2⟩ := info_parts info38
  rcases sp with _ | ad
  · obtain ⟨rfl, rfl⟩ := hsp rfl
    have hrun := run_append_owned_none (P := Try.prog) (w := w) base 45 o.type 44 i0 3 Try.underlying45 hi v 0 [] hown
    unfold Oper.wp
    simp [execOp, ho, resolve, invoke, builtin, hs, hx, hrun, Result.andThen]
    exact h v w hown ⟨rfl, rfl, rfl, Nat.le_refl _, fun _ _ _ => rfl⟩
  · refine wp_append_own w s x 45 ho base 44 i0 (.agg #[.int .i64 0, .int .i64 0, .int .i64 0]) 3 24 Try.underlying45 hi hz0 hz1 hz2 rfl (by decide) v 0 [] hs hown ad m c (rowO d m) hx (by rw [rowO_length]) ?_ (rowO_one _ _) (by unfold maxLen; omega) (by omega) hbase ?_
    · intro j u hj
      have hjn : j < m * 3 := by
        rcases Nat.lt_or_ge j (m * 3) with h' | h'
        · exact h'
        · rw [List.getElem?_eq_none (by rw [rowO_length]; exact h')] at hj; cases hj
      obtain ⟨b, off, e', _, _⟩ := hsrc (by omega)
      injection e' with e'
      subst e'
      rw [Go.WideShapes.add_plain]
      exact hsrc.cellAt j u hj
    · intro v' w' h2 h3 _
      rw [Nat.zero_add] at h2
      exact h v' w' h2 h3

set_option maxRecDepth 100000 in
/-- an event is added -/
theorem EvO.added {w w' : World} {B len cap : Nat} {v v' : Value} {E : Nat → Ev} {V : Nat → Value} {sp : Option Addr} (h : EvO w B v len E V)
    (hn : w.ownsRow B 44 3 (.slice sp (E len).n cap) (E len).n (rowO (E len).o (E len).n)) (hsp : sp = none → (E len).n = 0 ∧ cap = 0) (hle : (E len).n ≤ 1000000)
    (ho : w'.ownsRow B 90 3 v' (len + 1) (rowT (fun i => asT (E i)) V len ++ [.int .i64 (E len).k, .int .i64 (E len).c, .slice sp (E len).n cap])) (hg : w.grownBy w' v.ownBlock) :
    EvO w' B v' (len + 1) E (fun i => if i = len then .slice sp (E len).n cap else V i) := by
  have keep : ∀ {n : Nat} {u : Value} {xs : List Value}, w.ownsRow B 44 3 u n xs → w'.ownsRow B 44 3 u n xs := fun {n u xs} ho' => own_keep ho' fun g hg' => by
    obtain ⟨cur, e⟩ := own_cells ho' hg'
    refine hg.block g (ho'.lt g hg').2 (fun e' => ?_)
    obtain ⟨cur', e3⟩ := own_cells h.row e'.symm
    rw [e] at e3
    injection e3 with e3
    injection e3 with _ e3 _
    cases e3
  refine ⟨?_, fun i hi => ?_⟩
  · have e : rowT (fun i => asT (E i)) V len ++ [.int .i64 (E len).k, .int .i64 (E len).c, .slice sp (E len).n cap] = rowT (fun i => asT (E i)) (fun i => if i = len then .slice sp (E len).n cap else V i) (len + 1) := by
      rw [rowT_succ, if_pos rfl]
      congr 1
      exact rowT_congr _ _ _ _ len fun i hi => by rw [if_neg (by omega)]; exact ⟨rfl, rfl, rfl⟩
    rw [← e]; exact ho
  · by_cases hi' : i = len
    · subst hi'
      rw [if_pos rfl]
      exact ⟨sp, cap, rfl, keep hn, hsp, hle⟩
    · rw [if_neg hi']
      obtain ⟨sp1, cap1, e, ho', hp, hn'⟩ := h.ops i (by omega)
      exact ⟨sp1, cap1, e, keep ho', hp, hn'⟩

end Go.Proofs.Yteobndfkkpfnlaa
