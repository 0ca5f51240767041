/-
  Maps of our own from numbers to numbers.
-/
import Derived.Test.YteobndfkkpfnlaaHA
import Derived.Maps.OwnSet
import Derived.Maps.Views
import Derived.BigQuiet
namespace Go.Proofs.Yteobndfkkpfnlaa
open Go.ChangeShapes Go.WideShapes Go.ChangeAt Go.RowKit Go.Maps

set_option maxRecDepth 100000 in
theorem law3 : Keyed Try.prog 3 := int_keyed Try.underlying3

set_option maxRecDepth 100000 in
theorem zero3 (w : World) : (zeroValue 3).run Try.prog w = .ok (.int .i64 0) w := by kernel_rfl

set_option maxRecDepth 100000 in
theorem wf64 {x : Int} (h : -9223372036854775808 ≤ x ∧ x ≤ 9223372036854775807) : (Lit.int .i64 x).wf = true := by
  simp [Lit.wf, IntKind.min, IntKind.max, IntKind.signed, IntKind.bits]; omega

/-- block b is a map that has m's entries, at most n -/
def MapS (w : World) (b n : Nat) (m : Int → Option Int) : Prop :=
  ∃ D : DataW Unit, w.ownsMap Try.prog 3 (plainElem Try.prog 3) b n D ∧ ∀ x, Maps.has D (.int .i64 x) = (m x).isSome ∧ D.atKey (.int .i64 x) (.lit (.int .i64 0)) = .lit (.int .i64 ((m x).getD 0))

set_option maxRecDepth 100000 in
theorem MapS.made (w : World) : MapS (w.alloc (.map #[] 0)) w.heap.size 0 (fun _ => none) :=
  ⟨.map [], World.ownsMap_made w Try.prog 3 _, fun _ => ⟨rfl, rfl⟩⟩

set_option maxRecDepth 100000 in
theorem MapS.lt {w : World} {b n : Nat} {m : Int → Option Int} (h : MapS w b n m) : b < w.heap.size := by
  obtain ⟨D, ho, _⟩ := h; exact ho.lt

set_option maxRecDepth 100000 in
theorem MapS.kept {w w' : World} {b n : Nat} {m : Int → Option Int} (h : MapS w b n m) (hb : w'.heap[b]? = w.heap[b]?) : MapS w' b n m := by
  obtain ⟨D, ⟨es, clock, hb', F, hs, hD⟩, hv⟩ := h
  exact ⟨D, ⟨es, clock, hb.trans hb', F, hs, hD⟩, hv⟩

set_option maxRecDepth 100000 in
theorem MapS.mono {w : World} {b n n' : Nat} {m : Int → Option Int} (h : MapS w b n m) (hn : n ≤ n') : MapS w b n' m := by
  obtain ⟨D, ho, hv⟩ := h; exact ⟨D, ho.mono hn, hv⟩

set_option maxRecDepth 100000 in
theorem MapS.look {w : World} {b n : Nat} {m : Int → Option Int} (h : MapS w b n m) (x : Int) (hx : -9223372036854775808 ≤ x ∧ x ≤ 9223372036854775807) :
    (Instr.lookup 120 (.map (some b)) (.int .i64 x) true).run Try.prog w = .ok (.tuple #[.int .i64 ((m x).getD 0), .bool (m x).isSome]) w := by
  obtain ⟨D, ho, hv⟩ := h
  obtain ⟨v, ps, hrun, hR⟩ := ho.look_ok law3 Try.underlying120 (zero3 w) (plainElem_int Try.underlying3 (by decide)) (keyOf_int_mk Try.underlying3 (wf64 hx))
  obtain ⟨c, rfl, hc, _⟩ := plainElem_int_inv Try.underlying3 hR
  simp only [Prod.mk.injEq] at hc
  have e := hc.1
  rw [(hv x).2] at e
  injection e with e
  injection e with _ e
  rw [hrun, (hv x).1, e]

set_option maxRecDepth 100000 in
theorem MapS.update {w : World} {b n : Nat} {m : Int → Option Int} (h : MapS w b n m) (x v : Int) (hn : n < 1000000) (hx : -9223372036854775808 ≤ x ∧ x ≤ 9223372036854775807) (hv : -9223372036854775808 ≤ v ∧ v ≤ 9223372036854775807) :
    ∃ w', (Instr.mapUpdate 120 (.map (some b)) (.int .i64 x) (.int .i64 v)).run Try.prog w = .ok () w' ∧ MapS w' b (n + 1) (fun y => if y = x then some v else m y) ∧ w.grownBy w' (some b) := by
  obtain ⟨D, ho, hD⟩ := h
  obtain ⟨w', hrun, ho', hg⟩ := ho.update law3 Try.underlying120 (by unfold maxLen; omega) (keyOf_int_mk Try.underlying3 (wf64 hx)) (plainElem_int Try.underlying3 (wf64 hv))
  refine ⟨w', hrun, ⟨_, ho', fun y => ?_⟩, hg⟩
  by_cases hy : y = x
  · subst hy
    dsimp only
    rw [if_pos rfl]
    exact ⟨has_put_same (k := Lit.int .i64 y) ho.isMap (law3.key (keyOf_int_mk Try.underlying3 (wf64 hx))) _, atKey_put_same (k := Lit.int .i64 y) ho.isMap (law3.key (keyOf_int_mk Try.underlying3 (wf64 hx))) _ _⟩
  · dsimp only
    rw [if_neg hy]
    have hne : (Lit.int .i64 y) ≠ Lit.int .i64 x := fun e => by injection e with _ e; exact hy e
    rw [has_put_other hne, atKey_put_other hne]
    exact hD y

end Go.Proofs.Yteobndfkkpfnlaa
