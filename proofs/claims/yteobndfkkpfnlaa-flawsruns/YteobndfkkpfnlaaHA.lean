/-
  Operations in memory; contracts of soundOp and sound.
-/
import Derived.Test.YteobndfkkpfnlaaRows
import Derived.WalkKit
import Derived.ProofKit
import Derived.OpenShut
import Derived.Below
import Derived.Lib.Hide
import Derived.Deep.AppendLies
import Derived.WalkArith
namespace Go.Proofs.Yteobndfkkpfnlaa
open Go.ChangeShapes Go.WideShapes Go.ChangeAt Go.RowKit

set_option maxRecDepth 100000 in
theorem ret_int {k : IntKind} {a b : Int} (h : a = b) : Ending.returned (.int k a) = .returned (.int k b) := by rw [h]

set_option maxRecDepth 100000 in
theorem val_int {k : IntKind} {a b : Int} (h : a = b) : Value.int k a = .int k b := by rw [h]

set_option maxRecDepth 100000 in
theorem block_add (a : Addr) (n : Nat) : (a.add n).block = a.block := by unfold Addr.add; split <;> rfl

set_option maxRecDepth 100000 in
theorem cell_lt {w : World} {a : Addr} {v : Value} (h : w.cell? a = some v) : a.block < w.heap.size := by
  rcases Nat.lt_or_ge a.block w.heap.size with h' | h'
  · exact h'
  · simp [World.cell?, Array.getElem?_eq_none h'] at h

set_option maxRecDepth 100000 in
/-- three cells of a block -/
theorem cells3 {w : World} {b t : Nat} {v0 v1 v2 : Value} (h : w.heap[b]? = some (.cells #[v0, v1, v2] t (0, 0))) :
    (w.cell? ⟨b, 0, none⟩ = some v0 ∧ w.cell? ⟨b, 1, none⟩ = some v1 ∧ w.cell? ⟨b, 2, none⟩ = some v2) ∧ ∀ j, w.frozen? ⟨b, j, none⟩ = false :=
  ⟨⟨by simp [World.cell?, h], by simp [World.cell?, h], by simp [World.cell?, h]⟩, fun j => by simp [World.frozen?, h]⟩

/-- who tells whether something holds -/
def Tells (p : Prop) (w : World) (e : Ending) (w' : World) : Prop := ∃ b : Bool, e = .returned (.bool b) ∧ (b = true ↔ p) ∧ Below w.heap.size w w'

/-- an operation -/
structure O3 where
  k : Int
  key : Int
  v : Int

/-- operations in a slice that may be anybody's -/
def OpS (w : World) (sp : Option Addr) (n : Nat) (o : Nat → O3) : Prop :=
  0 < n → ∃ b off, sp = some ⟨b, off, none⟩ ∧ b < w.heap.size ∧ ∀ i, i < n → w.cell? ⟨b, off + i * 3, none⟩ = some (.int .i64 (o i).k) ∧ w.cell? ⟨b, off + i * 3 + 1, none⟩ = some (.int .i64 (o i).key) ∧ w.cell? ⟨b, off + i * 3 + 2, none⟩ = some (.int .i64 (o i).v)

set_option maxRecDepth 100000 in
theorem OpS.below {w w' : World} {sp : Option Addr} {n : Nat} {o : Nat → O3} (h : OpS w sp n o) (hb : Below w.heap.size w w') : OpS w' sp n o := by
  intro hn
  obtain ⟨b, off, e, hl, hc⟩ := h hn
  refine ⟨b, off, e, Nat.lt_of_lt_of_le hl hb.size, fun i hi => ?_⟩
  obtain ⟨c0, c1, c2⟩ := hc i hi
  exact ⟨(hb.cell hl).trans c0, (hb.cell hl).trans c1, (hb.cell hl).trans c2⟩

/-- may an operation stand in an event of that kind? -/
def SOp (o : O3) (ev : Int) : Prop := 0 ≤ o.key ∧ o.key ≤ 15 ∧ 0 ≤ o.v ∧ o.v < 1099511627776 ∧ ((o.k = 1 ∧ (¬ ev = 1 ∨ o.v = 0)) ∨ (o.k = 2 ∧ 0 < o.v))

/-- may an event be, by itself? -/
def Snd (k c : Int) (n : Nat) (o : Nat → O3) : Prop := 1 ≤ k ∧ k ≤ 4 ∧ 1 ≤ c ∧ c ≤ 16 ∧ n ≤ 12 ∧ ¬ (n = 0 ∧ (k = 1 ∨ k = 2)) ∧ ∀ i, i < n → SOp (o i) k

end Go.Proofs.Yteobndfkkpfnlaa
