/-
  Contract of Of.
-/
import Derived.Test.YteobndfkkpfnlaaHI
namespace Go.Proofs.Yteobndfkkpfnlaa
open Go.ChangeShapes Go.WideShapes Go.ChangeAt Go.RowKit Go.Maps

/-- events in a slice that may be anybody's -/
def EvS (w : World) (a : Option Addr) (len : Nat) (E : Nat → Ev) : Prop :=
  0 < len → ∃ b off, a = some ⟨b, off, none⟩ ∧ b < w.heap.size ∧ ∀ j, j < len → ∃ sp cap, w.cell? ⟨b, off + j * 3, none⟩ = some (.int .i64 (E j).k) ∧ w.cell? ⟨b, off + j * 3 + 1, none⟩ = some (.int .i64 (E j).c) ∧ w.cell? ⟨b, off + j * 3 + 2, none⟩ = some (.slice sp (E j).n cap) ∧ OpS w sp (E j).n (E j).o ∧ (sp = none → (E j).n = 0 ∧ cap = 0) ∧ (E j).n ≤ 9223372036854775807

set_option maxRecDepth 100000 in
theorem EvS.below {w w' : World} {a : Option Addr} {len : Nat} {E : Nat → Ev} (h : EvS w a len E) (hb : Below w.heap.size w w') : EvS w' a len E := by
  intro hl
  obtain ⟨b, off, e, hbl, hc⟩ := h hl
  refine ⟨b, off, e, Nat.lt_of_lt_of_le hbl hb.size, fun j hj => ?_⟩
  obtain ⟨sp, cap, c0, c1, c2, ho, hp, hn⟩ := hc j hj
  exact ⟨sp, cap, (hb.cell hbl).trans c0, (hb.cell hbl).trans c1, (hb.cell hbl).trans c2, ho.below hb, hp, hn⟩

def init : St := ⟨0, fun _ => ⟨0, 0, 0, fun _ => ⟨0, 0, 0⟩⟩, 0, 0, fun _ => none, fun _ => none⟩

/-- what the first i events tell -/
def stateAt (E : Nat → Ev) : Nat → St
  | 0 => init
  | i + 1 => nextS (stateAt E i) (E i)

/-- the first i events make a history -/
def Good (E : Nat → Ev) (i : Nat) : Prop := ∀ j, j < i → ErrOf (stateAt E j) (E j) 0

set_option maxRecDepth 100000 in
theorem err0_snd {s : St} {e : Ev} (h : ErrOf s e 0) : Snd e.k e.c e.n e.o := by
  rcases h with ⟨_, h⟩ | ⟨_, _, h⟩ | ⟨h, _⟩ | ⟨h, _⟩ | ⟨h, _⟩
  · cases h
  · cases h
  · exact h
  · exact h
  · exact h

set_option maxRecDepth 100000 in
theorem inv_at (E : Nat → Ev) (i : Nat) (h : Good E i) : Inv (stateAt E i) i := by
  induction i with
  | zero => exact ⟨Nat.le_refl _, Nat.le_refl _, Nat.le_refl _, fun c x hx => (by cases hx), fun j hj => absurd hj (Nat.not_lt_zero _)⟩
  | succ i ih => exact (ih fun j hj => h j (by omega)).next (err0_snd (h i (by omega)))

end Go.Proofs.Yteobndfkkpfnlaa
