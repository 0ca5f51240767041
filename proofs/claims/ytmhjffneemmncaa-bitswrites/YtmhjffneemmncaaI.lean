/-
  The laws' items that came in: their cells in memory.
-/
import Derived.Test.YtmhjffneemmncaaG
import Derived.Deep.Slices
import Derived.Deep.Fields
import Derived.ChangeSame
namespace Go.Proofs.Ytmhjffneemmncaa
open Go.ChangeShapes Go.WideShapes Go.ChangeAt Go.RowKit Go.Deep

theorem cells30 : Try.prog.cellsOf 30 = 4 := by kernel_rfl
theorem cells3 : Try.prog.cellsOf 3 = 1 := by kernel_rfl
theorem cells28 : Try.prog.cellsOf 28 = 1 := by kernel_rfl

/-- one item: its kind, its number, its size, its number that may be below nought -/
structure Item where
  k : Int
  x : Nat
  n : Int
  i : Int

/-- an item's four cells -/
def ItemAt (w : World) (a : Addr) (t : Item) : Prop :=
  w.cell? (a.add 0) = some (.int .i64 t.k) ∧ w.cell? (a.add 1) = some (.int .u64 (t.x : Int)) ∧ w.cell? (a.add 2) = some (.int .i64 t.n) ∧ w.cell? (a.add 3) = some (.int .i64 t.i) ∧
  t.x < 18446744073709551616 ∧ -9223372036854775808 ≤ t.i ∧ t.i ≤ 9223372036854775807

section
variable {H : Type} {enc : TypeId × Value → H} {w : World} {base : Nat} {spare : Nat → Bool} {held : Bool}

theorem item_of {n : Nat} {cs : List Value} {y : DataW H × List MemPlace} {a : Addr} (hc : w.cells? base a 4 = some cs) (h : DataW.trod enc Try.prog w base spare held n 30 cs = some y) : ∃ t : Item, ItemAt w a t := by
  obtain ⟨_, hlen, hat⟩ := World.cells?_some hc
  obtain ⟨xs, n', _, _, _, hxl, hf⟩ := DataW.trod_struct Try.underlying30 h
  match cs, hlen with
  | [c0, c1, c2, c3], _ =>
    match xs, hxl with
    | [y0, y1, y2, y3], _ =>
      have g0 := hf 0 _ rfl
      have g1 := hf 1 _ rfl
      have g2 := hf 2 _ rfl
      have g3 := hf 3 _ rfl
      simp [cells3, cells28] at g0 g1 g2 g3
      obtain ⟨k, e0, _, _⟩ := DataW.trod_int Try.underlying3 g0
      obtain ⟨x, e1, _, wx⟩ := DataW.trod_int Try.underlying28 g1
      obtain ⟨m, e2, _, _⟩ := DataW.trod_int Try.underlying3 g2
      obtain ⟨i, e3, _, wi⟩ := DataW.trod_int Try.underlying3 g3
      simp at e0 e1 e2 e3
      subst e0 e1 e2 e3
      obtain ⟨x', rfl, hx⟩ := u64_nat wx
      have hi := i64_bounds wi
      exact ⟨⟨k, x', m, i⟩, hat 0 (by decide), hat 1 (by decide), hat 2 (by decide), hat 3 (by decide), hx, hi.1, hi.2⟩

/-- items that came in -/
def Items (w : World) (a : Option Addr) (len : Nat) (T : Nat → Item) : Prop :=
  len ≤ 9223372036854775807 ∧ (0 < len → ∃ b off, a = some ⟨b, off, none⟩ ∧ b < w.heap.size ∧ ∀ j, j < len → ItemAt w ⟨b, off + 4 * j, none⟩ (T j))

theorem items_of {fuel : Nat} {a : Option Addr} {len cap : Nat} {x : DataW H × List MemPlace} (h : DataW.trod enc Try.prog w base spare held fuel 22 [.slice a len cap] = some x) : ∃ T, Items w a len T := by
  rcases open_slice Try.underlying22 h with ⟨e, _⟩ | ⟨ad, len', cap', m, n, D, Pl, e, _, hl, hm, hmm, _, hi⟩
  · simp at e; obtain ⟨rfl, rfl, rfl⟩ := e
    exact ⟨fun _ => ⟨0, 0, 0, 0⟩, by omega, fun h => by omega⟩
  · simp at e; obtain ⟨rfl, rfl, rfl⟩ := e
    rw [cells30] at hi
    have hlm : len ≤ m := by rw [hmm]; split <;> omega
    have hex : ∀ j, ∃ t : Item, j < len → ItemAt w (ad.add (j * 4)) t := fun j => by
      by_cases hj : j < len
      · obtain ⟨cs, h1, h2⟩ := hi j (by omega)
        obtain ⟨t, ht⟩ := item_of h1 h2
        exact ⟨t, fun _ => ht⟩
      · exact ⟨⟨0, 0, 0, 0⟩, fun h => absurd h hj⟩
    obtain ⟨T, hT⟩ := Classical.skolem.mp hex
    refine ⟨T, by unfold maxLen at hm; omega, fun hpos => ?_⟩
    obtain ⟨b, off, spot⟩ := ad
    have h0 := (hT 0 hpos).1
    have hspot : spot = none := by simpa [Addr.add] using World.cell?_spot h0
    subst hspot
    refine ⟨b, off, rfl, ?_, fun j hj => ?_⟩
    · have := cell_lt h0; simpa [block_add] using this
    · have := hT j hj
      rw [Go.WideShapes.add_plain, Nat.mul_comm] at this
      exact this
end
end Go.Proofs.Ytmhjffneemmncaa
