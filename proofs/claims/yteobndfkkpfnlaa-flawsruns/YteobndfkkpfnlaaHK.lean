/-
  Events that came in, opened.
-/
import Derived.Test.YteobndfkkpfnlaaHJ
import Derived.Deep.Slices
import Derived.Deep.Fields
import Derived.ChangeSame
import Derived.ChangeSlices
namespace Go.Proofs.Yteobndfkkpfnlaa
open Go.ChangeShapes Go.WideShapes Go.ChangeAt Go.RowKit Go.Deep

set_option maxRecDepth 100000 in
theorem cells43 : Try.prog.cellsOf 90 = 3 := by kernel_rfl

set_option maxRecDepth 100000 in
theorem cells38 : Try.prog.cellsOf 44 = 3 := by kernel_rfl

set_option maxRecDepth 100000 in
theorem cellsI : Try.prog.cellsOf 3 = 1 := by kernel_rfl

set_option maxRecDepth 100000 in
theorem cells34 : Try.prog.cellsOf 45 = 1 := by kernel_rfl

section

variable {H : Type} {enc : TypeId × Value → H} {w : World} {base : Nat} {spare : Nat → Bool} {held : Bool}

set_option maxRecDepth 100000 in
theorem op_of {n : Nat} {cs : List Value} {y : DataW H × List MemPlace} {a : Addr} (hc : w.cells? base a 3 = some cs) (h : DataW.trod enc Try.prog w base spare held n 44 cs = some y) :
    ∃ t : O3, w.cell? (a.add 0) = some (.int .i64 t.k) ∧ w.cell? (a.add 1) = some (.int .i64 t.key) ∧ w.cell? (a.add 2) = some (.int .i64 t.v) := by
  obtain ⟨_, hlen, hat⟩ := World.cells?_some hc
  obtain ⟨xs, n', _, _, _, hxl, hf⟩ := DataW.trod_struct Try.underlying44 h
  match cs, hlen with
  | [c0, c1, c2], _ =>
    match xs, hxl with
    | [y0, y1, y2], _ =>
      have g0 := hf 0 _ rfl
      have g1 := hf 1 _ rfl
      have g2 := hf 2 _ rfl
      simp [cellsI] at g0 g1 g2
      obtain ⟨k, e0, _, _⟩ := DataW.trod_int Try.underlying3 g0
      obtain ⟨key, e1, _, _⟩ := DataW.trod_int Try.underlying3 g1
      obtain ⟨v, e2, _, _⟩ := DataW.trod_int Try.underlying3 g2
      simp at e0 e1 e2
      subst e0 e1 e2
      exact ⟨⟨k, key, v⟩, hat 0 (by decide), hat 1 (by decide), hat 2 (by decide)⟩

set_option maxRecDepth 100000 in
theorem ops_of {fuel : Nat} {a : Option Addr} {len cap : Nat} {x : DataW H × List MemPlace} (h : DataW.trod enc Try.prog w base spare held fuel 45 [.slice a len cap] = some x) :
    ∃ o, OpS w a len o ∧ (a = none → len = 0 ∧ cap = 0) ∧ len ≤ 9223372036854775807 := by
  rcases open_slice Try.underlying45 h with ⟨e, _⟩ | ⟨ad, len', cap', m, n, D, Pl, e, _, hl, hm, hmm, _, hi⟩
  · simp at e; obtain ⟨rfl, rfl, rfl⟩ := e
    exact ⟨fun _ => ⟨0, 0, 0⟩, fun h => absurd h (Nat.lt_irrefl 0), fun _ => ⟨rfl, rfl⟩, Nat.zero_le _⟩
  · simp at e; obtain ⟨rfl, rfl, rfl⟩ := e
    rw [cells38] at hi
    have hlm : len ≤ m := by rw [hmm]; split <;> omega
    have hex : ∀ j, ∃ t : O3, j < len → w.cell? ((ad.add (j * 3)).add 0) = some (.int .i64 t.k) ∧ w.cell? ((ad.add (j * 3)).add 1) = some (.int .i64 t.key) ∧ w.cell? ((ad.add (j * 3)).add 2) = some (.int .i64 t.v) := fun j => by
      by_cases hj : j < len
      · obtain ⟨cs, h1, h2⟩ := hi j (by omega)
        obtain ⟨t, ht⟩ := op_of h1 h2
        exact ⟨t, fun _ => ht⟩
      · exact ⟨⟨0, 0, 0⟩, fun h => absurd h hj⟩
    obtain ⟨o, ho⟩ := Classical.skolem.mp hex
    refine ⟨o, fun hpos => ?_, fun h => (by cases h), by unfold maxLen at hm; omega⟩
    obtain ⟨b, off, spot⟩ := ad
    have h0 := (ho 0 hpos).1
    have hspot : spot = none := by simpa [Addr.add] using World.cell?_spot h0
    subst hspot
    refine ⟨b, off, rfl, ?_, fun j hj => ?_⟩
    · have := cell_lt h0; simpa [block_add] using this
    · obtain ⟨h1, h2, h3⟩ := ho j hj
      rw [Go.WideShapes.add_plain, Go.WideShapes.add_plain] at h1 h2 h3
      exact ⟨h1, h2, h3⟩

set_option maxRecDepth 100000 in
theorem ev_of {n : Nat} {cs : List Value} {y : DataW H × List MemPlace} {a : Addr} (hc : w.cells? base a 3 = some cs) (h : DataW.trod enc Try.prog w base spare held n 90 cs = some y) :
    ∃ t : Ev, ∃ sp cap, w.cell? (a.add 0) = some (.int .i64 t.k) ∧ w.cell? (a.add 1) = some (.int .i64 t.c) ∧ w.cell? (a.add 2) = some (.slice sp t.n cap) ∧ OpS w sp t.n t.o ∧ (sp = none → t.n = 0 ∧ cap = 0) ∧ t.n ≤ 9223372036854775807 := by
  obtain ⟨_, hlen, hat⟩ := World.cells?_some hc
  obtain ⟨xs, n', _, _, _, hxl, hf⟩ := DataW.trod_struct Try.underlying90 h
  match cs, hlen with
  | [c0, c1, c2], _ =>
    match xs, hxl with
    | [y0, y1, y2], _ =>
      have g0 := hf 0 _ rfl
      have g1 := hf 1 _ rfl
      have g2 := hf 2 _ rfl
      simp [cellsI, cells34] at g0 g1 g2
      obtain ⟨k, e0, _, _⟩ := DataW.trod_int Try.underlying3 g0
      obtain ⟨c, e1, _, _⟩ := DataW.trod_int Try.underlying3 g1
      simp at e0 e1
      subst e0 e1
      obtain ⟨sp, l, cp, e2⟩ : ∃ sp l cp, c2 = .slice sp l cp := by
        rcases open_slice Try.underlying45 g2 with ⟨e, _⟩ | ⟨ad, len', cap', m, n, D, Pl, e, _⟩
        · simp at e; exact ⟨_, _, _, e⟩
        · simp at e; exact ⟨_, _, _, e⟩
      subst e2
      obtain ⟨o, h1, h2, h3⟩ := ops_of g2
      exact ⟨⟨k, c, l, o⟩, sp, cp, hat 0 (by decide), hat 1 (by decide), hat 2 (by decide), h1, h2, h3⟩

set_option maxRecDepth 100000 in
theorem evs_of {fuel : Nat} {a : Option Addr} {len cap : Nat} {x : DataW H × List MemPlace} (h : DataW.trod enc Try.prog w base spare held fuel 22 [.slice a len cap] = some x) :
    ∃ E, EvS w a len E ∧ (a = none → len = 0 ∧ cap = 0) ∧ len ≤ cap ∧ len ≤ 9223372036854775807 := by
  rcases open_slice Try.underlying22 h with ⟨e, _⟩ | ⟨ad, len', cap', m, n, D, Pl, e, _, hl, hm, hmm, _, hi⟩
  · simp at e; obtain ⟨rfl, rfl, rfl⟩ := e
    exact ⟨fun _ => ⟨0, 0, 0, fun _ => ⟨0, 0, 0⟩⟩, fun h => absurd h (Nat.lt_irrefl 0), fun _ => ⟨rfl, rfl⟩, Nat.le_refl _, Nat.zero_le _⟩
  · simp at e; obtain ⟨rfl, rfl, rfl⟩ := e
    rw [cells43] at hi
    have hlm : len ≤ m := by rw [hmm]; split <;> omega
    have hex : ∀ j, ∃ t : Ev, j < len → ∃ sp cap, w.cell? ((ad.add (j * 3)).add 0) = some (.int .i64 t.k) ∧ w.cell? ((ad.add (j * 3)).add 1) = some (.int .i64 t.c) ∧ w.cell? ((ad.add (j * 3)).add 2) = some (.slice sp t.n cap) ∧ OpS w sp t.n t.o ∧ (sp = none → t.n = 0 ∧ cap = 0) ∧ t.n ≤ 9223372036854775807 := fun j => by
      by_cases hj : j < len
      · obtain ⟨cs, h1, h2⟩ := hi j (by omega)
        obtain ⟨t, ht⟩ := ev_of h1 h2
        exact ⟨t, fun _ => ht⟩
      · exact ⟨⟨0, 0, 0, fun _ => ⟨0, 0, 0⟩⟩, fun h => absurd h hj⟩
    obtain ⟨E, hE⟩ := Classical.skolem.mp hex
    refine ⟨E, fun hpos => ?_, fun h => (by cases h), hl, by unfold maxLen at hm; omega⟩
    obtain ⟨b, off, spot⟩ := ad
    obtain ⟨_, _, h0, _⟩ := hE 0 hpos
    have hspot : spot = none := by simpa [Addr.add] using World.cell?_spot h0
    subst hspot
    refine ⟨b, off, rfl, ?_, fun j hj => ?_⟩
    · have := cell_lt h0; simpa [block_add] using this
    · obtain ⟨sp, cap, h1, h2, h3, h4, h5, h6⟩ := hE j hj
      rw [Go.WideShapes.add_plain, Go.WideShapes.add_plain] at h1 h2 h3
      exact ⟨sp, cap, h1, h2, h3, h4, h5, h6⟩

end

end Go.Proofs.Yteobndfkkpfnlaa
