/-
  Parameters opened: pairs, integers.
-/
import Derived.Test.YtcolcgkfppjflaaG
import Derived.ChangeSame
import Derived.Deep.Slices
namespace Go.Proofs.Ytcolcgkfppjflaa
open Go.ChangeShapes Go.WideShapes Go.ChangeAt Go.RowKit Go.Deep

theorem cells3 : Try.prog.cellsOf 3 = 1 := by kernel_rfl
theorem cells27 : Try.prog.cellsOf 27 = 2 := by kernel_rfl
section
variable {H : Type} {enc : TypeId × Value → H} {w : World} {base : Nat} {spare : Nat → Bool} {held : Bool}
theorem pair_of {n : Nat} {cs : List Value} {y : DataW H × List MemPlace} {a : Addr} (hc : w.cells? base a 2 = some cs) (h : DataW.trod enc Try.prog w base spare held n 27 cs = some y) : ∃ q : Int × Int, w.cell? a = some (.int .i64 q.1) ∧ w.cell? (a.add 1) = some (.int .i64 q.2) := by
  obtain ⟨_, hlen, hat⟩ := World.cells?_some hc
  obtain ⟨xs, n', _, _, _, hxl, hf⟩ := DataW.trod_array Try.underlying27 h
  match cs, hlen with
  | [c0, c1], _ =>
    match xs, hxl with
    | [y0, y1], _ =>
      have g0 := hf 0 (by decide)
      have g1 := hf 1 (by decide)
      simp [cells3] at g0 g1
      obtain ⟨u, e0, _, _⟩ := DataW.trod_int Try.underlying3 g0
      obtain ⟨v, e1, _, _⟩ := DataW.trod_int Try.underlying3 g1
      simp at e0 e1
      subst e0 e1
      have h0 := hat 0 (by decide)
      have h1 := hat 1 (by decide)
      refine ⟨(u, v), ?_, h1⟩
      have e : a.add 0 = a := by unfold Addr.add; cases a; split <;> simp_all
      rw [← e]; exact h0
theorem pairs_of {fuel : Nat} {a : Option Addr} {len cap : Nat} {x : DataW H × List MemPlace} (h : DataW.trod enc Try.prog w base spare held fuel 22 [.slice a len cap] = some x) : ∃ p, PsS w a len p := by
  rcases open_slice Try.underlying22 h with ⟨e, _⟩ | ⟨ad, len', cap', m, n, D, Pl, e, _, hl, hm, hmm, _, hi⟩
  · simp at e; obtain ⟨rfl, rfl, rfl⟩ := e
    exact ⟨fun _ => (0, 0), fun h => by omega⟩
  · simp at e; obtain ⟨rfl, rfl, rfl⟩ := e
    rw [cells27] at hi
    have hlm : len ≤ m := by rw [hmm]; split <;> omega
    have hex : ∀ j, ∃ t : Int × Int, j < len → w.cell? (ad.add (j * 2)) = some (.int .i64 t.1) ∧ w.cell? ((ad.add (j * 2)).add 1) = some (.int .i64 t.2) := fun j => by
      by_cases hj : j < len
      · obtain ⟨cs, h1, h2⟩ := hi j (by omega)
        obtain ⟨t, ht⟩ := pair_of h1 h2
        exact ⟨t, fun _ => ht⟩
      · exact ⟨(0, 0), fun h => absurd h hj⟩
    obtain ⟨T, hT⟩ := Classical.skolem.mp hex
    refine ⟨T, fun hpos => ?_⟩
    obtain ⟨b, off, spot⟩ := ad
    have h0 := (hT 0 hpos).1
    have hspot : spot = none := by simpa [Addr.add] using World.cell?_spot h0
    subst hspot
    refine ⟨b, off, rfl, ?_, fun j hj => ?_⟩
    · have := cell_lt h0; simpa [block_add] using this
    · have := hT j hj
      rw [Go.WideShapes.add_plain, Go.WideShapes.add_plain] at this
      exact this
theorem ints_of {fuel : Nat} {a : Option Addr} {len cap : Nat} {x : DataW H × List MemPlace} (h : DataW.trod enc Try.prog w base spare held fuel 33 [.slice a len cap] = some x) : ∃ f, IsS w a len f := by
  rcases open_slice Try.underlying33 h with ⟨e, _⟩ | ⟨ad, len', cap', m, n, D, Pl, e, _, hl, hm, hmm, _, hi⟩
  · simp at e; obtain ⟨rfl, rfl, rfl⟩ := e
    exact ⟨fun _ => 0, fun h => by omega⟩
  · simp at e; obtain ⟨rfl, rfl, rfl⟩ := e
    rw [cells3] at hi
    have hlm : len ≤ m := by rw [hmm]; split <;> omega
    have hex : ∀ j, ∃ t : Int, j < len → w.cell? (ad.add (j * 1)) = some (.int .i64 t) := fun j => by
      by_cases hj : j < len
      · obtain ⟨cs, h1, h2⟩ := hi j (by omega)
        obtain ⟨_, hlen, hat⟩ := World.cells?_some h1
        match cs, hlen with
        | [c0], _ =>
          obtain ⟨u, e0, _, _⟩ := DataW.trod_int Try.underlying3 h2
          simp at e0
          subst e0
          have h0 := hat 0 (by decide)
          have e : ∀ a : Addr, a.add 0 = a := fun a => by unfold Addr.add; cases a; split <;> simp_all
          rw [e] at h0
          exact ⟨u, fun _ => h0⟩
      · exact ⟨0, fun h => absurd h hj⟩
    obtain ⟨T, hT⟩ := Classical.skolem.mp hex
    refine ⟨T, fun hpos => ?_⟩
    obtain ⟨b, off, spot⟩ := ad
    have h0 := hT 0 hpos
    have hspot : spot = none := by simpa [Addr.add] using World.cell?_spot h0
    subst hspot
    refine ⟨b, off, rfl, ?_, fun j hj => ?_⟩
    · have := cell_lt h0; simpa [block_add] using this
    · have := hT j hj
      rw [Go.WideShapes.add_plain, Nat.mul_one] at this
      exact this
end
end Go.Proofs.Ytcolcgkfppjflaa
