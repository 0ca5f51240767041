/-
  What Of answers, whatever it is; two answers that differ in names alone.
-/
import Derived.Test.YtgpnjgpbblookaaV
namespace Go.Proofs.Ytgpnjgpbblookaa
open Go.ChangeShapes Go.WideShapes Go.ChangeAt Go.RowKit

/-- what Of answers -/
def Fact (E : Nat → Ev) (len m : Nat) (T : Nat → Tx) (i : Nat) (er : Int) : Prop :=
  (400 < len ∧ m = 0 ∧ i = 400 ∧ er = 4) ∨ (len ≤ 400 ∧ ((i < len ∧ Good E i ∧ ErrOf (stateAt E i) (E i) er ∧ ¬ er = 0 ∧ m = 0) ∨ (Good E len ∧ i = 0 ∧ er = 0 ∧ m = (stateAt E len).m ∧ T = (stateAt E len).T)))
def OfQ (E : Nat → Ev) (len : Nat) (w : World) (e : Ending) (w' : World) : Prop :=
  ∃ (m : Nat) (sp : Option Addr) (cp i : Nat) (er : Int) (T : Nat → Tx) (V : Nat → Value), e = .returned (.tuple #[.slice sp m cp, .int .i64 (i : Int), .int .i64 er]) ∧ m ≤ 400 ∧ i ≤ 400 ∧ w'.ownsRow w.heap.size 36 3 (.slice sp m cp) m (rowT T V m) ∧
    (∀ j, j < m → ∃ sp cap, V j = .slice sp (T j).n cap ∧ OpS w' sp (T j).n (T j).o ∧ (T j).n ≤ 1000) ∧ Below w.heap.size w w' ∧ Fact E len m T i er

theorem of_q (a : Option Addr) (len cap : Nat) (E : Nat → Ev) (w : World) (hlen : len ≤ 9223372036854775807) (hs : EvS w a len E) : Calls Try.prog 13 #[.slice a len cap] w (OfQ E len w) := by
  refine (of_any a len cap E w hlen hs).mono ?_
  rintro e w' ⟨hb, ⟨h4, rfl⟩ | ⟨h4, ⟨i, er, hi, hg, he, hne, rfl⟩ | ⟨hg, v, hb', mb, mw, V, rfl, hst⟩⟩⟩
  · exact ⟨0, none, 0, 400, 4, fun _ => ⟨0, 0, 0, fun _ => ⟨0, 0, 0⟩⟩, fun _ => .slice none 0 0, rfl, by omega, by omega, World.ownsRow_nil _ _ _ _, fun j hj => absurd hj (Nat.not_lt_zero _), hb, .inl ⟨h4, rfl, rfl, rfl⟩⟩
  · exact ⟨0, none, 0, i, er, fun _ => ⟨0, 0, 0, fun _ => ⟨0, 0, 0⟩⟩, fun _ => .slice none 0 0, rfl, by omega, by omega, World.ownsRow_nil _ _ _ _, fun j hj => absurd hj (Nat.not_lt_zero _), hb, .inr ⟨h4, .inl ⟨hi, hg, he, hne, rfl⟩⟩⟩
  · obtain ⟨sp, cp, rfl⟩ := own_form' hst.row
    refine ⟨_, sp, cp, 0, 0, _, V, rfl, ?_, by omega, hst.row, fun j hj => ?_, hb, .inr ⟨h4, .inr ⟨hg, rfl, rfl, rfl, rfl⟩⟩⟩
    · have := (inv_at E len hg).m; omega
    · obtain ⟨sp, cap, e, ho, _⟩ := hst.ops j hj
      exact ⟨sp, cap, e, own38_ops ho, by have := (inv_at E len hg).tn j hj; omega⟩

theorem fact_ren {d : Int} {E : Nat → Ev} {len m m' i i' : Nat} {T T' : Nat → Tx} {er er' : Int} (h : Fact E len m T i er) (h' : Fact (renE d E) len m' T' i' er') :
    m' = m ∧ i' = i ∧ er' = er ∧ ∀ j, j < m → (1 ≤ (T j).c ∧ (T j).c ≤ 16) ∧ T' j = renT d (T j) := by
  have err : ∀ (k : Nat) (x : Int), Good E k → (ErrOf (stateAt (renE d E) k) (renE d E k) x ↔ ErrOf (stateAt E k) (E k) x) := fun k x hg => err_ren (good_ren d E k hg).2 (E k) x
  rcases h with ⟨h4, rfl, rfl, rfl⟩ | ⟨h4, h⟩
  · rcases h' with ⟨_, rfl, rfl, rfl⟩ | ⟨g4, _⟩
    · exact ⟨rfl, rfl, rfl, fun j hj => absurd hj (Nat.not_lt_zero _)⟩
    · omega
  · rcases h' with ⟨g4, _⟩ | ⟨_, h'⟩
    · omega
    · rcases h with ⟨hi, hg, he, hne, rfl⟩ | ⟨hg, rfl, rfl, rfl, rfl⟩
      · rcases h' with ⟨hi', hg', he', hne', rfl⟩ | ⟨hg', rfl, rfl, rfl, rfl⟩
        · have hii : i' = i := by
            rcases Nat.lt_trichotomy i' i with h | h | h
            · have := (good_ren d E i hg).1 i' h
              exact absurd (err_one he' this) hne'
            · exact h
            · have h0 := hg' i h
              exact absurd (err_one he ((err i 0 hg).1 h0)) hne
          subst hii
          exact ⟨rfl, rfl, err_one ((err i' er' hg).1 he') he, fun j hj => absurd hj (Nat.not_lt_zero _)⟩
        · have h0 := hg' i hi
          exact absurd (err_one he ((err i 0 hg).1 h0)) hne
      · obtain ⟨g1, g2⟩ := good_ren d E len hg
        rcases h' with ⟨hi', hg', he', hne', rfl⟩ | ⟨hg', rfl, rfl, rfl, rfl⟩
        · exact absurd (err_one he' (g1 i' hi')) hne'
        · exact ⟨g2.m, rfl, rfl, fun j hj => ⟨g2.cl j hj, g2.T j⟩⟩
end Go.Proofs.Ytgpnjgpbblookaa
