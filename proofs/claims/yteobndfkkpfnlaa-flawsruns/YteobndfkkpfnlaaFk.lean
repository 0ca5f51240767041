/-
  The laws' big; what Of answers, in one form.
-/
import Derived.Test.YteobndfkkpfnlaaFi
import Derived.Test.YteobndfkkpfnlaaHRh
import Derived.Test.YteobndfkkpfnlaaHK
namespace Go.Proofs.Yteobndfkkpfnlaa
open Go.ChangeShapes Go.WideShapes Go.ChangeAt Go.RowKit
set_option linter.unusedVariables false

def Big (len : Nat) (E : Nat → Ev) : Prop := 120 < len ∨ ∃ j, j < len ∧ 12 < (E j).n

set_option maxRecDepth 100000 in
theorem big_any (a : Option Addr) (len cap : Nat) (E : Nat → Ev) (w : World) (hs : EvS w a len E) : Calls Try.prog 14 #[.slice a len cap] w (Tells (Big len E) w) := by
  have HS := Lib.hid hs
  clear hs
  by_cases h5 : 120 < len
  · have h5' : (120 : Int) < (len : Int) := by omega
    have HBG : Hid (Big len E) := Lib.hid (.inl h5)
    clear h5
    go_enter Try.func14, Try.ntmps14
    go_wp2
    go_ret
    exact ⟨true, rfl, ⟨fun _ => HBG.out, fun _ => rfl⟩, Below.refl _ _⟩
  · have h5' : ¬ (120 : Int) < (len : Int) := by omega
    have hl5 : len ≤ 120 := by omega
    clear h5
    go_enter Try.func14, Try.ntmps14
    go_wp2
    go_loopw [4, 10] (fun _ i wr => ∃ t : Nat, t ≤ len ∧ i = .int .i64 (t : Int) ∧ Hid (Below w.heap.size w wr ∧ ∀ j, j < t → ¬ 12 < (E j).n)) (fun _ i _ => len - (intOf i).toNat)
    case atStart => exact ⟨0, Nat.zero_le _, rfl, Lib.hid ⟨Below.refl _ _, fun i hi => absurd hi (Nat.not_lt_zero _)⟩⟩
    case round =>
      obtain ⟨t, ht, rfl, HT⟩ := hrel
      by_cases hlt : t < len
      · obtain ⟨b, off, rfl, hbl, hci⟩ := HS.out (by omega)
        obtain ⟨sp, cp, c0, c1, c2, _⟩ := hci t hlt
        have x0 := (HT.out.1.cell (p := ⟨b, off + t * 3, none⟩) hbl).trans c0
        have x1 := (HT.out.1.cell (p := ⟨b, off + t * 3 + 1, none⟩) hbl).trans c1
        have x2 := (HT.out.1.cell (p := ⟨b, off + t * 3 + 2, none⟩) hbl).trans c2
        have hlt' : (t : Int) < (len : Int) := by omega
        have HPN : Hid (¬ 12 < (E t).n → ∀ j, j < t + 1 → ¬ 12 < (E j).n) := Lib.hid fun h j hj => by
          by_cases hh : j < t
          · exact HT.out.2 j hh
          · obtain rfl : j = t := by omega
            exact h
        have HBG : Hid (12 < (E t).n → Big len E) := Lib.hid fun h => .inr ⟨t, hlt, h⟩
        have HB1 : Hid (∀ ob, Below w.heap.size w (wr.alloc ob)) := Lib.hid fun ob => HT.out.1.alloc HT.out.1.size _
        clear c0 c1 c2 hci
        generalize E t = et at *
        obtain ⟨ek, ec, en, eo⟩ := et
        dsimp only at *
        by_cases h3 : 12 < en
        · have h3' : (12 : Int) < (en : Int) := by omega
          go_wp2
          go_ret
          exact ⟨true, rfl, ⟨fun _ => HBG.out h3, fun _ => rfl⟩, HB1.out _⟩
        · have h3' : ¬ (12 : Int) < (en : Int) := by omega
          go_wp2
          go_roundw
          case rel => exact ⟨t + 1, by omega, by go_num, Lib.hid ⟨HB1.out _, HPN.out h3⟩⟩
          case measure => simp [intOf]; omega
      · obtain rfl : len = t := by omega
        have HNB : Hid (¬ Big len E) := Lib.hid fun h => by
          rcases h with h | ⟨j, hj, h⟩
          · omega
          · exact HT.out.2 j hj h
        go_wp2
        go_ret
        exact ⟨false, rfl, ⟨fun h => (by cases h), fun h => absurd h HNB.out⟩, HT.out.1⟩


/-- transactions of a history -/
structure HTx (m : Nat) (T : Nat → Tx) : Prop where
  ok : TOk m T
  n : ∀ j, j < m → (T j).n ≤ 12
  op : ∀ j, j < m → ∀ x, x < (T j).n → HOp ((T j).o x)
theorem htx_of {E : Nat → Ev} {len : Nat} (hl : len ≤ 400) (h : Good E len) : HTx (stateAt E len).m (stateAt E len).T := by
  have hi := inv_at E len h
  have ho := hops_at E len h
  refine ⟨⟨Nat.le_trans hi.m hl, fun j hj => Nat.le_trans (hi.tn j hj) (by omega), fun j hj x hx => (ho j hj x hx).1.2, fun j hj x hx => ?_⟩, hi.tn, ho⟩
  have := (ho j hj x hx).2
  unfold In64
  omega
theorem tx_row {w' : World} {base m cap : Nat} {sp : Option Addr} {T : Nat → Tx} {V : Nat → Value} (h : w'.ownsRow base 47 3 (.slice sp m cap) m (rowT T V m))
    (hv : ∀ j, j < m → ∃ sp cap, V j = .slice sp (T j).n cap ∧ OpS w' sp (T j).n (T j).o ∧ (T j).n ≤ 1000) : TxS w' sp m T := by
  intro hn
  obtain ⟨g, cap', e, _, hl⟩ := h.form hn
  injection e with e1 e2 e3
  subst e1
  refine ⟨g, 0, rfl, hl, fun i hi => ?_⟩
  obtain ⟨g0, g1, g2⟩ := rowT_get T V m i hi
  have h0 := (h.cellAt (i * 3) (by omega)).trans g0
  have h1 := (h.cellAt (i * 3 + 1) (by omega)).trans g1
  have h2 := (h.cellAt (i * 3 + 2) (by omega)).trans g2
  obtain ⟨sp9, cp9, e9, ho, _⟩ := hv i hi
  rw [e9] at h2
  simp only [Nat.zero_add]
  exact ⟨sp9, cp9, h0, h1, h2, ho⟩
/-- what Of answers: an error, or transactions -/
def OfR (E : Nat → Ev) (len : Nat) (w : World) (e : Ending) (w' : World) : Prop :=
  ∃ (m : Nat) (sp : Option Addr) (cp i : Nat) (er : Int), e = .returned (.tuple #[.slice sp m cp, .int .i64 (i : Int), .int .i64 er]) ∧ Below w.heap.size w w' ∧
    (er = 0 → Good E len ∧ m = (stateAt E len).m ∧ HTx m (stateAt E len).T ∧ TxS w' sp m (stateAt E len).T ∧ ∃ V, w'.ownsRow w.heap.size 47 3 (.slice sp m cp) m (rowT (stateAt E len).T V m) ∧ ∀ j, j < m → ∃ sp cap, V j = .slice sp ((stateAt E len).T j).n cap)
theorem of_r (a : Option Addr) (len cap : Nat) (E : Nat → Ev) (w : World) (hn : ∀ i, i < len → (E i).n ≤ 1000) (hs : EvS w a len E) : Calls Try.prog 15 #[.slice a len cap] w (OfR E len w) := by
  refine (refof_any a len cap E w hn hs).mono ?_
  rintro e w' ⟨m, sp, cp, i, er, T, V, rfl, hm, hi, ho, hv, hb, hf⟩
  refine ⟨m, sp, cp, i, er, rfl, hb, fun h0 => ?_⟩
  subst h0
  rcases hf with ⟨_, _, _, h⟩ | ⟨hl, ⟨_, _, _, h, _⟩ | ⟨hg, _, _, rfl, rfl⟩⟩
  · omega
  · exact absurd rfl h
  · exact ⟨hg, rfl, htx_of hl hg, tx_row ho hv, V, ho, fun j hj => by obtain ⟨s, c, e, _⟩ := hv j hj; exact ⟨s, c, e⟩⟩
end Go.Proofs.Yteobndfkkpfnlaa
