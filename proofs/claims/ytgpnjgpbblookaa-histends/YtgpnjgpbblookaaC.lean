/-
  Contracts of slices.Clone and of answers.
-/
import Derived.Test.YtgpnjgpbblookaaB
import Derived.WalkSpells
namespace Go.Proofs.Ytgpnjgpbblookaa
open Go.ChangeShapes Go.WideShapes Go.ChangeAt Go.RowKit

theorem info38 : (Try.prog.info? 38).map (fun i => (i.zero, i.size, i.bytes)) = some (some (.agg #[.int .i64 0, .int .i64 0, .int .i64 0]), 3, 24) := by kernel_rfl
/-- operations' cells -/
def rowO (o : Nat → O3) (n : Nat) : List Value := (List.range n).flatMap fun i => [Value.int .i64 (o i).k, .int .i64 (o i).key, .int .i64 (o i).v]
theorem rowO_succ (o : Nat → O3) (n : Nat) : rowO o (n + 1) = rowO o n ++ [Value.int .i64 (o n).k, .int .i64 (o n).key, .int .i64 (o n).v] := by
  unfold rowO; rw [List.range_succ, List.flatMap_append]; rfl
theorem rowO_length (o : Nat → O3) (n : Nat) : (rowO o n).length = n * 3 := by
  induction n with
  | zero => rfl
  | succ n ih => rw [rowO_succ, List.length_append, ih]; simp; omega
theorem rowO_get (o : Nat → O3) (n i : Nat) (hi : i < n) : (rowO o n)[i * 3]? = some (.int .i64 (o i).k) ∧ (rowO o n)[i * 3 + 1]? = some (.int .i64 (o i).key) ∧ (rowO o n)[i * 3 + 2]? = some (.int .i64 (o i).v) := by
  induction n with
  | zero => omega
  | succ n ih =>
    rw [rowO_succ]
    by_cases h : i < n
    · rw [List.getElem?_append_left (by rw [rowO_length]; omega), List.getElem?_append_left (by rw [rowO_length]; omega), List.getElem?_append_left (by rw [rowO_length]; omega)]
      exact ih h
    · obtain rfl : i = n := by omega
      rw [List.getElem?_append_right (by rw [rowO_length]; omega), List.getElem?_append_right (by rw [rowO_length]; omega), List.getElem?_append_right (by rw [rowO_length]; omega), rowO_length]
      exact ⟨by rw [Nat.sub_self]; rfl, by rw [Nat.add_sub_cancel_left]; rfl, by rw [Nat.add_sub_cancel_left]; rfl⟩
theorem rowO_one (o : Nat → O3) (n : Nat) : ∀ u ∈ rowO o n, u.oneCell' = true := by
  intro u hu
  unfold rowO at hu
  rw [List.mem_flatMap] at hu
  obtain ⟨i, _, hu⟩ := hu
  simp at hu
  rcases hu with rfl | rfl | rfl <;> rfl
theorem OpS.cellAt {w : World} {b off n : Nat} {o : Nat → O3} (h : OpS w (some ⟨b, off, none⟩) n o) (j : Nat) (u : Value) (hj : (rowO o n)[j]? = some u) : w.cell? ⟨b, off + j, none⟩ = some u := by
  have hjl : j < n * 3 := by
    rcases Nat.lt_or_ge j (n * 3) with h' | h'
    · exact h'
    · rw [List.getElem?_eq_none (by rw [rowO_length]; exact h')] at hj; cases hj
  obtain ⟨b', off', e, _, hc⟩ := h (by omega)
  injection e with e
  injection e with e1 e2
  subst e1 e2
  obtain ⟨c0, c1, c2⟩ := hc (j / 3) (by omega)
  obtain ⟨g0, g1, g2⟩ := rowO_get o n (j / 3) (by omega)
  have hm : j % 3 = 0 ∨ j % 3 = 1 ∨ j % 3 = 2 := by omega
  rcases hm with hm | hm | hm
  · have e2 : j / 3 * 3 = j := by omega
    rw [e2] at c0 g0
    rw [c0, ← g0, hj]
  · have e2 : j / 3 * 3 + 1 = j := by omega
    rw [e2] at g1
    rw [show off + j / 3 * 3 + 1 = off + j by omega] at c1
    rw [c1, ← g1, hj]
  · have e2 : j / 3 * 3 + 2 = j := by omega
    rw [e2] at g2
    rw [show off + j / 3 * 3 + 2 = off + j by omega] at c2
    rw [c2, ← g2, hj]

theorem own38_ops {w : World} {base n cap : Nat} {sp : Option Addr} {o : Nat → O3} (h : w.ownsRow base 38 3 (.slice sp n cap) n (rowO o n)) : OpS w sp n o := by
  intro hn
  obtain ⟨g, cap', e, _, hl⟩ := h.form hn
  injection e with e1 e2 e3
  subst e1
  refine ⟨g, 0, rfl, hl, fun i hi => ?_⟩
  obtain ⟨g0, g1, g2⟩ := rowO_get o n i hi
  have h0 := (h.cellAt (i * 3) (by omega)).trans g0
  have h1 := (h.cellAt (i * 3 + 1) (by omega)).trans g1
  have h2 := (h.cellAt (i * 3 + 2) (by omega)).trans g2
  simp only [Nat.zero_add]
  exact ⟨h0, h1, h2⟩

theorem eq_nil_some (u : World) (ad : Addr) (n cap : Nat) : (binOp .eql 34 (.slice (some ad) n cap) (.slice none 0 0)).run Try.prog u = .ok (.bool false) u := by
  have h := Lib.run_eql_slice_nil (P := Try.prog) u 34 38 (some ad) n cap 0 0 Try.underlying34
  simpa using h

def CloneP (n : Nat) (o : Nat → O3) (w : World) (e : Ending) (w' : World) : Prop :=
  ∃ sp cap, e = .returned (.slice sp n cap) ∧ w'.ownsRow w.heap.size 38 3 (.slice sp n cap) n (rowO o n) ∧ (sp = none → n = 0 ∧ cap = 0) ∧ Below w.heap.size w w'
theorem clone_any (sp : Option Addr) (n cap : Nat) (o : Nat → O3) (w : World) (hn : n ≤ 1000000) (hs : OpS w sp n o) (hsp : sp = none → n = 0 ∧ cap = 0) : Calls Try.prog 39 #[.slice sp n cap] w (CloneP n o w) := by
  obtain ⟨i0, hi, hz0, hz1, hz2⟩ := info_parts info38
  cases sp with
  | none =>
    obtain ⟨rfl, rfl⟩ := hsp rfl
    clear hsp hs
    have heq : ∀ u : World, (binOp .eql 34 (.slice none 0 0) (.slice none 0 0)).run Try.prog u = .ok (.bool true) u := fun u => run_eql_nil_slice u 34 38 none 0 0 0 0 Try.underlying34
    go_enter Try.func39, Try.ntmps39
    go_wp2
    go_ret
    exact ⟨none, 0, rfl, World.ownsRow_nil _ _ _ _, fun _ => ⟨rfl, rfl⟩, Below.refl _ _⟩
  | some ad =>
    have HS := Lib.hid hs
    clear hs hsp
    have heq : ∀ u : World, (binOp .eql 34 (.slice (some ad) n cap) (.slice none 0 0)).run Try.prog u = .ok (.bool false) u := fun u => eq_nil_some u ad n cap
    go_enter Try.func39, Try.ntmps39
    go_wp2_with (at_builtin; refine wpList_append_own _ rfl _ _ 34 rfl w.heap.size 38 i0 (.agg #[.int .i64 0, .int .i64 0, .int .i64 0]) 3 24 Try.underlying34 hi hz0 hz1 hz2 rfl (by decide) _ 0 [] rfl ?c0 ad n cap (rowO o n) rfl ?cl ?c1 ?c2 ?c3 ?c4 ?c5 ?_)
    case c0 => exact World.ownsRow_lit w #[] 0 (Nat.le_refl _) (Nat.zero_le _) rfl
    case cl => rw [rowO_length]
    case c1 =>
      intro j u hj
      have hjn : j < n * 3 := by
        rcases Nat.lt_or_ge j (n * 3) with h' | h'
        · exact h'
        · rw [List.getElem?_eq_none (by rw [rowO_length]; exact h')] at hj; cases hj
      obtain ⟨b, off, e', hlt, _⟩ := HS.out (by omega)
      injection e' with e'
      subst e'
      rw [Go.WideShapes.add_plain, World.cell?_alloc_lt _ _ _ hlt]
      exact HS.out.cellAt j u hj
    case c2 => exact rowO_one _ _
    case c3 => unfold maxLen; omega
    case c4 => omega
    case c5 => simp
    intro v5 w5 hown5 hgrow5 hne5
    have HB5 : Hid (Below w.heap.size w w5) := Lib.hid (((Below.refl _ _).alloc (Nat.le_refl _) _).grown hgrow5 (by simp) (fun q hq => by simp [Value.ownBlock] at hq; omega))
    obtain ⟨g5, cap', rfl⟩ : ∃ g cap', v5 = .slice (some ⟨g, 0, none⟩) n cap' := by
      rcases hown5.2 with ⟨e, _⟩ | ⟨g, cp, cur, e, hg, _⟩
      · exact absurd e (by simpa using hne5)
      · exact ⟨g, cp, e⟩
    have HO := Lib.hid hown5
    clear hown5 hgrow5 hne5
    go_wp2
    go_ret
    exact ⟨_, cap', rfl, HO.out, fun h => (by cases h), HB5.out⟩

/-- what a transaction wrote last to a key, ahead of its i-th operation -/
def lastW (t : Nat → O3) : Nat → Int → Option Int
  | 0 => fun _ => none
  | i + 1 => fun key => if (t i).k = 2 ∧ key = (t i).key then some (t i).v else lastW t i key
/-- what is wrong with the i-th answer -/
def errAt (a t : Nat → O3) (i : Nat) : Int :=
  if ¬ (t i).k = (a i).k ∨ ¬ (t i).key = (a i).key then 22
  else if (t i).k = 2 then (if (t i).v = (a i).v then 0 else 22)
  else match lastW t i (t i).key with
    | some v => if (t i).v = v then 0 else 24
    | none => 0
/-- what is wrong with answers -/
def AnsP (na nt : Nat) (a t : Nat → O3) (er : Int) : Prop :=
  (¬ nt = na ∧ er = 22) ∨ (nt = na ∧ ((er = 0 ∧ ∀ j, j < nt → errAt a t j = 0) ∨ ∃ i, i < nt ∧ er = errAt a t i ∧ ¬ er = 0 ∧ ∀ j, j < i → errAt a t j = 0))
def AnsPost (na nt : Nat) (a t : Nat → O3) (w : World) (e : Ending) (w' : World) : Prop := ∃ er : Int, e = .returned (.int .i64 er) ∧ AnsP na nt a t er ∧ Below w.heap.size w w'
end Go.Proofs.Ytgpnjgpbblookaa
