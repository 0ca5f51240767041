/-
  A set of numbers in memory: a map of our own from ints to bools; what is said of each operation of a transaction.
-/
import Derived.Test.YtbdpinfiicpmhaaP11
import Derived.Maps.OwnSet
import Derived.Maps.Views
namespace Go.Proofs.Ytbdpinfiicpmhaa
open Go.ChangeShapes Go.WideShapes Go.ChangeAt Go.RowKit Go.Maps RefMath
set_option linter.unusedVariables false

theorem law3 : Keyed Try.prog 3 := int_keyed Try.underlying3
theorem zero4 (w : World) : (zeroValue 4).run Try.prog w = .ok (.bool false) w := by kernel_rfl
theorem wf64 {x : Int} (h : -9223372036854775808 ≤ x ∧ x ≤ 9223372036854775807) : (Lit.int .i64 x).wf = true := by
  simp [Lit.wf, IntKind.min, IntKind.max, IntKind.signed, IntKind.bits]; omega
theorem plainB {e : TypeId} (he : Try.prog.underlying e = some .bool) {v : Value} {z : DataW Unit × List MemPlace} (h : plainElem Try.prog e v = some z) : ∃ x, v = .bool x ∧ z = (.lit (.bool x), []) := by
  unfold plainElem at h
  rw [he] at h
  cases v <;> simp at h
  subst h
  exact ⟨_, rfl, rfl⟩
/-- block b is a map that has m's numbers, at most n -/
def MapB (w : World) (b n : Nat) (m : Int → Bool) : Prop :=
  ∃ D : DataW Unit, w.ownsMap Try.prog 3 (plainElem Try.prog 4) b n D ∧ ∀ x, D.atKey (.int .i64 x) (.lit (.bool false)) = .lit (.bool (m x))
theorem MapB.made (w : World) : MapB (w.alloc (.map #[] 0)) w.heap.size 0 (fun _ => false) :=
  ⟨.map [], World.ownsMap_made w Try.prog 3 _, fun _ => rfl⟩
theorem MapB.lt {w : World} {b n : Nat} {m : Int → Bool} (h : MapB w b n m) : b < w.heap.size := by
  obtain ⟨D, ho, _⟩ := h; exact ho.lt
theorem MapB.kept {w w' : World} {b n : Nat} {m : Int → Bool} (h : MapB w b n m) (hb : w'.heap[b]? = w.heap[b]?) : MapB w' b n m := by
  obtain ⟨D, ⟨es, clock, hb', F, hs, hD⟩, hv⟩ := h
  exact ⟨D, ⟨es, clock, hb.trans hb', F, hs, hD⟩, hv⟩
theorem MapB.mono {w : World} {b n n' : Nat} {m : Int → Bool} (h : MapB w b n m) (hn : n ≤ n') : MapB w b n' m := by
  obtain ⟨D, ho, hv⟩ := h; exact ⟨D, ho.mono hn, hv⟩
theorem MapB.isMap {w : World} {b n : Nat} {m : Int → Bool} (h : MapB w b n m) : ∃ es cl, w.heap[b]? = some (.map es cl) := by
  obtain ⟨D, ⟨es, clock, hb, _⟩, _⟩ := h
  exact ⟨es, clock, hb⟩
theorem MapB.get {w : World} {b n : Nat} {m : Int → Bool} (h : MapB w b n m) (x : Int) (hx : -9223372036854775808 ≤ x ∧ x ≤ 9223372036854775807) :
    (Instr.lookup 43 (.map (some b)) (.int .i64 x) false).run Try.prog w = .ok (.bool (m x)) w := by
  obtain ⟨D, ho, hv⟩ := h
  obtain ⟨v, ps, hrun, hR⟩ := ho.lookup law3 Try.underlying43 (zero4 w) (plainElem_bool Try.underlying4 false) (keyOf_int_mk Try.underlying3 (wf64 hx))
  obtain ⟨c, rfl, hz⟩ := plainB Try.underlying4 hR
  simp only [Prod.mk.injEq] at hz
  have e := hz.1
  rw [hv x] at e
  injection e with e
  injection e with e
  rw [hrun, e]
theorem MapB.update {w : World} {b n : Nat} {m : Int → Bool} (h : MapB w b n m) (x : Int) (hn : n < 1000000) (hx : -9223372036854775808 ≤ x ∧ x ≤ 9223372036854775807) :
    ∃ w', (Instr.mapUpdate 43 (.map (some b)) (.int .i64 x) (.bool true)).run Try.prog w = .ok () w' ∧ MapB w' b (n + 1) (fun y => if y = x then true else m y) ∧ w.grownBy w' (some b) := by
  obtain ⟨D, ho, hD⟩ := h
  obtain ⟨w', hrun, ho', hg⟩ := ho.update law3 Try.underlying43 (by unfold maxLen; omega) (keyOf_int_mk Try.underlying3 (wf64 hx)) (plainElem_bool Try.underlying4 true)
  refine ⟨w', hrun, ⟨_, ho', fun y => ?_⟩, hg⟩
  by_cases hy : y = x
  · subst hy
    dsimp only
    rw [if_pos rfl]
    exact atKey_put_same (k := Lit.int .i64 y) ho.isMap (law3.key (keyOf_int_mk Try.underlying3 (wf64 hx))) _ _
  · dsimp only
    rw [if_neg hy]
    have hne : (Lit.int .i64 y) ≠ Lit.int .i64 x := fun e => by injection e with _ e; exact hy e
    rw [atKey_put_other hne]
    exact hD y

/-- what is said of each operation: its key is the plan's, a read reads nothing yet, a write's value is the client's next one; kinds have weight -/
def LsO (p : Pl) (c : Int) : Nat → List O3 → Prop
  | _, [] => True
  | n, x :: l => (0 ≤ x.key ∧ x.key < p.keys) ∧ ((x.k = 1 ∧ x.v = 0 ∧ 0 < p.r + p.b + p.s ∧ LsO p c n l) ∨ (x.k = 2 ∧ x.v = 16 * ((n + 1 : Nat) : Int) + c - 1 ∧ 0 < p.w + p.b ∧ LsO p c (n + 1) l))
/-- the writes behind them -/
def wcO : Nat → List O3 → Nat
  | n, [] => n
  | n, x :: l => if x.k = 2 then wcO (n + 1) l else wcO n l
theorem LsO.app {p : Pl} {c : Int} : ∀ {l m : List O3} {n : Nat}, LsO p c n l → LsO p c (wcO n l) m → LsO p c n (l ++ m) := by
  intro l
  induction l with
  | nil => intro m n _ h; exact h
  | cons x l ih =>
    intro m n h h'
    obtain ⟨h1, h2⟩ := h
    refine ⟨h1, ?_⟩
    rcases h2 with ⟨a, b, d, e⟩ | ⟨a, b, d, e⟩
    · refine .inl ⟨a, b, d, ih e ?_⟩
      unfold wcO at h'
      rw [if_neg (by omega)] at h'
      exact h'
    · refine .inr ⟨a, b, d, ih e ?_⟩
      unfold wcO at h'
      rw [if_pos a] at h'
      exact h'
theorem wcO_app : ∀ (l m : List O3) (n : Nat), wcO n (l ++ m) = wcO (wcO n l) m := by
  intro l
  induction l with
  | nil => intro m n; rfl
  | cons x l ih =>
    intro m n
    show (if x.k = 2 then wcO (n + 1) (l ++ m) else wcO n (l ++ m)) = wcO (if x.k = 2 then wcO (n + 1) l else wcO n l) m
    split
    · exact ih m (n + 1)
    · exact ih m n
theorem scan_ls {p : Pl} {c : Int} {n : Nat} {key : Int} (hk : 0 ≤ key) (hs : 0 < p.r + p.b + p.s) : ∀ m : Nat, key + (m : Int) ≤ p.keys → LsO p c n (scanL key m) ∧ wcO n (scanL key m) = n := by
  intro m
  induction m with
  | zero => intro _; exact ⟨trivial, rfl⟩
  | succ m ih =>
    intro h
    obtain ⟨h1, h2⟩ := ih (by omega)
    rw [scanL_succ]
    refine ⟨h1.app ?_, ?_⟩
    · rw [h2]
      exact ⟨⟨by show 0 ≤ key + (m : Int); omega, by show key + (m : Int) < p.keys; omega⟩, .inl ⟨rfl, rfl, hs, trivial⟩⟩
    · rw [wcO_app, h2]; rfl
theorem smO_ls {p : Pl} (hp : p.right) (c : Int) (st n : Nat) (room : Int) (hr : 1 ≤ room) : LsO p c n (smO p c st n room).1 ∧ wcO n (smO p c st n room).1 = (smO p c st n room).2.2 := by
  have hk := drawn_in hp st
  have hx := drawn_lt (MixMath.nxt st) p.sum hp.pos
  have hx0 := drawn_nonneg (MixMath.nxt st) p.sum
  have h1 := hp.r; have h2 := hp.w; have h3 := hp.b; have h4 := hp.s
  unfold wOk at h1 h2 h3 h4
  have hsum : p.sum = p.r + p.w + p.b + p.s := rfl
  have h30 := drawn_nonneg (MixMath.nxt (MixMath.nxt st)) 3
  unfold smO
  dsimp only
  split
  · exact ⟨⟨hk, .inl ⟨rfl, rfl, by omega, trivial⟩⟩, rfl⟩
  · split
    · exact ⟨⟨hk, .inr ⟨rfl, rfl, by omega, trivial⟩⟩, rfl⟩
    · split
      · split
        · exact ⟨⟨hk, .inl ⟨rfl, rfl, by omega, ⟨hk, .inr ⟨rfl, rfl, by omega, trivial⟩⟩⟩⟩, rfl⟩
        · exact ⟨⟨hk, .inl ⟨rfl, rfl, by omega, trivial⟩⟩, rfl⟩
      · exact scan_ls hk.1 (by omega) _ (by omega)
theorem its_ls {p : Pl} (hp : p.right) {c : Int} {n0 want : Nat} {s : List O3 × Nat × Nat} (h : LsO p c n0 s.1 ∧ wcO n0 s.1 = s.2.2) : ∀ j, LsO p c n0 (its p c want s j).1 ∧ wcO n0 (its p c want s j).1 = (its p c want s j).2.2 := by
  intro j
  induction j with
  | zero => exact h
  | succ j ih =>
    show LsO p c n0 (stp p c want (its p c want s j)).1 ∧ wcO n0 (stp p c want (its p c want s j)).1 = (stp p c want (its p c want s j)).2.2
    unfold stp
    split
    · rename_i hl
      obtain ⟨h1, h2⟩ := ih
      obtain ⟨h3, h4⟩ := smO_ls hp c (its p c want s j).2.1 (its p c want s j).2.2 ((want : Int) - ((its p c want s j).1.length : Int)) (by omega)
      dsimp only
      rw [← h2] at h3 h4 ⊢
      exact ⟨h1.app h3, by rw [wcO_app, h4]⟩
    · exact ih
theorem nx_ls {p : Pl} (hp : p.right) (c : Int) (st n : Nat) : LsO p c n (nx p c st n).1 ∧ wcO n (nx p c st n).1 = (nx p c st n).2.2 :=
  its_ls hp (s := ([], MixMath.nxt st, n)) ⟨trivial, rfl⟩ _
/-- the numbers that are in the set were written: by an earlier client, or by this one so far -/
def Wrt (c : Int) (cnt : Nat) (m : Int → Bool) : Prop := ∀ x, m x = true → ∃ (c' : Int) (k : Nat), 1 ≤ c' ∧ c' ≤ 16 ∧ 1 ≤ k ∧ x = 16 * (k : Int) + c' - 1 ∧ (c' < c ∨ (c' = c ∧ k ≤ cnt))
theorem Wrt.free {c : Int} {cnt : Nat} {m : Int → Bool} (h : Wrt c cnt m) (hc : 1 ≤ c) (hc' : c ≤ 16) : m (16 * ((cnt + 1 : Nat) : Int) + c - 1) = false := by
  rw [← Bool.not_eq_true]
  intro e
  obtain ⟨c', k, h1, h2, h3, h4, h5⟩ := h _ e
  omega
theorem Wrt.add {c : Int} {cnt : Nat} {m : Int → Bool} (h : Wrt c cnt m) (hc : 1 ≤ c) (hc' : c ≤ 16) : Wrt c (cnt + 1) (fun y => if y = 16 * ((cnt + 1 : Nat) : Int) + c - 1 then true else m y) := by
  intro x hx
  dsimp only at hx
  split at hx
  · rename_i e
    exact ⟨c, cnt + 1, hc, hc', by omega, e, .inr ⟨rfl, Nat.le_refl _⟩⟩
  · obtain ⟨c', k, h1, h2, h3, h4, h5⟩ := h x hx
    exact ⟨c', k, h1, h2, h3, h4, by omega⟩
theorem Wrt.next {c : Int} {cnt : Nat} {m : Int → Bool} (h : Wrt c cnt m) : Wrt (c + 1) 0 m := by
  intro x hx
  obtain ⟨c', k, h1, h2, h3, h4, h5⟩ := h x hx
  exact ⟨c', k, h1, h2, h3, h4, .inl (by omega)⟩
end Go.Proofs.Ytbdpinfiicpmhaa
