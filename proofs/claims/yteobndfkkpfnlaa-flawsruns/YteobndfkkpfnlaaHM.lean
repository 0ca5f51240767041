/-
  As many transactions as Invokes, as many done as Oks, as many that failed as Fails.
-/
import Derived.Test.YteobndfkkpfnlaaHL
namespace Go.Proofs.Yteobndfkkpfnlaa
/-- how many of the first i events are of a kind -/
def cnt (E : Nat → Ev) (k : Int) : Nat → Nat
  | 0 => 0
  | i + 1 => cnt E k i + (if (E i).k = k then 1 else 0)

/-- how many of the first m transactions are in a state -/
def cst (T : Nat → Tx) (st : Int) : Nat → Nat
  | 0 => 0
  | j + 1 => cst T st j + (if (T j).st = st then 1 else 0)

set_option maxRecDepth 100000 in
theorem cst_congr (T T' : Nat → Tx) (st : Int) (m : Nat) (h : ∀ j, j < m → (T j).st = (T' j).st) : cst T st m = cst T' st m := by
  induction m with
  | zero => rfl
  | succ m ih => show cst T st m + _ = cst T' st m + _; rw [ih fun j hj => h j (by omega), h m (by omega)]

set_option maxRecDepth 100000 in
theorem cst_upd (T : Nat → Tx) (st : Int) (t : Tx) (j : Nat) : ∀ m, j < m → cst (fun x => if x = j then t else T x) st m + (if (T j).st = st then 1 else 0) = cst T st m + (if t.st = st then 1 else 0) := by
  intro m
  induction m with
  | zero => intro h; omega
  | succ m ih =>
    intro hj
    show cst (fun x => if x = j then t else T x) st m + (if (if m = j then t else T m).st = st then 1 else 0) + _ = cst T st m + (if (T m).st = st then 1 else 0) + _
    by_cases h : m = j
    · subst h
      rw [if_pos rfl, cst_congr (fun x => if x = m then t else T x) T st m fun x hx => by rw [if_neg (by omega)]]
      omega
    · rw [if_neg h]
      have := ih (by omega)
      omega

/-- what a good history keeps -/
structure Kept (E : Nat → Ev) (s : St) (i : Nat) : Prop where
  m : s.m = cnt E 1 i
  done : cst s.T 1 s.m = cnt E 2 i
  gone : cst s.T 2 s.m = cnt E 3 i
  bz : ∀ c x, s.bz c = some x → ∃ j : Nat, x = (j : Int) ∧ j < s.m ∧ (s.T j).st = 0 ∧ (s.T j).c = c

set_option maxRecDepth 100000 in
theorem kept_at (E : Nat → Ev) (i : Nat) (h : Good E i) : Kept E (stateAt E i) i := by
  induction i with
  | zero => exact ⟨rfl, rfl, rfl, fun c x hx => (by cases hx)⟩
  | succ i ih =>
    have hk := ih fun j hj => h j (by omega)
    have he := h i (by omega)
    have c1 : cnt E 1 (i + 1) = cnt E 1 i + (if (E i).k = 1 then 1 else 0) := rfl
    have c2 : cnt E 2 (i + 1) = cnt E 2 i + (if (E i).k = 2 then 1 else 0) := rfl
    have c3 : cnt E 3 (i + 1) = cnt E 3 i + (if (E i).k = 3 then 1 else 0) := rfl
    show Kept E (nextS (stateAt E i) (E i)) (i + 1)
    generalize stateAt E i = s at *
    generalize hev : E i = e at *
    by_cases hk1 : e.k = 1
    · have hb : s.bz e.c = none := by
        rcases he with ⟨_, h⟩ | ⟨_, _, h⟩ | ⟨_, _, h, _⟩ | ⟨_, _, h, _⟩ | ⟨_, h, _⟩
        · cases h
        · cases h
        · exact h
        · exact h
        · exact absurd hk1 h
      unfold nextS
      rw [if_pos hk1]
      rw [if_pos hk1] at c1
      rw [if_neg (by omega)] at c2 c3
      have hc : ∀ st : Int, ¬ st = 0 → cst (fun i => if i = s.m then (⟨e.c, 0, e.n, e.o⟩ : Tx) else s.T i) st (s.m + 1) = cst s.T st s.m := fun st hst => by
        show cst (fun i => if i = s.m then (⟨e.c, 0, e.n, e.o⟩ : Tx) else s.T i) st s.m + (if (if s.m = s.m then (⟨e.c, 0, e.n, e.o⟩ : Tx) else s.T s.m).st = st then 1 else 0) = _
        rw [if_pos rfl, if_neg (fun h => hst h.symm), Nat.add_zero]
        exact cst_congr _ _ st s.m fun j hj => by rw [if_neg (by omega)]
      refine ⟨by rw [c1, ← hk.m], (hc 1 (by decide)).trans (hk.done.trans c2.symm), (hc 2 (by decide)).trans (hk.gone.trans c3.symm), fun c x hx => ?_⟩
      simp only at hx
      by_cases hcc : c = e.c
      · rw [if_pos hcc] at hx
        injection hx with hx
        exact ⟨s.m, hx.symm, Nat.lt_succ_self _, by simp, by simp [hcc]⟩
      · rw [if_neg hcc] at hx
        obtain ⟨j, e1, e2, e3, e4⟩ := hk.bz c x hx
        refine ⟨j, e1, Nat.lt_succ_of_lt e2, ?_, ?_⟩
        · show (if j = s.m then (⟨e.c, 0, e.n, e.o⟩ : Tx) else s.T j).st = 0
          rw [if_neg (by omega)]; exact e3
        · show (if j = s.m then (⟨e.c, 0, e.n, e.o⟩ : Tx) else s.T j).c = c
          rw [if_neg (by omega)]; exact e4
    · have hb : (s.bz e.c).isSome = true := by
        rcases he with ⟨_, h⟩ | ⟨_, _, h⟩ | ⟨_, h, _⟩ | ⟨_, h, _⟩ | ⟨_, _, h, _⟩
        · cases h
        · cases h
        · exact absurd h hk1
        · exact absurd h hk1
        · exact h
      obtain ⟨x, hx⟩ := Option.isSome_iff_exists.1 hb
      obtain ⟨j, rfl, hjm, hj0, hjc⟩ := hk.bz e.c x hx
      have hix : idx s e = j := by unfold idx; simp [hx]
      unfold nextS
      rw [if_neg hk1, hix]
      rw [if_neg hk1] at c1
      have hu1 := cst_upd s.T 1 (endT (s.T j) e.k e.n e.o) j s.m hjm
      have hu2 := cst_upd s.T 2 (endT (s.T j) e.k e.n e.o) j s.m hjm
      rw [hj0, if_neg (by decide), Nat.add_zero] at hu1 hu2
      have hst : (endT (s.T j) e.k e.n e.o).st = if e.k = 2 then 1 else if e.k = 3 then 2 else 0 := by
        unfold endT
        split
        · rfl
        · split
          · rfl
          · exact hj0
      have hcc : (endT (s.T j) e.k e.n e.o).c = (s.T j).c := by
        unfold endT
        split
        · rfl
        · split <;> rfl
      refine ⟨hk.m.trans c1.symm, ?_, ?_, fun c x hxx => ?_⟩
      · show cst (fun x => if x = j then endT (s.T j) e.k e.n e.o else s.T x) 1 s.m = cnt E 2 (i + 1)
        rw [hu1, hk.done, c2, hst]
        by_cases h2 : e.k = 2
        · simp [h2]
        · by_cases h3 : e.k = 3 <;> simp [h2, h3]
      · show cst (fun x => if x = j then endT (s.T j) e.k e.n e.o else s.T x) 2 s.m = cnt E 3 (i + 1)
        rw [hu2, hk.gone, c3, hst]
        by_cases h2 : e.k = 2
        · simp [h2]
        · by_cases h3 : e.k = 3 <;> simp [h2, h3]
      · simp only at hxx
        by_cases hce : c = e.c
        · rw [if_pos hce] at hxx; cases hxx
        · rw [if_neg hce] at hxx
          obtain ⟨y, e1, e2, e3, e4⟩ := hk.bz c x hxx
          have hyj : ¬ y = j := fun h => hce (by rw [← e4, h, hjc])
          exact ⟨y, e1, e2, by show (if y = j then _ else s.T y).st = 0; rw [if_neg hyj]; exact e3, by show (if y = j then _ else s.T y).c = c; rw [if_neg hyj]; exact e4⟩

end Go.Proofs.Yteobndfkkpfnlaa
