/-
  take: the reader in one form, a round of its loop (mathematics of the memory).
-/
import Derived.Test.YtaddmegghikhpaaEj
import Derived.IntWalk
namespace Go.Proofs.Ytaddmegghikhpaa
open Go.ChangeShapes Go.WideShapes Go.ChangeAt Go.RowKit

/-- the reader at a place, or stopped for want of bytes -/
def RR (w : World) (g rb n : Nat) (f : Nat → Nat) (a : Nat) : Prop := (a ≤ 8 * n ∧ RD w g rb n f a) ∨ (8 * n < a ∧ RS w rb 10)
theorem RS.below {w w' : World} {rb : Nat} {e : Int} (h : RS w rb e) (k : Below w.heap.size w w') : RS w' rb e where
  c0 := (k.cell h.lt).trans h.c0
  c1 := (k.cell h.lt).trans h.c1
  c2 := (k.cell h.lt).trans h.c2
  c3 := (k.cell h.lt).trans h.c3
  fz := fun j => (k.frozen (p := ⟨rb, j, none⟩) h.lt).trans (h.fz j)
  lt := Nat.lt_of_lt_of_le h.lt k.size
theorem RR.below {w w' : World} {g rb n a : Nat} {f : Nat → Nat} (h : RR w g rb n f a) (k : Below w.heap.size w w') : RR w' g rb n f a :=
  h.imp (fun h => ⟨h.1, h.2.below k⟩) (fun h => ⟨h.1, h.2.below k⟩)
def GetR (w : World) (g rb n : Nat) (f : Nat → Nat) (a m : Nat) (e : Ending) (w' : World) : Prop :=
  w.grownBy w' (some rb) ∧ ∃ X : Nat, X < 2 ^ m ∧ (a + m ≤ 8 * n → X = gv f a m) ∧ (8 * n < a + m → X = 0) ∧ e = .returned (.int .u64 (X : Int)) ∧ RR w' g rb n f (a + m)
theorem get_r (w : World) (g rb n a : Nat) (f : Nat → Nat) (z : Int) (m : Nat) (hm : wn z = m) (h : RR w g rb n f a) : Calls Try.prog 42 #[.pointer (some ⟨rb, 0, none⟩), .int .i64 z] w (GetR w g rb n f a m) := by
  rcases h with ⟨_, h⟩ | ⟨hl, h⟩
  · refine (get_q w g rb n a f z m hm h).mono ?_
    rintro e w' ⟨hg, ⟨h1, rfl, h2⟩ | ⟨h1, rfl, h2⟩⟩
    · exact ⟨hg, gv f a m, gv_lt f a m, fun _ => rfl, fun h => absurd h (by omega), rfl, .inl ⟨h1, h2⟩⟩
    · exact ⟨hg, 0, Nat.two_pow_pos m, fun h => absurd h (by omega), fun _ => rfl, rfl, .inr ⟨h1, h2⟩⟩
  · refine (get_stop w rb 10 z h).mono ?_
    rintro e w' ⟨rfl, h2, hg⟩
    exact ⟨hg, 0, Nat.two_pow_pos m, fun h => absurd h (by omega), fun _ => rfl, rfl, .inr ⟨by omega, h2⟩⟩

theorem grown_news {w w1 w2 : World} {rb : Nat} {o : Option Nat} (h : w.grownBy w1 (some rb)) (k : w1.grownBy w2 o) (ho : ∀ q, o = some q → w.heap.size ≤ q) : w.grownBy w2 (some rb) :=
  ⟨k.os.trans h.os, k.tape.trans h.tape, k.output.trans h.output, Nat.le_trans h.size k.size, fun q hq hne => (k.block q (Nat.lt_of_lt_of_le hq h.size) (fun e => by have := ho q e.symm; omega)).trans (h.block q hq hne)⟩

/-- where the reader stands behind j operations of m, or why it stopped -/
def TkR (w : World) (g rb n : Nat) (f : Nat → Nat) (a m j : Nat) (o : Nat → O3) : Prop :=
  (a + 10 ≤ 8 * n ∧ m = gv f (a + 6) 4 ∧ m ≤ 12 ∧ (∀ i, i < j → FitO (o i)) ∧ Sp f (a + 10) (opsL o j) ∧ a + 10 + (opsL o j).length ≤ 8 * n ∧ RD w g rb n f (a + 10 + (opsL o j).length)) ∨
  (∃ er : Int, (er = 10 ∨ er = 11) ∧ RS w rb er ∧ NoEv f n a er)
def TkS (w0 w : World) (g rb Q n : Nat) (f : Nat → Nat) (a m : Nat) (k c : Int) (j : Nat) : Prop :=
  w0.grownBy w (some rb) ∧ ∃ sp cap o, w.heap[Q]? = some (.cells #[.int .i64 k, .int .i64 c, .slice sp j cap] 43 (0, 0)) ∧ w.ownsRow (Q + 1) 53 3 (.slice sp j cap) j (rowO o j) ∧ TkR w g rb n f a m j o

def put1 (o : Nat → O3) (j : Nat) (t : O3) (i : Nat) : O3 := if i = j then t else o i
theorem put1_low (o : Nat → O3) (j : Nat) (t : O3) : ∀ i, i < j → o i = put1 o j t i := fun i hi => by unfold put1; rw [if_neg (by omega)]
theorem put1_at (o : Nat → O3) (j : Nat) (t : O3) : put1 o j t j = t := if_pos rfl
theorem rowO_congr (o o' : Nat → O3) (n : Nat) (h : ∀ i, i < n → o i = o' i) : rowO o n = rowO o' n := by
  induction n with
  | zero => rfl
  | succ n ih => rw [rowO_succ, rowO_succ, ih fun i hi => h i (by omega), h n (by omega)]
theorem opsL_put1 (o : Nat → O3) (j : Nat) (t : O3) : opsL (put1 o j t) (j + 1) = opsL o j ++ opL t := by
  show opsL (put1 o j t) j ++ opL (put1 o j t j) = _
  rw [put1_at, ← opsL_congr o (put1 o j t) j (put1_low o j t)]
theorem blk_keepQ {W W' : World} {B m hb : Nat} {v : Value} {xs : List Value} {C : Array Value} (hrow : W.ownsRow B 53 3 v m xs) (hblk : W.heap[hb]? = some (.cells C 43 (0, 0))) (hg : W.grownBy W' v.ownBlock) : W'.heap[hb]? = some (.cells C 43 (0, 0)) := by
  have hq : hb < W.heap.size := by
    rcases Nat.lt_or_ge hb W.heap.size with h' | h'
    · exact h'
    · rw [Array.getElem?_eq_none h'] at hblk; cases hblk
  refine (hg.block hb hq (fun e => ?_)).trans hblk
  obtain ⟨cur, e3⟩ := own_cells hrow e.symm
  rw [hblk] at e3
  injection e3 with e3
  injection e3 with _ e3
  cases e3
/-- a round: the operation read (w to w6), laid down, appended (w7), stored -/
theorem take_fin {w0 w wd w6 w7 : World} {g rb Q n a m j cap c7 g7 : Nat} {f : Nat → Nat} {k c : Int} {sp : Option Addr} {o : Nat → O3} {t : O3}
    (hrb : rb < w0.heap.size) (hgb : g < w0.heap.size) (hQ : w0.heap.size ≤ Q) (hj : j < m)
    (hd : wd.heap = w.heap) (hq : w.heap[Q]? = some (.cells #[.int .i64 k, .int .i64 c, .slice sp j cap] 43 (0, 0)))
    (how : w.ownsRow (Q + 1) 53 3 (.slice sp j cap) j (rowO o j))
    (hs : a + 10 ≤ 8 * n ∧ m = gv f (a + 6) 4 ∧ m ≤ 12 ∧ (∀ i, i < j → FitO (o i)) ∧ Sp f (a + 10) (opsL o j) ∧ a + 10 + (opsL o j).length ≤ 8 * n)
    (h6 : wd.grownBy w6 (some rb))
    (ht : (FitO t ∧ Sp f (a + 10 + (opsL o j).length) (opL t) ∧ a + 10 + (opsL o j).length + (opL t).length ≤ 8 * n ∧ RD w6 g rb n f (a + 10 + (opsL o j).length + (opL t).length)) ∨ (∃ er : Int, (er = 10 ∨ er = 11) ∧ RS w6 rb er ∧ NoOp f n (a + 10 + (opsL o j).length) er))
    {w6' : World} (h6a : Below w6.heap.size w6 w6')
    (ho7 : w7.ownsRow (Q + 1) 53 3 (.slice (some ⟨g7, 0, none⟩) (j + 1) c7) (j + 1) (rowO o j ++ [.int .i64 t.k, .int .i64 t.key, .int .i64 t.v])) (hg7 : w6'.grownBy w7 (Value.ownBlock (.slice sp j cap))) (hg7' : w0.grownBy w6' (some rb)) :
    TkS w0 (w7.setCell ⟨Q, 2, none⟩ (.slice (some ⟨g7, 0, none⟩) (j + 1) c7)) g rb Q n f a m k c (j + 1) := by
  have hbo : ∀ q, Value.ownBlock (.slice sp j cap) = some q → Q + 1 ≤ q := fun q e => (how.lt q e).1
  have hQl : Q < w.heap.size := by
    rcases Nat.lt_or_ge Q w.heap.size with h' | h'
    · exact h'
    · rw [Array.getElem?_eq_none h'] at hq; cases hq
  have hQd : Q < wd.heap.size := by rw [hd]; exact hQl
  have hQ6 : w6.heap[Q]? = some (.cells #[.int .i64 k, .int .i64 c, .slice sp j cap] 43 (0, 0)) := (h6.block Q hQd (fun e => by injection e with e; omega)).trans (by rw [hd]; exact hq)
  have hQ6l : Q < w6.heap.size := Nat.lt_of_lt_of_le hQd h6.size
  have hQ6' : w6'.heap[Q]? = some (.cells #[.int .i64 k, .int .i64 c, .slice sp j cap] 43 (0, 0)) := (h6a.block Q hQ6l).trans hQ6
  have hQ7 : w7.heap[Q]? = some (.cells #[.int .i64 k, .int .i64 c, .slice sp j cap] 43 (0, 0)) := (hg7.block Q (Nat.lt_of_lt_of_le hQ6l h6a.size) (fun e => by have := hbo Q e.symm; omega)).trans hQ6'
  have hg70 : w0.grownBy w7 (some rb) := grown_news hg7' hg7 (fun q e => by have := hbo q e; omega)
  have hs8 := heap_setCell_same w7 Q 2 _ 43 (.slice (some ⟨g7, 0, none⟩) (j + 1) c7) hQ7
  have hgs : w7.grownBy (w7.setCell ⟨Q, 2, none⟩ (.slice (some ⟨g7, 0, none⟩) (j + 1) c7)) (some Q) := grown_setCell (grown_refl _ _) 2 _
  have hrQ : rb ≠ Q := by omega
  have hgQ : g ≠ Q := by omega
  refine ⟨grown_new hg70 hgs hQ, some ⟨g7, 0, none⟩, c7, put1 o j t, hs8, ?_, ?_⟩
  · have hrow : rowO (put1 o j t) (j + 1) = rowO o j ++ [.int .i64 t.k, .int .i64 t.key, .int .i64 t.v] := by
      rw [rowO_succ, put1_at, ← rowO_congr o (put1 o j t) j (put1_low o j t)]
    rw [hrow]
    refine own_keep ho7 fun q e => ?_
    have := ho7.lt q e
    exact hgs.block q this.2 (fun e => by injection e with e; omega)
  · obtain ⟨s1, s2, s3, s4, s5, s6⟩ := hs
    rcases ht with ⟨t1, t2, t3, t4⟩ | ⟨er, her, hr, hno⟩
    · refine .inl ⟨s1, s2, s3, ?_, ?_, ?_, ?_⟩
      · intro i hi
        by_cases hij : i = j
        · subst hij; rw [put1_at]; exact t1
        · rw [← put1_low o j t i (by omega)]; exact s4 i (by omega)
      · rw [opsL_put1]; exact Sp.app.2 ⟨s5, t2⟩
      · rw [opsL_put1, List.length_append, ← Nat.add_assoc]; exact t3
      · rw [opsL_put1, List.length_append, ← Nat.add_assoc]
        have r1 := t4.below h6a
        have hv : ∀ q, Value.ownBlock (.slice sp j cap) = some q → rb ≠ q ∧ g ≠ q := fun q e => by have := hbo q e; omega
        have r2 : RD w7 g rb n f (a + 10 + (opsL o j).length + (opL t).length) := by
          cases hob : Value.ownBlock (.slice sp j cap) with
          | none => rw [hob] at hg7; exact r1.kept (q := Q) ⟨hg7.os, hg7.tape, hg7.output, hg7.size, fun q hq _ => hg7.block q hq (fun e => by cases e)⟩ hrQ hgQ
          | some q => rw [hob] at hg7; exact r1.kept hg7 (hv q hob).1 (hv q hob).2
        exact r2.kept hgs hrQ hgQ
    · refine .inr ⟨er, her, ?_, noEv_op (by omega) (by omega) s5 s6 s4 hno⟩
      have r1 := hr.below h6a
      have hv : ∀ q, Value.ownBlock (.slice sp j cap) = some q → rb ≠ q := fun q e => by have := hbo q e; omega
      have r2 : RS w7 rb er := by
        cases hob : Value.ownBlock (.slice sp j cap) with
        | none => rw [hob] at hg7; exact r1.kept (q := Q) ⟨hg7.os, hg7.tape, hg7.output, hg7.size, fun q hq _ => hg7.block q hq (fun e => by cases e)⟩ hrQ
        | some q => rw [hob] at hg7; exact r1.kept hg7 (hv q hob)
      exact r2.kept hgs hrQ
/-- what a round leaves alone -/
theorem take_keep {wd w6 w6' w7 : World} {rb Q j cap q : Nat} {sp : Option Addr} {x : Value} {xs : List Value} {w : World} (hd : wd.heap = w.heap) (how : w.ownsRow (Q + 1) 53 3 (.slice sp j cap) j xs) (hq : q < Q) (hqr : q ≠ rb) (hl : q < w.heap.size)
    (h6 : wd.grownBy w6 (some rb)) (h6a : Below w6.heap.size w6 w6') (hg7 : w6'.grownBy w7 (Value.ownBlock (.slice sp j cap))) : (w7.setCell ⟨Q, 2, none⟩ x).heap[q]? = w.heap[q]? := by
  have hgs : w7.grownBy (w7.setCell ⟨Q, 2, none⟩ x) (some Q) := grown_setCell (grown_refl _ _) 2 _
  have l0 : q < wd.heap.size := by rw [hd]; exact hl
  have l6 := Nat.lt_of_lt_of_le l0 h6.size
  have l6' := Nat.lt_of_lt_of_le l6 h6a.size
  have l7 := Nat.lt_of_lt_of_le l6' hg7.size
  rw [hgs.block q l7 (fun e => by injection e with e; omega), hg7.block q l6' (fun e => by have := (how.lt q e.symm).1; omega), h6a.block q l6, h6.block q l0 (fun e => by injection e with e; exact hqr e), hd]
def TakeQ (w : World) (g rb n : Nat) (f : Nat → Nat) (a : Nat) (e : Ending) (w' : World) : Prop :=
  w.grownBy w' (some rb) ∧ ∃ (k c : Int) (sp : Option Addr) (j cap : Nat) (o : Nat → O3), e = .returned (.agg #[.int .i64 k, .int .i64 c, .slice sp j cap]) ∧ w'.ownsRow w.heap.size 53 3 (.slice sp j cap) j (rowO o j) ∧
    ((Fit ⟨k, c, j, o⟩ ∧ Sp f a (evL ⟨k, c, j, o⟩) ∧ a + (evL ⟨k, c, j, o⟩).length ≤ 8 * n ∧ RD w' g rb n f (a + (evL ⟨k, c, j, o⟩).length)) ∨ (∃ er : Int, (er = 10 ∨ er = 11) ∧ RS w' rb er ∧ NoEv f n a er))
theorem own_low {w : World} {base base' e size n : Nat} {v : Value} {xs : List Value} (h : w.ownsRow base e size v n xs) (hb : base' ≤ base) : w.ownsRow base' e size v n xs :=
  ⟨h.1, h.2.imp id fun ⟨g, cap, cur, h1, h2, h3⟩ => ⟨g, cap, cur, h1, Nat.le_trans hb h2, h3⟩⟩
theorem take_end {w W W' : World} {g rb Q R n a m j cap K C : Nat} {f : Nat → Nat} {sp : Option Addr} {o : Nat → O3} (hrb : rb < w.heap.size) (hgb : g < w.heap.size) (hR : w.heap.size ≤ R) (hRQ : R < Q)
    (hK : a + 2 ≤ 8 * n → K = gv f a 2) (hC : a + 2 + 4 ≤ 8 * n → C = gv f (a + 2) 4)
    (h0 : w.grownBy W (some rb)) (how : W.ownsRow (Q + 1) 53 3 (.slice sp j cap) j (rowO o j)) (hg : W.grownBy W' (some R))
    (hs : (j = m ∧ TkR W g rb n f a m j o) ∨ (∃ er : Int, (er = 10 ∨ er = 11) ∧ RS W rb er ∧ NoEv f n a er)) :
    TakeQ w g rb n f a (.returned (.agg #[.int .i64 ((K : Int) + 1), .int .i64 ((C : Int) + 1), .slice sp j cap])) W' := by
  have hrR : rb ≠ R := by omega
  have hgR : g ≠ R := by omega
  have hown : W'.ownsRow w.heap.size 53 3 (.slice sp j cap) j (rowO o j) := own_low (own_keep how fun q e => hg.block q (how.lt q e).2 (fun e' => by injection e' with e'; have := (how.lt q e).1; omega)) (by omega)
  refine ⟨grown_new h0 hg hR, (K : Int) + 1, (C : Int) + 1, sp, j, cap, o, rfl, hown, ?_⟩
  rcases hs with ⟨rfl, ⟨s1, s2, s3, s4, s5, s6, s7⟩ | ⟨er, her, hr, hno⟩⟩ | ⟨er, her, hr, hno⟩
  · have eK := hK (by omega)
    have eC := hC (by omega)
    subst eK eC s2
    refine .inl ⟨ev_fit s3 s4, ev_sp s5, ?_, ?_⟩
    · rw [evL_len]; dsimp only; omega
    · rw [evL_len]; dsimp only; rw [← Nat.add_assoc]; exact s7.kept hg hrR hgR
  · exact .inr ⟨er, her, hr.kept hg hrR, hno⟩
  · exact .inr ⟨er, her, hr.kept hg hrR, hno⟩
end Go.Proofs.Ytaddmegghikhpaa
