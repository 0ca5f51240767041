/-
  A reader's states as a function of the bytes: what Num, Get, Fail and End answer in each.
  Messages in memory; isKind, numbers.
  Lists of byte slices in memory; parts.
  fits: why a message has no content.
  putBytes; content: a message's bits.
  content: the data of a message's frame.
-/
import Derived.Test.YtccpfoimedjdgaaJ02
import Derived.BigRegion
import Derived.ArgAppend
import Derived.Deep.RegionHeld3

namespace Go.Proofs.Ytccpfoimedjdgaa
open Go.ChangeShapes Go.WideShapes Go.ChangeAt Go.RowKit

/-- where a reader stands, or why it stopped -/
structure PS where
  e : Int
  a : Nat
/-- a reader in memory in that state -/
def RSt (w : World) (g rb n : Nat) (f : Nat → Nat) (s : PS) : Prop := (s.e = 0 ∧ s.a ≤ 8 * n ∧ RD w g rb n f s.a) ∨ (¬ s.e = 0 ∧ RS w rb s.e)
/-- the number x stands there -/
def AtN (f : Nat → Nat) (n a x : Nat) : Prop := x < 18446744073709551616 ∧ Sp f a (numL x) ∧ a + (numL x).length ≤ 8 * n
theorem AtN.one {f : Nat → Nat} {n a x y : Nat} (h : AtN f n a x) (k : AtN f n a y) : x = y := num_inj h.2.1 k.2.1
open Classical in
noncomputable def nV (f : Nat → Nat) (n : Nat) (s : PS) : Nat := if h : s.e = 0 ∧ ∃ x, AtN f n s.a x then h.2.choose else 0
open Classical in
noncomputable def nS (f : Nat → Nat) (n : Nat) (s : PS) : PS :=
  if s.e = 0 then (if ∃ x, AtN f n s.a x then ⟨0, s.a + (numL (nV f n s)).length⟩ else if IsForm f n s.a then ⟨11, 0⟩ else ⟨10, 0⟩) else s
def gV (f : Nat → Nat) (n m : Nat) (s : PS) : Nat := if s.e = 0 ∧ s.a + m ≤ 8 * n then gv f s.a m else 0
def gS (n m : Nat) (s : PS) : PS := if s.e = 0 then (if s.a + m ≤ 8 * n then ⟨0, s.a + m⟩ else ⟨10, 0⟩) else s
def fS (er : Int) (s : PS) : PS := if s.e = 0 then ⟨er, 0⟩ else s
def eE (f : Nat → Nat) (n : Nat) (s : PS) : Int := if s.e = 0 then ((endOf f s.a (8 * n - s.a) : Nat) : Int) else s.e

theorem nV_at {f : Nat → Nat} {n x : Nat} {s : PS} (h0 : s.e = 0) (h : AtN f n s.a x) : nV f n s = x ∧ nS f n s = ⟨0, s.a + (numL x).length⟩ := by
  have hx : ∃ x, AtN f n s.a x := ⟨x, h⟩
  have e1 : nV f n s = x := by
    unfold nV
    rw [dif_pos ⟨h0, hx⟩]
    exact AtN.one (Exists.choose_spec (p := fun x => AtN f n s.a x) hx) h
  refine ⟨e1, ?_⟩
  unfold nS
  rw [if_pos h0, if_pos hx, e1]
theorem nV_no {f : Nat → Nat} {n : Nat} {s : PS} {er : Int} (h0 : s.e = 0) (h : ErrN f n s.a er) : nV f n s = 0 ∧ nS f n s = ⟨er, 0⟩ := by
  have hx : ¬ ∃ x, AtN f n s.a x := fun ⟨x, a, b, c⟩ => errN_num h a b c
  refine ⟨?_, ?_⟩
  · unfold nV; rw [dif_neg (fun h => hx h.2)]
  · unfold nS
    rw [if_pos h0, if_neg hx]
    rcases h with ⟨h1, rfl⟩ | ⟨h1, rfl⟩
    · rw [if_neg (fun h2 => short_form h1 h2)]
    · rw [if_pos h1]
theorem nV_stop {f : Nat → Nat} {n : Nat} {s : PS} (h0 : ¬ s.e = 0) : nV f n s = 0 ∧ nS f n s = s := by
  refine ⟨?_, ?_⟩
  · unfold nV; rw [dif_neg (fun h => h0 h.1)]
  · unfold nS; rw [if_neg h0]
theorem nV_lt (f : Nat → Nat) (n : Nat) (s : PS) : nV f n s < 18446744073709551616 := by
  unfold nV
  split
  · rename_i h; exact (Exists.choose_spec h.2).1
  · decide
theorem gV_lt (f : Nat → Nat) (n m : Nat) (s : PS) : gV f n m s < 2 ^ m := by
  unfold gV
  split
  · exact gv_lt f s.a m
  · exact Nat.two_pow_pos m

theorem RSt.below {w w' : World} {g rb n : Nat} {f : Nat → Nat} {s : PS} (h : RSt w g rb n f s) (k : Below w.heap.size w w') : RSt w' g rb n f s :=
  h.imp (fun h => ⟨h.1, h.2.1, h.2.2.below k⟩) (fun h => ⟨h.1, h.2.below k⟩)
theorem RSt.lt {w : World} {g rb n : Nat} {f : Nat → Nat} {s : PS} (h : RSt w g rb n f s) : rb < w.heap.size := by
  rcases h with ⟨_, _, h⟩ | ⟨_, h⟩
  · exact h.lt
  · exact h.lt
theorem RSt.kept {w w' : World} {g rb n q : Nat} {f : Nat → Nat} {s : PS} (h : RSt w g rb n f s) (k : w.grownBy w' (some q)) (h1 : rb ≠ q) (h2 : g ≠ q) : RSt w' g rb n f s :=
  h.imp (fun h => ⟨h.1, h.2.1, h.2.2.kept k h1 h2⟩) (fun h => ⟨h.1, h.2.kept k h1⟩)
theorem RSt.c2 {w : World} {g rb n : Nat} {f : Nat → Nat} {s : PS} (h : RSt w g rb n f s) : w.cell? ⟨rb, 2, none⟩ = some (.int .i64 s.e) := by
  rcases h with ⟨h0, _, h⟩ | ⟨_, h⟩
  · rw [h0]; exact h.c2
  · exact h.c2

def NumS (w : World) (g rb n : Nat) (f : Nat → Nat) (s : PS) (e : Ending) (w' : World) : Prop :=
  e = .returned (.int .u64 ((nV f n s : Nat) : Int)) ∧ RSt w' g rb n f (nS f n s) ∧ w.grownBy w' (some rb)
theorem num_s (w : World) (g rb n : Nat) (f : Nat → Nat) (s : PS) (h : RSt w g rb n f s) : Calls Try.prog 53 #[.pointer (some ⟨rb, 0, none⟩)] w (NumS w g rb n f s) := by
  rcases h with ⟨h0, ha, h⟩ | ⟨h0, h⟩
  · refine (num_q w g rb n s.a f h).mono ?_
    rintro e w' ⟨hg, ⟨x, hx, hsp, hl, rfl, hr⟩ | ⟨er, her, rfl, hr, hno⟩⟩
    · obtain ⟨e1, e2⟩ := nV_at h0 ⟨hx, hsp, hl⟩
      refine ⟨by rw [e1], ?_, hg⟩
      rw [e2]
      exact .inl ⟨rfl, hl, hr⟩
    · obtain ⟨e1, e2⟩ := nV_no h0 hno.1
      refine ⟨by rw [e1]; rfl, ?_, hg⟩
      rw [e2]
      exact .inr ⟨by rcases her with rfl | rfl <;> decide, hr⟩
  · obtain ⟨e1, e2⟩ := nV_stop (f := f) (n := n) h0
    refine (num_stop w rb s.e h).mono ?_
    rintro e w' ⟨rfl, hr, hg⟩
    refine ⟨by rw [e1]; rfl, ?_, hg⟩
    rw [e2]
    exact .inr ⟨h0, hr⟩
def GetS (w : World) (g rb n : Nat) (f : Nat → Nat) (m : Nat) (s : PS) (e : Ending) (w' : World) : Prop :=
  e = .returned (.int .u64 ((gV f n m s : Nat) : Int)) ∧ RSt w' g rb n f (gS n m s) ∧ w.grownBy w' (some rb)
theorem get_s (w : World) (g rb n : Nat) (f : Nat → Nat) (s : PS) (z : Int) (m : Nat) (hm : wn z = m) (h : RSt w g rb n f s) : Calls Try.prog 55 #[.pointer (some ⟨rb, 0, none⟩), .int .i64 z] w (GetS w g rb n f m s) := by
  rcases h with ⟨h0, ha, h⟩ | ⟨h0, h⟩
  · refine (get_q w g rb n s.a f z m hm h).mono ?_
    rintro e w' ⟨hg, ⟨h1, rfl, h2⟩ | ⟨h1, rfl, h2⟩⟩
    · refine ⟨by unfold gV; rw [if_pos ⟨h0, h1⟩], ?_, hg⟩
      unfold gS
      rw [if_pos h0, if_pos h1]
      exact .inl ⟨rfl, h1, h2⟩
    · refine ⟨by unfold gV; rw [if_neg (fun h => by omega)]; rfl, ?_, hg⟩
      unfold gS
      rw [if_pos h0, if_neg (by omega)]
      exact .inr ⟨by decide, h2⟩
  · refine (get_stop w rb s.e z h).mono ?_
    rintro e w' ⟨rfl, h2, hg⟩
    refine ⟨by unfold gV; rw [if_neg (fun h => h0 h.1)]; rfl, ?_, hg⟩
    unfold gS
    rw [if_neg h0]
    exact .inr ⟨h0, h2⟩
theorem fail_s (w : World) (g rb n : Nat) (f : Nat → Nat) (s : PS) (x : Int) (hx : ¬ x = 0) (h : RSt w g rb n f s) : Calls Try.prog 54 #[.pointer (some ⟨rb, 0, none⟩), .int .i64 x] w (fun e w' => e = .returned (.tuple #[]) ∧ RSt w' g rb n f (fS x s) ∧ w.grownBy w' (some rb)) := by
  rcases h with ⟨h0, ha, h⟩ | ⟨h0, h⟩
  · refine (fail_any w g rb n s.a f x h).mono ?_
    rintro e w' ⟨rfl, hr, hg⟩
    refine ⟨rfl, ?_, hg⟩
    unfold fS
    rw [if_pos h0]
    exact .inr ⟨hx, hr⟩
  · refine (fail_stop w rb s.e x h).mono ?_
    rintro e w' ⟨rfl, rfl⟩
    refine ⟨rfl, ?_, grown_refl _ _⟩
    unfold fS
    rw [if_neg h0]
    exact .inr ⟨h0, h⟩
theorem err_s (w : World) (g rb n : Nat) (f : Nat → Nat) (s : PS) (h : RSt w g rb n f s) : Calls Try.prog 46 #[.pointer (some ⟨rb, 0, none⟩)] w (fun e w' => e = .returned (.int .i64 s.e) ∧ w = w') := err_any w rb s.e h.c2
theorem end_s (w : World) (g rb n : Nat) (f : Nat → Nat) (s : PS) (h : RSt w g rb n f s) : Calls Try.prog 29 #[.pointer (some ⟨rb, 0, none⟩)] w (fun e w' => e = .returned (.int .i64 (eE f n s)) ∧ ∃ q, w.drewN q = w') := by
  rcases h with ⟨h0, ha, h⟩ | ⟨h0, h⟩
  · refine (end_any w g rb n s.a (8 * n - s.a) f h (by omega)).mono ?_
    rintro e w' ⟨rfl, hq⟩
    exact ⟨by unfold eE; rw [if_pos h0], hq⟩
  · refine (end_stop w rb s.e h).mono ?_
    rintro e w' ⟨rfl, rfl⟩
    exact ⟨by unfold eE; rw [if_neg h0], 0, rfl⟩
end Go.Proofs.Ytccpfoimedjdgaa

namespace Go.Proofs.Ytccpfoimedjdgaa
open Go.ChangeShapes Go.WideShapes Go.ChangeAt Go.RowKit

/-- a message's cells -/
abbrev msL (k : Int) (N : Nat → Int) (la da : Value) : List Value :=
  [.int .i64 k, .int .i64 (N 0), .int .i64 (N 1), .int .i64 (N 2), .int .i64 (N 3), .int .i64 (N 4), .int .i64 (N 5), .int .i64 (N 6), .int .i64 (N 7), .int .i64 (N 8), la, da]
def MsC (w : World) (b : Nat) (k : Int) (N : Nat → Int) (la da : Value) : Prop := w.heap[b]? = some (.cells (msL k N la da).toArray 25 (0, 0))
theorem MsC.lt {w : World} {b : Nat} {k : Int} {N : Nat → Int} {la da : Value} (h : MsC w b k N la da) : b < w.heap.size := by
  rcases Nat.lt_or_ge b w.heap.size with h' | h'
  · exact h'
  · unfold MsC at h; rw [Array.getElem?_eq_none h'] at h; cases h
theorem MsC.cell {w : World} {b : Nat} {k : Int} {N : Nat → Int} {la da : Value} (h : MsC w b k N la da) (j : Nat) {v : Value} (hv : (msL k N la da)[j]? = some v) : w.cell? ⟨b, j, none⟩ = some v := by
  rw [cell_of_row w b j _ 25 (0, 0) h]; simpa using hv
theorem MsC.below {w w' : World} {b B : Nat} {k : Int} {N : Nat → Int} {la da : Value} (h : MsC w b k N la da) (hb : Below B w w') (hB : b < B) : MsC w' b k N la da := (hb.block b hB).trans h
theorem MsC.fz {w : World} {b : Nat} {k : Int} {N : Nat → Int} {la da : Value} (h : MsC w b k N la da) (j : Nat) : w.frozen? ⟨b, j, none⟩ = false := frozen_of_row w _ j _ 25 h
theorem MsC.num {w : World} {b : Nat} {k : Int} {N : Nat → Int} {la da : Value} (h : MsC w b k N la da) (j : Nat) (hj : j < 9) : w.cell? ⟨b, j + 1, none⟩ = some (.int .i64 (N j)) := by
  refine h.cell (j + 1) ?_
  have : j = 0 ∨ j = 1 ∨ j = 2 ∨ j = 3 ∨ j = 4 ∨ j = 5 ∨ j = 6 ∨ j = 7 ∨ j = 8 := by omega
  rcases this with rfl | rfl | rfl | rfl | rfl | rfl | rfl | rfl | rfl <;> rfl
theorem MsC.all {w : World} {b : Nat} {k : Int} {N : Nat → Int} {la da : Value} (h : MsC w b k N la da) :
    w.cell? ⟨b, 0, none⟩ = some (.int .i64 k) ∧ w.cell? ⟨b, 1, none⟩ = some (.int .i64 (N 0)) ∧ w.cell? ⟨b, 2, none⟩ = some (.int .i64 (N 1)) ∧ w.cell? ⟨b, 3, none⟩ = some (.int .i64 (N 2)) ∧ w.cell? ⟨b, 4, none⟩ = some (.int .i64 (N 3)) ∧ w.cell? ⟨b, 5, none⟩ = some (.int .i64 (N 4)) ∧ w.cell? ⟨b, 6, none⟩ = some (.int .i64 (N 5)) ∧ w.cell? ⟨b, 7, none⟩ = some (.int .i64 (N 6)) ∧ w.cell? ⟨b, 8, none⟩ = some (.int .i64 (N 7)) ∧ w.cell? ⟨b, 9, none⟩ = some (.int .i64 (N 8)) ∧ w.cell? ⟨b, 10, none⟩ = some la ∧ w.cell? ⟨b, 11, none⟩ = some da :=
  ⟨h.cell 0 rfl, h.cell 1 rfl, h.cell 2 rfl, h.cell 3 rfl, h.cell 4 rfl, h.cell 5 rfl, h.cell 6 rfl, h.cell 7 rfl, h.cell 8 rfl, h.cell 9 rfl, h.cell 10 rfl, h.cell 11 rfl⟩

theorem iskind_any (k : Int) (w : World) : Calls Try.prog 26 #[.int .i64 k] w (fun e w' => e = .returned (.bool (decide (1 ≤ k) && decide (k ≤ 7))) ∧ w = w') := by
  by_cases h1 : 1 ≤ k
  · by_cases h2 : k ≤ 7
    · go_enter Try.func26, Try.ntmps26
      go_wp2
      go_ret
      exact ⟨by simp [h1, h2], rfl⟩
    · go_enter Try.func26, Try.ntmps26
      go_wp2
      go_ret
      exact ⟨by simp [h2], rfl⟩
  · go_enter Try.func26, Try.ntmps26
    go_wp2
    go_ret
    exact ⟨by simp; omega, rfl⟩

/-- where the numbers stand -/
def ptrs (mb : Nat) : Array Value := #[.pointer (some ⟨mb, 1, none⟩), .pointer (some ⟨mb, 2, none⟩), .pointer (some ⟨mb, 3, none⟩), .pointer (some ⟨mb, 4, none⟩), .pointer (some ⟨mb, 5, none⟩), .pointer (some ⟨mb, 6, none⟩), .pointer (some ⟨mb, 7, none⟩), .pointer (some ⟨mb, 8, none⟩), .pointer (some ⟨mb, 9, none⟩)]
def PtS (w : World) (q mb : Nat) : Prop := w.heap[q]? = some (.cells (ptrs mb) 66 (0, 0))
theorem PtS.below {w w' : World} {q mb B : Nat} (h : PtS w q mb) (hb : Below B w w') (hB : q < B) : PtS w' q mb := (hb.block q hB).trans h
theorem PtS.lt {w : World} {q mb : Nat} (h : PtS w q mb) : q < w.heap.size := by
  rcases Nat.lt_or_ge q w.heap.size with h' | h'
  · exact h'
  · unfold PtS at h; rw [Array.getElem?_eq_none h'] at h; cases h
theorem PtS.at {w : World} {q mb : Nat} (h : PtS w q mb) (j : Nat) (hj : j < 9) : w.cell? ⟨q, j, none⟩ = some (.pointer (some ⟨mb, j + 1, none⟩)) := by
  rw [cell_of_row w q j _ 66 (0, 0) h]
  have : j = 0 ∨ j = 1 ∨ j = 2 ∨ j = 3 ∨ j = 4 ∨ j = 5 ∨ j = 6 ∨ j = 7 ∨ j = 8 := by omega
  rcases this with rfl | rfl | rfl | rfl | rfl | rfl | rfl | rfl | rfl <;> rfl
def NmP (mb : Nat) (w : World) (e : Ending) (w' : World) : Prop :=
  e = .returned (.slice (some ⟨w.heap.size, 0, none⟩) 9 9) ∧ PtS w' w.heap.size mb ∧ Below w.heap.size w w'
set_option maxHeartbeats 1000000 in
theorem numbers_any (mb : Nat) (w : World) : Calls Try.prog 31 #[.pointer (some ⟨mb, 0, none⟩)] w (NmP mb w) := by
  go_enter Try.func31, Try.ntmps31
  go_wp2_with fail
  go_region
  all_goals
    go_wp2
    go_ret
    exact ⟨rfl, heap_alloc_new _ _, ((Below.refl _ _).drew).alloc (Nat.le_refl _) _⟩
end Go.Proofs.Ytccpfoimedjdgaa

namespace Go.Proofs.Ytccpfoimedjdgaa
open Go.ChangeShapes Go.WideShapes Go.ChangeAt Go.RowKit

/-- bytes, so many -/
structure Bs where
  n : Nat
  f : Nat → Nat
/-- a slice of bytes -/
def BsS (w : World) (v : Value) (b : Bs) : Prop := ∃ sp cap, v = .slice sp b.n cap ∧ Src w sp b.n b.f ∧ (sp = none → b.n = 0 ∧ cap = 0) ∧ b.n ≤ 9223372036854775807 ∧ ∀ j, b.f j < 256
theorem BsS.below {w w' : World} {v : Value} {b : Bs} (h : BsS w v b) (k : Below w.heap.size w w') : BsS w' v b := by
  obtain ⟨sp, cap, e, h1, h2⟩ := h
  exact ⟨sp, cap, e, h1.below k, h2⟩
theorem BsS.one {w : World} {v : Value} {b : Bs} (h : BsS w v b) : v.oneCell' = true := by
  obtain ⟨sp, cap, rfl, _⟩ := h
  rfl
/-- a list of them as it is read -/
def LsS (w : World) (la : Option Addr) (n : Nat) (P : Nat → Bs) : Prop :=
  0 < n → ∃ b off, la = some ⟨b, off, none⟩ ∧ b < w.heap.size ∧ ∀ i, i < n → ∃ v, w.cell? ⟨b, off + i, none⟩ = some v ∧ BsS w v (P i)
theorem LsS.below {w w' : World} {la : Option Addr} {n : Nat} {P : Nat → Bs} (h : LsS w la n P) (k : Below w.heap.size w w') : LsS w' la n P := by
  intro hn
  obtain ⟨b, off, e, hl, hc⟩ := h hn
  refine ⟨b, off, e, Nat.lt_of_lt_of_le hl k.size, fun i hi => ?_⟩
  obtain ⟨v, h1, h2⟩ := hc i hi
  exact ⟨v, (k.cell (p := ⟨b, off + i, none⟩) hl).trans h1, h2.below k⟩
/-- the entries and the data behind them -/
def prt (n : Nat) (P : Nat → Bs) (D : Bs) (i : Nat) : Bs := if i < n then P i else D

theorem info23 : (Try.prog.info? 23).map (fun i => (i.zero, i.size, i.bytes)) = some (some (.slice none 0 0), 1, 24) := by kernel_rfl
theorem step_append_grows {w : World} {ops : Array Oper} {o : Oper} {a : Act} {K : Act → World → Prop} {Q : Exit → Act → World → Prop} {E : Prop} {P : Program}
    (hg : o.guard = none) (s x : Operand) (t : TypeId) (hop : o.op = Op.call { callee := Callee.builtin Builtin.append, args := #[s, x], argTypes := #[t, t] })
    (e : TypeId) (i : TypeInfo) (z : Value) (size bytes : Nat) (h1 : P.underlying t = some (.slice e)) (h2 : P.info? e = some i) (h3 : i.zero = some z) (h4 : i.size = size) (h5 : i.bytes = bytes) (h6 : z.cells.size = size) (h7 : 0 < size)
    (ao : Option Addr) (n cap : Nat) (olds : List Value) (hs : a.eval s = .slice ao n cap) (hnone : ao = none → n = 0 ∧ cap = 0) (hlo : olds.length = n * size) (holds : ∀ b, ao = some b → ∀ j u, olds[j]? = some u → w.cell? (b.add j) = some u)
    (ad : Addr) (m c : Nat) (news : List Value) (hx : a.eval x = .slice (some ad) m c) (hn : news.length = m * size) (hc : ∀ j u, news[j]? = some u → w.cell? (ad.add j) = some u) (h1c : ∀ u ∈ news, u.oneCell' = true)
    (hfull : cap < n + m) (b1 : n + m ≤ maxLen) (b2 : (n + m) * bytes ≤ 140737488355328)
    (hK : ∀ v' w', w'.ownsRow w.heap.size e size v' (n + m) (olds ++ news) → w.grownBy w' none → K (a.put o.dst v') w') :
    if Region.wanted o (yielded ops a.tmps) = true then Oper.wp P o a w K Q else E := by
  have hw : Region.wanted o (yielded ops a.tmps) = true := by simp [Region.wanted, hg]
  rw [if_pos hw]
  cases ao with
  | some b =>
    obtain ⟨v', w', hrun, r1, r2⟩ := run_append_arg_grows (P := P) w t o.type e i z size bytes h1 h2 h3 h4 h5 h6 h7 b n cap olds hlo (holds b rfl) ad m c news hn hc hfull b1 b2
    unfold Oper.wp
    simp [execOp, hop, resolve, invoke, builtin, hs, hx, hrun, Result.andThen]
    exact hK v' w' r1 r2
  | none =>
    obtain ⟨rfl, rfl⟩ := hnone rfl
    obtain rfl : olds = [] := List.eq_nil_of_length_eq_zero (by simpa using hlo)
    obtain ⟨v', w', hrun, r1, r2, _⟩ := run_append_own (P := P) w w.heap.size t o.type e i z size bytes h1 h2 h3 h4 h5 h6 h7 (.slice none 0 0) 0 [] (World.ownsRow_nil w _ e size) ad m c news hn hc h1c b1 b2 (Nat.le_refl _)
    unfold Oper.wp
    simp [execOp, hop, resolve, invoke, builtin, hs, hx, hrun, Result.andThen]
    exact hK v' w' r1 r2
/-- the cells of a list -/
theorem LsS.row {w : World} {la : Option Addr} {n : Nat} {P : Nat → Bs} (h : LsS w la n P) : ∃ olds : List Value, olds.length = n ∧ (∀ b, la = some b → ∀ j u, olds[j]? = some u → w.cell? (b.add j) = some u) ∧ ∀ j u, olds[j]? = some u → BsS w u (P j) := by
  by_cases hn : 0 < n
  · obtain ⟨b, off, rfl, hl, hc⟩ := h hn
    refine ⟨(List.range n).map (fun i => (w.cell? ⟨b, off + i, none⟩).getD (.slice none 0 0)), by simp, ?_, ?_⟩
    · intro b' e j u hj
      injection e with e
      subst e
      have hjn : j < n := by
        rcases Nat.lt_or_ge j n with h' | h'
        · exact h'
        · rw [List.getElem?_eq_none (by simpa using h')] at hj; cases hj
      obtain ⟨v, h1, h2⟩ := hc j hjn
      simp [hjn] at hj
      rw [Addr.add_lit, ← hj, h1]; rfl
    · intro j u hj
      have hjn : j < n := by
        rcases Nat.lt_or_ge j n with h' | h'
        · exact h'
        · rw [List.getElem?_eq_none (by simpa using h')] at hj; cases hj
      obtain ⟨v, h1, h2⟩ := hc j hjn
      simp [hjn] at hj
      rw [← hj, h1]; exact h2
  · obtain rfl : n = 0 := by omega
    exact ⟨[], rfl, fun _ _ j u hj => by simp at hj, fun j u hj => by simp at hj⟩
/-- a list in a block of its own, its entries as they were in w -/
def PqS (w w' : World) (q m : Nat) (P : Nat → Bs) : Prop := q < w'.heap.size ∧ (∃ cs, w'.heap[q]? = some (.cells cs 23 (0, 0))) ∧ ∀ i, i < m → ∃ v, w'.cell? ⟨q, i, none⟩ = some v ∧ BsS w v (P i)
def PaP (w0 : World) (n : Nat) (P : Nat → Bs) (D : Bs) (w : World) (e : Ending) (w' : World) : Prop :=
  ∃ q cap, e = .returned (.slice (some ⟨q, 0, none⟩) (n + 1) cap) ∧ LsS w' (some ⟨q, 0, none⟩) (n + 1) (prt n P D) ∧ w.heap.size ≤ q ∧ Below w.heap.size w w' ∧ PqS w0 w' q (n + 1) (prt n P D)
theorem pa_fin {w0 w W w' : World} {v : Value} {n : Nat} {P : Nat → Bs} {D : Bs} {olds : List Value} {da : Value} (h0 : Below w0.heap.size w0 w) (hb : Below w.heap.size w W) (ho : olds.length = n) (h1 : ∀ j u, olds[j]? = some u → BsS w0 u (P j)) (h2 : BsS w0 da D)
    (how : w'.ownsRow W.heap.size 23 1 v (n + 1) (olds ++ [da])) (hg : W.grownBy w' none) : PaP w0 n P D w (.returned v) w' := by
  obtain ⟨q, cap, rfl, hq, hql⟩ := how.form (by omega)
  have hB : Below w.heap.size w w' := hb.grown hg hb.size (fun _ h => by cases h)
  have HQ : ∀ i, i < n + 1 → ∃ v, w'.cell? ⟨q, i, none⟩ = some v ∧ BsS w0 v (prt n P D i) := by
    intro i hi
    have hc := how.cellAt i (by omega)
    by_cases hin : i < n
    · rw [List.getElem?_append_left (by omega)] at hc
      obtain ⟨u, hu⟩ : ∃ u, olds[i]? = some u := ⟨olds[i]'(by omega), List.getElem?_eq_getElem (by omega)⟩
      refine ⟨u, hc.trans hu, ?_⟩
      unfold prt
      rw [if_pos hin]
      exact h1 i u hu
    · obtain rfl : i = n := by omega
      rw [List.getElem?_append_right (by omega), ho, Nat.sub_self] at hc
      refine ⟨da, hc, ?_⟩
      unfold prt
      rw [if_neg hin]
      exact h2
  refine ⟨q, cap, rfl, fun _ => ⟨q, 0, rfl, hql, fun i hi => ?_⟩, by have := hb.size; have := (how.lt q rfl).1; omega, hB, hql, own_cells how rfl, HQ⟩
  obtain ⟨v, h1, h2⟩ := HQ i hi
  exact ⟨v, by rw [Nat.zero_add]; exact h1, (h2.below h0).below hB⟩
set_option maxRecDepth 100000 in
set_option maxHeartbeats 2000000 in
theorem parts_any (w0 : World) (k : Int) (N : Nat → Int) (la : Option Addr) (n lc : Nat) (P : Nat → Bs) (da : Value) (D : Bs) (w : World) (hn : n ≤ 1000000) (hc : n ≤ lc) (h0 : Below w0.heap.size w0 w) (hl : LsS w0 la n P) (hla : la = none → n = 0 ∧ lc = 0) (hd : BsS w0 da D) :
    Calls Try.prog 32 #[.agg (msL k N (.slice la n lc) da).toArray] w (PaP w0 n P D w) := by
  obtain ⟨i0, hi, hz0, hz1, hz2⟩ := info_parts info23
  obtain ⟨olds, ho1, ho2, ho3⟩ := hl.row
  have H1 := Lib.hid ho1
  have H2 : Hid (∀ b, la = some b → ∀ j u, olds[j]? = some u → w.cell? (b.add j) = some u) := Lib.hid fun b e j u hj => (h0.cell (cell_lt (ho2 b e j u hj))).trans (ho2 b e j u hj)
  have H0 := Lib.hid h0
  clear h0
  have H3 := Lib.hid ho3
  have HD := Lib.hid hd
  obtain ⟨dsp, dcap, eda, _⟩ := hd
  have hla' : (n = 0 ∧ la = none ∧ lc = 0) ∨ ∃ b, la = some b := by
    cases la with
    | none => obtain ⟨rfl, rfl⟩ := hla rfl; exact .inl ⟨rfl, rfl, rfl⟩
    | some b => exact .inr ⟨b, rfl⟩
  generalize D.n = dn at eda
  subst eda
  clear ho1 ho2 ho3 hl hla
  have hcc : (n : Int) ≤ (lc : Int) := by omega
  have hbx : (w.alloc (.cells (msL k N (.slice la n lc) (.slice dsp dn dcap)).toArray 25)).heap[w.heap.size]? = some (.cells (msL k N (.slice la n lc) (.slice dsp dn dcap)).toArray 25 (0, 0)) := heap_alloc_new w _
  obtain ⟨wb, ewb⟩ : ∃ wb, wb = w.alloc (.cells (msL k N (.slice la n lc) (.slice dsp dn dcap)).toArray 25) := ⟨_, rfl⟩
  have hb0 : Below w.heap.size w wb := by rw [ewb]; exact (Below.refl _ _).alloc (Nat.le_refl _) _
  rw [← ewb] at hbx
  have hbl : w.heap.size < wb.heap.size := by rw [ewb]; simp
  have HB0 := Lib.hid hb0
  have m10 : wb.cell? ⟨w.heap.size, 10, none⟩ = some (.slice la n lc) := MsC.cell (k := k) (N := N) (la := .slice la n lc) (da := .slice dsp dn dcap) hbx 10 rfl
  have m11 : wb.cell? ⟨w.heap.size, 11, none⟩ = some (.slice dsp dn dcap) := MsC.cell (k := k) (N := N) (la := .slice la n lc) (da := .slice dsp dn dcap) hbx 11 rfl
  have HM : Hid (∀ W, Below wb.heap.size wb W → W.cell? ⟨w.heap.size, 10, none⟩ = some (.slice la n lc) ∧ W.cell? ⟨w.heap.size, 11, none⟩ = some (.slice dsp dn dcap)) := Lib.hid fun W hW => ⟨(hW.cell (p := ⟨w.heap.size, 10, none⟩) hbl).trans m10, (hW.cell (p := ⟨w.heap.size, 11, none⟩) hbl).trans m11⟩
  clear hb0 hbx
  clear m10 m11
  have hB0 : Below wb.heap.size wb wb := Below.refl _ _
  have hB1 : Below wb.heap.size wb wb.drew := hB0.drew
  have hB2 : Below wb.heap.size wb (wb.drew.alloc (.cells #[Value.slice dsp dn dcap] 23)) := hB1.alloc (Nat.le_refl _) _
  have hB3 : Below wb.heap.size wb (wb.alloc (.cells #[Value.slice dsp dn dcap] 23)).drew := (hB0.alloc (Nat.le_refl _) _).drew
  have HNW : Hid (∀ (W : World) (j : Nat) (u : Value), [Value.slice dsp dn dcap][j]? = some u → (W.alloc (.cells #[Value.slice dsp dn dcap] 23)).cell? ((⟨W.heap.size, 0, none⟩ : Addr).add j) = some u) := Lib.hid fun W j u hj => by
    rw [Go.WideShapes.add_plain, cell_of_row _ _ _ _ 23 (0, 0) (heap_alloc_new W _), Nat.zero_add]
    simpa using hj
  have HOL : Hid (∀ W, Below wb.heap.size wb W → ∀ b, la = some b → ∀ j u, olds[j]? = some u → W.cell? (b.add j) = some u) := Lib.hid fun W hW b e j u hj => by
    have h := H2.out b e j u hj
    exact ((HB0.out.trans (hW.mono HB0.out.size)).cell (cell_lt h)).trans h
  have HOC : Hid (∀ u ∈ [Value.slice dsp dn dcap], u.oneCell' = true) := Lib.hid fun u hu => by
    simp at hu; subst hu; rfl
  have HF : Hid (∀ W v w', Below wb.heap.size wb W → w'.ownsRow W.heap.size 23 1 v (n + 1) (olds ++ [Value.slice dsp dn dcap]) → W.grownBy w' none → PaP w0 n P D w (.returned v) w') := Lib.hid fun W v w' hW how hg => pa_fin H0.out (HB0.out.trans (hW.mono HB0.out.size)) H1.out H3.out HD.out how hg
  rcases hla' with ⟨rfl, rfl, rfl⟩ | ⟨b, rfl⟩
  · go_enter Try.func32, Try.ntmps32
    go_wp2_with fail
    rw [← ewb]
    clear ewb
    go_region_held3 (fun W => W.cell? ⟨w.heap.size, 10, none⟩ = some (.slice none 0 0) ∧ W.cell? ⟨w.heap.size, 11, none⟩ = some (.slice dsp dn dcap))
      (first | exact HM.out _ hB0 | exact HM.out _ hB1 | exact HM.out _ hB2 | exact HM.out _ hB3 | exact HM.out _ (hB2.grown hg7 hB2.size (fun _ h => by cases h)))
      (first | (refine step_append_grows (by rfl) _ _ 22 (by rfl) 23 i0 (.slice none 0 0) 1 24 Try.underlying22 hi hz0 hz1 hz2 rfl (by decide) none 0 0 olds (by rfl) (fun _ => ⟨rfl, rfl⟩) (by have := H1.out; omega) (HOL.out _ hB2) ⟨wb.heap.size, 0, none⟩ 1 1 [Value.slice dsp dn dcap] (by rfl) rfl (HNW.out wb.drew) HOC.out (by omega) (by unfold maxLen; omega) (by omega) ?_; intro v7 w7 ho7 hg7))
    all_goals
      have HR := Lib.hid (HF.out _ v7 w7 hB2 ho7 hg7)
      clear HF HOL HM HNW HOC hB0 hB1 hB2 hB3 ho7 hg7
      go_wp2
      go_ret
      exact HR.out
  · go_enter Try.func32, Try.ntmps32
    go_wp2_with fail
    rw [← ewb]
    clear ewb
    go_region_held3 (fun W => W.cell? ⟨w.heap.size, 10, none⟩ = some (.slice (some b) n lc) ∧ W.cell? ⟨w.heap.size, 11, none⟩ = some (.slice dsp dn dcap))
      (first | exact HM.out _ hB0 | exact HM.out _ hB1 | exact HM.out _ hB2 | exact HM.out _ hB3 | exact HM.out _ (hB2.grown hg7 hB2.size (fun _ h => by cases h)))
      (first | (refine step_append_grows (by rfl) _ _ 22 (by rfl) 23 i0 (.slice none 0 0) 1 24 Try.underlying22 hi hz0 hz1 hz2 rfl (by decide) (some b) n n olds (by rfl) (fun h => (by cases h)) (by have := H1.out; omega) (HOL.out _ hB2) ⟨wb.heap.size, 0, none⟩ 1 1 [Value.slice dsp dn dcap] (by rfl) rfl (HNW.out wb.drew) HOC.out (by omega) (by unfold maxLen; omega) (by omega) ?_; intro v7 w7 ho7 hg7))
    all_goals
      have HR := Lib.hid (HF.out _ v7 w7 hB2 ho7 hg7)
      clear HF HOL HM HNW HOC hB0 hB1 hB2 hB3 ho7 hg7
      go_wp2
      go_ret
      exact HR.out
end Go.Proofs.Ytccpfoimedjdgaa

namespace Go.Proofs.Ytccpfoimedjdgaa
open Go.ChangeShapes Go.WideShapes Go.ChangeAt Go.RowKit

def KOk (k : Int) : Prop := 1 ≤ k ∧ k ≤ 7
def NOk (x : Int) : Prop := 0 ≤ x ∧ x ≤ 1099511627776
open Classical in
noncomputable def mErr (k : Int) (N : Nat → Int) (n : Nat) (P : Nat → Bs) (D : Bs) : Int :=
  if ¬ KOk k then 14 else if ∃ j, j < 9 ∧ ¬ NOk (N j) then 1 else if 2000 < n then 4 else if ∃ i, i < n + 1 ∧ 4000 < (prt n P D i).n then 3 else 0
theorem mErr_kind {k : Int} {N : Nat → Int} {n : Nat} {P : Nat → Bs} {D : Bs} (h : ¬ KOk k) : mErr k N n P D = 14 := by unfold mErr; rw [if_pos h]
theorem mErr_num {k : Int} {N : Nat → Int} {n : Nat} {P : Nat → Bs} {D : Bs} (h : KOk k) (j : Nat) (hj : j < 9) (h2 : ¬ NOk (N j)) : mErr k N n P D = 1 := by
  unfold mErr; rw [if_neg (fun h' => h' h), if_pos ⟨j, hj, h2⟩]
theorem mErr_many {k : Int} {N : Nat → Int} {n : Nat} {P : Nat → Bs} {D : Bs} (h : KOk k) (h2 : ∀ j, j < 9 → NOk (N j)) (h3 : 2000 < n) : mErr k N n P D = 4 := by
  unfold mErr; rw [if_neg (fun h' => h' h), if_neg (fun ⟨j, hj, h'⟩ => h' (h2 j hj)), if_pos h3]
theorem mErr_long {k : Int} {N : Nat → Int} {n : Nat} {P : Nat → Bs} {D : Bs} (h : KOk k) (h2 : ∀ j, j < 9 → NOk (N j)) (h3 : ¬ 2000 < n) (i : Nat) (hi : i < n + 1) (h4 : 4000 < (prt n P D i).n) : mErr k N n P D = 3 := by
  unfold mErr; rw [if_neg (fun h' => h' h), if_neg (fun ⟨j, hj, h'⟩ => h' (h2 j hj)), if_neg h3, if_pos ⟨i, hi, h4⟩]
theorem mErr_ok {k : Int} {N : Nat → Int} {n : Nat} {P : Nat → Bs} {D : Bs} (h : KOk k) (h2 : ∀ j, j < 9 → NOk (N j)) (h3 : ¬ 2000 < n) (h4 : ∀ i, i < n + 1 → (prt n P D i).n ≤ 4000) : mErr k N n P D = 0 := by
  unfold mErr; rw [if_neg (fun h' => h' h), if_neg (fun ⟨j, hj, h'⟩ => h' (h2 j hj)), if_neg h3, if_neg (fun ⟨i, hi, h'⟩ => by have := h4 i hi; omega)]
theorem mErr_zero {k : Int} {N : Nat → Int} {n : Nat} {P : Nat → Bs} {D : Bs} (h : mErr k N n P D = 0) : KOk k ∧ (∀ j, j < 9 → NOk (N j)) ∧ n ≤ 2000 ∧ ∀ i, i < n + 1 → (prt n P D i).n ≤ 4000 := by
  unfold mErr at h
  split at h
  · cases h
  · rename_i h1
    split at h
    · cases h
    · rename_i h2
      split at h
      · cases h
      · rename_i h3
        split at h
        · cases h
        · rename_i h4
          exact ⟨Classical.byContradiction h1, fun j hj => Classical.byContradiction fun h' => h2 ⟨j, hj, h'⟩, by omega, fun i hi => by rcases Nat.lt_or_ge 4000 (prt n P D i).n with h' | h'; exact absurd ⟨i, hi, h'⟩ h4; exact h'⟩
def FtP (k : Int) (N : Nat → Int) (n : Nat) (P : Nat → Bs) (D : Bs) (w : World) (e : Ending) (w' : World) : Prop :=
  e = .returned (.int .i64 (mErr k N n P D)) ∧ Below w.heap.size w w'

set_option maxRecDepth 100000 in
set_option maxHeartbeats 4000000 in
theorem fits_any (k : Int) (N : Nat → Int) (la : Option Addr) (n lc : Nat) (P : Nat → Bs) (da : Value) (D : Bs) (w : World) (hn : n ≤ 1000000) (hc : n ≤ lc) (hl : LsS w la n P) (hla : la = none → n = 0 ∧ lc = 0) (hd : BsS w da D) :
    Calls Try.prog 18 #[.agg (msL k N (.slice la n lc) da).toArray] w (FtP k N n P D w) := by
  have HL := Lib.hid hl
  have HA := Lib.hid hla
  have HD := Lib.hid hd
  obtain ⟨dsp, dcap, eda, _⟩ := hd
  generalize D.n = dn at eda
  subst eda
  clear hl hla
  have hbx : (w.alloc (.cells (msL k N (.slice la n lc) (.slice dsp dn dcap)).toArray 25)).heap[w.heap.size]? = some (.cells (msL k N (.slice la n lc) (.slice dsp dn dcap)).toArray 25 (0, 0)) := heap_alloc_new w _
  obtain ⟨wb, ewb⟩ : ∃ wb, wb = w.alloc (.cells (msL k N (.slice la n lc) (.slice dsp dn dcap)).toArray 25) := ⟨_, rfl⟩
  have hb0 : Below w.heap.size w wb := by rw [ewb]; exact (Below.refl _ _).alloc (Nat.le_refl _) _
  rw [← ewb] at hbx
  have hbl : w.heap.size < wb.heap.size := by rw [ewb]; simp
  have HB0 := Lib.hid hb0
  have HM : Hid (MsC wb w.heap.size k N (.slice la n lc) (.slice dsp dn dcap)) := Lib.hid hbx
  clear hb0 hbx
  obtain ⟨m0, _, _, _, _, _, _, _, _, _, _, _⟩ := HM.out.all
  rcases (Classical.em (KOk k)).symm with hk | hk
  · have HE : Hid (mErr k N n P D = 14) := Lib.hid (mErr_kind hk)
    have hkb : (decide (1 ≤ k) && decide (k ≤ 7)) = false := by
      rw [Bool.eq_false_iff]; intro h; simp at h; exact hk h
    clear hk
    go_enter Try.func18, Try.ntmps18
    go_wp2_with fail
    rw [← ewb]
    clear ewb
    refine (iskind_any k wb).mono ?_
    rintro e w1 ⟨rfl, rfl⟩
    rw [hkb]
    go_wp2
    go_ret
    exact ⟨by rw [HE.out]; rfl, HB0.out⟩
  · have hkb : (decide (1 ≤ k) && decide (k ≤ 7)) = true := by unfold KOk at hk; simp [hk]
    have HK := Lib.hid hk
    clear hk
    go_enter Try.func18, Try.ntmps18
    go_wp2_with fail
    rw [← ewb]
    refine (iskind_any k wb).mono ?_
    rintro e w1 ⟨rfl, rfl⟩
    rw [hkb]
    clear ewb
    go_wp2_with fail
    refine (numbers_any w.heap.size wb).mono ?_
    rintro e w1 ⟨rfl, hp1, hb1⟩
    have HM1 := Lib.hid (HM.out.below hb1 hbl)
    have HB1 := Lib.hid (HB0.out.trans (hb1.mono (Nat.le_of_lt hbl)))
    have HP1 := Lib.hid hp1
    have hl1 : wb.heap.size < w1.heap.size := hp1.lt
    clear hb1 hp1 HM HB0 hkb m0
    obtain ⟨q, eq⟩ : ∃ q, q = wb.heap.size := ⟨_, rfl⟩
    rw [← eq] at HP1 hl1 hbl ⊢
    clear eq
    go_wp2
    go_loopw [4, 13] (fun _ i wr => ∃ t : Nat, t ≤ 9 ∧ i = .int .i64 (t : Int) ∧ wr = w1 ∧ Hid (∀ j, j < t → NOk (N j))) (fun _ i _ => 9 - (intOf i).toNat)
    case atStart => exact ⟨0, Nat.zero_le _, rfl, rfl, Lib.hid fun j hj => absurd hj (Nat.not_lt_zero _)⟩
    case round =>
      obtain ⟨t, ht, rfl, rfl, HT⟩ := hrel
      by_cases hlt : t < 9
      · have hlt' : (t : Int) < 9 := by omega
        have c0 := HP1.out.at t hlt
        have c1 := HM1.out.num t hlt
        have HPR : Hid (NOk (N t) → ∀ j, j < t + 1 → NOk (N j)) := Lib.hid fun hh j hj => by
          by_cases h : j < t
          · exact HT.out j h
          · obtain rfl : j = t := by omega
            exact hh
        have HNO : Hid (¬ NOk (N t) → mErr k N n P D = 1) := Lib.hid fun hh => mErr_num HK.out t hlt hh
        generalize N t = x at *
        by_cases hx : x < 0
        · have hcn := HNO.out (by unfold NOk; omega)
          go_wp2
          go_ret
          exact ⟨by rw [hcn]; rfl, HB1.out⟩
        · by_cases hx' : 1099511627776 < x
          · have hcn := HNO.out (by unfold NOk; omega)
            go_wp2
            go_ret
            exact ⟨by rw [hcn]; rfl, HB1.out⟩
          · have HPR' := Lib.hid (HPR.out (by unfold NOk; omega))
            go_wp2
            go_roundw
            case rel => exact ⟨t + 1, by omega, by go_num, trivial, HPR'⟩
            case measure => simp [intOf]; omega
      · obtain rfl : t = 9 := by omega
        obtain ⟨m0, m1, m2, m3, m4, m5, m6, m7, m8, m9, m10, m11⟩ := HM1.out.all
        by_cases h2 : 2000 < n
        · have hcn : mErr k N n P D = 4 := mErr_many HK.out HT.out h2
          have h2' : (2000 : Int) < (n : Int) := by omega
          go_wp2
          go_ret
          exact ⟨by rw [hcn]; rfl, HB1.out⟩
        · have h2' : ¬ (2000 : Int) < (n : Int) := by omega
          have hbw : Below w.heap.size w wr := HB1.out
          go_wp2_with fail
          refine (parts_any wr k N la n lc P (.slice dsp dn dcap) D wr hn hc (Below.refl _ _) (HL.out.below hbw) HA.out (HD.out.below hbw)).mono ?_
          rintro e w2 ⟨q2, cp2, rfl, hls, hq2, hb2, _⟩
          have HB2 := Lib.hid (HB1.out.trans (hb2.mono HB1.out.size))
          have HLS := Lib.hid hls
          have HER : Hid (∀ i, i < n + 1 → 4000 < (prt n P D i).n → mErr k N n P D = 3) := Lib.hid fun i hi h => mErr_long HK.out HT.out h2 i hi h
          have HEO : Hid ((∀ i, i < n + 1 → (prt n P D i).n ≤ 4000) → mErr k N n P D = 0) := Lib.hid fun h => mErr_ok HK.out HT.out h2 h
          clear hb2 hls hbw m0 m1 m2 m3 m4 m5 m6 m7 m8 m9 m10 m11 HM1 HP1 HT
          obtain ⟨n1, en1⟩ : ∃ n1, n1 = n + 1 := ⟨_, rfl⟩
          rw [← en1] at HLS HER HEO ⊢
          have hn1 : n1 ≤ 1000001 := by omega
          clear en1
          go_wp2
          go_loopw [6, 35] (fun _ i wr => ∃ t : Nat, t ≤ n1 ∧ i = .int .i64 (t : Int) ∧ wr = w2 ∧ Hid (∀ i, i < t → (prt n P D i).n ≤ 4000)) (fun _ i _ => n1 - (intOf i).toNat)
          case atStart => exact ⟨0, Nat.zero_le _, rfl, rfl, Lib.hid fun j hj => absurd hj (Nat.not_lt_zero _)⟩
          case round =>
            obtain ⟨t, ht, rfl, rfl, HT⟩ := hrel
            by_cases hlt : t < n1
            · have hlt' : (t : Int) < (n1 : Int) := by omega
              obtain ⟨b, off, eb, hbl2, hci⟩ := HLS.out (by omega)
              injection eb with eb
              injection eb with eb1 eb2 _
              subst eb1 eb2
              obtain ⟨v, c0, sp, cap, rfl, hsrc⟩ := hci t hlt
              rw [Nat.zero_add] at c0
              have HPR : Hid ((prt n P D t).n ≤ 4000 → ∀ j, j < t + 1 → (prt n P D j).n ≤ 4000) := Lib.hid fun hh j hj => by
                by_cases h : j < t
                · exact HT.out j h
                · obtain rfl : j = t := by omega
                  exact hh
              have HNO := Lib.hid (HER.out t hlt)
              clear hci hsrc
              generalize (prt n P D t).n = x at *
              by_cases hx : 4000 < x
              · have hcn := HNO.out hx
                have hx' : (4000 : Int) < (x : Int) := by omega
                go_wp2
                go_ret
                exact ⟨by rw [hcn]; rfl, HB2.out⟩
              · have hx' : ¬ (4000 : Int) < (x : Int) := by omega
                have HPR' := Lib.hid (HPR.out (by omega))
                go_wp2
                go_roundw
                case rel => exact ⟨t + 1, by omega, by go_num, trivial, HPR'⟩
                case measure => simp [intOf]; omega
            · obtain rfl : n1 = t := by omega
              have hcn := HEO.out HT.out
              go_wp2
              go_ret
              exact ⟨by rw [hcn]; rfl, HB2.out⟩
end Go.Proofs.Ytccpfoimedjdgaa

namespace Go.Proofs.Ytccpfoimedjdgaa
open Go.ChangeShapes Go.WideShapes Go.ChangeAt Go.RowKit

/-- the bits of the first bytes -/
def bytL (f : Nat → Nat) : Nat → List Nat
  | 0 => []
  | i + 1 => bytL f i ++ bitsL (f i) 8
theorem bytL_length (f : Nat → Nat) (n : Nat) : (bytL f n).length = 8 * n := by
  induction n with
  | zero => rfl
  | succ n ih => show (bytL f n ++ bitsL (f n) 8).length = _; rw [List.length_append, ih, bitsL_length]; omega
def bsL (b : Bs) : List Nat := numL b.n ++ bytL b.f b.n
def numsL (N : Nat → Int) : Nat → List Nat
  | 0 => []
  | j + 1 => numsL N j ++ numL (N j).toNat
def prtL (P : Nat → Bs) : Nat → List Nat
  | 0 => []
  | i + 1 => prtL P i ++ bsL (P i)
/-- a message's bits -/
def msgL (N : Nat → Int) (n : Nat) (P : Nat → Bs) (D : Bs) : List Nat := numsL N 9 ++ (numL n ++ prtL (prt n P D) (n + 1))

theorem len_L (w : World) (base wb : Nat) (L : List Nat) (v : Value) (h : WSt w base wb L v) :
    Calls Try.prog 34 #[.pointer (some ⟨wb, 0, none⟩)] w fun e w' => e = .returned (.int .i64 (L.length : Int)) ∧ w = w' := by
  obtain ⟨F, hr, _⟩ := h
  have c1 := hr.c1
  clear hr
  go_enter Try.func34, Try.ntmps34
  go_wp2
  go_ret
  exact ⟨rfl, rfl⟩
theorem wn8 : wn 8 = 8 := by decide

set_option maxRecDepth 100000 in
set_option maxHeartbeats 2000000 in
theorem putb_any (w0 : World) (base wb : Nat) (L : List Nat) (v : Value) (bv : Value) (b : Bs) (w : World) (hbase : w0.heap.size = base) (hb0 : Below base w0 w) (hwb : base ≤ wb) (hs : BsS w0 bv b) (h : WSt w base wb L v) (hL : L.length + 8 * b.n ≤ 1000000) :
    Calls Try.prog 35 #[.pointer (some ⟨wb, 0, none⟩), bv] w (PutP base wb L (bsL b) v w) := by
  obtain ⟨sp, cap, rfl, hs, hnil, hmx, hf⟩ := hs
  obtain ⟨n, f⟩ := b
  dsimp only at *
  have HS := Lib.hid hs
  have HF := Lib.hid hf
  have HW := Lib.hid h
  have HB0 := Lib.hid hb0
  have HBS := Lib.hid hbase
  have HN8 := Lib.hid wn8
  clear hs hf hnil h hb0 hbase
  go_enter Try.func35, Try.ntmps35
  go_wp2_with fail
  refine (num_L w base wb L v n HW.out (by omega) (by omega)).mono ?_
  rintro e w1 ⟨rfl, v1, hw1, hs1⟩
  have HB1 := Lib.hid (HB0.out.trans (HW.out.belowB hs1 hwb))
  have HW1 := Lib.hid hw1
  have HS1 := Lib.hid hs1
  have HNL := Lib.hid (numL_le n (by omega))
  clear hw1 hs1
  go_wp2
  go_loopw [5, 13] (fun _ x wr => ∃ (t : Nat) (v' : Value), t ≤ n ∧ x = .int .i64 (t : Int) ∧ Hid (WSt wr base wb (L ++ numL n ++ bytL f t) v' ∧ WStep wb w v.ownBlock wr v'.ownBlock ∧ Below base w0 wr)) (fun _ x _ => n - (intOf x).toNat)
  case atStart => exact ⟨0, v1, Nat.zero_le _, rfl, Lib.hid ⟨by rw [show bytL f 0 = [] from rfl, List.append_nil]; exact HW1.out, HS1.out, HB1.out⟩⟩
  case round =>
    obtain ⟨t, v', ht, rfl, HT⟩ := hrel
    by_cases hlt : t < n
    · have hlt' : (t : Int) < (n : Int) := by omega
      obtain ⟨ad, ead, hbl, hci⟩ := HS.out (by omega)
      subst ead
      have c0 := hci t hlt
      rw [HBS.out] at hbl
      have x0 := (HT.out.2.2.cell (p := ad.add t) (by rw [block_add]; exact hbl)).trans c0
      have hfx := HF.out t
      have HNX : Hid (bytL f (t + 1) = bytL f t ++ bitsL (f t) 8) := Lib.hid rfl
      have hlen : (L ++ numL n ++ bytL f t).length ≤ 8000000 := by
        rw [List.length_append, List.length_append, bytL_length]; have := HNL.out; omega
      clear c0 hci
      generalize f t = y at *
      obtain ⟨M, eM⟩ : ∃ M, M = L ++ numL n ++ bytL f t := ⟨_, rfl⟩
      rw [← eM] at HT hlen
      have HME := Lib.hid eM
      clear eM
      go_wp2_with fail
      refine (put_L wr base wb M v' y (y : Int) 8 rfl 8 HN8.out HT.out.1 (by omega) (by omega)).mono ?_
      rintro e w2 ⟨rfl, v2, hw2, hs2⟩
      have HW2 : Hid (WSt w2 base wb (L ++ numL n ++ bytL f (t + 1)) v2) := Lib.hid (by rw [HNX.out, ← List.append_assoc, ← HME.out]; exact hw2)
      have HS2 := Lib.hid (HT.out.2.1.trans hs2)
      have HB2 := Lib.hid (HT.out.2.2.trans (HT.out.1.belowB hs2 hwb))
      clear hw2 hs2 x0
      go_wp2
      go_roundw
      case rel => exact ⟨t + 1, v2, by omega, by go_num, Lib.hid ⟨HW2.out, HS2.out, HB2.out⟩⟩
      case measure => simp [intOf]; omega
    · obtain rfl : n = t := by omega
      go_wp2
      go_end0
      exact ⟨rfl, v', by unfold bsL; dsimp only; rw [← List.append_assoc]; exact HT.out.1, HT.out.2.1⟩
end Go.Proofs.Ytccpfoimedjdgaa

namespace Go.Proofs.Ytccpfoimedjdgaa
open Go.ChangeShapes Go.WideShapes Go.ChangeAt Go.RowKit

theorem numsL_le (N : Nat → Int) (h : ∀ j, j < 9 → NOk (N j)) : ∀ t, t ≤ 9 → (numsL N t).length ≤ 129 * t := by
  intro t
  induction t with
  | zero => intro _; exact Nat.le_refl _
  | succ t ih =>
    intro ht
    have h1 := ih (by omega)
    have h2 := h t (by omega)
    have h3 := numL_le (N t).toNat (by unfold NOk at h2; omega)
    show (numsL N t ++ numL (N t).toNat).length ≤ _
    rw [List.length_append]; omega
theorem prtL_mono (P : Nat → Bs) (i : Nat) : ∀ m, i ≤ m → (prtL P i).length ≤ (prtL P m).length := by
  intro m
  induction m with
  | zero => intro h; obtain rfl : i = 0 := by omega
            exact Nat.le_refl _
  | succ m ih =>
    intro h
    by_cases hi : i = m + 1
    · subst hi; exact Nat.le_refl _
    · have := ih (by omega)
      show _ ≤ (prtL P m ++ bsL (P m)).length
      rw [List.length_append]; omega
theorem bsL_length (b : Bs) : (bsL b).length = (numL b.n).length + 8 * b.n := by unfold bsL; rw [List.length_append, bytL_length]
theorem prtL_next (P : Nat → Bs) (i m : Nat) (h : i < m) : (prtL P i).length + 8 * (P i).n ≤ (prtL P m).length := by
  have h1 := prtL_mono P (i + 1) m h
  have h2 : (prtL P (i + 1)).length = (prtL P i).length + (bsL (P i)).length := by show (prtL P i ++ bsL (P i)).length = _; rw [List.length_append]
  rw [bsL_length] at h2
  omega
theorem msgL_length (N : Nat → Int) (n : Nat) (P : Nat → Bs) (D : Bs) : (msgL N n P D).length = (numsL N 9).length + ((numL n).length + (prtL (prt n P D) (n + 1)).length) := by
  unfold msgL; rw [List.length_append, List.length_append]
theorem PqS.kept {w w2 wr : World} {q m : Nat} {P : Nat → Bs} (h : PqS w w2 q m P) (hk : ∀ cs, w2.heap[q]? = some (.cells cs 23 (0, 0)) → wr.heap[q]? = some (.cells cs 23 (0, 0))) (i : Nat) (hi : i < m) : ∃ v, wr.cell? ⟨q, i, none⟩ = some v ∧ BsS w v (P i) := by
  obtain ⟨_, ⟨cs, hcs⟩, h⟩ := h
  obtain ⟨v, h1, h2⟩ := h i hi
  rw [cell_of_row w2 q i _ 23 (0, 0) hcs] at h1
  exact ⟨v, by rw [cell_of_row wr q i _ 23 (0, 0) (hk cs hcs)]; exact h1, h2⟩
def ConP (L : List Nat) (w : World) (e : Ending) (w' : World) : Prop :=
  ∃ g nb F, e = .returned (.slice (some ⟨g, 0, none⟩) nb nb) ∧ EncB L w w' g nb F ∧ Below w.heap.size w w'

set_option maxRecDepth 100000 in
set_option maxHeartbeats 4000000 in
theorem content_any (k : Int) (N : Nat → Int) (la : Option Addr) (n lc : Nat) (P : Nat → Bs) (da : Value) (D : Bs) (w : World) (hn : n ≤ 1000000) (hc : n ≤ lc) (hl : LsS w la n P) (hla : la = none → n = 0 ∧ lc = 0) (hd : BsS w da D)
    (hN : ∀ j, j < 9 → NOk (N j)) (hM : (msgL N n P D).length ≤ 500000) :
    Calls Try.prog 19 #[.agg (msL k N (.slice la n lc) da).toArray] w (ConP (msgL N n P D) w) := by
  have HL := Lib.hid hl
  have HA := Lib.hid hla
  have HD := Lib.hid hd
  have HNN := Lib.hid hN
  obtain ⟨dsp, dcap, eda, _⟩ := hd
  generalize D.n = dn at eda
  subst eda
  clear hl hla hN
  rw [msgL_length] at hM
  have hbx : (w.alloc (.cells (msL k N (.slice la n lc) (.slice dsp dn dcap)).toArray 25)).heap[w.heap.size]? = some (.cells (msL k N (.slice la n lc) (.slice dsp dn dcap)).toArray 25 (0, 0)) := heap_alloc_new w _
  obtain ⟨wb, ewb⟩ : ∃ wb, wb = w.alloc (.cells (msL k N (.slice la n lc) (.slice dsp dn dcap)).toArray 25) := ⟨_, rfl⟩
  have hb0 : Below w.heap.size w wb := by rw [ewb]; exact (Below.refl _ _).alloc (Nat.le_refl _) _
  rw [← ewb] at hbx
  have hbl : w.heap.size < wb.heap.size := by rw [ewb]; simp
  have HB0 := Lib.hid hb0
  have HM : Hid (MsC wb w.heap.size k N (.slice la n lc) (.slice dsp dn dcap)) := Lib.hid hbx
  clear hb0 hbx
  obtain ⟨wi, ewi⟩ : ∃ wi, wi = wb.alloc (.cells #[.slice none 0 0, .int .i64 0] 70) := ⟨_, rfl⟩
  have HWI : Hid (WSt wi wb.heap.size wb.heap.size [] (.slice none 0 0)) := Lib.hid ⟨fun _ => 0, by rw [ewi]; exact WR.new wb wb.heap.size (Nat.le_refl _), fun i hi => absurd hi (Nat.not_lt_zero _)⟩
  have HBI : Hid (Below wb.heap.size wb wi) := Lib.hid (by rw [ewi]; exact (Below.refl _ _).alloc (Nat.le_refl _) _)
  have hil : wi.heap.size = wb.heap.size + 1 := by rw [ewi]; simp
  have hbs : wb.heap.size = w.heap.size + 1 := by rw [ewb]; simp
  obtain ⟨B, eB⟩ : ∃ B, B = w.heap.size + 1 := ⟨_, rfl⟩
  rw [hbs, ← eB] at HWI HBI hil
  have HEB : Hid (B = wb.heap.size) := Lib.hid (by omega)
  clear hbs
  go_enter Try.func19, Try.ntmps19
  go_wp2_with fail
  rw [← ewb, ← ewi, ← eB]
  clear ewb ewi eB
  refine (numbers_any w.heap.size wi).mono ?_
  rintro e w1 ⟨rfl, hp1, hb1⟩
  have hB1 : Below B wb w1 := HBI.out.trans (hb1.mono (by omega))
  have HB1 := Lib.hid hB1
  have HM1 : Hid (MsC w1 w.heap.size k N (.slice la n lc) (.slice dsp dn dcap)) := Lib.hid (HM.out.below hB1 (by have := HEB.out; omega))
  have HP1 := Lib.hid hp1
  have HW1 := Lib.hid (HWI.out.below hb1)
  clear hb1 hp1 HM HBI HWI hB1
  obtain ⟨q, eq⟩ : ∃ q, q = wi.heap.size := ⟨_, rfl⟩
  rw [← eq] at HP1 ⊢
  have hqB : q ≠ B := by omega
  have hbB : w.heap.size < B := by have := HEB.out; omega
  clear eq hil hbl
  go_wp2
  go_loopw [5, 12] (fun _ x wr => ∃ (t : Nat) (v : Value), t ≤ 9 ∧ x = .int .i64 (t : Int) ∧ Hid (WSt wr B B (numsL N t) v ∧ Below B wb wr ∧ WStep B w1 none wr v.ownBlock)) (fun _ x _ => 9 - (intOf x).toNat)
  case atStart => exact ⟨0, .slice none 0 0, Nat.zero_le _, rfl, Lib.hid ⟨HW1.out, HB1.out, WStep.refl _ _ _⟩⟩
  case round =>
    obtain ⟨t, v, ht, rfl, HT⟩ := hrel
    by_cases hlt : t < 9
    · have hlt' : (t : Int) < 9 := by omega
      have hp : PtS wr q w.heap.size := WSt.other (v := .slice none 0 0) HW1.out HT.out.2.2 HP1.out (by decide) hqB
      have c0 := hp.at t hlt
      have c1 : wr.cell? ⟨w.heap.size, t + 1, none⟩ = some (.int .i64 (N t)) := MsC.num (MsC.below HM1.out ⟨HT.out.2.1.os.trans HB1.out.os.symm, HT.out.2.1.tape.trans HB1.out.tape.symm, HT.out.2.1.output.trans HB1.out.output.symm, HT.out.2.2.size, fun k hk => (HT.out.2.1.block k hk).trans (HB1.out.block k hk).symm⟩ hbB) t hlt
      have hlen := numsL_le N HNN.out t (by omega)
      have HNX : Hid (numsL N (t + 1) = numsL N t ++ numL (N t).toNat) := Lib.hid rfl
      have hok := HNN.out t hlt
      unfold NOk at hok
      generalize N t = z at *
      obtain ⟨x, rfl⟩ : ∃ x : Nat, z = (x : Int) := ⟨z.toNat, by omega⟩
      rw [show ((x : Int)).toNat = x from rfl] at HNX
      have hx : x ≤ 1099511627776 := by omega
      clear hp
      go_wp2_with fail
      refine (num_L wr B B (numsL N t) v x HT.out.1 (by omega) (by omega)).mono ?_
      rintro e w2 ⟨rfl, v2, hw2, hs2⟩
      have HW2 : Hid (WSt w2 B B (numsL N (t + 1)) v2) := Lib.hid (by rw [HNX.out]; exact hw2)
      have HB2 := Lib.hid (HT.out.2.1.trans (HT.out.1.belowB hs2 (Nat.le_refl _)))
      have HS2 := Lib.hid (HT.out.2.2.trans hs2)
      clear hw2 hs2 c0 c1
      go_wp2
      go_roundw
      case rel => exact ⟨t + 1, v2, by omega, by go_num, Lib.hid ⟨HW2.out, HB2.out, HS2.out⟩⟩
      case measure => simp [intOf]; omega
    · obtain rfl : t = 9 := by omega
      have hM1 : MsC wr w.heap.size k N (.slice la n lc) (.slice dsp dn dcap) := MsC.below HM1.out ⟨HT.out.2.1.os.trans HB1.out.os.symm, HT.out.2.1.tape.trans HB1.out.tape.symm, HT.out.2.1.output.trans HB1.out.output.symm, HT.out.2.2.size, fun k hk => (HT.out.2.1.block k hk).trans (HB1.out.block k hk).symm⟩ hbB
      have m10 := hM1.cell 10 rfl
      have HMR := Lib.hid hM1
      have hlen := numsL_le N HNN.out 9 (by omega)
      have HW2 := Lib.hid HT.out.1
      have HB2 := Lib.hid HT.out.2.1
      clear hM1 HT HM1 HP1 HW1 HB1
      go_wp2_with fail
      refine (num_L wr B B (numsL N 9) v n HW2.out (by omega) (by omega)).mono ?_
      rintro e w3 ⟨rfl, v3, hw3, hs3⟩
      have hB3 : Below B wr w3 := HW2.out.belowB hs3 (Nat.le_refl _)
      have HM3 := Lib.hid (HMR.out.below hB3 hbB)
      have HB3 := Lib.hid (HB2.out.trans hB3)
      have HW3 := Lib.hid hw3
      have hn3 := numL_le n (by omega)
      clear hw3 hs3 HMR HB2 HW2 m10 hB3
      obtain ⟨m0, m1, m2, m3, m4, m5, m6, m7, m8, m9, m10, m11⟩ := HM3.out.all
      have HB3w : Hid (Below w.heap.size w w3) := Lib.hid (HB0.out.trans (HB3.out.mono (Nat.le_of_lt hbB)))
      go_wp2_with fail
      refine (parts_any w k N la n lc P (.slice dsp dn dcap) D w3 hn hc HB3w.out HL.out HA.out HD.out).mono ?_
      rintro e w4 ⟨q2, cp2, rfl, _, hq2, hb4, hpq⟩
      have hw3l : B < w3.heap.size := by obtain ⟨F, h1, _⟩ := HW3.out; exact h1.lt
      have HB4 := Lib.hid (HB3.out.trans (hb4.mono (Nat.le_of_lt hw3l)))
      have HW4 := Lib.hid (HW3.out.below hb4)
      have HPQ := Lib.hid hpq
      have hq2B : q2 ≠ B := by omega
      clear hb4 hpq HM3 HB3 HW3 m0 m1 m2 m3 m4 m5 m6 m7 m8 m9 m10 m11 HB3w
      obtain ⟨A, eA⟩ : ∃ A, A = numsL N 9 ++ numL n := ⟨_, rfl⟩
      rw [← eA] at HW4
      have hA : A.length ≤ 129 * 9 + 129 := by rw [eA, List.length_append]; omega
      have HA' := Lib.hid eA
      have HLE : Hid (∀ t, t < n + 1 → (prtL (prt n P D) t).length + 8 * (prt n P D t).n ≤ 500000) := Lib.hid fun t h => by
        have := prtL_next (prt n P D) t (n + 1) h; omega
      have HLT : Hid (A.length + (prtL (prt n P D) (n + 1)).length ≤ 500000) := Lib.hid (by rw [eA, List.length_append]; omega)
      have HGO : Hid (∀ t, t ≤ n + 1 → A.length + (prtL (prt n P D) t).length ≤ 500000) := Lib.hid fun t h => by
        have := prtL_mono (prt n P D) t (n + 1) h; have := HLT.out; omega
      clear eA hM
      obtain ⟨n1, en1⟩ : ∃ n1, n1 = n + 1 := ⟨_, rfl⟩
      have HN1 := Lib.hid en1
      rw [← en1] at HPQ HLE HLT HGO ⊢
      have hn1 : n1 ≤ 1000001 := by omega
      clear en1
      go_wp2
      go_loopw [7, 32] (fun _ x wr => ∃ (t : Nat) (v' : Value), t ≤ n1 ∧ x = .int .i64 (t : Int) ∧ Hid (WSt wr B B (A ++ prtL (prt n P D) t) v' ∧ Below B wb wr ∧ WStep B w4 v3.ownBlock wr v'.ownBlock)) (fun _ x _ => n1 - (intOf x).toNat)
      case atStart => exact ⟨0, v3, Nat.zero_le _, rfl, Lib.hid ⟨by rw [show prtL (prt n P D) 0 = [] from rfl, List.append_nil]; exact HW4.out, HB4.out, WStep.refl _ _ _⟩⟩
      case round =>
        obtain ⟨t, v', ht, rfl, HT⟩ := hrel
        by_cases hlt : t < n1
        · have hlt' : (t : Int) < (n1 : Int) := by omega
          obtain ⟨ev, c0, hbs⟩ := PqS.kept HPQ.out (fun cs hcs => HW4.out.other HT.out.2.2 hcs (by decide) hq2B) t hlt
          have HBS := Lib.hid hbs
          obtain ⟨esp, ecap, rfl, _⟩ := hbs
          have HNX : Hid (prtL (prt n P D) (t + 1) = prtL (prt n P D) t ++ bsL (prt n P D t)) := Lib.hid rfl
          have hle := HLE.out t hlt
          have hgo := HGO.out t ht
          obtain ⟨M, eM⟩ : ∃ M, M = A ++ prtL (prt n P D) t := ⟨_, rfl⟩
          rw [← eM] at HT
          have hMl : M.length ≤ 500000 := by rw [eM, List.length_append]; exact hgo
          have HME := Lib.hid eM
          clear eM
          generalize prt n P D t = bt at *
          obtain ⟨bn, bf⟩ := bt
          dsimp only at *
          go_wp2_with fail
          refine (len_L wr B B M v' HT.out.1).mono ?_
          rintro e w5 ⟨rfl, rfl⟩
          have hMl' : ¬ (524288 : Int) < (M.length : Int) := by omega
          go_wp2_with fail
          refine (putb_any wb B B M v' (.slice esp bn ecap) ⟨bn, bf⟩ wr HEB.out.symm HT.out.2.1 (Nat.le_refl _) (HBS.out.below HB0.out) HT.out.1 (by dsimp only; omega)).mono ?_
          rintro e w6 ⟨rfl, v6, hw6, hs6⟩
          have HW6 : Hid (WSt w6 B B (A ++ prtL (prt n P D) (t + 1)) v6) := Lib.hid (by rw [HNX.out, ← List.append_assoc, ← HME.out]; exact hw6)
          have HB6 := Lib.hid (HT.out.2.1.trans (HT.out.1.belowB hs6 (Nat.le_refl _)))
          have HS6 := Lib.hid (HT.out.2.2.trans hs6)
          clear hw6 hs6 c0
          go_wp2
          go_roundw
          case rel => exact ⟨t + 1, v6, by omega, by go_num, Lib.hid ⟨HW6.out, HB6.out, HS6.out⟩⟩
          case measure => simp [intOf]; omega
        · obtain rfl : n1 = t := by omega
          obtain ⟨F, hwr, hsp⟩ := HT.out.1
          have hL : (A ++ prtL (prt n P D) n1).length ≤ 500000 := by rw [List.length_append]; exact HLT.out
          have HWR := Lib.hid hwr
          have HSP := Lib.hid hsp
          have HBR := Lib.hid HT.out.2.1
          have HBR' : Hid (B ≤ wr.heap.size) := Lib.hid hwr.hb
          clear hwr hsp HT
          obtain ⟨nb, enb⟩ : ∃ nb, ((A ++ prtL (prt n P D) n1).length + 7) / 8 = nb := ⟨_, rfl⟩
          have HNB := Lib.hid enb
          have HLL : Hid (A ++ prtL (prt n P D) n1 = msgL N n P D) := Lib.hid (by unfold msgL; rw [HA'.out, HN1.out, List.append_assoc])
          clear enb
          go_wp2_with fail
          refine (bytes_any wr B B v' F (A ++ prtL (prt n P D) n1).length nb HNB.out HWR.out (by omega)).mono ?_
          rintro e w5 ⟨rfl, hg5, hl5, hb5⟩
          have HB5 := Lib.hid (HBR.out.trans (hb5.mono HBR'.out))
          have HG5 := Lib.hid hg5
          clear hg5 hb5
          go_wp2
          go_ret
          refine ⟨wr.heap.size, nb, F, rfl, ⟨HG5.out, by have := HBR'.out; omega, by rw [← HLL.out]; exact HNB.out.symm, by rw [← HLL.out]; exact HWR.out.ends, by rw [← HLL.out]; exact HSP.out⟩, HB0.out.trans (HB5.out.mono (Nat.le_of_lt hbB))⟩
end Go.Proofs.Ytccpfoimedjdgaa

