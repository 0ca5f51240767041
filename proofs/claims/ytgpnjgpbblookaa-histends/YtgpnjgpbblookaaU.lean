/-
  For HistOne: what one event more makes; an event of another's behind a copy.
-/
import Derived.Test.YtgpnjgpbblookaaT
namespace Go.Proofs.Ytgpnjgpbblookaa
open Go.ChangeShapes Go.WideShapes Go.ChangeAt Go.RowKit

theorem one_begin {s : St} {e : Ev} (hk : e.k = 1) : (nextS s e).m = s.m + 1 ∧ (nextS s e).T s.m = ⟨e.c, 0, e.n, e.o⟩ := by
  unfold nextS
  rw [if_pos hk]
  exact ⟨rfl, if_pos rfl⟩
theorem one_end {E : Nat → Ev} {len : Nat} {e : Ev} (hg : Good E len) (he : ErrOf (stateAt E len) e 0) (hk : ¬ e.k = 1) :
    (nextS (stateAt E len) e).m = (stateAt E len).m ∧ ∃ j, j < (stateAt E len).m ∧ ((stateAt E len).T j).st = 0 ∧ ((nextS (stateAt E len) e).T j).st = (if e.k = 2 then 1 else if e.k = 3 then 2 else 0) ∧ ∀ x, ¬ x = j → ((nextS (stateAt E len) e).T x).st = ((stateAt E len).T x).st := by
  have hkk := kept_at E len hg
  generalize stateAt E len = s at *
  have hb : (s.bz e.c).isSome = true := by
    rcases he with ⟨_, h⟩ | ⟨_, _, h⟩ | ⟨_, h, _⟩ | ⟨_, h, _⟩ | ⟨_, _, h, _⟩
    · cases h
    · cases h
    · exact absurd h hk
    · exact absurd h hk
    · exact h
  obtain ⟨x, hx⟩ := Option.isSome_iff_exists.1 hb
  obtain ⟨j, rfl, hjm, hj0, hjc⟩ := hkk.bz e.c x hx
  have hix : idx s e = j := by unfold idx; simp [hx]
  unfold nextS
  rw [if_neg hk, hix]
  refine ⟨rfl, j, hjm, hj0, ?_, fun x hxj => ?_⟩
  · show (if j = j then endT (s.T j) e.k e.n e.o else s.T j).st = _
    rw [if_pos rfl]
    unfold endT
    split
    · rfl
    · split
      · rfl
      · exact hj0
  · show (if x = j then endT (s.T j) e.k e.n e.o else s.T x).st = _
    rw [if_neg hxj]

/-- an event of another's behind events of our own -/
theorem EvO.behind {w w' : World} {B len cap cap' : Nat} {v : Value} {E : Nat → Ev} {V : Nat → Value} {e : Ev} {sp sp' : Option Addr} (h : EvO w B v len E V)
    (ho : w'.ownsRow B 43 3 (.slice sp' (len + 1) cap') (len + 1) (rowT (fun i => asT (E i)) V len ++ [.int .i64 e.k, .int .i64 e.c, .slice sp e.n cap])) (hg : w.grownBy w' v.ownBlock)
    (hop : OpS w' sp e.n e.o) (hsp : sp = none → e.n = 0 ∧ cap = 0) (hn : e.n ≤ 9223372036854775807) :
    EvS w' sp' (len + 1) (more len E e) := by
  have keep : ∀ {n : Nat} {u : Value} {xs : List Value}, w.ownsRow B 38 3 u n xs → w'.ownsRow B 38 3 u n xs := fun {n u xs} ho' => own_keep ho' fun g hg' => by
    obtain ⟨cur, e⟩ := own_cells ho' hg'
    refine hg.block g (ho'.lt g hg').2 (fun e' => ?_)
    obtain ⟨cur', e3⟩ := own_cells h.row e'.symm
    rw [e] at e3
    injection e3 with e3
    injection e3 with _ e3 _
    cases e3
  intro hl
  obtain ⟨g, cp, e1, _, hgl⟩ := ho.form (by omega)
  injection e1 with e1 _ _
  subst e1
  refine ⟨g, 0, rfl, hgl, fun j hj => ?_⟩
  have hrl := rowT_length (fun i => asT (E i)) V len
  have c0 := ho.cellAt (j * 3) (by omega)
  have c1 := ho.cellAt (j * 3 + 1) (by omega)
  have c2 := ho.cellAt (j * 3 + 2) (by omega)
  simp only [Nat.zero_add]
  by_cases hjl : j < len
  · rw [List.getElem?_append_left (by omega)] at c0 c1 c2
    obtain ⟨r0, r1, r2⟩ := rowT_get (fun i => asT (E i)) V len j hjl
    obtain ⟨sp1, cap1, e, ho', hp, hn'⟩ := h.ops j hjl
    rw [e] at r2
    rw [more_lo hjl]
    exact ⟨sp1, cap1, c0.trans r0, c1.trans r1, c2.trans r2, own38_ops (keep ho'), hp, by omega⟩
  · obtain rfl : j = len := by omega
    rw [List.getElem?_append_right (by omega), hrl] at c0 c1 c2
    rw [more_at]
    rw [Nat.sub_self] at c0
    rw [Nat.add_sub_cancel_left] at c1 c2
    exact ⟨sp, cap, c0, c1, c2, hop, hsp, hn⟩
end Go.Proofs.Ytgpnjgpbblookaa
