/-
  Clients are nothing but names (mathematics); a client's name written anew.
-/
import Derived.Test.YtgpnjgpbblookaaU
namespace Go.Proofs.Ytgpnjgpbblookaa
open Go.ChangeShapes Go.WideShapes Go.ChangeAt Go.RowKit

/-- another name -/
def ren (d c : Int) : Int := if 1 ≤ c ∧ c ≤ 16 then 1 + (c - 1 + d) % 16 else c
theorem ren_in (d c : Int) : (1 ≤ ren d c ∧ ren d c ≤ 16) ↔ (1 ≤ c ∧ c ≤ 16) := by
  unfold ren
  split
  · rename_i h; exact ⟨fun _ => h, fun _ => by omega⟩
  · rfl
theorem ren_inj {d c c' : Int} (h : 1 ≤ c ∧ c ≤ 16) (h' : 1 ≤ c' ∧ c' ≤ 16) (e : ren d c = ren d c') : c = c' := by
  unfold ren at e
  rw [if_pos h, if_pos h'] at e
  omega
def renE (d : Int) (E : Nat → Ev) : Nat → Ev := fun j => { E j with c := ren d (E j).c }
def renT (d : Int) (t : Tx) : Tx := { t with c := ren d t.c }
/-- the same but for names -/
structure Rel (d : Int) (s s' : St) : Prop where
  m : s'.m = s.m
  T : ∀ j, s'.T j = renT d (s.T j)
  bz : ∀ c, 1 ≤ c → c ≤ 16 → s'.bz (ren d c) = s.bz c
  wm : s'.wm = s.wm
  cl : ∀ j, j < s.m → 1 ≤ (s.T j).c ∧ (s.T j).c ≤ 16

theorem endT_ren (d : Int) (t : Tx) (k : Int) (n : Nat) (o : Nat → O3) : endT (renT d t) k n o = renT d (endT t k n o) := by
  unfold endT
  split
  · rfl
  · split <;> rfl
theorem snd_ren (d : Int) (e : Ev) : Snd e.k (ren d e.c) e.n e.o ↔ Snd e.k e.c e.n e.o := by
  unfold Snd
  have h := ren_in d e.c
  constructor
  · rintro ⟨h1, h2, h3, h4, h5⟩; have := h.1 ⟨h3, h4⟩; exact ⟨h1, h2, this.1, this.2, h5⟩
  · rintro ⟨h1, h2, h3, h4, h5⟩; have := h.2 ⟨h3, h4⟩; exact ⟨h1, h2, this.1, this.2, h5⟩
theorem err_ren {d : Int} {s s' : St} (h : Rel d s s') (e : Ev) (er : Int) : ErrOf s' { e with c := ren d e.c } er ↔ ErrOf s e er := by
  have hs := snd_ren d e
  unfold ErrOf
  dsimp only
  by_cases hS : Snd e.k e.c e.n e.o
  · have hS' := hs.2 hS
    have hb := h.bz e.c hS.2.2.1 hS.2.2.2.1
    have hT : (s'.T (idx s' { e with c := ren d e.c })).n = (s.T (idx s e)).n ∧ (s'.T (idx s' { e with c := ren d e.c })).o = (s.T (idx s e)).o := by
      have hi : idx s' { e with c := ren d e.c } = idx s e := by unfold idx; dsimp only; rw [hb]
      rw [hi, h.T]
      exact ⟨rfl, rfl⟩
    rw [hb, h.m, h.wm, hT.1, hT.2]
    simp only [hS, hS']
  · have hS' : ¬ Snd e.k (ren d e.c) e.n e.o := fun x => hS (hs.1 x)
    simp only [hS, hS', false_and, or_false, not_false_eq_true, true_and]
theorem next_ren {d : Int} {s s' : St} (h : Rel d s s') (e : Ev) (hS : Snd e.k e.c e.n e.o) : Rel d (nextS s e) (nextS s' { e with c := ren d e.c }) := by
  have hc : 1 ≤ e.c ∧ e.c ≤ 16 := ⟨hS.2.2.1, hS.2.2.2.1⟩
  have hb := h.bz e.c hc.1 hc.2
  have hi : idx s' { e with c := ren d e.c } = idx s e := by unfold idx; dsimp only; rw [hb]
  unfold nextS
  by_cases hk : e.k = 1
  · rw [if_pos hk, if_pos hk]
    refine ⟨by show s'.m + 1 = s.m + 1; rw [h.m], fun j => ?_, fun c h1 h2 => ?_, by show wmI e.o s'.m s'.wm e.n = wmI e.o s.m s.wm e.n; rw [h.m, h.wm], fun j hj => ?_⟩
    · show (if j = s'.m then (⟨ren d e.c, 0, e.n, e.o⟩ : Tx) else s'.T j) = renT d (if j = s.m then (⟨e.c, 0, e.n, e.o⟩ : Tx) else s.T j)
      rw [h.m]
      split
      · rfl
      · exact h.T j
    · show (if ren d c = ren d e.c then some (s'.m : Int) else s'.bz (ren d c)) = (if c = e.c then some (s.m : Int) else s.bz c)
      by_cases hce : c = e.c
      · rw [if_pos hce, if_pos (by rw [hce]), h.m]
      · rw [if_neg hce, if_neg (fun x => hce (ren_inj ⟨h1, h2⟩ hc x)), h.bz c h1 h2]
    · show 1 ≤ (if j = s.m then (⟨e.c, 0, e.n, e.o⟩ : Tx) else s.T j).c ∧ (if j = s.m then (⟨e.c, 0, e.n, e.o⟩ : Tx) else s.T j).c ≤ 16
      have hj' : j < s.m + 1 := hj
      split
      · exact hc
      · exact h.cl j (by omega)
  · rw [if_neg hk, if_neg hk]
    refine ⟨h.m, fun j => ?_, fun c h1 h2 => ?_, h.wm, fun j hj => ?_⟩
    · show (if j = idx s' { e with c := ren d e.c } then endT (s'.T (idx s' { e with c := ren d e.c })) e.k e.n e.o else s'.T j) = renT d (if j = idx s e then endT (s.T (idx s e)) e.k e.n e.o else s.T j)
      rw [hi]
      split
      · rw [h.T, endT_ren]
      · exact h.T j
    · show (if ren d c = ren d e.c then none else s'.bz (ren d c)) = (if c = e.c then none else s.bz c)
      by_cases hce : c = e.c
      · rw [if_pos hce, if_pos (by rw [hce])]
      · rw [if_neg hce, if_neg (fun x => hce (ren_inj ⟨h1, h2⟩ hc x)), h.bz c h1 h2]
    · show 1 ≤ (if j = idx s e then endT (s.T (idx s e)) e.k e.n e.o else s.T j).c ∧ (if j = idx s e then endT (s.T (idx s e)) e.k e.n e.o else s.T j).c ≤ 16
      have h0 := h.cl j hj
      split
      · rename_i hji
        have he : (endT (s.T (idx s e)) e.k e.n e.o).c = (s.T (idx s e)).c := by
          unfold endT
          split
          · rfl
          · split <;> rfl
        rw [he, ← hji]; exact h0
      · exact h0
theorem good_ren (d : Int) (E : Nat → Ev) : ∀ i, Good E i → Good (renE d E) i ∧ Rel d (stateAt E i) (stateAt (renE d E) i) := by
  intro i
  induction i with
  | zero => exact fun _ => ⟨fun j hj => absurd hj (Nat.not_lt_zero _), ⟨rfl, fun j => rfl, fun c _ _ => rfl, rfl, fun j hj => absurd hj (Nat.not_lt_zero _)⟩⟩
  | succ i ih =>
    intro hg
    obtain ⟨h1, h2⟩ := ih fun j hj => hg j (by omega)
    have he := hg i (by omega)
    refine ⟨fun j hj => ?_, next_ren h2 (E i) (err0_snd he)⟩
    by_cases hji : j < i
    · exact h1 j hji
    · obtain rfl : j = i := by omega
      exact (err_ren h2 (E j) 0).2 he

/-- the first t events have other names -/
def mixE (d : Int) (E : Nat → Ev) (t : Nat) : Nat → Ev := fun j => if j < t then renE d E j else E j
theorem EvO.congr {w : World} {B len : Nat} {v : Value} {E E' : Nat → Ev} {V : Nat → Value} (h : EvO w B v len E V) (he : ∀ j, j < len → E j = E' j) : EvO w B v len E' V := by
  refine ⟨?_, fun i hi => by rw [← he i hi]; exact h.ops i hi⟩
  rw [rowT_congr (fun i => asT (E' i)) (fun i => asT (E i)) V V len fun i hi => by rw [he i hi]; exact ⟨rfl, rfl, rfl⟩]
  exact h.row
/-- a client is written anew -/
theorem EvO.client {w : World} {B len g cp : Nat} {E : Nat → Ev} {V : Nat → Value} (h : EvO w B (.slice (some ⟨g, 0, none⟩) len cp) len E V) (t : Nat) (c : Int) :
    EvO (w.setCell ⟨g, t * 3 + 1, none⟩ (.int .i64 c)) B (.slice (some ⟨g, 0, none⟩) len cp) len (fun j => if j = t then { E t with c := c } else E j) V := by
  obtain ⟨h1, h2⟩ := h.row.stored (t * 3 + 1) (.int .i64 c)
  rw [rowT_set1] at h1
  refine ⟨?_, fun i hi => ?_⟩
  · refine (rowT_congr _ _ V V len fun x hx => ?_) ▸ h1
    by_cases hx : x = t
    · subst hx; rw [if_pos rfl, if_pos rfl]; exact ⟨rfl, rfl, rfl⟩
    · rw [if_neg hx, if_neg hx]; exact ⟨rfl, rfl, rfl⟩
  · have keep : ∀ {n : Nat} {u : Value} {xs : List Value}, w.ownsRow B 38 3 u n xs → (w.setCell ⟨g, t * 3 + 1, none⟩ (.int .i64 c)).ownsRow B 38 3 u n xs := fun {n u xs} ho' => own_keep ho' fun q hq => by
      obtain ⟨cur, e⟩ := own_cells ho' hq
      refine h2.block q (ho'.lt q hq).2 (fun e' => ?_)
      obtain ⟨cur', e3⟩ := own_cells h.row e'.symm
      rw [e] at e3
      injection e3 with e3
      injection e3 with _ e3 _
      cases e3
    obtain ⟨sp, cap, e, ho, hp, hn⟩ := h.ops i hi
    by_cases hx : i = t
    · subst hx
      rw [if_pos rfl]
      exact ⟨sp, cap, e, keep ho, hp, hn⟩
    · rw [if_neg hx]
      exact ⟨sp, cap, e, keep ho, hp, hn⟩
theorem mixE_step (d : Int) (E : Nat → Ev) (t : Nat) : (fun j => if j = t then { mixE d E t t with c := ren d (E t).c } else mixE d E t j) = mixE d E (t + 1) := by
  funext j
  by_cases h : j = t
  · subst h
    rw [if_pos rfl]
    unfold mixE renE
    rw [if_neg (by omega), if_pos (by omega)]
  · rw [if_neg h]
    unfold mixE
    by_cases h' : j < t
    · rw [if_pos h', if_pos (by omega)]
    · rw [if_neg h', if_neg (by omega)]
theorem mixE_stay (d : Int) (E : Nat → Ev) (t : Nat) (h : ¬ (1 ≤ (E t).c ∧ (E t).c ≤ 16)) : mixE d E (t + 1) = mixE d E t := by
  funext j
  unfold mixE
  by_cases h' : j < t
  · rw [if_pos h', if_pos (by omega)]
  · rw [if_neg h']
    by_cases hj : j = t
    · subst hj
      rw [if_pos (by omega)]
      unfold renE ren
      rw [if_neg h]
    · rw [if_neg (by omega)]
end Go.Proofs.Ytgpnjgpbblookaa
