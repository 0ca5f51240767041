/-
  Decode: a round of its loop in memory, and what it answers.
-/
import Derived.Test.YtaddmegghikhpaaEm
import Derived.Test.YtaddmegghikhpaaEn
namespace Go.Proofs.Ytaddmegghikhpaa
open Go.ChangeShapes Go.WideShapes Go.ChangeAt Go.RowKit

theorem EvO.grownR {w w' : World} {B rb len : Nat} {v : Value} {E : Nat → Ev} {V : Nat → Value} (h : EvO w B v len E V) (hg : w.grownBy w' (some rb)) (hrb : rb < B) : EvO w' B v len E V := by
  have keep : ∀ {e n : Nat} {u : Value} {xs : List Value}, w.ownsRow B e 3 u n xs → w'.ownsRow B e 3 u n xs := fun {e n u xs} ho => own_keep ho fun q e => hg.block q (ho.lt q e).2 (fun e' => by injection e' with e'; have := (ho.lt q e).1; omega)
  refine ⟨keep h.row, fun i hi => ?_⟩
  obtain ⟨sp, cap, e, ho, hp, hn⟩ := h.ops i hi
  exact ⟨sp, cap, e, keep ho, hp, hn⟩
theorem EvO.congr {w : World} {B len : Nat} {v : Value} {E E' : Nat → Ev} {V : Nat → Value} (h : EvO w B v len E V) (he : ∀ i, i < len → E' i = E i) : EvO w B v len E' V := by
  refine ⟨?_, fun i hi => ?_⟩
  · rw [rowT_congr (fun i => asT (E' i)) (fun i => asT (E i)) V V len fun i hi => by rw [he i hi]; exact ⟨rfl, rfl, rfl⟩]
    exact h.row
  · rw [he i hi]; exact h.ops i hi
def putE (E : Nat → Ev) (j : Nat) (e : Ev) (i : Nat) : Ev := if i = j then e else E i
theorem putE_low (E : Nat → Ev) (j : Nat) (e : Ev) : ∀ i, i < j → putE E j e i = E i := fun i hi => by unfold putE; rw [if_neg (by omega)]
theorem putE_at (E : Nat → Ev) (j : Nat) (e : Ev) : putE E j e j = e := if_pos rfl
theorem evsL_eq (E E' : Nat → Ev) : ∀ n, (∀ i, i < n → E' i = E i) → evsL E' n = evsL E n := by
  intro n
  induction n with
  | zero => intro _; rfl
  | succ n ih => intro h; show evsL E' n ++ evL (E' n) = evsL E n ++ evL (E n); rw [ih fun i hi => h i (by omega), h n (by omega)]
theorem evsL_putE (E : Nat → Ev) (j : Nat) (e : Ev) : evsL (putE E j e) (j + 1) = evsL E j ++ evL e := by
  show evsL (putE E j e) j ++ evL (putE E j e j) = _
  rw [putE_at, evsL_eq E (putE E j e) j (putE_low E j e)]

/-- the reader goes on: j events of m were read -/
def DkG (w : World) (B g rb n : Nat) (f : Nat → Nat) (m : Nat) (v : Value) (j : Nat) (E : Nat → Ev) (V : Nat → Value) : Prop :=
  m ≤ 400 ∧ Sp f 0 (numL m) ∧ Sp f (numL m).length (evsL E j) ∧ (numL m).length + (evsL E j).length ≤ 8 * n ∧ (∀ i, i < j → Fit (E i)) ∧ RD w g rb n f ((numL m).length + (evsL E j).length) ∧ EvO w B v j E V
/-- the reader stopped -/
def DkN (w : World) (rb n : Nat) (f : Nat → Nat) (er : Int) : Prop := ¬ er = 0 ∧ RS w rb er ∧ NoBk f n er
def DkS (w1 w : World) (g rb n : Nat) (f : Nat → Nat) (m : Nat) (v : Value) (j : Nat) : Prop :=
  w1.grownBy w (some rb) ∧ ((∃ E V, DkG w w1.heap.size g rb n f m v j E V) ∨ (∃ er, DkN w rb n f er))

theorem dec_fin {w1 wr w6 w7 : World} {g rb n m j jj cap : Nat} {f : Nat → Nat} {v v7 : Value} {E : Nat → Ev} {V : Nat → Value} {k c : Int} {sp : Option Addr} {o : Nat → O3}
    (hrb : rb < w1.heap.size) (hgb : g < w1.heap.size) (hj : j < m) (h0 : w1.grownBy wr (some rb)) (hG : DkG wr w1.heap.size g rb n f m v j E V)
    (h6 : wr.grownBy w6 (some rb)) (ho : w6.ownsRow wr.heap.size 53 3 (.slice sp jj cap) jj (rowO o jj))
    (ht : (Fit ⟨k, c, jj, o⟩ ∧ Sp f ((numL m).length + (evsL E j).length) (evL ⟨k, c, jj, o⟩) ∧ ((numL m).length + (evsL E j).length) + (evL ⟨k, c, jj, o⟩).length ≤ 8 * n ∧ RD w6 g rb n f (((numL m).length + (evsL E j).length) + (evL ⟨k, c, jj, o⟩).length)) ∨ (∃ er : Int, (er = 10 ∨ er = 11) ∧ RS w6 rb er ∧ NoEv f n ((numL m).length + (evsL E j).length) er))
    (ho7 : w7.ownsRow w1.heap.size 43 3 v7 (j + 1) (rowT (fun i => asT (E i)) V j ++ [.int .i64 k, .int .i64 c, .slice sp jj cap]))
    (hg7 : (w6.alloc (.cells #[.int .i64 k, .int .i64 c, .slice sp jj cap] 43)).grownBy w7 v.ownBlock) : DkS w1 w7 g rb n f m v7 (j + 1) := by
  obtain ⟨s1, s2, s3, s4, s5, s6, s7⟩ := hG
  have hbo : ∀ q, v.ownBlock = some q → w1.heap.size ≤ q := fun q e => (s7.row.lt q e).1
  have hA : Below w6.heap.size w6 (w6.alloc (.cells #[.int .i64 k, .int .i64 c, .slice sp jj cap] 43)) := (Below.refl _ _).alloc (Nat.le_refl _) _
  have hgA : w1.grownBy (w6.alloc (.cells #[.int .i64 k, .int .i64 c, .slice sp jj cap] 43)) (some rb) := grown_trans (grown_trans h0 h6) (World.grownBy_alloc w6 _ _)
  refine ⟨grown_news hgA hg7 hbo, ?_⟩
  rcases ht with ⟨t1, t2, t3, t4⟩ | ⟨er, her, hr, hno⟩
  · refine .inl ⟨putE E j ⟨k, c, jj, o⟩, fun i => if i = j then .slice sp jj cap else V i, s1, s2, ?_, ?_, ?_, ?_, ?_⟩
    · rw [evsL_putE]; exact Sp.app.2 ⟨s3, t2⟩
    · rw [evsL_putE, List.length_append]; omega
    · intro i hi
      by_cases hij : i = j
      · subst hij; rw [putE_at]; exact t1
      · rw [putE_low E j _ i (by omega)]; exact s5 i (by omega)
    · rw [evsL_putE, List.length_append, ← Nat.add_assoc]
      have r1 := t4.below hA
      cases hob : v.ownBlock with
      | none => rw [hob] at hg7; exact r1.kept (q := rb + g + 1) ⟨hg7.os, hg7.tape, hg7.output, hg7.size, fun q hq _ => hg7.block q hq (fun e => by cases e)⟩ (by omega) (by omega)
      | some q => rw [hob] at hg7; have := hbo q hob; exact r1.kept hg7 (by omega) (by omega)
    · have hE : EvO (w6.alloc (.cells #[.int .i64 k, .int .i64 c, .slice sp jj cap] 43)) w1.heap.size v j (putE E j ⟨k, c, jj, o⟩) V := ((s7.grownR h6 hrb).below hA).congr (putE_low E j _)
      have hop : (w6.alloc (.cells #[.int .i64 k, .int .i64 c, .slice sp jj cap] 43)).ownsRow w1.heap.size 53 3 (.slice sp jj cap) jj (rowO o jj) := own_low (ho.alloc _) h0.size
      have hj12 : jj ≤ 12 := t1.2.2.2.2.1
      have hrow : rowT (fun i => asT (E i)) V j = rowT (fun i => asT (putE E j ⟨k, c, jj, o⟩ i)) V j := rowT_congr _ _ _ _ j fun i hi => by rw [putE_low E j _ i hi]; exact ⟨rfl, rfl, rfl⟩
      rw [hrow] at ho7
      have := hE.added (sp := sp) (cap := cap) (v' := v7) (w' := w7) (by rw [putE_at]; exact hop) (by rw [putE_at]; exact own_nil' ho) (by rw [putE_at]; show jj ≤ _; omega) (by rw [putE_at]; exact ho7) hg7
      rw [putE_at] at this
      exact this
  · refine .inr ⟨er, by rcases her with rfl | rfl <;> decide, ?_, noBk_ev s1 hj s2 s3 s4 s5 hno⟩
    have r1 := hr.below hA
    cases hob : v.ownBlock with
    | none => rw [hob] at hg7; exact r1.kept (q := rb + 1) ⟨hg7.os, hg7.tape, hg7.output, hg7.size, fun q hq _ => hg7.block q hq (fun e => by cases e)⟩ (by omega)
    | some q => rw [hob] at hg7; have := hbo q hob; exact r1.kept hg7 (by omega)

def DecG (w : World) (n : Nat) (f : Nat → Nat) (w' : World) (E : Nat → Ev) (len : Nat) (sp : Option Addr) (cap : Nat) (V : Nat → Value) : Prop :=
  len ≤ 400 ∧ EvO w' w.heap.size (.slice sp len cap) len E V ∧ (∀ i, i < len → Fit (E i)) ∧ Sp f 0 (BL E len) ∧ (BL E len).length ≤ 8 * n ∧ 8 * n < (BL E len).length + 8 ∧ Ends f (BL E len).length
def DecP (w : World) (n : Nat) (f : Nat → Nat) (e : Ending) (w' : World) : Prop :=
  Below w.heap.size w w' ∧ ((∃ E len sp cap V, e = .returned (.tuple #[.slice sp len cap, .int .i64 0]) ∧ DecG w n f w' E len sp cap V) ∨
    (∃ er : Int, ¬ er = 0 ∧ e = .returned (.tuple #[.slice none 0 0, .int .i64 er]) ∧ NoBk f n er))
theorem EvO.low {w : World} {B B' len : Nat} {v : Value} {E : Nat → Ev} {V : Nat → Value} (h : EvO w B v len E V) (hb : B' ≤ B) : EvO w B' v len E V := by
  refine ⟨own_low h.row hb, fun i hi => ?_⟩
  obtain ⟨sp, cap, e, ho, hp, hn⟩ := h.ops i hi
  exact ⟨sp, cap, e, own_low ho hb, hp, hn⟩
theorem end_zero {f : Nat → Nat} {n a L : Nat} (hf : ∀ j, f j < 256) (hL : a + L = 8 * n) (h : endOf f a L = 0) : 8 * n < a + 8 ∧ Ends f a := by
  unfold endOf at h
  split at h
  · cases h
  · rename_i hn
    have h1 : ¬ 7 < L := fun e => hn (.inl e)
    have h2 : gv f a L = 0 := Decidable.byContradiction fun e => hn (.inr e)
    exact ⟨by omega, hf, fun hr => by rw [← gv_tail f n a L hL (by omega) hr]; exact h2⟩
theorem end_bad {f : Nat → Nat} {n a L : Nat} (hL : a + L = 8 * n) (h : endOf f a L = 12) : ¬ (8 * n < a + 8 ∧ Ends f a) := fun ⟨h1, h2⟩ => by
  have hg : gv f a L = 0 := by
    by_cases hr : a % 8 = 0
    · obtain rfl : L = 0 := by omega
      rfl
    · rw [gv_tail f n a L hL (by omega) hr]
      exact h2.2 hr
  unfold endOf at h
  rw [if_neg (fun e => by rcases e with e | e; omega; exact e hg)] at h
  cases h
theorem end_cases (f : Nat → Nat) (a L : Nat) : endOf f a L = 0 ∨ endOf f a L = 12 := by
  unfold endOf
  split
  · exact .inr rfl
  · exact .inl rfl
end Go.Proofs.Ytaddmegghikhpaa
