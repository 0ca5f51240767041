/-
  An event that does not stand there (mathematics), ahead of take.
-/
import Derived.Test.YtaddmegghikhpaaEi
namespace Go.Proofs.Ytaddmegghikhpaa
open Go.ChangeShapes Go.WideShapes Go.ChangeAt Go.RowKit

/-- why no event stands there -/
def ErrE (f : Nat → Nat) (n a : Nat) (er : Int) : Prop := (8 * n < a + 10 ∧ er = 10) ∨ (a + 10 ≤ 8 * n ∧ 12 < gv f (a + 6) 4 ∧ er = 11) ∨ (a + 10 ≤ 8 * n ∧ gv f (a + 6) 4 ≤ 12 ∧ ∃ (j : Nat) (o : Nat → O3), j < gv f (a + 6) 4 ∧ (∀ i, i < j → FitO (o i)) ∧ Sp f (a + 10) (opsL o j) ∧ a + 10 + (opsL o j).length ≤ 8 * n ∧ ErrO f n (a + 10 + (opsL o j).length) er)
/-- no event stands there; one that would is cut off -/
def NoEv (f : Nat → Nat) (n a : Nat) (er : Int) : Prop := ErrE f n a er ∧ ∀ e, Fit e → Al f n a (evL e) → er = 10 ∧ 8 * n < a + (evL e).length
theorem evL_len (e : Ev) : (evL e).length = 10 + (opsL e.o e.n).length := by
  unfold evL
  rw [List.length_append, List.length_append, List.length_append, bitsL_length, bitsL_length, bitsL_length]
  omega
theorem noEv_head {f : Nat → Nat} {n a : Nat} (h : 8 * n < a + 10) : NoEv f n a 10 := ⟨.inl ⟨h, rfl⟩, fun e _ _ => ⟨rfl, by rw [evL_len]; omega⟩⟩
theorem evL_al {f : Nat → Nat} {n a : Nat} {e : Ev} (h : Al f n a (evL e)) : Al f n (a + 6) (bitsL e.n 4) ∧ Al f n (a + 10) (opsL e.o e.n) := by
  unfold evL at h
  have h1 := h.app.2
  rw [bitsL_length] at h1
  have h2 := h1.app.2
  rw [bitsL_length] at h2
  have h3 := h2.app
  rw [bitsL_length] at h3
  exact h3
theorem evL_n {f : Nat → Nat} {n a : Nat} {e : Ev} (hl : a + 10 ≤ 8 * n) (hf : Fit e) (h : Al f n a (evL e)) : e.n = gv f (a + 6) 4 := by
  have hn := hf.2.2.2.2.1
  exact (bits_gv ((evL_al h).1.sp (by rw [bitsL_length]; omega)) (by omega)).symm
theorem noEv_many {f : Nat → Nat} {n a : Nat} (hl : a + 10 ≤ 8 * n) (hm : 12 < gv f (a + 6) 4) : NoEv f n a 11 := ⟨.inr (.inl ⟨hl, hm, rfl⟩), fun e hf h => by
  have h1 := evL_n hl hf h
  have hn := hf.2.2.2.2.1
  omega⟩
theorem op_al {f : Nat → Nat} {n a : Nat} {t t' : O3} (h : Sp f a (opL t)) (hl : a + (opL t).length ≤ 8 * n) (h' : Al f n a (opL t')) (hf : FitO t) (hf' : FitO t') : t = t' := by
  have ha : Al f n a (opL t) := h.al
  have e := sp_al_num (f := f) (n := n) (a := a + 5) (x := t.v.toNat) (y := t'.v.toNat) ((opL_al ha).sp (by rw [opL_len] at hl; omega)) (by rw [opL_len] at hl; omega) (opL_al h')
  have hlen : (opL t').length = (opL t).length := by rw [opL_len, opL_len, e]
  exact op_inj h (h'.sp (by rw [hlen]; exact hl)) hf hf'
theorem opsL_mono (o : Nat → O3) (i : Nat) : ∀ n, i ≤ n → ∃ M, opsL o n = opsL o i ++ M := by
  intro n
  induction n with
  | zero => intro h; obtain rfl : i = 0 := by omega
            exact ⟨[], by simp⟩
  | succ n ih =>
    intro h
    by_cases hi : i = n + 1
    · subst hi; exact ⟨[], by simp⟩
    · obtain ⟨M, e⟩ := ih (by omega)
      exact ⟨M ++ opL (o n), by show opsL o n ++ opL (o n) = _; rw [e, List.append_assoc]⟩
theorem ops_al {f : Nat → Nat} {n a : Nat} (o o' : Nat → O3) : ∀ m, Sp f a (opsL o m) → a + (opsL o m).length ≤ 8 * n → Al f n a (opsL o' m) → (∀ i, i < m → FitO (o i)) → (∀ i, i < m → FitO (o' i)) → ∀ i, i < m → o i = o' i := by
  intro m
  induction m with
  | zero => intro _ _ _ _ _ i hi; exact absurd hi (Nat.not_lt_zero _)
  | succ m ih =>
    intro h hl h' hf hf' i hi
    obtain ⟨h1, h2⟩ := Sp.app.1 (show Sp f a (opsL o m ++ opL (o m)) from h)
    obtain ⟨g1, g2⟩ := Al.app (show Al f n a (opsL o' m ++ opL (o' m)) from h')
    have hl' : a + (opsL o m).length + (opL (o m)).length ≤ 8 * n := by
      have : (opsL o (m + 1)).length = (opsL o m).length + (opL (o m)).length := by show (opsL o m ++ opL (o m)).length = _; rw [List.length_append]
      omega
    have he := ih h1 (by omega) g1 (fun i hi => hf i (by omega)) (fun i hi => hf' i (by omega))
    by_cases hin : i = m
    · subst hin
      rw [← opsL_congr o o' i he] at g2
      exact op_al h2 hl' g2 (hf i (by omega)) (hf' i (by omega))
    · exact he i (by omega)
theorem noEv_op {f : Nat → Nat} {n a j : Nat} {er : Int} {o : Nat → O3} (h12 : gv f (a + 6) 4 ≤ 12) (hj : j < gv f (a + 6) 4) (hsp : Sp f (a + 10) (opsL o j)) (hl : a + 10 + (opsL o j).length ≤ 8 * n) (hf : ∀ i, i < j → FitO (o i)) (hno : NoOp f n (a + 10 + (opsL o j).length) er) : NoEv f n a er := by
  refine ⟨.inr (.inr ⟨by omega, h12, j, o, hj, hf, hsp, hl, hno.1⟩), ?_⟩
  intro e he h
  have hen := evL_n (by omega) he h
  have hal := (evL_al h).2
  obtain ⟨M, eM⟩ := opsL_mono e.o (j + 1) e.n (by omega)
  rw [eM] at hal
  obtain ⟨g1, g2⟩ := Al.app (show Al f n (a + 10) (opsL e.o j ++ opL (e.o j)) from hal.app.1)
  have hfo : ∀ i, i < j + 1 → FitO (e.o i) := fun i hi => he.2.2.2.2.2 i (by omega)
  have heq := ops_al o e.o j hsp hl g1 hf (fun i hi => hfo i (by omega))
  rw [← opsL_congr o e.o j heq] at g2
  obtain ⟨r1, r2⟩ := hno.2 (e.o j) (hfo j (by omega)) g2
  refine ⟨r1, ?_⟩
  rw [evL_len, eM, List.length_append]
  have : (opsL e.o (j + 1)).length = (opsL o j).length + (opL (e.o j)).length := by
    show (opsL e.o j ++ opL (e.o j)).length = _
    rw [List.length_append, opsL_congr o e.o j heq]
  omega
/-- an event that was read -/
theorem ev_sp {f : Nat → Nat} {a : Nat} {o : Nat → O3} (h : Sp f (a + 10) (opsL o (gv f (a + 6) 4))) :
    Sp f a (evL ⟨(gv f a 2 : Int) + 1, (gv f (a + 2) 4 : Int) + 1, gv f (a + 6) 4, o⟩) := by
  unfold evL
  dsimp only
  rw [show ((gv f a 2 : Int) + 1 - 1).toNat = gv f a 2 by omega, show ((gv f (a + 2) 4 : Int) + 1 - 1).toNat = gv f (a + 2) 4 by omega]
  refine Sp.app.2 ⟨gv_sp f a 2, ?_⟩
  rw [bitsL_length]
  refine Sp.app.2 ⟨gv_sp f (a + 2) 4, ?_⟩
  rw [bitsL_length]
  refine Sp.app.2 ⟨gv_sp f (a + 6) 4, ?_⟩
  rw [bitsL_length]
  exact h
theorem ev_fit {f : Nat → Nat} {a : Nat} {o : Nat → O3} (hm : gv f (a + 6) 4 ≤ 12) (h : ∀ i, i < gv f (a + 6) 4 → FitO (o i)) : Fit ⟨(gv f a 2 : Int) + 1, (gv f (a + 2) 4 : Int) + 1, gv f (a + 6) 4, o⟩ := by
  have h1 := gv_lt f a 2
  have h2 := gv_lt f (a + 2) 4
  exact ⟨by dsimp only; omega, by dsimp only; omega, by dsimp only; omega, by dsimp only; omega, hm, h⟩
/-- two events, one of them whole -/
theorem ev_al {f : Nat → Nat} {n a : Nat} {e e' : Ev} (h : Sp f a (evL e)) (hl : a + (evL e).length ≤ 8 * n) (h' : Al f n a (evL e')) (hf : Fit e) (hf' : Fit e') : SameE1 e e' := by
  have ha : Al f n a (evL e) := h.al
  have hl' := hl
  rw [evL_len] at hl'
  have e1 := evL_n (by omega) hf ha
  have e2 := evL_n (by omega) hf' h'
  have hn : e.n = e'.n := e1.trans e2.symm
  have hl2 : a + 10 + (opsL e.o e.n).length ≤ 8 * n := by omega
  have heq := ops_al (f := f) (n := n) (a := a + 10) e.o e'.o e.n ((evL_al ha).2.sp hl2) hl2 (by rw [hn]; exact (evL_al h').2) hf.2.2.2.2.2 (by rw [hn]; exact hf'.2.2.2.2.2)
  have hlen : (evL e').length = (evL e).length := by rw [evL_len, evL_len, ← hn, opsL_congr e.o e'.o e.n heq]
  exact ev_inj h (h'.sp (by rw [hlen]; exact hl)) hf hf'
end Go.Proofs.Ytaddmegghikhpaa
