/-
  What is wrong with bytes is one thing (mathematics).
-/
import Derived.Test.YtaddmegghikhpaaEq
namespace Go.Proofs.Ytaddmegghikhpaa
open Go.ChangeShapes Go.WideShapes Go.ChangeAt Go.RowKit

theorem lead_one {f : Nat → Nat} {n a z z' : Nat} (h : Lead f n a z) (h' : Lead f n a z') : z = z' := by
  rcases Nat.lt_trichotomy z z' with e | e | e
  · have h1 := h'.2.1 z e
    rw [h.2.2.2] at h1; cases h1
  · exact e
  · have h1 := h.2.1 z' e
    rw [h'.2.2.2] at h1; cases h1
theorem errN_no {f : Nat → Nat} {n a : Nat} {er : Int} (h : ErrN f n a er) : NoNum f n a er := by
  rcases h with ⟨h, rfl⟩ | ⟨h, rfl⟩
  · exact short_no h
  · exact form_no h
theorem short_form {f : Nat → Nat} {n a : Nat} (h : IsShort f n a) (h' : IsForm f n a) : False := by
  rcases h with ⟨h1, h2⟩ | ⟨z, h1, h2⟩ <;> rcases h' with ⟨g1, g2⟩ | ⟨g1, g2, g3⟩
  · omega
  · omega
  · have := g2 z (by have := h1.1; omega)
    rw [h1.2.2.2] at this; cases this
  · have := lead_one h1 g1
    omega
theorem errN_one {f : Nat → Nat} {n a : Nat} {er er' : Int} (h : ErrN f n a er) (h' : ErrN f n a er') : er = er' := by
  rcases h with ⟨h, rfl⟩ | ⟨h, rfl⟩ <;> rcases h' with ⟨h', rfl⟩ | ⟨h', rfl⟩
  · rfl
  · exact (short_form h h').elim
  · exact (short_form h' h).elim
  · rfl
theorem errN_num {f : Nat → Nat} {n a x : Nat} {er : Int} (h : ErrN f n a er) (hx : x < 18446744073709551616) (hs : Sp f a (numL x)) (hl : a + (numL x).length ≤ 8 * n) : False := by
  have := ((errN_no h).2 x hx hs.al).2
  omega
theorem errO_no {f : Nat → Nat} {n a : Nat} {er : Int} (h : ErrO f n a er) : NoOp f n a er := by
  refine ⟨h, fun t ht hal => ?_⟩
  rcases h with ⟨h1, rfl⟩ | ⟨h1, h2 | ⟨rfl, x, hx, hx2, hs, hl⟩⟩
  · exact ⟨rfl, by rw [opL_len]; omega⟩
  · obtain ⟨g1, g2⟩ := (errN_no h2).2 t.v.toNat (fit_v ht).1 (opL_al hal)
    exact ⟨g1, by rw [opL_len]; omega⟩
  · have h1 := sp_al_num hs hl (opL_al hal)
    have h2 := ht.2.2.2.1
    have h3 := ht.2.2.2.2
    omega
theorem errO_one {f : Nat → Nat} {n a : Nat} {er er' : Int} (h : ErrO f n a er) (h' : ErrO f n a er') : er = er' := by
  rcases h with ⟨h1, rfl⟩ | ⟨h1, h2 | ⟨rfl, x, hx, hx2, hs, hl⟩⟩ <;> rcases h' with ⟨g1, rfl⟩ | ⟨g1, g2 | ⟨rfl, y, gx, gx2, gs, gl⟩⟩
  · rfl
  · omega
  · omega
  · omega
  · exact errN_one h2 g2
  · exact (errN_num h2 gx2 gs gl).elim
  · omega
  · exact (errN_num g2 hx2 hs hl).elim
  · rfl
theorem errE_no {f : Nat → Nat} {n a : Nat} {er : Int} (h : ErrE f n a er) : NoEv f n a er := by
  rcases h with ⟨h1, rfl⟩ | ⟨h1, h2, rfl⟩ | ⟨h1, h2, j, o, hj, hf, hs, hl, he⟩
  · exact noEv_head h1
  · exact noEv_many h1 h2
  · exact noEv_op h2 hj hs hl hf (errO_no he)
theorem ops_err {f : Nat → Nat} {n a j j' : Nat} {o o' : Nat → O3} {er : Int} (hj : j < j') (hf : ∀ i, i < j → FitO (o i)) (hs : Sp f a (opsL o j)) (hl : a + (opsL o j).length ≤ 8 * n) (he : ErrO f n (a + (opsL o j).length) er)
    (hf' : ∀ i, i < j' → FitO (o' i)) (hs' : Sp f a (opsL o' j')) (hl' : a + (opsL o' j').length ≤ 8 * n) : False := by
  obtain ⟨M, eM⟩ := opsL_mono o' (j + 1) j' hj
  have hlen : (opsL o' j').length = (opsL o' (j + 1)).length + M.length := by rw [eM, List.length_append]
  rw [eM] at hs'
  obtain ⟨g1, g2⟩ := Sp.app.1 (show Sp f a (opsL o' j ++ opL (o' j)) from (Sp.app.1 hs').1)
  have heq := ops_al o o' j hs hl g1.al hf (fun i hi => hf' i (by omega))
  rw [← opsL_congr o o' j heq] at g2
  have := ((errO_no he).2 (o' j) (hf' j hj) g2.al).2
  have hl2 : (opsL o' (j + 1)).length = (opsL o j).length + (opL (o' j)).length := by
    show (opsL o' j ++ opL (o' j)).length = _
    rw [List.length_append, opsL_congr o o' j heq]
  omega
theorem errE_one {f : Nat → Nat} {n a : Nat} {er er' : Int} (h : ErrE f n a er) (h' : ErrE f n a er') : er = er' := by
  rcases h with ⟨h1, rfl⟩ | ⟨h1, h2, rfl⟩ | ⟨h1, h2, j, o, hj, hf, hs, hl, he⟩ <;> rcases h' with ⟨g1, rfl⟩ | ⟨g1, g2, rfl⟩ | ⟨g1, g2, j', o', gj, gf, gs, gl, ge⟩
  · rfl
  · omega
  · omega
  · omega
  · rfl
  · omega
  · omega
  · omega
  · rcases Nat.lt_trichotomy j j' with e | e | e
    · exact (ops_err e hf hs hl he gf gs gl).elim
    · subst e
      have heq := ops_al o o' j hs hl gs.al hf gf
      rw [← opsL_congr o o' j heq] at ge
      exact errO_one he ge
    · exact (ops_err e gf gs gl ge hf hs hl).elim
theorem errB_no {f : Nat → Nat} {n : Nat} {er : Int} (h : ErrB f n er) : NoBk f n er := by
  rcases h with h | ⟨rfl, m, h1, h2, h3, h4⟩ | ⟨m, j, E, hj, ⟨g1, g2, g3, g4, g5⟩, he⟩ | ⟨rfl, m, E, ⟨g1, g2, g3, g4, g5⟩, hb⟩
  · exact noBk_num (errN_no h)
  · exact noBk_many h2 h3 h4 h1
  · exact noBk_ev g1 hj g2 g3 g4 g5 (errE_no he)
  · exact noBk_trail g1 g2 g3 g4 g5 hb
theorem got_m {f : Nat → Nat} {n m m' j : Nat} {E : Nat → Ev} (h : Got f n m j E) (hs : Sp f 0 (numL m')) : m = m' :=
  sp_al_num (n := n) h.2.1 (by have := h.2.2.2.1; omega) hs.al
theorem got_err {f : Nat → Nat} {n m j j' : Nat} {E E' : Nat → Ev} {er : Int} (hj : j < j') (h : Got f n m j E) (he : ErrE f n ((numL m).length + (evsL E j).length) er) (h' : Got f n m j' E') : False := by
  obtain ⟨_, _, hs, hl, hf⟩ := h
  obtain ⟨_, _, hs', hl', hf'⟩ := h'
  obtain ⟨M, eM⟩ := evsL_mono E' (j + 1) j' hj
  have hlen : (evsL E' j').length = (evsL E' (j + 1)).length + M.length := by rw [eM, List.length_append]
  rw [eM] at hs'
  obtain ⟨g1, g2⟩ := Sp.app.1 (show Sp f (numL m).length (evsL E' j ++ evL (E' j)) from (Sp.app.1 hs').1)
  have heq := evs_al E E' j hs hl g1.al hf (fun i hi => hf' i (by omega))
  rw [← evsL_congr E E' j heq] at g2
  have := ((errE_no he).2 (E' j) (hf' j hj) g2.al).2
  have hl2 := evsL_succ E' j
  rw [← evsL_congr E E' j heq] at hl2
  omega
theorem got_num {f : Nat → Nat} {n m j : Nat} {E : Nat → Ev} {er : Int} (h : Got f n m j E) (he : ErrN f n 0 er) : False :=
  errN_num (x := m) he (by have := h.1; omega) h.2.1 (by have := h.2.2.2.1; omega)
theorem errB_one {f : Nat → Nat} {n : Nat} {er er' : Int} (h : ErrB f n er) (h' : ErrB f n er') : er = er' := by
  rcases h with h | ⟨rfl, m, h1, h2, h3, h4⟩ | ⟨m, j, E, hj, hG, he⟩ | ⟨rfl, m, E, hG, hb⟩ <;> rcases h' with h' | ⟨rfl, m', h1', h2', h3', h4'⟩ | ⟨m', j', E', hj', hG', he'⟩ | ⟨rfl, m', E', hG', hb'⟩
  · exact errN_one h h'
  · exact (errN_num h h2' h3' (by omega)).elim
  · exact (got_num hG' h).elim
  · exact (got_num hG' h).elim
  · exact (errN_num h' h2 h3 (by omega)).elim
  · rfl
  · have := got_m hG' h3; have := hG'.1; omega
  · have := got_m hG' h3; have := hG'.1; omega
  · exact (got_num hG h').elim
  · have := got_m hG h3'; have := hG.1; omega
  · obtain rfl := got_m hG hG'.2.1
    rcases Nat.lt_trichotomy j j' with e | e | e
    · exact (got_err e hG he hG').elim
    · subst e
      have heq := evs_al E E' j hG.2.2.1 hG.2.2.2.1 hG'.2.2.1.al hG.2.2.2.2 hG'.2.2.2.2
      rw [← evsL_congr E E' j heq] at he'
      exact errE_one he he'
    · exact (got_err e hG' he' hG).elim
  · obtain rfl := got_m hG hG'.2.1
    exact (got_err hj hG he hG').elim
  · exact (got_num hG h').elim
  · have := got_m hG h3'; have := hG.1; omega
  · obtain rfl := got_m hG hG'.2.1
    exact (got_err hj' hG' he' hG).elim
  · rfl
theorem errB_bk {f : Nat → Nat} {n len : Nat} {E : Nat → Ev} {er : Int} (h : ErrB f n er) (hb : Bk f n E len) : False := by
  obtain ⟨a1, a2, a3, a4, a5, a6⟩ := hb
  rcases (errB_no h).2 E len a1 a2 a3.al with ⟨_, h1⟩ | ⟨_, h1⟩
  · omega
  · exact h1 ⟨a5, a6⟩
end Go.Proofs.Ytaddmegghikhpaa
