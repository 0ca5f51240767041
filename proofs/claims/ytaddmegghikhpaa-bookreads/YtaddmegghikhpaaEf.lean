/-
  Unlike histories have unlike bits (mathematics).
-/
import Derived.Test.YtaddmegghikhpaaEd
namespace Go.Proofs.Ytaddmegghikhpaa
open Go.ChangeShapes Go.WideShapes Go.ChangeAt Go.RowKit

theorem bits_gv {F : Nat → Nat} {a x m : Nat} (h : Sp F a (bitsL x m)) (hx : x < 2 ^ m) : gv F a m = x := by
  rw [gv_of F a x m m (Nat.le_refl _) fun t ht => ?_, Nat.sub_self, Nat.pow_zero, Nat.div_one, Nat.mod_eq_of_lt hx]
  rw [h t (by rw [bitsL_length]; exact ht), bitsL_get x m t ht]
theorem bits_inj {F : Nat → Nat} {a x y m : Nat} (h : Sp F a (bitsL x m)) (h' : Sp F a (bitsL y m)) (hx : x < 2 ^ m) (hy : y < 2 ^ m) : x = y :=
  (bits_gv h hx).symm.trans (bits_gv h' hy)
theorem num_at {F : Nat → Nat} {a x i : Nat} (h : Sp F a (numL x)) (hi : i < 2 * nz x + 1) : bitAt F (a + i) = numBits x i := by
  rw [h i (by rw [numL_length]; exact hi), numL_get x i hi]
theorem num_nz_le {F : Nat → Nat} {a x y : Nat} (h : Sp F a (numL x)) (h' : Sp F a (numL y)) : nz y ≤ nz x := by
  rcases Nat.lt_or_ge (nz x) (nz y) with hlt | hge
  · have h1 := num_at h (show nz x < 2 * nz x + 1 by omega)
    have h2 := num_at h' (show nz x < 2 * nz y + 1 by omega)
    rw [numBits_lead] at h1
    rw [numBits_low y (nz x) hlt] at h2
    omega
  · exact hge
theorem num_gv {F : Nat → Nat} {a x : Nat} (h : Sp F a (numL x)) : gv F (a + nz x) (nz x + 1) = x + 1 := by
  have hx := (nz_spec x).2
  rw [gv_of F (a + nz x) (x + 1) (nz x + 1) (nz x + 1) (Nat.le_refl _) fun t ht => ?_, Nat.sub_self, Nat.pow_zero, Nat.div_one, Nat.mod_eq_of_lt hx]
  rw [Nat.add_assoc, num_at h (by omega)]
  unfold numBits
  rw [if_neg (by omega), show 2 * nz x - (nz x + t) = nz x + 1 - 1 - t by omega]
theorem num_inj {F : Nat → Nat} {a x y : Nat} (h : Sp F a (numL x)) (h' : Sp F a (numL y)) : x = y := by
  have e : nz x = nz y := Nat.le_antisymm (num_nz_le h' h) (num_nz_le h h')
  have h1 := num_gv h
  have h2 := num_gv h'
  rw [e] at h1
  omega

theorem op_inj {F : Nat → Nat} {a : Nat} {t t' : O3} (h : Sp F a (opL t)) (h' : Sp F a (opL t')) (hf : FitO t) (hf' : FitO t') : t = t' := by
  unfold opL at h h'
  obtain ⟨a1, a2⟩ := Sp.app.1 h
  obtain ⟨b1, b2⟩ := Sp.app.1 h'
  rw [bitsL_length] at a2 b2
  obtain ⟨a2, a3⟩ := Sp.app.1 a2
  obtain ⟨b2, b3⟩ := Sp.app.1 b2
  rw [bitsL_length] at a3 b3
  obtain ⟨f1, f2, f3, f4, f5⟩ := hf
  obtain ⟨g1, g2, g3, g4, g5⟩ := hf'
  have e1 := bits_inj a1 b1 (by omega) (by omega)
  have e2 := bits_inj a2 b2 (by omega) (by omega)
  have e3 := num_inj a3 b3
  obtain ⟨k, key, v⟩ := t
  obtain ⟨k', key', v'⟩ := t'
  dsimp only at *
  obtain rfl : k = k' := by omega
  obtain rfl : key = key' := by omega
  obtain rfl : v = v' := by omega
  rfl
theorem opsL_congr (o o' : Nat → O3) : ∀ n, (∀ i, i < n → o i = o' i) → opsL o n = opsL o' n := by
  intro n
  induction n with
  | zero => intro _; rfl
  | succ n ih => intro h; show opsL o n ++ opL (o n) = opsL o' n ++ opL (o' n); rw [ih fun i hi => h i (by omega), h n (by omega)]
theorem ops_inj {F : Nat → Nat} {a : Nat} (o o' : Nat → O3) : ∀ n, Sp F a (opsL o n) → Sp F a (opsL o' n) → (∀ i, i < n → FitO (o i)) → (∀ i, i < n → FitO (o' i)) → ∀ i, i < n → o i = o' i := by
  intro n
  induction n with
  | zero => intro _ _ _ _ i hi; exact absurd hi (Nat.not_lt_zero _)
  | succ n ih =>
    intro h h' hf hf' i hi
    obtain ⟨h1, h2⟩ := Sp.app.1 (show Sp F a (opsL o n ++ opL (o n)) from h)
    obtain ⟨g1, g2⟩ := Sp.app.1 (show Sp F a (opsL o' n ++ opL (o' n)) from h')
    have he := ih h1 g1 (fun i hi => hf i (by omega)) (fun i hi => hf' i (by omega))
    by_cases hin : i = n
    · subst hin
      rw [opsL_congr o o' i he] at h2
      exact op_inj h2 g2 (hf i (by omega)) (hf' i (by omega))
    · exact he i (by omega)
/-- the same event -/
def SameE1 (e e' : Ev) : Prop := e.k = e'.k ∧ e.c = e'.c ∧ SameO e.n e'.n e.o e'.o
theorem ev_inj {F : Nat → Nat} {a : Nat} {e e' : Ev} (h : Sp F a (evL e)) (h' : Sp F a (evL e')) (hf : Fit e) (hf' : Fit e') : SameE1 e e' := by
  unfold evL at h h'
  obtain ⟨a1, a2⟩ := Sp.app.1 h
  obtain ⟨b1, b2⟩ := Sp.app.1 h'
  rw [bitsL_length] at a2 b2
  obtain ⟨a2, a3⟩ := Sp.app.1 a2
  obtain ⟨b2, b3⟩ := Sp.app.1 b2
  rw [bitsL_length] at a3 b3
  obtain ⟨a3, a4⟩ := Sp.app.1 a3
  obtain ⟨b3, b4⟩ := Sp.app.1 b3
  rw [bitsL_length] at a4 b4
  obtain ⟨f1, f2, f3, f4, f5, f6⟩ := hf
  obtain ⟨g1, g2, g3, g4, g5, g6⟩ := hf'
  have e1 := bits_inj a1 b1 (by omega) (by omega)
  have e2 := bits_inj a2 b2 (by omega) (by omega)
  have e3 := bits_inj a3 b3 (by omega) (by omega)
  refine ⟨by omega, by omega, e3, ?_⟩
  rw [← e3] at b4 g6
  exact ops_inj e.o e'.o e.n a4 b4 f6 g6
theorem evL_congr {e e' : Ev} (h : SameE1 e e') : evL e = evL e' := by
  obtain ⟨h1, h2, h3, h4⟩ := h
  unfold evL
  rw [h1, h2, ← h3, opsL_congr _ _ _ h4]
theorem evsL_congr (E E' : Nat → Ev) : ∀ n, (∀ i, i < n → SameE1 (E i) (E' i)) → evsL E n = evsL E' n := by
  intro n
  induction n with
  | zero => intro _; rfl
  | succ n ih => intro h; show evsL E n ++ evL (E n) = evsL E' n ++ evL (E' n); rw [ih fun i hi => h i (by omega), evL_congr (h n (by omega))]
theorem evs_inj {F : Nat → Nat} {a : Nat} (E E' : Nat → Ev) : ∀ n, Sp F a (evsL E n) → Sp F a (evsL E' n) → (∀ i, i < n → Fit (E i)) → (∀ i, i < n → Fit (E' i)) → ∀ i, i < n → SameE1 (E i) (E' i) := by
  intro n
  induction n with
  | zero => intro _ _ _ _ i hi; exact absurd hi (Nat.not_lt_zero _)
  | succ n ih =>
    intro h h' hf hf' i hi
    obtain ⟨h1, h2⟩ := Sp.app.1 (show Sp F a (evsL E n ++ evL (E n)) from h)
    obtain ⟨g1, g2⟩ := Sp.app.1 (show Sp F a (evsL E' n ++ evL (E' n)) from h')
    have he := ih h1 g1 (fun i hi => hf i (by omega)) (fun i hi => hf' i (by omega))
    by_cases hin : i = n
    · subst hin
      rw [evsL_congr E E' i he] at h2
      exact ev_inj h2 g2 (hf i (by omega)) (hf' i (by omega))
    · exact he i (by omega)
theorem bl_inj {F : Nat → Nat} {E E' : Nat → Ev} {len len' : Nat} (h : Sp F 0 (BL E len)) (h' : Sp F 0 (BL E' len')) (hf : ∀ i, i < len → Fit (E i)) (hf' : ∀ i, i < len' → Fit (E' i)) : SameEv len len' E E' := by
  unfold BL at h h'
  obtain ⟨a1, a2⟩ := Sp.app.1 h
  obtain ⟨b1, b2⟩ := Sp.app.1 h'
  have e := num_inj a1 b1
  subst e
  exact ⟨rfl, evs_inj E E' len a2 b2 hf hf'⟩
theorem bl_congr {E E' : Nat → Ev} {len len' : Nat} (h : SameEv len len' E E') : BL E len = BL E' len' := by
  obtain ⟨rfl, h⟩ := h
  unfold BL
  rw [evsL_congr E E' len h]

/-- the bits of bytes that agree agree -/
theorem bitAt_congr {F G : Nat → Nat} {n i : Nat} (h : ∀ j, j < n → F j = G j) (hi : i < 8 * n) : bitAt F i = bitAt G i := by
  unfold bitAt
  rw [h (i / 8) (by omega)]
/-- bytes are the same just if the events are -/
theorem bytes_same {F G : Nat → Nat} {E E' : Nat → Ev} {len len' n m : Nat} (hF : Sp F 0 (BL E len)) (hG : Sp G 0 (BL E' len')) (eF : Ends F (BL E len).length) (eG : Ends G (BL E' len').length) (hn : n = ((BL E len).length + 7) / 8) (hm : m = ((BL E' len').length + 7) / 8)
    (hf : ∀ i, i < len → Fit (E i)) (hf' : ∀ i, i < len' → Fit (E' i)) : (n = m ∧ ∀ j, j < n → F j = G j) ↔ SameEv len len' E E' := by
  constructor
  · rintro ⟨rfl, h⟩
    refine bl_inj hF (fun i hi => ?_) hf hf'
    rw [← hG i hi]
    exact bitAt_congr h (by omega)
  · intro h
    have e := bl_congr h
    rw [← e] at hG eG hm
    subst hn hm
    refine ⟨rfl, fun j hj => bytes_eq eF eG (fun i hi => ?_) j hj⟩
    have h1 := hF i hi
    have h2 := hG i hi
    rw [Nat.zero_add] at h1 h2
    rw [h1, h2]

/-- events behind events -/
def app (E : Nat → Ev) (len : Nat) (E' : Nat → Ev) : Nat → Ev := fun j => if j < len then E j else E' (j - len)
theorem evs_app (E E' : Nat → Ev) (len : Nat) : ∀ m, (evsL (app E len E') (len + m)).length = (evsL E len).length + (evsL E' m).length := by
  intro m
  induction m with
  | zero =>
    show (evsL (app E len E') len).length = _ + 0
    have h : ∀ n, n ≤ len → evsL (app E len E') n = evsL E n := by
      intro n
      induction n with
      | zero => intro _; rfl
      | succ n ih =>
        intro hn
        show evsL (app E len E') n ++ evL (app E len E' n) = evsL E n ++ evL (E n)
        rw [ih (by omega), show app E len E' n = E n from if_pos (by omega)]
    rw [h len (Nat.le_refl _)]; rfl
  | succ m ih =>
    show (evsL (app E len E') (len + m) ++ evL (app E len E' (len + m))).length = _ + (evsL E' m ++ evL (E' m)).length
    rw [List.length_append, List.length_append, ih, show app E len E' (len + m) = E' m from by unfold app; rw [if_neg (by omega), Nat.add_sub_cancel_left]]
    omega
theorem bl_app (E E' : Nat → Ev) (len len' : Nat) : (BL E len).length ≤ (BL (app E len E') (len + len')).length ∧ (BL E' len').length ≤ (BL (app E len E') (len + len')).length := by
  unfold BL
  rw [List.length_append, List.length_append, List.length_append, numL_length, numL_length, numL_length, evs_app]
  have h1 := nz_mono (show len ≤ len + len' by omega)
  have h2 := nz_mono (show len' ≤ len + len' by omega)
  omega
theorem app_fit {E E' : Nat → Ev} {len len' : Nat} (hf : ∀ i, i < len → Fit (E i)) (hf' : ∀ i, i < len' → Fit (E' i)) : ∀ i, i < len + len' → Fit (app E len E' i) := by
  intro i hi
  unfold app
  split
  · exact hf i (by assumption)
  · exact hf' (i - len) (by omega)

/-- another's events behind events of our own -/
theorem EvO.behinds {w w' : World} {B len len' cap' : Nat} {v : Value} {E E' : Nat → Ev} {V V' : Nat → Value} {sp' : Option Addr} (h : EvO w B v len E V)
    (ho : w'.ownsRow B 43 3 (.slice sp' (len + len') cap') (len + len') (rowT (fun i => asT (E i)) V len ++ rowT (fun i => asT (E' i)) V' len')) (hg : w.grownBy w' v.ownBlock)
    (hV : ∀ j, j < len' → ∃ sp cap, V' j = .slice sp (E' j).n cap ∧ OpS w' sp (E' j).n (E' j).o ∧ (sp = none → (E' j).n = 0 ∧ cap = 0) ∧ (E' j).n ≤ 9223372036854775807) :
    EvS w' sp' (len + len') (app E len E') := by
  have keep : ∀ {n : Nat} {u : Value} {xs : List Value}, w.ownsRow B 53 3 u n xs → w'.ownsRow B 53 3 u n xs := fun {n u xs} ho' => own_keep ho' fun g hg' => by
    obtain ⟨cur, e⟩ := own_cells ho' hg'
    refine hg.block g (ho'.lt g hg').2 (fun e' => ?_)
    obtain ⟨cur', e3⟩ := own_cells h.row e'.symm
    rw [e] at e3
    injection e3 with e3
    injection e3 with _ e3 _
    cases e3
  intro hl
  obtain ⟨g, cp, e1, _, hgl⟩ := ho.form (by omega)
  injection e1 with e1 _ _
  subst e1
  refine ⟨g, 0, rfl, hgl, fun j hj => ?_⟩
  have hrl := rowT_length (fun i => asT (E i)) V len
  have c0 := ho.cellAt (j * 3) (by omega)
  have c1 := ho.cellAt (j * 3 + 1) (by omega)
  have c2 := ho.cellAt (j * 3 + 2) (by omega)
  simp only [Nat.zero_add]
  by_cases hjl : j < len
  · rw [List.getElem?_append_left (by omega)] at c0 c1 c2
    obtain ⟨r0, r1, r2⟩ := rowT_get (fun i => asT (E i)) V len j hjl
    obtain ⟨sp1, cap1, e, ho', hp, hn'⟩ := h.ops j hjl
    rw [e] at r2
    rw [show app E len E' j = E j from if_pos hjl]
    exact ⟨sp1, cap1, c0.trans r0, c1.trans r1, c2.trans r2, own38_ops (keep ho'), hp, by omega⟩
  · obtain ⟨q, rfl⟩ : ∃ q, j = len + q := ⟨j - len, by omega⟩
    rw [List.getElem?_append_right (by omega), hrl] at c0 c1 c2
    rw [show (len + q) * 3 - len * 3 = q * 3 by omega] at c0
    rw [show (len + q) * 3 + 1 - len * 3 = q * 3 + 1 by omega] at c1
    rw [show (len + q) * 3 + 2 - len * 3 = q * 3 + 2 by omega] at c2
    obtain ⟨r0, r1, r2⟩ := rowT_get (fun i => asT (E' i)) V' len' q (by omega)
    obtain ⟨sp1, cap1, e, ho', hp, hn'⟩ := hV q (by omega)
    rw [e] at r2
    rw [show app E len E' (len + q) = E' q from by unfold app; rw [if_neg (by omega), Nat.add_sub_cancel_left]]
    exact ⟨sp1, cap1, c0.trans r0, c1.trans r1, c2.trans r2, ho', hp, hn'⟩
theorem rowT_one (T : Nat → Tx) (V : Nat → Value) (n : Nat) (hV : ∀ i, i < n → ∃ sp l cap, V i = .slice sp l cap) : ∀ u ∈ rowT T V n, u.oneCell' = true := by
  intro u hu
  unfold rowT at hu
  rw [List.mem_flatMap] at hu
  obtain ⟨i, hi, hu⟩ := hu
  rw [List.mem_range] at hi
  obtain ⟨sp, l, cap, e⟩ := hV i hi
  simp at hu
  rcases hu with rfl | rfl | rfl
  · rfl
  · rfl
  · rw [e]; rfl
end Go.Proofs.Ytaddmegghikhpaa
