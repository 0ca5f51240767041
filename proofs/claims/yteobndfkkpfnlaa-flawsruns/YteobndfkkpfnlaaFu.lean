/-
  Transactions one behind the other: mathematics.
-/
import Derived.Test.YteobndfkkpfnlaaFp
import Derived.Test.YteobndfkkpfnlaaFn
import Derived.Test.YteobndfkkpfnlaaFj
namespace Go.Proofs.Yteobndfkkpfnlaa
set_option linter.unusedVariables false

/-- what stands at a key ahead of the i-th one -/
def pv (kf : Nat → Nat) : Nat → Nat → Nat
  | 0 => fun _ => 0
  | i + 1 => fun k => if k = kf i then i + 1 else pv kf i k
/-- the i-th one: it reads a key and writes it -/
def Rt (kf : Nat → Nat) (i : Nat) : Tx := ⟨1, 1, 2, opTwo ⟨1, (kf i : Int), ((pv kf i (kf i) : Nat) : Int)⟩ ⟨2, (kf i : Int), ((i + 1 : Nat) : Int)⟩⟩
theorem pv_le (kf : Nat → Nat) : ∀ i k, pv kf i k ≤ i := by
  intro i
  induction i with
  | zero => intro k; exact Nat.le_refl _
  | succ i ih =>
    intro k
    unfold pv
    split
    · exact Nat.le_refl _
    · have := ih k; omega
theorem pv_some {kf : Nat → Nat} : ∀ i k, pv kf i k = 0 ∨ ∃ j, j < i ∧ kf j = k ∧ pv kf i k = j + 1 := by
  intro i
  induction i with
  | zero => intro k; exact .inl rfl
  | succ i ih =>
    intro k
    unfold pv
    by_cases h : k = kf i
    · rw [if_pos h]; exact .inr ⟨i, by omega, h.symm, rfl⟩
    · rw [if_neg h]
      rcases ih k with h | ⟨j, hj, r⟩
      · exact .inl h
      · exact .inr ⟨j, by omega, r⟩
theorem pv_is {kf : Nat → Nat} {F : Nat} : ∀ i k, pv kf i k = F + 1 ↔ (F < i ∧ kf F = k ∧ ∀ j, F < j → j < i → kf j ≠ k) := by
  intro i
  induction i with
  | zero => intro k; exact ⟨fun h => absurd h.symm (Nat.succ_ne_zero _), fun h => absurd h.1 (Nat.not_lt_zero _)⟩
  | succ i ih =>
    intro k
    unfold pv
    by_cases h : k = kf i
    · rw [if_pos h]
      constructor
      · intro e
        have : F = i := by omega
        subst this
        exact ⟨by omega, h.symm, fun j h1 h2 => by omega⟩
      · rintro ⟨h1, h2, h3⟩
        by_cases e : F = i
        · rw [e]
        · exact absurd h.symm (h3 i (by omega) (by omega))
    · rw [if_neg h, ih k]
      constructor
      · rintro ⟨h1, h2, h3⟩
        refine ⟨by omega, h2, fun j j1 j2 => ?_⟩
        by_cases e : j = i
        · subst e; exact fun e => h e.symm
        · exact h3 j j1 (by omega)
      · rintro ⟨h1, h2, h3⟩
        have : F ≠ i := fun e => by subst e; exact h h2.symm
        exact ⟨by omega, h2, fun j j1 j2 => h3 j j1 (by omega)⟩
theorem rt_rd (kf : Nat → Nat) (i : Nat) : rdT (Rt kf i) = [⟨1, (kf i : Int), ((pv kf i (kf i) : Nat) : Int)⟩] := by
  simp [rdT, Rt, rd, opTwo, lastW]
theorem rt_allS (kf : Nat → Nat) (t : Nat) : allV (Rt kf) (t + 1) = updV (allV (Rt kf) t) (kf t : Int) ((t + 1 : Nat) : Int) (t : Int) := by
  show opsV (Rt kf t).o (t : Int) (allV (Rt kf) t) (Rt kf t).n = _
  simp [Rt, opsV, opTwo]
theorem rt_all {kf : Nat → Nat} {j : Nat} : ∀ n, j < n → allV (Rt kf) n (kf j : Int) ((j + 1 : Nat) : Int) = some (j : Int) := by
  intro n
  induction n with
  | zero => intro h; omega
  | succ n ih =>
    intro h
    rw [rt_allS]
    unfold updV
    by_cases e : j = n
    · subst e; rw [if_pos ⟨rfl, rfl⟩]
    · rw [if_neg (fun h => by have := h.2; omega)]
      exact ih (by omega)
theorem rt_end {kf : Nat → Nat} {j n : Nat} (hk : kf j ≤ 3) (hj : j < n) : (endV (Rt kf) n (kf j : Int) ((j + 1 : Nat) : Int)).isSome = true := by
  rw [endV_iff]
  refine ⟨j, hj, ⟨2, (kf j : Int), ((j + 1 : Nat) : Int)⟩, ?_, rfl, rfl⟩
  rw [(wrl_spec _ _ 16).2]
  refine ⟨kf j, 1, by omega, ?_, rfl⟩
  rw [lastIx_iff]
  exact ⟨by show 1 < 2; omega, rfl, rfl, fun y h1 h2 => by have : y < 2 := h2; omega⟩
theorem rt_ok {kf : Nat → Nat} {n : Nat} (hn : n ≤ 40) (hk : ∀ i, kf i ≤ 3) : TOk n (Rt kf) := by
  refine ⟨by omega, fun j hj => by unfold Rt; simp, fun j hj x hx => ?_, fun j hj x hx => ?_⟩
  · have := hk j
    unfold Rt opTwo
    dsimp only
    split <;> (dsimp only; omega)
  · have := pv_le kf j (kf j)
    unfold Rt opTwo In64
    dsimp only
    split <;> (dsimp only; omega)
/-- a read's kind, by whether its writer is called failed -/
theorem rt_kind {kf : Nat → Nat} {T : Nat → Tx} {n t : Nat} (hk : ∀ i, kf i ≤ 3) (ht : t < n) : ((∃ j, pv kf t (kf t) = j + 1 ∧ (T j).st = 2) ∧ flK (allV (Rt kf) n) (endV (Rt kf) n) T (t : Int) ⟨1, (kf t : Int), ((pv kf t (kf t) : Nat) : Int)⟩ = 2) ∨ ((¬ ∃ j, pv kf t (kf t) = j + 1 ∧ (T j).st = 2) ∧ flK (allV (Rt kf) n) (endV (Rt kf) n) T (t : Int) ⟨1, (kf t : Int), ((pv kf t (kf t) : Nat) : Int)⟩ = 0) := by
  unfold flK
  dsimp only
  rcases pv_some (kf := kf) t (kf t) with h | ⟨j, hj, hkj, h⟩
  · rw [h]
    exact .inr ⟨fun ⟨j, h, _⟩ => by omega, if_pos rfl⟩
  · rw [h, if_neg (by omega), ← hkj, rt_all n (by omega)]
    dsimp only
    rw [if_neg (by omega), Int.toNat_natCast]
    by_cases hs : (T j).st = 2
    · exact .inl ⟨⟨j, rfl, hs⟩, if_pos hs⟩
    · refine .inr ⟨fun hx => ?_, by rw [if_neg hs, if_pos (rt_end (hk j) (by omega))]⟩
      obtain ⟨i, e, h2⟩ := hx
      have : i = j := by omega
      subst this
      exact hs h2
theorem rt_fl {kf : Nat → Nat} {n : Nat} (hk : ∀ i, kf i ≤ 3) : flL (Rt kf) n = [] := by
  unfold flL
  have h : ∀ m, m ≤ n → flT (allV (Rt kf) n) (endV (Rt kf) n) (Rt kf) m = [] := by
    intro m
    induction m with
    | zero => intro _; rfl
    | succ m ih =>
      intro hm
      unfold flT
      rw [ih (by omega), rt_rd]
      show [] ++ flR _ _ _ m _ 1 = []
      unfold flR
      rw [show lf [⟨1, (kf m : Int), ((pv kf m (kf m) : Nat) : Int)⟩] 0 = ⟨1, (kf m : Int), ((pv kf m (kf m) : Nat) : Int)⟩ from rfl]
      rcases rt_kind (kf := kf) (T := Rt kf) hk (show m < n by omega) with ⟨⟨j, _, h⟩, _⟩ | ⟨_, h⟩
      · exact absurd (show (1 : Int) = 2 from h) (by decide)
      · rw [if_pos h]; rfl
  exact h n (Nat.le_refl _)
theorem suR_keeps {A : VM} {T : Nat → Tx} {rs : List O3} {S : Nat → Bool} {i : Nat} (h : S i = true) : ∀ n, suR A T rs S n i = true := by
  intro n
  induction n with
  | zero => exact h
  | succ n ih =>
    unfold suR
    cases hA : A (lf rs n).key (lf rs n).v with
    | none => exact ih
    | some x =>
      dsimp only
      by_cases h0 : (T x.toNat).st = 0
      · rw [if_pos h0]
        unfold setB
        by_cases e : i = x.toNat
        · rw [if_pos e]
        · rw [if_neg e]; exact ih
      · rw [if_neg h0]; exact ih
theorem rt_su {kf : Nat → Nat} {n i : Nat} (hi : i < n) : suL (Rt kf) n i = true := by
  unfold suL
  have h : ∀ m, i < m → suT (allV (Rt kf) n) (Rt kf) m i = true := by
    intro m
    induction m with
    | zero => intro h; omega
    | succ m ih =>
      intro hm
      unfold suT
      rw [if_pos (show (Rt kf m).st = 1 from rfl)]
      refine suR_keeps ?_ _
      unfold setB
      by_cases e : i = m
      · rw [if_pos e]
      · rw [if_neg e]; exact ih (by omega)
  exact h n hi
/-- a later one has the same key -/
def HitF (kf : Nat → Nat) (F m : Nat) : Prop := ∃ t, F < t ∧ t < m ∧ kf t = kf F
theorem gone_rdT {kf : Nat → Nat} {F m : Nat} : rdT (gone (Rt kf) F m) = if m = F then [] else [⟨1, (kf m : Int), ((pv kf m (kf m) : Nat) : Int)⟩] := by
  by_cases h : m = F
  · rw [if_pos h]
    unfold rdT gone
    rw [if_pos h]
    rfl
  · rw [if_neg h, ← rt_rd]
    unfold gone
    rw [if_neg h]
theorem gone_st {kf : Nat → Nat} {F j : Nat} : (gone (Rt kf) F j).st = 2 ↔ j = F := by
  unfold gone
  by_cases h : j = F
  · rw [if_pos h]; exact ⟨fun _ => h, fun _ => rfl⟩
  · rw [if_neg h]; exact ⟨fun e => absurd (show (1 : Int) = 2 from e) (by decide), fun e => absurd e h⟩
theorem gone_one {kf : Nat → Nat} {F n : Nat} (hk : ∀ i, kf i ≤ 3) : (¬ HitF kf F n ∧ flL (gone (Rt kf) F) n = []) ∨ (HitF kf F n ∧ ∃ t : Nat, F < t ∧ flL (gone (Rt kf) F) n = [⟨(t : Int), 0, 2⟩]) := by
  unfold flL
  rw [gone_all, gone_end]
  have h : ∀ m, m ≤ n → (¬ HitF kf F m ∧ flT (allV (Rt kf) n) (endV (Rt kf) n) (gone (Rt kf) F) m = []) ∨ (HitF kf F m ∧ ∃ t : Nat, F < t ∧ flT (allV (Rt kf) n) (endV (Rt kf) n) (gone (Rt kf) F) m = [⟨(t : Int), 0, 2⟩]) := by
    intro m
    induction m with
    | zero => intro _; exact .inl ⟨fun ⟨t, _, h, _⟩ => by omega, rfl⟩
    | succ m ih =>
      intro hm
      have hH : HitF kf F (m + 1) ↔ (HitF kf F m ∨ (F < m ∧ kf m = kf F)) := by
        constructor
        · rintro ⟨t, h1, h2, h3⟩
          by_cases e : t = m
          · subst e; exact .inr ⟨h1, h3⟩
          · exact .inl ⟨t, h1, by omega, h3⟩
        · rintro (⟨t, h1, h2, h3⟩ | ⟨h1, h2⟩)
          · exact ⟨t, h1, by omega, h3⟩
          · exact ⟨m, h1, by omega, h2⟩
      have hstep : flT (allV (Rt kf) n) (endV (Rt kf) n) (gone (Rt kf) F) (m + 1) = flT (allV (Rt kf) n) (endV (Rt kf) n) (gone (Rt kf) F) m ++ (@ite _ (F < m ∧ kf m = kf F ∧ ¬ HitF kf F m) (Classical.propDecidable _) [⟨(m : Int), 0, 2⟩] []) := by
        show _ ++ flR _ _ _ m (rdT (gone (Rt kf) F m)) (rdT (gone (Rt kf) F m)).length = _
        congr 1
        rw [gone_rdT]
        by_cases hmF : m = F
        · rw [if_pos hmF, if_neg (fun h => by omega)]; rfl
        · rw [if_neg hmF]
          show flR _ _ _ m _ 1 = _
          unfold flR
          rw [show lf [⟨1, (kf m : Int), ((pv kf m (kf m) : Nat) : Int)⟩] 0 = ⟨1, (kf m : Int), ((pv kf m (kf m) : Nat) : Int)⟩ from rfl]
          have hiff : (∃ j, pv kf m (kf m) = j + 1 ∧ (gone (Rt kf) F j).st = 2) ↔ (F < m ∧ kf m = kf F ∧ ¬ HitF kf F m) := by
            constructor
            · rintro ⟨j, e, hs⟩
              obtain rfl := gone_st.1 hs
              obtain ⟨h1, h2, h3⟩ := (pv_is m (kf m)).1 e
              exact ⟨h1, h2.symm, fun ⟨t, t1, t2, t3⟩ => h3 t t1 t2 (by rw [t3, h2])⟩
            · rintro ⟨h1, h2, h3⟩
              exact ⟨F, (pv_is m (kf m)).2 ⟨h1, h2.symm, fun j j1 j2 e => h3 ⟨j, j1, j2, by rw [e, h2]⟩⟩, gone_st.2 rfl⟩
          rcases rt_kind (kf := kf) (T := gone (Rt kf) F) hk (show m < n by omega) with ⟨h1, h2⟩ | ⟨h1, h2⟩
          · rw [h2, if_neg (by decide)]
            have hc := hiff.1 h1
            simp only [flR, List.nil_append]
            split
            · rfl
            · rename_i h; exact absurd hc h
          · rw [if_pos h2]
            split
            · rename_i h; exact absurd (hiff.2 h) h1
            · rfl
      rw [hstep, hH]
      rcases ih (by omega) with ⟨h1, h2⟩ | ⟨h1, t, h2, h3⟩
      · by_cases hc : F < m ∧ kf m = kf F
        · rw [if_pos ⟨hc.1, hc.2, h1⟩, h2]
          exact .inr ⟨.inr hc, m, hc.1, rfl⟩
        · rw [if_neg (fun h => hc ⟨h.1, h.2.1⟩), h2]
          exact .inl ⟨fun h => by rcases h with h | h; exact h1 h; exact hc h, rfl⟩
      · rw [if_neg (fun h => h.2.2 h1), h3]
        exact .inr ⟨.inl h1, t, h2, rfl⟩
  exact h n (Nat.le_refl _)
end Go.Proofs.Yteobndfkkpfnlaa
