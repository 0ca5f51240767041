/-
  The first one of the shortest cycles: mathematics.
-/
import Derived.Test.YtcolcgkfppjflaaCg
namespace Go.Proofs.Ytcolcgkfppjflaa
set_option linter.unusedVariables false

/-- a way of unlike nodes -/
structure Pth (A : Nat → Nat → Prop) (N : Nat) (W : List Nat) : Prop where
  nd : W.Nodup
  lt : ∀ x ∈ W, x < N
  arc : ∀ i, i + 1 < W.length → A (W.getD i 0) (W.getD (i + 1) 0)
/-- a cycle of L nodes -/
structure SCy (A : Nat → Nat → Prop) (N L : Nat) (R : List Nat) : Prop where
  p : Pth A N R
  len : R.length = L
  pos : 0 < L
  back : A (R.getD (L - 1) 0) (R.getD 0 0)
def Pre (W R : List Nat) : Prop := ∃ S, R = W ++ S
def LexLe (R Q : List Nat) : Prop := R = Q ∨ ∃ i, i < R.length ∧ R.getD i 0 < Q.getD i 0 ∧ ∀ j, j < i → R.getD j 0 = Q.getD j 0
/-- what walk answers -/
def WkR (A : Nat → Nat → Prop) (N L : Nat) (W R : List Nat) : Prop :=
  (R = [] ∧ ∀ Q, SCy A N L Q → ¬ Pre W Q) ∨ (SCy A N L R ∧ Pre W R ∧ ∀ Q, SCy A N L Q → Pre W Q → LexLe R Q)
section
variable {A : Nat → Nat → Prop} {N L : Nat} {W R : List Nat}
theorem getD_mem {l : List Nat} {i : Nat} (h : i < l.length) : l.getD i 0 ∈ l := by
  rw [List.getD_eq_getElem?_getD, List.getElem?_eq_getElem h]
  exact List.getElem_mem h
theorem Pre.get (h : Pre W R) {i : Nat} (hi : i < W.length) : R.getD i 0 = W.getD i 0 := by
  obtain ⟨S, rfl⟩ := h
  rw [List.getD_eq_getElem?_getD, List.getD_eq_getElem?_getD, List.getElem?_append_left hi]
theorem Pre.len (h : Pre W R) : W.length ≤ R.length := by
  obtain ⟨S, rfl⟩ := h
  rw [List.length_append]; omega
theorem Pre.next (h : Pre W R) (hl : W.length < R.length) : Pre (W ++ [R.getD W.length 0]) R := by
  obtain ⟨S, rfl⟩ := h
  cases S with
  | nil => simp at hl
  | cons x S =>
    refine ⟨S, ?_⟩
    have : (W ++ x :: S).getD W.length 0 = x := by
      rw [List.getD_eq_getElem?_getD, List.getElem?_append_right (Nat.le_refl _), Nat.sub_self]; rfl
    rw [this]; simp
theorem Pre.back {v : Nat} (h : Pre (W ++ [v]) R) : Pre W R ∧ W.length < R.length ∧ R.getD W.length 0 = v := by
  obtain ⟨S, rfl⟩ := h
  refine ⟨⟨v :: S, by simp⟩, by simp, ?_⟩
  rw [List.append_assoc, List.getD_eq_getElem?_getD, List.getElem?_append_right (Nat.le_refl _), Nat.sub_self]; rfl
theorem Pre.all (h : Pre W R) (hl : W.length = R.length) : R = W := by
  obtain ⟨S, rfl⟩ := h
  rw [List.length_append] at hl
  have : S = [] := List.eq_nil_of_length_eq_zero (by omega)
  rw [this, List.append_nil]
theorem Pth.snoc {v : Nat} (h : Pth A N W) (hv : v < N) (hm : v ∉ W) (ha : 0 < W.length → A (W.getD (W.length - 1) 0) v) : Pth A N (W ++ [v]) := by
  refine ⟨?_, fun x hx => ?_, fun i hi => ?_⟩
  · rw [List.nodup_append]
    refine ⟨h.nd, by simp, fun a hma b hb => ?_⟩
    simp at hb
    subst hb
    exact fun e => hm (e ▸ hma)
  · rcases List.mem_append.1 hx with hx | hx
    · exact h.lt x hx
    · simp at hx; rw [hx]; exact hv
  · rw [List.length_append, List.length_singleton] at hi
    by_cases e : i + 1 < W.length
    · have := h.arc i e
      rw [List.getD_eq_getElem?_getD, List.getD_eq_getElem?_getD] at this ⊢
      rw [List.getElem?_append_left (by omega), List.getElem?_append_left e]
      exact this
    · have e2 : i + 1 = W.length := by omega
      have := ha (by omega)
      rw [List.getD_eq_getElem?_getD] at this ⊢
      rw [List.getElem?_append_left (by omega), show i = W.length - 1 by omega]
      have e3 : (W ++ [v]).getD (W.length - 1 + 1) 0 = v := by
        rw [List.getD_eq_getElem?_getD, show W.length - 1 + 1 = W.length by omega, List.getElem?_append_right (Nat.le_refl _), Nat.sub_self]; rfl
      rw [e3]
      exact this
theorem SCy.ok {Q : List Nat} {v : Nat} (h : SCy A N L Q) (hp : Pre (W ++ [v]) Q) : v < N ∧ v ∉ W ∧ (0 < W.length → A (W.getD (W.length - 1) 0) v) := by
  obtain ⟨p1, p2, p3⟩ := hp.back
  refine ⟨?_, ?_, fun h0 => ?_⟩
  · rw [← p3]; exact h.p.lt _ (getD_mem p2)
  · obtain ⟨S, e⟩ := hp
    have hn := h.p.nd
    rw [e, List.nodup_append] at hn
    have hn2 := hn.1
    rw [List.nodup_append] at hn2
    exact fun hm => hn2.2.2 v hm v (by simp) rfl
  · have := h.p.arc (W.length - 1) (by omega)
    rw [p1.get (by omega), show W.length - 1 + 1 = W.length by omega, p3] at this
    exact this
theorem WkR.full (hl : W.length = L) (hp : Pth A N W) (h0 : 0 < L) (hb : A (W.getD (L - 1) 0) (W.getD 0 0)) : WkR A N L W W :=
  .inr ⟨⟨hp, hl, h0, hb⟩, ⟨[], by simp⟩, fun Q hQ hQp => .inl (hQp.all (by rw [hQ.len, hl])).symm⟩
theorem WkR.no (hl : W.length = L) (hb : ¬ A (W.getD (L - 1) 0) (W.getD 0 0)) : WkR A N L W [] :=
  .inl ⟨rfl, fun Q hQ hp => hb (by
    have := hp.all (by rw [hQ.len, hl])
    rw [← this]
    exact hQ.back)⟩
theorem WkR.found {k : Nat} (hn : ∀ v, v < k → ∀ Q, SCy A N L Q → ¬ Pre (W ++ [v]) Q) (hW : W.length < L) (h1 : SCy A N L R) (h2 : Pre (W ++ [k]) R) (h3 : ∀ Q, SCy A N L Q → Pre (W ++ [k]) Q → LexLe R Q) : WkR A N L W R := by
  obtain ⟨p1, p2, p3⟩ := h2.back
  refine .inr ⟨h1, p1, fun Q hQ hp => ?_⟩
  have hx := hp.next (by rw [hQ.len]; exact hW)
  rcases Nat.lt_trichotomy (Q.getD W.length 0) k with h | h | h
  · exact absurd hx (hn _ h Q hQ)
  · rw [h] at hx; exact h3 Q hQ hx
  · exact .inr ⟨W.length, p2, by rw [p3]; exact h, fun j hj => by rw [p1.get hj, hp.get hj]⟩
theorem WkR.end (hn : ∀ v, v < N → ∀ Q, SCy A N L Q → ¬ Pre (W ++ [v]) Q) (hW : W.length < L) : WkR A N L W [] :=
  .inl ⟨rfl, fun Q hQ hp => by
    have hx := hp.next (by rw [hQ.len]; exact hW)
    exact hn _ (hQ.ok hx).1 Q hQ hx⟩
theorem SCy.bk (h : SCy A N L R) : ∀ d, d < L → Bk A N (R.getD 0 0) (R.getD (L - 1 - d) 0) (d + 1) := by
  have hlt : ∀ i, i < L → R.getD i 0 < N := fun i hi => h.p.lt _ (getD_mem (by rw [h.len]; exact hi))
  intro d
  induction d with
  | zero => intro _; exact .step (hlt _ (by omega)) (hlt 0 h.pos) h.back .zero
  | succ d ih =>
    intro hd
    have ha := h.p.arc (L - 1 - (d + 1)) (by rw [h.len]; omega)
    rw [show L - 1 - (d + 1) + 1 = L - 1 - d by omega] at ha
    exact .step (hlt _ (by omega)) (hlt _ (by omega)) ha (ih (by omega))
theorem SCy.cl (h : SCy A N L R) : Cl A N (R.getD 0 0) L := by
  have hlt : ∀ i, i < L → R.getD i 0 < N := fun i hi => h.p.lt _ (getD_mem (by rw [h.len]; exact hi))
  by_cases h1 : L = 1
  · have hb := h.back
    rw [h1] at hb
    exact ⟨R.getD 0 0, 0, by omega, hlt 0 h.pos, hb, .zero⟩
  · have hp := h.pos
    have hb := h.bk (L - 2) (by omega)
    rw [show L - 1 - (L - 2) = 1 by omega] at hb
    exact ⟨R.getD 1 0, L - 2 + 1, by omega, hlt 1 (by omega), h.p.arc 0 (by rw [h.len]; omega), hb⟩
theorem SCy.short {k e : Nat} (h : SCy A N L R) (hk : 0 < k) (hkL : k < L) (hb : Bk A N (R.getD 0 0) (R.getD k 0) e) : Cl A N (R.getD 0 0) (k + e) := by
  have hlt : ∀ i, i < L → R.getD i 0 < N := fun i hi => h.p.lt _ (getD_mem (by rw [h.len]; exact hi))
  have hall : ∀ m, m < k → Bk A N (R.getD 0 0) (R.getD (k - m) 0) (m + e) := by
    intro m
    induction m with
    | zero => intro _; rw [Nat.sub_zero, Nat.zero_add]; exact hb
    | succ m ih =>
      intro hm
      have ha := h.p.arc (k - (m + 1)) (by rw [h.len]; omega)
      rw [show k - (m + 1) + 1 = k - m by omega] at ha
      have := Bk.step (hlt _ (by omega)) (hlt _ (by omega)) ha (ih (by omega))
      rw [show m + 1 + e = m + e + 1 by omega]
      exact this
  have h1 := hall (k - 1) (by omega)
  rw [show k - (k - 1) = 1 by omega] at h1
  exact ⟨R.getD 1 0, k - 1 + e, by omega, hlt 1 (by omega), h.p.arc 0 (by rw [h.len]; omega), h1⟩
theorem cyc_scy {C : List Nat} (h : Cyc N C.length A (fun i => ((C.getD i 0 : Nat) : Int))) : SCy A N C.length C := by
  obtain ⟨h0, h1, h2, h3⟩ := h
  refine ⟨⟨?_, fun x hx => ?_, fun i hi => ?_⟩, rfl, h0, ?_⟩
  · rw [List.nodup_iff_pairwise_ne, List.pairwise_iff_getElem]
    intro i j hi hj hij e
    refine h2 i j hij hj ?_
    dsimp only
    rw [List.getD_eq_getElem?_getD, List.getD_eq_getElem?_getD, List.getElem?_eq_getElem hi, List.getElem?_eq_getElem hj, e]
  · obtain ⟨i, hi, rfl⟩ := List.getElem_of_mem hx
    have := (h1 i hi).2
    dsimp only at this
    rw [List.getD_eq_getElem?_getD, List.getElem?_eq_getElem hi] at this
    exact_mod_cast this
  · have := h3 (i + 1) hi
    rw [if_neg (Nat.succ_ne_zero i), Nat.add_sub_cancel] at this
    simpa using this
  · have := h3 0 h0
    rw [if_pos rfl] at this
    simpa using this
/-- what the reference's Cycle answers -/
def RfC (A : Nat → Nat → Prop) (N : Nat) (R : List Nat) : Prop :=
  (R = [] ∧ ∀ L, 0 < L → L ≤ N → ∀ Q, ¬ SCy A N L Q) ∨ ∃ L, L ≤ N ∧ (∀ k, k < L → ∀ Q, ¬ SCy A N k Q) ∧ SCy A N L R ∧ ∀ Q, SCy A N L Q → LexLe R Q
theorem cyc_rf {C : List Nat} (hc : CyR A N C) (hl : C.length ≤ N) (hr : RfC A N R) : C = R := by
  rcases Nat.eq_zero_or_pos C.length with h0 | h0
  · obtain rfl : C = [] := List.eq_nil_of_length_eq_zero h0
    rcases hr with ⟨rfl, _⟩ | ⟨L, hL, _, hR, _⟩
    · rfl
    · rcases hc with ⟨_, h⟩ | ⟨s, _, h, _⟩
      · exact absurd hR.cl (h _ _ (hR.p.lt _ (getD_mem (by rw [hR.len]; exact hR.pos))))
      · simp at h
  · have hC := cyc_scy (hc.cyc h0)
    rcases hc with ⟨rfl, _⟩ | ⟨st, hst, _, hcl, hmin, hfst, hgr⟩
    · simp at h0
    rcases hr with ⟨_, h⟩ | ⟨L, hL, hno, hR, hlex⟩
    · exact absurd hC (h _ h0 hl C)
    have hR0 : R.getD 0 0 < N := hR.p.lt _ (getD_mem (by rw [hR.len]; exact hR.pos))
    have hLC : L = C.length := by
      rcases Nat.lt_trichotomy L C.length with e | e | e
      · exact absurd hR.cl (hmin _ _ hR0 e)
      · exact e
      · exact absurd hC (hno _ e C)
    subst hLC
    rcases hlex C hC with e | ⟨i, hi, hlt, heq⟩
    · exact e.symm
    · exfalso
      rw [hR.len] at hi
      cases i with
      | zero =>
        rw [hgr.2.2.1] at hlt
        exact hfst _ hlt hR.cl
      | succ k =>
        have h00 : R.getD 0 0 = st := by rw [heq 0 (by omega)]; exact hgr.2.2.1
        have hk := heq k (by omega)
        have ha := hR.p.arc k (by rw [hR.len]; exact hi)
        rw [hk] at ha
        have hb := hR.bk (C.length - 1 - (k + 1)) (by omega)
        rw [show C.length - 1 - (C.length - 1 - (k + 1)) = k + 1 by omega, show C.length - 1 - (k + 1) + 1 = C.length - (k + 1) by omega, h00] at hb
        have := (hgr.2.2.2 k hi).2.2.2 (R.getD (k + 1) 0) (hR.p.lt _ (getD_mem (by rw [hR.len]; exact hi))) ha ⟨hb, fun d hd hbd => by
          have hs := hR.short (k := k + 1) (e := d) (by omega) hi (by rw [h00]; exact hbd)
          exact hmin _ _ hR0 (by omega) hs⟩
        omega
end
end Go.Proofs.Ytcolcgkfppjflaa
