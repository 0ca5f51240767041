/-
  The way back: mathematics.
-/
import Derived.Test.YtcolcgkfppjflaaL
namespace Go.Proofs.Ytcolcgkfppjflaa
set_option linter.unusedVariables false

/-- by so many arcs from a node to the start -/
inductive Bk (A : Nat → Nat → Prop) (N st : Nat) : Nat → Nat → Prop
  | zero : Bk A N st st 0
  | step {x y d : Nat} : x < N → y < N → A x y → Bk A N st y d → Bk A N st x (d + 1)
/-- and by no fewer -/
def Ds (A : Nat → Nat → Prop) (N st x d : Nat) : Prop := Bk A N st x d ∧ ∀ d', d' < d → ¬ Bk A N st x d'
/-- a way round of so many arcs -/
def Cl (A : Nat → Nat → Prop) (N st l : Nat) : Prop := ∃ y d, l = d + 1 ∧ y < N ∧ A st y ∧ Bk A N st y d
theorem least {p : Nat → Prop} : ∀ n, p n → ∃ m, m ≤ n ∧ p m ∧ ∀ k, k < m → ¬ p k := by
  intro n
  induction n using Nat.strongRecOn with
  | _ n ih =>
    intro h
    by_cases hm : ∃ m, m < n ∧ p m
    · obtain ⟨m, hlt, hp⟩ := hm
      obtain ⟨k, h1, h2, h3⟩ := ih m hlt hp
      exact ⟨k, by omega, h2, h3⟩
    · exact ⟨n, Nat.le_refl _, h, fun k hk hp => hm ⟨k, hk, hp⟩⟩
section
variable {A : Nat → Nat → Prop} {N st : Nat}
theorem Bk.ds {x d : Nat} (h : Bk A N st x d) : ∃ e, e ≤ d ∧ Ds A N st x e := by
  obtain ⟨m, h1, h2, h3⟩ := least (p := fun d => Bk A N st x d) d h
  exact ⟨m, h1, h2, h3⟩
theorem Ds.one {x d e : Nat} (h : Ds A N st x d) (k : Ds A N st x e) : d = e := by
  rcases Nat.lt_trichotomy d e with h1 | h1 | h1
  · exact absurd h.1 (k.2 d h1)
  · exact h1
  · exact absurd k.1 (h.2 e h1)
theorem Ds.zero {x : Nat} (h : Ds A N st x 0) : x = st := by
  have := h.1
  cases this with
  | zero => rfl
theorem Ds.step {x d : Nat} (h : Ds A N st x (d + 1)) : ∃ y, x < N ∧ y < N ∧ A x y ∧ Ds A N st y d := by
  have h1 := h.1
  cases h1 with
  | @step _ y _ hx hy ha hb =>
    refine ⟨y, hx, hy, ha, hb, fun d' hd' hb' => h.2 (d' + 1) (by omega) (.step hx hy ha hb')⟩
/-- the search: the line, what lies behind its first k -/
structure Bf (A : Nat → Nat → Prop) (N st : Nat) (F : Nat → List Nat) (k : Nat) (Q : List Nat) (W : Nat → Int) : Prop where
  fst : Q.getD 0 0 = st ∧ 0 < Q.length
  nd : Q.Nodup
  mem : ∀ x, x < N → (x ∈ Q ↔ 0 ≤ W x)
  lt : ∀ x ∈ Q, x < N
  ds : ∀ x, x < N → 0 ≤ W x → Ds A N st x (W x).toNat
  neg : ∀ x, x < N → W x < 0 → W x = -1
  up : ∀ i j, i ≤ j → j < Q.length → W (Q.getD i 0) ≤ W (Q.getD j 0)
  cl : ∀ i, i < k → i < Q.length → ∀ p ∈ F (Q.getD i 0), p ≠ st ∧ 0 ≤ W p
/-- whatever is nearer than the k-th of the line lies ahead of it -/
theorem Bf.near {F : Nat → List Nat} {k : Nat} {Q : List Nat} {W : Nat → Int} (h : Bf A N st F k Q W) (hF : ∀ i, i < N → ∀ j, j ∈ F i ↔ j < N ∧ A j i) (hk : k < Q.length) :
    ∀ d x, Ds A N st x d → (d : Int) < W (Q.getD k 0) → ∃ i, i < k ∧ Q.getD i 0 = x := by
  have hin : ∀ x, x ∈ Q → W x < W (Q.getD k 0) → ∃ i, i < k ∧ Q.getD i 0 = x := fun x hx hw => by
    obtain ⟨i, hi, e⟩ := List.getElem_of_mem hx
    have e' : Q.getD i 0 = x := by rw [List.getD_eq_getElem?_getD, List.getElem?_eq_getElem hi]; exact e
    refine ⟨i, ?_, e'⟩
    rcases Nat.lt_or_ge i k with h1 | h1
    · exact h1
    · have := h.up k i h1 hi
      rw [e'] at this
      omega
  have hst : st ∈ Q := by
    rw [← h.fst.1, List.getD_eq_getElem?_getD, List.getElem?_eq_getElem h.fst.2]
    exact List.getElem_mem _
  intro d
  induction d with
  | zero =>
    intro x hx hw
    have hxs := hx.zero
    subst hxs
    have hxN := h.lt x hst
    have h1 := h.ds x hxN ((h.mem x hxN).1 hst)
    have h2 := h1.one hx
    have h3 := (h.mem x hxN).1 hst
    exact hin x hst (by omega)
  | succ d ih =>
    intro x hx hw
    obtain ⟨y, hxN, hyN, ha, hy⟩ := hx.step
    obtain ⟨i, hi, e⟩ := ih y hy (by omega)
    have h1 := h.cl i hi (by omega) x (by rw [e]; exact (hF y hyN x).2 ⟨hxN, ha⟩)
    have h2 := (h.ds x hxN h1.2).one hx
    exact hin x ((h.mem x hxN).2 h1.2) (by omega)
/-- no way round is as short as that -/
theorem Bf.none {F : Nat → List Nat} {k : Nat} {Q : List Nat} {W : Nat → Int} (h : Bf A N st F k Q W) (hF : ∀ i, i < N → ∀ j, j ∈ F i ↔ j < N ∧ A j i) (hst : st < N) (hk : k < Q.length) (l : Nat) (hl : (l : Int) ≤ W (Q.getD k 0)) : ¬ Cl A N st l := by
  rintro ⟨y, d, rfl, hyN, ha, hb⟩
  obtain ⟨e, he, hd⟩ := hb.ds
  obtain ⟨i, hi, e2⟩ := h.near hF hk e y hd (by omega)
  exact (h.cl i hi (by omega) st (by rw [e2]; exact (hF y hyN st).2 ⟨hst, ha⟩)).1 rfl
/-- all is known that is no farther than the k-th of the line -/
theorem Bf.known {F : Nat → List Nat} {k : Nat} {Q : List Nat} {W : Nat → Int} (h : Bf A N st F k Q W) (hF : ∀ i, i < N → ∀ j, j ∈ F i ↔ j < N ∧ A j i) (hk : k < Q.length) (x d : Nat) (hx : x < N) (hd : (d : Int) ≤ W (Q.getD k 0)) : W x = (d : Int) ↔ Ds A N st x d := by
  constructor
  · intro e
    have := h.ds x hx (by omega)
    rw [e] at this
    simpa using this
  · intro hds
    have hw : 0 ≤ W x := by
      cases d with
      | zero =>
        have hxs := hds.zero
        subst hxs
        refine (h.mem x hx).1 ?_
        rw [← h.fst.1, List.getD_eq_getElem?_getD, List.getElem?_eq_getElem h.fst.2]
        exact List.getElem_mem _
      | succ d =>
        obtain ⟨y, hxN, hyN, ha, hy⟩ := hds.step
        obtain ⟨i, hi, e⟩ := h.near hF hk d y hy (by omega)
        exact (h.cl i hi (by omega) x (by rw [e]; exact (hF y hyN x).2 ⟨hxN, ha⟩)).2
    have := (h.ds x hx hw).one hds
    omega
theorem Bf.end {F : Nat → List Nat} {Q : List Nat} {W : Nat → Int} (h : Bf A N st F Q.length Q W) (hF : ∀ i, i < N → ∀ j, j ∈ F i ↔ j < N ∧ A j i) (hst : st < N) (l : Nat) : ¬ Cl A N st l := by
  have hall : ∀ x d, Bk A N st x d → x ∈ Q := by
    intro x d hb
    induction hb with
    | zero =>
      rw [← h.fst.1, List.getD_eq_getElem?_getD, List.getElem?_eq_getElem h.fst.2]
      exact List.getElem_mem _
    | @step x y d hx hy ha hb ih =>
      obtain ⟨i, hi, e⟩ := List.getElem_of_mem ih
      have e' : Q.getD i 0 = y := by rw [List.getD_eq_getElem?_getD, List.getElem?_eq_getElem hi]; exact e
      exact (h.mem x hx).2 (h.cl i hi hi x (by rw [e']; exact (hF y hy x).2 ⟨hx, ha⟩)).2
  rintro ⟨y, d, rfl, hyN, ha, hb⟩
  obtain ⟨i, hi, e⟩ := List.getElem_of_mem (hall y d hb)
  have e' : Q.getD i 0 = y := by rw [List.getD_eq_getElem?_getD, List.getElem?_eq_getElem hi]; exact e
  exact (h.cl i hi hi st (by rw [e']; exact (hF y hyN st).2 ⟨hst, ha⟩)).1 rfl
theorem getD_snoc (Q : List Nat) (p i : Nat) (hi : i < Q.length) : (Q ++ [p]).getD i 0 = Q.getD i 0 := by
  rw [List.getD_eq_getElem?_getD, List.getD_eq_getElem?_getD, List.getElem?_append_left hi]
theorem getD_last (Q : List Nat) (p : Nat) : (Q ++ [p]).getD Q.length 0 = p := by
  rw [List.getD_eq_getElem?_getD, List.getElem?_append_right (Nat.le_refl _)]; simp
/-- one more is found from the k-th of the line -/
theorem Bf.add {F : Nat → List Nat} {k p : Nat} {Q : List Nat} {W : Nat → Int} (h : Bf A N st F k Q W) (hF : ∀ i, i < N → ∀ j, j ∈ F i ↔ j < N ∧ A j i) (hk : k < Q.length) (hfar : ∀ x ∈ Q, W x ≤ W (Q.getD k 0) + 1) (hp : p ∈ F (Q.getD k 0)) (hps : p ≠ st) (hw : W p < 0) :
    Bf A N st F k (Q ++ [p]) (fun x => if x = p then W (Q.getD k 0) + 1 else W x) ∧ ∀ x ∈ Q ++ [p], (if x = p then W (Q.getD k 0) + 1 else W x) ≤ W (Q.getD k 0) + 1 := by
  have huQ : Q.getD k 0 ∈ Q := by
    rw [List.getD_eq_getElem?_getD, List.getElem?_eq_getElem hk]; exact List.getElem_mem _
  have huN := h.lt _ huQ
  have hu0 := (h.mem _ huN).1 huQ
  have hpN := ((hF _ huN p).1 hp).1
  have hpA := ((hF _ huN p).1 hp).2
  have hpQ : p ∉ Q := fun hm => by have := (h.mem p hpN).1 hm; omega
  have hne : ∀ x ∈ Q, x ≠ p := fun x hx e => hpQ (by rw [← e]; exact hx)
  have hget : ∀ i, i < Q.length → Q.getD i 0 ≠ p := fun i hi => hne _ (by rw [List.getD_eq_getElem?_getD, List.getElem?_eq_getElem hi]; exact List.getElem_mem _)
  refine ⟨⟨?_, ?_, ?_, ?_, ?_, ?_, ?_, ?_⟩, ?_⟩
  · rw [getD_snoc Q p 0 h.fst.2]; exact ⟨h.fst.1, by simp⟩
  · exact List.nodup_append.2 ⟨h.nd, by simp, by intro a ha b hb e; simp at hb; rw [e, hb] at ha; exact hpQ ha⟩
  · intro x hx
    by_cases hxp : x = p
    · rw [if_pos hxp]; exact ⟨fun _ => by omega, fun _ => by simp [hxp]⟩
    · rw [if_neg hxp, ← h.mem x hx]; simp [hxp]
  · intro x hx
    rcases List.mem_append.1 hx with h1 | h1
    · exact h.lt x h1
    · rw [List.mem_singleton.1 h1]; exact hpN
  · intro x hx h0
    by_cases hxp : x = p
    · subst hxp
      rw [if_pos rfl]
      have hd := h.ds _ huN hu0
      have e1 : (W (Q.getD k 0) + 1).toNat = (W (Q.getD k 0)).toNat + 1 := by omega
      rw [e1]
      refine ⟨.step hx huN hpA hd.1, fun d' hd' hb => ?_⟩
      obtain ⟨e, he, hde⟩ := hb.ds
      cases e with
      | zero => exact hps hde.zero
      | succ e =>
        obtain ⟨y, _, hyN, ha, hy⟩ := hde.step
        obtain ⟨i, hi, e2⟩ := h.near hF hk e y hy (by omega)
        have := (h.cl i hi (by omega) x (by rw [e2]; exact (hF y hyN x).2 ⟨hx, ha⟩)).2
        omega
    · rw [if_neg hxp] at h0 ⊢; exact h.ds x hx h0
  · intro x hx h0
    by_cases hxp : x = p
    · rw [if_pos hxp] at h0; omega
    · rw [if_neg hxp] at h0 ⊢; exact h.neg x hx h0
  · intro i j hij hj
    rw [List.length_append, List.length_singleton] at hj
    by_cases hjl : j < Q.length
    · rw [getD_snoc Q p j hjl, getD_snoc Q p i (by omega), if_neg (hget j hjl), if_neg (hget i (by omega))]
      exact h.up i j hij hjl
    · have ej : j = Q.length := by omega
      rw [ej, getD_last, if_pos rfl]
      by_cases hil : i < Q.length
      · rw [getD_snoc Q p i hil, if_neg (hget i hil)]
        exact hfar _ (by rw [List.getD_eq_getElem?_getD, List.getElem?_eq_getElem hil]; exact List.getElem_mem _)
      · have ei : i = Q.length := by omega
        rw [ei, getD_last, if_pos rfl]
        exact Int.le_refl _
  · intro i hi hil q hq
    have hil' : i < Q.length := by omega
    rw [getD_snoc Q p i hil'] at hq
    have := h.cl i hi hil' q hq
    refine ⟨this.1, ?_⟩
    by_cases hqp : q = p
    · rw [if_pos hqp]; omega
    · rw [if_neg hqp]; exact this.2
  · intro x hx
    by_cases hxp : x = p
    · rw [if_pos hxp]; exact Int.le_refl _
    · rw [if_neg hxp]
      rcases List.mem_append.1 hx with h1 | h1
      · exact hfar x h1
      · exact absurd (List.mem_singleton.1 h1) hxp
theorem Bf.next {F : Nat → List Nat} {k : Nat} {Q : List Nat} {W : Nat → Int} (h : Bf A N st F k Q W) (hk : k < Q.length) (ha : ∀ p ∈ F (Q.getD k 0), p ≠ st ∧ 0 ≤ W p) : Bf A N st F (k + 1) Q W :=
  ⟨h.fst, h.nd, h.mem, h.lt, h.ds, h.neg, h.up, fun i hi hil => by
    by_cases h1 : i < k
    · exact h.cl i h1 hil
    · have : i = k := by omega
      rw [this]; exact ha⟩
theorem Bf.start {F : Nat → List Nat} (hst : st < N) : Bf A N st F 0 [st] (fun x => if x = st then 0 else -1) := by
  refine ⟨⟨rfl, by simp⟩, by simp, fun x hx => ?_, fun x hx => by rw [List.mem_singleton.1 hx]; exact hst, fun x hx h0 => ?_, fun x hx h0 => ?_, fun i j hij hj => ?_, fun i hi => absurd hi (Nat.not_lt_zero _)⟩
  · by_cases h : x = st
    · rw [if_pos h]; simp [h]
    · rw [if_neg h]; simp [h]
  · by_cases h : x = st
    · rw [if_pos h, h]; exact ⟨.zero, fun d' hd' => absurd hd' (Nat.not_lt_zero _)⟩
    · rw [if_neg h] at h0; omega
  · by_cases h : x = st
    · rw [if_pos h] at h0; omega
    · rw [if_neg h]
  · simp at hj
    have : i = 0 := by omega
    rw [this, hj]
    exact Int.le_refl _
end
end Go.Proofs.Ytcolcgkfppjflaa
