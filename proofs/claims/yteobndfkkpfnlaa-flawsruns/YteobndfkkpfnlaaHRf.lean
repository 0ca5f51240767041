/-
  The reference's way and the program's (mathematics).
-/
import Derived.Test.YteobndfkkpfnlaaHRb
import Derived.Test.YteobndfkkpfnlaaHRc
namespace Go.Proofs.Yteobndfkkpfnlaa
/-- the event that began the j-th transaction -/
def frm (E : Nat → Ev) : Nat → Nat → Nat
  | 0 => fun _ => 0
  | i + 1 => if (E i).k = 1 then (fun j => if j = (stateAt E i).m then i else frm E i j) else frm E i

/-- what holds of it -/
structure Fr (E : Nat → Ev) (s : St) (F : Nat → Nat) (i : Nat) : Prop where
  lt : ∀ j, j < s.m → F j < i
  inj : ∀ j j', j < s.m → j' < s.m → F j = F j' → j = j'
  cl : ∀ j, j < s.m → (E (F j)).c = (s.T j).c
  some : ∀ c x, s.bz c = some x → ∃ j : Nat, x = (j : Int) ∧ j < s.m ∧ lst E c i = some (F j) ∧ (E (F j)).k = 1 ∧ (s.T j).n = (E (F j)).n ∧ (s.T j).o = (E (F j)).o
  none : ∀ c, s.bz c = none → ∀ p, lst E c i = Option.some p → ¬ (E p).k = 1
  wm : ∀ v, (s.wm v).isSome = true ↔ ∃ q y, q < i ∧ (E q).k = 1 ∧ y < (E q).n ∧ ((E q).o y).k = 2 ∧ ((E q).o y).v = v

set_option maxRecDepth 100000 in
theorem wmI_some (o : Nat → O3) (m : Nat) (wm : Int → Option Int) (v : Int) : ∀ n, (wmI o m wm n v).isSome = true ↔ ((wm v).isSome = true ∨ ∃ y, y < n ∧ (o y).k = 2 ∧ (o y).v = v) := by
  intro n
  induction n with
  | zero => exact ⟨fun h => .inl h, fun h => by rcases h with h | ⟨y, hy, _⟩; exact h; omega⟩
  | succ n ih =>
    show (((if (o n).k = 2 then (fun y => if y = (o n).v then some (m : Int) else wmI o m wm n y) else wmI o m wm n) v)).isSome = true ↔ _
    by_cases hk : (o n).k = 2
    · rw [if_pos hk]
      by_cases hv : v = (o n).v
      · (try dsimp only)
        rw [if_pos hv]
        exact ⟨fun _ => .inr ⟨n, by omega, hk, hv.symm⟩, fun _ => rfl⟩
      · (try dsimp only)
        rw [if_neg hv, ih]
        constructor
        · rintro (h | ⟨y, hy, h1, h2⟩)
          · exact .inl h
          · exact .inr ⟨y, by omega, h1, h2⟩
        · rintro (h | ⟨y, hy, h1, h2⟩)
          · exact .inl h
          · by_cases hyn : y = n
            · subst hyn; exact absurd h2.symm hv
            · exact .inr ⟨y, by omega, h1, h2⟩
    · rw [if_neg hk, ih]
      constructor
      · rintro (h | ⟨y, hy, h1, h2⟩)
        · exact .inl h
        · exact .inr ⟨y, by omega, h1, h2⟩
      · rintro (h | ⟨y, hy, h1, h2⟩)
        · exact .inl h
        · by_cases hyn : y = n
          · subst hyn; exact absurd h1 hk
          · exact .inr ⟨y, by omega, h1, h2⟩

set_option maxRecDepth 100000 in
theorem fr_at (E : Nat → Ev) : ∀ i, Good E i → Fr E (stateAt E i) (frm E i) i := by
  intro i
  induction i with
  | zero => exact fun _ => ⟨fun j hj => absurd hj (Nat.not_lt_zero _), fun j _ hj => absurd hj (Nat.not_lt_zero _), fun j hj => absurd hj (Nat.not_lt_zero _), fun c x hx => (by cases hx), fun c _ p hp => (by cases hp), fun v => ⟨fun h => (by cases h), fun ⟨q, y, hq, _⟩ => absurd hq (Nat.not_lt_zero _)⟩⟩
  | succ i ih =>
    intro hg
    have hf := ih fun j hj => hg j (by omega)
    have he := hg i (by omega)
    have hkk := kept_at E i fun j hj => hg j (by omega)
    have hF : frm E (i + 1) = if (E i).k = 1 then (fun j => if j = (stateAt E i).m then i else frm E i j) else frm E i := rfl
    have hL : ∀ c, lst E c (i + 1) = if (E i).c = c then some i else lst E c i := fun c => rfl
    show Fr E (nextS (stateAt E i) (E i)) (frm E (i + 1)) (i + 1)
    rw [hF]
    generalize frm E i = F at *
    generalize stateAt E i = s at *
    by_cases hk : (E i).k = 1
    · rw [if_pos hk]
      unfold nextS
      rw [if_pos hk]
      have hlo : ∀ j, j < s.m → (if j = s.m then i else F j) = F j := fun j hj => if_neg (by omega)
      refine ⟨fun j hj => ?_, fun j j' hj hj' h => ?_, fun j hj => ?_, fun c x hx => ?_, fun c hx p hp => ?_, fun v => ?_⟩
      · (try dsimp only)
        have hj2 : j < s.m + 1 := hj
        split
        · omega
        · have := hf.lt j (by omega); omega
      · have hj2 : j < s.m + 1 := hj
        have hj3 : j' < s.m + 1 := hj'
        (try dsimp only at h)
        by_cases h1 : j = s.m
        · by_cases h2 : j' = s.m
          · omega
          · rw [if_pos h1, if_neg h2] at h
            have := hf.lt j' (by omega); omega
        · by_cases h2 : j' = s.m
          · rw [if_neg h1, if_pos h2] at h
            have := hf.lt j (by omega); omega
          · rw [if_neg h1, if_neg h2] at h
            exact hf.inj j j' (by omega) (by omega) h
      · have hj2 : j < s.m + 1 := hj
        (try dsimp only)
        by_cases h1 : j = s.m
        · rw [if_pos h1, if_pos h1]
        · rw [if_neg h1, if_neg h1]; exact hf.cl j (by omega)
      · (try dsimp only at hx)
        by_cases hc : c = (E i).c
        · rw [if_pos hc] at hx
          injection hx with hx
          refine ⟨s.m, hx.symm, Nat.lt_succ_self _, ?_, ?_, ?_, ?_⟩
          · (try dsimp only); rw [hL, if_pos hc.symm, if_pos rfl]
          · (try dsimp only); rw [if_pos rfl]; exact hk
          · (try dsimp only); rw [if_pos rfl, if_pos rfl]
          · (try dsimp only); rw [if_pos rfl, if_pos rfl]
        · rw [if_neg hc] at hx
          obtain ⟨j, e1, hj, e2, e3, e4, e5⟩ := hf.some c x hx
          refine ⟨j, e1, Nat.lt_succ_of_lt hj, ?_, ?_, ?_, ?_⟩
          · (try dsimp only); rw [hL, if_neg (fun h => hc h.symm), hlo j hj]; exact e2
          · (try dsimp only); rw [hlo j hj]; exact e3
          · (try dsimp only); rw [if_neg (by omega), hlo j hj]; exact e4
          · (try dsimp only); rw [if_neg (by omega), hlo j hj]; exact e5
      · (try dsimp only at hx)
        by_cases hc : c = (E i).c
        · rw [if_pos hc] at hx; cases hx
        · rw [if_neg hc] at hx
          rw [hL, if_neg (fun h => hc h.symm)] at hp
          exact hf.none c hx p hp
      · (try dsimp only)
        rw [wmI_some, hf.wm]
        constructor
        · rintro (⟨q, y, h1, h2, h3, h4, h5⟩ | ⟨y, h3, h4, h5⟩)
          · exact ⟨q, y, by omega, h2, h3, h4, h5⟩
          · exact ⟨i, y, by omega, hk, h3, h4, h5⟩
        · rintro ⟨q, y, h1, h2, h3, h4, h5⟩
          by_cases hq : q = i
          · subst hq; exact .inr ⟨y, h3, h4, h5⟩
          · exact .inl ⟨q, y, by omega, h2, h3, h4, h5⟩
    · rw [if_neg hk]
      have hb : (s.bz (E i).c).isSome = true := by
        rcases he with ⟨_, h⟩ | ⟨_, _, h⟩ | ⟨_, h, _⟩ | ⟨_, h, _⟩ | ⟨_, _, h, _⟩
        · cases h
        · cases h
        · exact absurd h hk
        · exact absurd h hk
        · exact h
      obtain ⟨x0, hx0⟩ := Option.isSome_iff_exists.1 hb
      obtain ⟨z, rfl, hzm, hz0, hzc⟩ := hkk.bz (E i).c x0 hx0
      have hix : idx s (E i) = z := by unfold idx; simp [hx0]
      have hcc : ∀ t : Tx, (endT t (E i).k (E i).n (E i).o).c = t.c := fun t => by
        unfold endT
        split
        · rfl
        · split <;> rfl
      unfold nextS
      rw [if_neg hk, hix]
      refine ⟨fun j hj => ?_, fun j j' hj hj' h => hf.inj j j' hj hj' h, fun j hj => ?_, fun c x hx => ?_, fun c hx p hp => ?_, fun v => ?_⟩
      · have := hf.lt j hj; omega
      · (try dsimp only)
        by_cases h1 : j = z
        · rw [if_pos h1, hcc, ← h1]; exact hf.cl j hj
        · rw [if_neg h1]; exact hf.cl j hj
      · (try dsimp only at hx)
        by_cases hc : c = (E i).c
        · rw [if_pos hc] at hx; cases hx
        · rw [if_neg hc] at hx
          obtain ⟨j, e1, hj, e2, e3, e4, e5⟩ := hf.some c x hx
          have hjz : ¬ j = z := fun h => hc (by have h1 := (lst_lt E c i _ e2).2; rw [hf.cl j hj, h, hzc] at h1; exact h1.symm)
          refine ⟨j, e1, hj, ?_, e3, ?_, ?_⟩
          · rw [hL, if_neg (fun h => hc h.symm)]; exact e2
          · (try dsimp only); rw [if_neg hjz]; exact e4
          · (try dsimp only); rw [if_neg hjz]; exact e5
      · (try dsimp only at hx)
        rw [hL] at hp
        by_cases hc : c = (E i).c
        · rw [if_pos hc.symm] at hp
          injection hp with hp
          rw [← hp]; exact hk
        · rw [if_neg hc] at hx
          rw [if_neg (fun h => hc h.symm)] at hp
          exact hf.none c hx p hp
      · (try dsimp only)
        rw [hf.wm]
        constructor
        · rintro ⟨q, y, h1, h2, h3, h4, h5⟩
          exact ⟨q, y, by omega, h2, h3, h4, h5⟩
        · rintro ⟨q, y, h1, h2, h3, h4, h5⟩
          by_cases hq : q = i
          · subst hq; exact absurd h2 hk
          · exact ⟨q, y, by omega, h2, h3, h4, h5⟩

set_option maxRecDepth 100000 in
/-- the reference's twice is the program's -/
theorem tw_dup {E : Nat → Ev} {i : Nat} {s : St} {F : Nat → Nat} (h : Fr E s F i) (hk : (E i).k = 1) : Tw E i ↔ ∃ x, x < (E i).n ∧ Dup (E i).o s.m s.wm x := by
  constructor
  · rintro ⟨x, q, y, hx, h2, hq, hq1, hy, hor, hy2, hyv⟩
    refine ⟨x, hx, h2, ?_⟩
    rw [wmI_some, h.wm]
    by_cases hqi : q < i
    · exact .inl ⟨q, y, hqi, hq1, hy, hy2, hyv⟩
    · obtain rfl : q = i := by omega
      exact .inr ⟨y, by omega, hy2, hyv⟩
  · rintro ⟨x, hx, h2, hs⟩
    rw [wmI_some, h.wm] at hs
    rcases hs with ⟨q, y, h1, h3, h4, h5, h6⟩ | ⟨y, h4, h5, h6⟩
    · exact ⟨x, q, y, hx, h2, by omega, h3, h4, .inl h1, h5, h6⟩
    · exact ⟨x, i, y, hx, h2, Nat.le_refl _, hk, by omega, .inr h4, h5, h6⟩

end Go.Proofs.Yteobndfkkpfnlaa
