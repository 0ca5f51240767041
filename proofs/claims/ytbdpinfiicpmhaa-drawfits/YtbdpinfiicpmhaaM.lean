/-
  What a client's transactions are, as numbers: plain mathematics over the draws.
-/
import Derived.Test.YtbdpinfiicpmhaaH
import Derived.Test.YtbdpinfiicpmhaaO
namespace Go.Proofs.Ytbdpinfiicpmhaa
open Go.ChangeShapes Go.WideShapes Go.ChangeAt Go.RowKit RefMath

/-- a plan -/
structure Pl where
  keys : Int
  most : Int
  r : Int
  w : Int
  b : Int
  s : Int
def Pl.sum (p : Pl) : Int := p.r + p.w + p.b + p.s
/-- each number is one of the machine's -/
def Pl.fits (p : Pl) : Prop := ∀ x ∈ [p.keys, p.most, p.r, p.w, p.b, p.s], -9223372036854775808 ≤ x ∧ x ≤ 9223372036854775807
def wOk (x : Int) : Prop := 0 ≤ x ∧ x ≤ 1000
/-- a plan that is right -/
structure Pl.right (p : Pl) : Prop where
  k1 : 1 ≤ p.keys
  k2 : p.keys ≤ 16
  m1 : 1 ≤ p.most
  m2 : p.most ≤ 12
  r : wOk p.r
  w : wOk p.w
  b : wOk p.b
  s : wOk p.s
  pos : 0 < p.sum
def rdO (key : Int) : O3 := ⟨1, key, 0⟩
def wrO (c key : Int) (n : Nat) : O3 := ⟨2, key, 16 * (n : Int) + c - 1⟩
def scanL (key : Int) (m : Nat) : List O3 := (List.range m).map fun (i : Nat) => rdO (key + (i : Int))
theorem scanL_len (key : Int) (m : Nat) : (scanL key m).length = m := by simp [scanL]
theorem scanL_succ (key : Int) (m : Nat) : scanL key (m + 1) = scanL key m ++ [rdO (key + (m : Int))] := by
  unfold scanL; rw [List.range_succ, List.map_append]; rfl
/-- what is made at once: the operations, the state of the draws, the writes so far -/
def smO (p : Pl) (c : Int) (st n : Nat) (room : Int) : List O3 × Nat × Nat :=
  let key := drawn st p.keys
  let x := drawn (MixMath.nxt st) p.sum
  let s2 := MixMath.nxt (MixMath.nxt st)
  if x < p.r then ([rdO key], s2, n)
  else if x < p.r + p.w then ([wrO c key (n + 1)], s2, n + 1)
  else if x < p.r + p.w + p.b then (if 1 < room then ([rdO key, wrO c key (n + 1)], s2, n + 1) else ([rdO key], s2, n))
  else (scanL key (min (min (1 + drawn s2 3) room) (p.keys - key)).toNat, MixMath.nxt s2, n)
theorem drawn_in {p : Pl} (hp : p.right) (st : Nat) : 0 ≤ drawn st p.keys ∧ drawn st p.keys < p.keys :=
  ⟨drawn_nonneg _ _, drawn_lt _ _ (by have := hp.k1; omega)⟩
theorem smO_len {p : Pl} (hp : p.right) (c : Int) (st n : Nat) (room : Int) (hr : 1 ≤ room) : 1 ≤ (smO p c st n room).1.length ∧ ((smO p c st n room).1.length : Int) ≤ room := by
  have hk := drawn_in hp st
  have h3 := drawn_nonneg (MixMath.nxt (MixMath.nxt st)) 3
  unfold smO
  dsimp only
  split
  · exact ⟨by simp, by simpa using hr⟩
  · split
    · exact ⟨by simp, by simpa using hr⟩
    · split
      · split
        · exact ⟨by simp, by simp; omega⟩
        · exact ⟨by simp, by simpa using hr⟩
      · dsimp only
        rw [scanL_len]
        omega
theorem smO_n (p : Pl) (c : Int) (st n : Nat) (room : Int) : n ≤ (smO p c st n room).2.2 ∧ (smO p c st n room).2.2 ≤ n + 1 := by
  unfold smO
  dsimp only
  split
  · simp
  · split
    · simp
    · split
      · split <;> simp
      · simp
theorem smO_st (p : Pl) (c : Int) (st n : Nat) (room : Int) : (smO p c st n room).2.1 < 18446744073709551616 := by
  unfold smO
  dsimp only
  have h1 := MixMath.nxt_lt' (MixMath.nxt st)
  have h2 := MixMath.nxt_lt' (MixMath.nxt (MixMath.nxt st))
  split
  · exact h1
  · split
    · exact h1
    · split
      · split <;> exact h1
      · exact h2
/-- a round of the making of a transaction -/
def stp (p : Pl) (c : Int) (want : Nat) (s : List O3 × Nat × Nat) : List O3 × Nat × Nat :=
  if s.1.length < want then
    let r := smO p c s.2.1 s.2.2 ((want : Int) - (s.1.length : Int))
    (s.1 ++ r.1, r.2.1, r.2.2)
  else s
def its (p : Pl) (c : Int) (want : Nat) (s : List O3 × Nat × Nat) : Nat → List O3 × Nat × Nat
  | 0 => s
  | j + 1 => stp p c want (its p c want s j)
theorem stp_stay {p : Pl} {c : Int} {want : Nat} {s : List O3 × Nat × Nat} (h : want ≤ s.1.length) : stp p c want s = s := by
  unfold stp; rw [if_neg (by omega)]
theorem its_stay {p : Pl} {c : Int} {want : Nat} {s : List O3 × Nat × Nat} {j : Nat} (h : want ≤ (its p c want s j).1.length) : ∀ d, its p c want s (j + d) = its p c want s j := by
  intro d
  induction d with
  | zero => rfl
  | succ d ih => show stp p c want (its p c want s (j + d)) = _; rw [ih, stp_stay h]
/-- what holds of each round's state -/
structure Rnd (n0 want : Nat) (s : List O3 × Nat × Nat) : Prop where
  len : s.1.length ≤ want
  st : s.2.1 < 18446744073709551616
  lo : n0 ≤ s.2.2
  hi : s.2.2 ≤ n0 + s.1.length
theorem stp_rnd {p : Pl} (hp : p.right) {c : Int} {n0 want : Nat} {s : List O3 × Nat × Nat} (h : Rnd n0 want s) : Rnd n0 want (stp p c want s) := by
  unfold stp
  split
  · rename_i hl
    have h1 := smO_len hp c s.2.1 s.2.2 ((want : Int) - (s.1.length : Int)) (by omega)
    have h2 := smO_n p c s.2.1 s.2.2 ((want : Int) - (s.1.length : Int))
    have h3 := smO_st p c s.2.1 s.2.2 ((want : Int) - (s.1.length : Int))
    dsimp only
    have := h.lo
    have := h.hi
    exact ⟨by dsimp only; rw [List.length_append]; omega, h3, by dsimp only; omega, by dsimp only; rw [List.length_append]; omega⟩
  · exact h
theorem its_rnd {p : Pl} (hp : p.right) {c : Int} {n0 want : Nat} {s : List O3 × Nat × Nat} (h : Rnd n0 want s) : ∀ j, Rnd n0 want (its p c want s j) := by
  intro j
  induction j with
  | zero => exact h
  | succ j ih => exact stp_rnd hp ih
theorem its_grow {p : Pl} (hp : p.right) {c : Int} {want : Nat} {s : List O3 × Nat × Nat} : ∀ j, min j want ≤ (its p c want s j).1.length := by
  intro j
  induction j with
  | zero => simp
  | succ j ih =>
    show min (j + 1) want ≤ (stp p c want (its p c want s j)).1.length
    unfold stp
    split
    · rename_i hl
      have h1 := smO_len hp c (its p c want s j).2.1 (its p c want s j).2.2 ((want : Int) - ((its p c want s j).1.length : Int)) (by omega)
      dsimp only
      rw [List.length_append]
      omega
    · omega
/-- how many operations are wanted -/
def wants (p : Pl) (st : Nat) : Nat := (1 + drawn st p.most).toNat
/-- a client's next transaction: operations, the draws' state behind it, the writes so far -/
def nx (p : Pl) (c : Int) (st n : Nat) : List O3 × Nat × Nat := its p c (wants p st) ([], MixMath.nxt st, n) (wants p st)
theorem wants_in {p : Pl} (hp : p.right) (st : Nat) : 1 ≤ wants p st ∧ wants p st ≤ 12 ∧ (wants p st : Int) ≤ p.most ∧ ((wants p st : Nat) : Int) = 1 + drawn st p.most := by
  have h1 := drawn_nonneg st p.most
  have h2 := drawn_lt st p.most (by have := hp.m1; omega)
  have := hp.m2
  unfold wants
  omega
theorem rnd0 (n want st : Nat) : Rnd n want ([], MixMath.nxt st, n) := ⟨Nat.zero_le _, MixMath.nxt_lt' st, Nat.le_refl _, Nat.le_refl _⟩
/-- where enough operations are made, the rounds have come to the transaction -/
theorem its_end {p : Pl} (hp : p.right) {c : Int} {st n j : Nat} (h : wants p st ≤ (its p c (wants p st) ([], MixMath.nxt st, n) j).1.length) : its p c (wants p st) ([], MixMath.nxt st, n) j = nx p c st n := by
  unfold nx
  have h2 := its_grow hp (c := c) (want := wants p st) (s := ([], MixMath.nxt st, n)) (wants p st)
  rcases Nat.le_total j (wants p st) with hj | hj
  · obtain ⟨d, e⟩ := Nat.le.dest hj
    have h1 := its_stay h d
    rw [e] at h1
    exact h1.symm
  · obtain ⟨d, e⟩ := Nat.le.dest hj
    have h1 := its_stay (p := p) (c := c) (want := wants p st) (s := ([], MixMath.nxt st, n)) (j := wants p st) (by omega) d
    rw [e] at h1
    exact h1
theorem nx_rnd {p : Pl} (hp : p.right) (c : Int) (st n : Nat) : Rnd n (wants p st) (nx p c st n) := its_rnd hp (rnd0 n _ st) _
theorem nx_len {p : Pl} (hp : p.right) (c : Int) (st n : Nat) : 1 ≤ (nx p c st n).1.length ∧ (nx p c st n).1.length ≤ 12 ∧ ((nx p c st n).1.length : Int) ≤ p.most := by
  have h1 := nx_rnd hp c st n
  have h2 := wants_in hp st
  have h3 := its_grow hp (c := c) (want := wants p st) (s := ([], MixMath.nxt st, n)) (wants p st)
  have h4 := h1.len
  unfold nx at h4 ⊢
  omega
end Go.Proofs.Ytbdpinfiicpmhaa
