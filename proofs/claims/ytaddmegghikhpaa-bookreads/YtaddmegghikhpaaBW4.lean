/-
  Two writers side by side; bytes that hold the same bits are the same.
-/
import Derived.Test.YtaddmegghikhpaaBW3
namespace Go.Proofs.Ytaddmegghikhpaa
open Go.ChangeShapes Go.WideShapes Go.ChangeAt Go.RowKit

theorem WR.kept {w w' : World} {base wb q c : Nat} {v : Value} {F : Nat → Nat} {o o' : Option Nat} (h : WR w base wb v F c) (s : WStep q w o w' o') (h1 : wb ≠ q) (h2 : some wb ≠ o) (h3 : ∀ k, v.ownBlock = some k → k ≠ q ∧ some k ≠ o) : WR w' base wb v F c := by
  have hw : w'.heap[wb]? = w.heap[wb]? := s.block wb h.lt h1 h2
  refine ⟨(World.cell?_of_block hw).trans h.c0, (World.cell?_of_block hw).trans h.c1, fun j => (World.frozen?_of_block (a := ⟨wb, j, none⟩) hw).trans (h.fz j), ⟨h.own.1, ?_⟩, h.ends, Nat.lt_of_lt_of_le h.lt s.size, h.ne, Nat.le_trans h.hb s.size⟩
  rcases h.own.2 with h0 | ⟨g, cap, cur, hv, hg, hh, hrest⟩
  · exact .inl h0
  · have hlt : g < w.heap.size := by
      rcases Nat.lt_or_ge g w.heap.size with h' | h'
      · exact h'
      · rw [Array.getElem?_eq_none h'] at hh; cases hh
    have := h3 g (by rw [hv]; rfl)
    exact .inr ⟨g, cap, cur, hv, hg, (s.block g hlt this.1 this.2).trans hh, hrest⟩

theorem WR.below {w w' : World} {base wb c : Nat} {v : Value} {F : Nat → Nat} (h : WR w base wb v F c) (s : Below w.heap.size w w') : WR w' base wb v F c := by
  have hw : w'.heap[wb]? = w.heap[wb]? := s.block wb h.lt
  refine ⟨(World.cell?_of_block hw).trans h.c0, (World.cell?_of_block hw).trans h.c1, fun j => (World.frozen?_of_block (a := ⟨wb, j, none⟩) hw).trans (h.fz j), ⟨h.own.1, ?_⟩, h.ends, Nat.lt_of_lt_of_le h.lt s.size, h.ne, Nat.le_trans h.hb s.size⟩
  rcases h.own.2 with h0 | ⟨g, cap, cur, hv, hg, hh, hrest⟩
  · exact .inl h0
  · have hlt : g < w.heap.size := by
      rcases Nat.lt_or_ge g w.heap.size with h' | h'
      · exact h'
      · rw [Array.getElem?_eq_none h'] at hh; cases hh
    exact .inr ⟨g, cap, cur, hv, hg, (s.block g hlt).trans hh, hrest⟩

theorem low_noughts (y r t : Nat) (hr : 0 < r) (hr' : r < 8) (ht : r ≤ t) (ht' : t < 8) (h : y % 2 ^ (8 - r) = 0) : y / 2 ^ (7 - t) % 2 = 0 := by
  obtain ⟨k, hk⟩ := Nat.dvd_of_mod_eq_zero h
  have e : 2 ^ (8 - r) = 2 ^ (7 - t) * (2 * 2 ^ (t - r)) := by
    rw [← Nat.pow_succ', ← Nat.pow_add]; congr 1; omega
  rw [hk, e, Nat.mul_assoc, Nat.mul_div_cancel_left _ (Nat.two_pow_pos _), Nat.mul_assoc, Nat.mul_mod_right]

theorem byte_eq (y z : Nat) (hy : y < 256) (hz : z < 256) (h : ∀ t, t < 8 → y / 2 ^ (7 - t) % 2 = z / 2 ^ (7 - t) % 2) : y = z := by
  have h0 := h 0 (by decide); have h1 := h 1 (by decide); have h2 := h 2 (by decide); have h3 := h 3 (by decide)
  have h4 := h 4 (by decide); have h5 := h 5 (by decide); have h6 := h 6 (by decide); have h7 := h 7 (by decide)
  simp only [Nat.reducePow, Nat.reduceSub] at h0 h1 h2 h3 h4 h5 h6 h7
  omega

theorem Ends.nought {F : Nat → Nat} {c : Nat} (h : Ends F c) (i : Nat) (h1 : c ≤ i) (h2 : i < 8 * ((c + 7) / 8)) : bitAt F i = 0 := by
  have hr : ¬ c % 8 = 0 := by omega
  unfold bitAt
  have e : i / 8 = c / 8 := by omega
  rw [e]
  exact low_noughts _ (c % 8) (i % 8) (by omega) (by omega) (by omega) (by omega) (h.2 hr)

/-- bytes that hold the same bits -/
theorem bytes_eq {F G : Nat → Nat} {c : Nat} (hF : Ends F c) (hG : Ends G c) (h : ∀ i, i < c → bitAt F i = bitAt G i) (j : Nat) (hj : j < (c + 7) / 8) : F j = G j := by
  refine byte_eq _ _ (hF.1 j) (hG.1 j) (fun t ht => ?_)
  have key : bitAt F (8 * j + t) = bitAt G (8 * j + t) := by
    by_cases hi : 8 * j + t < c
    · exact h _ hi
    · rw [hF.nought _ (by omega) (by omega), hG.nought _ (by omega) (by omega)]
  unfold bitAt at key
  rw [show (8 * j + t) / 8 = j from by omega, show (8 * j + t) % 8 = t from by omega] at key
  exact key

theorem and31 (n : Int) : ∃ p : Nat, bits .and .i64 n 31 = (p : Int) ∧ p ≤ 31 := by
  have e : bits .and .i64 n 31 = n % 32 := by
    have h31 : (BitVec.ofInt 64 31).toNat = 2 ^ 5 - 1 := by decide
    have key : (BitVec.ofInt 64 n &&& BitVec.ofInt 64 31).toNat = (n % ((2 ^ 64 : Nat) : Int)).toNat % 2 ^ 5 := by
      rw [BitVec.toNat_and, BitVec.toNat_ofInt, h31, Nat.and_two_pow_sub_one_eq_mod]
    show IntKind.i64.wrap ((BitVec.ofInt 64 n &&& BitVec.ofInt 64 31).toNat : Nat) = n % 32
    rw [key, IntKind.wrap_i64]
    omega
  exact ⟨(n % 32).toNat, by rw [e]; omega, by omega⟩

theorem wn_nat (m : Nat) (h : m ≤ 64) : wn (m : Int) = m := by have := wn_mid (m : Int) (by omega) (by omega); omega
end Go.Proofs.Ytaddmegghikhpaa
