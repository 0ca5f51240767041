/-
  A byte of a frame that is turned is told, and a change of up to four bytes side by side of its data.
-/
import Derived.Test.YtgplannipnceeaaS
namespace Go.Proofs.Ytgplannipnceeaa

theorem big_inj (x y : Nat) (hx : x < 4294967296) (hy : y < 4294967296) (h : ∀ j, j < 4 → big x j = big y j) : x = y := by
  have h1 := nval_big x hx
  rw [nval_congr (big x) (big y) 4 h, nval_big y hy] at h1
  exact h1.symm

/-- whoever differs from a frame's bytes in one byte, or within four bytes of the data, and is still read, does not differ -/
theorem turned_none (k z : Nat) (d G : Nat → Nat) (m a : Nat) (hk : k < 256) (hz : z ≤ 65536) (hd : ∀ j, d j < 256) (hG : ∀ j, G j < 256)
    (hw : (a < 12 ∧ ∀ j, j < 12 + z → ¬ j = a → G j = frm k z d j) ∨ (12 ≤ a ∧ ∀ j, j < 12 + z → j < a ∨ a + 4 ≤ j → G j = frm k z d j)) (h : derr G m = 0) : ∀ j, j < 12 + z → G j = frm k z d j := by
  obtain ⟨g1, g2⟩ := derr_goods h
  obtain ⟨_, _, hsF, _⟩ := frm_read k z d (frm k z d) (12 + z) hk hz (Nat.le_refl _) (fun _ _ => rfl)
  obtain ⟨hF0, _, _, _⟩ := frm_read k z d (frm k z d) (12 + z) hk hz (Nat.le_refl _) (fun _ _ => rfl)
  obtain ⟨f1, f2⟩ := derr_goods hF0
  have hFl := frm_lt k z d hd
  have l4 : ∀ f : Nat → Nat, (∀ j, f j < 256) → CrcMath.more 0 f 4 < 4294967296 := fun f hf => CrcMath.more_lt 0 f 4 (by decide) fun j _ => hf j
  -- the first eight bytes
  have first : (∀ j, j < 8 → ¬ j = a → G j = frm k z d j) → ∀ j, j < 8 → G j = frm k z d j := by
    intro hh
    by_cases ha4 : a < 4
    · have e : CrcMath.more 0 G 4 = CrcMath.more 0 (frm k z d) 4 := big_inj _ _ (l4 G hG) (l4 _ hFl) fun j hj => by rw [← g1 j hj, hh (4 + j) (by omega) (by omega), f1 j hj]
      have w := CrcMath.more_window 0 G (frm k z d) 4 a (by omega) hG hFl (fun j hj hor => hh j (by omega) (by omega)) e
      intro j hj
      by_cases hja : j = a
      · exact w j (by omega)
      · exact hh j hj hja
    · have e : CrcMath.more 0 G 4 = CrcMath.more 0 (frm k z d) 4 := CrcMath.more_congr 0 G _ 4 fun j hj => hh j (by omega) (by omega)
      intro j hj
      by_cases hja : j = a
      · obtain ⟨i, rfl⟩ : ∃ i, j = 4 + i := ⟨j - 4, by omega⟩
        rw [g1 i (by omega), e, ← f1 i (by omega)]
      · exact hh j hj hja
  have e8 : ∀ j, j < 8 → G j = frm k z d j := by
    rcases hw with ⟨_, hh⟩ | ⟨h12, hh⟩
    · exact first fun j hj hja => hh j (by omega) hja
    · exact fun j hj => hh j (by omega) (.inl (by omega))
  have hsG : sizeOf' G = z := by
    rw [← hsF]
    unfold sizeOf'
    rw [nval_congr G (frm k z d) 4 fun j hj => e8 j (by omega)]
  have s8 : CrcMath.more 0 G 8 = CrcMath.more 0 (frm k z d) 8 := CrcMath.more_congr 0 G _ 8 e8
  have f2' : ∀ j, j < 4 → frm k z d (8 + j) = big (CrcMath.more (CrcMath.more 0 (frm k z d) 8) (fun j => frm k z d (12 + j)) z) j := by
    intro j hj; have := f2 j hj; rw [hsF] at this; exact this
  have g2' : ∀ j, j < 4 → G (8 + j) = big (CrcMath.more (CrcMath.more 0 (frm k z d) 8) (fun j => G (12 + j)) z) j := by
    intro j hj; have := g2 j hj; rw [hsG, s8] at this; exact this
  have l8 : CrcMath.more 0 (frm k z d) 8 < 4294967296 := CrcMath.more_lt 0 _ 8 (by decide) fun j _ => hFl j
  rcases hw with ⟨ha, hh⟩ | ⟨h12, hh⟩
  · have ed : ∀ j, j < z → G (12 + j) = frm k z d (12 + j) := fun j hj => hh (12 + j) (by omega) (by omega)
    have e := CrcMath.more_congr (CrcMath.more 0 (frm k z d) 8) (fun j => G (12 + j)) (fun j => frm k z d (12 + j)) z ed
    intro j hj
    by_cases h8 : j < 8
    · exact e8 j h8
    · by_cases hj12 : j < 12
      · obtain ⟨i, rfl⟩ : ∃ i, j = 8 + i := ⟨j - 8, by omega⟩
        rw [g2' i (by omega), e, ← f2' i (by omega)]
      · obtain ⟨i, rfl⟩ : ∃ i, j = 12 + i := ⟨j - 12, by omega⟩
        exact ed i (by omega)
  · have e : CrcMath.more (CrcMath.more 0 (frm k z d) 8) (fun j => G (12 + j)) z = CrcMath.more (CrcMath.more 0 (frm k z d) 8) (fun j => frm k z d (12 + j)) z :=
      big_inj _ _ (CrcMath.more_lt _ _ z l8 fun j _ => hG _) (CrcMath.more_lt _ _ z l8 fun j _ => hFl _) fun j hj => by rw [← g2' j hj, ← f2' j hj]; exact hh (8 + j) (by omega) (.inl (by omega))
    intro j hj
    by_cases hj12 : j < 12
    · exact hh j hj (.inl (by omega))
    · obtain ⟨i, rfl⟩ : ∃ i, j = 12 + i := ⟨j - 12, by omega⟩
      by_cases haz : a - 12 ≤ z
      · exact CrcMath.more_window _ (fun j => G (12 + j)) (fun j => frm k z d (12 + j)) z (a - 12) haz (fun j => hG _) (fun j => hFl _) (fun j hj hor => hh (12 + j) (by omega) (by omega)) e i (by omega)
      · exact hh (12 + i) hj (.inl (by omega))
end Go.Proofs.Ytgplannipnceeaa
