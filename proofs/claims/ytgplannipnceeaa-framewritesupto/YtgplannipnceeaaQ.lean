/-
  The bytes of a frame are read as it was, whatever stands behind them.
-/
import Derived.Test.YtgplannipnceeaaO
namespace Go.Proofs.Ytgplannipnceeaa

theorem nval_big (x : Nat) (hx : x < 4294967296) : nval (big x) 4 = x := by
  show (((0 * 256 + big x 0) * 256 + big x 1) * 256 + big x 2) * 256 + big x 3 = x
  unfold big
  simp
  omega
theorem nval_congr (f g : Nat → Nat) (n : Nat) (h : ∀ j, j < n → f j = g j) : nval f n = nval g n := by
  induction n with
  | zero => rfl
  | succ n ih => show nval f n * 256 + f n = nval g n * 256 + g n; rw [ih fun j hj => h j (by omega), h n (by omega)]

theorem frm_lo {k z : Nat} {d : Nat → Nat} {j : Nat} (h : j < 12) : frm k z d j = h12 k z d j := cat_lo h
theorem frm_hi (k z : Nat) (d : Nat → Nat) (j : Nat) : frm k z d (12 + j) = d j := cat_hi 12 j
theorem h12_lo {k z : Nat} {d : Nat → Nat} {j : Nat} (h : j < 8) : h12 k z d j = h8 k z j := cat_lo h
theorem h8_lo {k z : Nat} {j : Nat} (h : j < 4) : h8 k z j = h4 k z j := cat_lo h

/-- a frame's bytes, at the front of whatever bytes -/
theorem frm_read (k z : Nat) (d F : Nat → Nat) (n : Nat) (hk : k < 256) (hz : z ≤ 65536) (hn : 12 + z ≤ n) (hF : ∀ j, j < 12 + z → F j = frm k z d j) :
    derr F n = 0 ∧ kindOf F = k ∧ sizeOf' F = z ∧ ∀ j, j < z → F (12 + j) = d j := by
  have e4 : ∀ j, j < 4 → F j = h4 k z j := fun j hj => by rw [hF j (by omega), frm_lo (by omega), h12_lo (by omega), h8_lo hj]
  have e8 : ∀ j, j < 8 → F j = h8 k z j := fun j hj => by rw [hF j (by omega), frm_lo (by omega), h12_lo hj]
  have ed : ∀ j, j < z → F (12 + j) = d j := fun j hj => by rw [hF (12 + j) (by omega), frm_hi]
  have hv : nval F 4 = k * 16777216 + z := by
    rw [nval_congr F (h4 k z) 4 e4]
    exact nval_big _ (by omega)
  have hs : sizeOf' F = z := by unfold sizeOf'; rw [hv]; omega
  have hkd : kindOf F = k := by unfold kindOf; rw [hv]; omega
  have g1 : good1 F := fun j hj => by
    rw [e8 (4 + j) (by omega), CrcMath.more_congr 0 F (h4 k z) 4 e4]
    exact cat_hi 4 j
  have g2 : good2 F := fun j hj => by
    rw [hs, hF (8 + j) (by omega), frm_lo (by omega), CrcMath.more_congr 0 F (h8 k z) 8 e8, CrcMath.more_congr _ (fun j => F (12 + j)) d z ed]
    exact cat_hi 8 j
  refine ⟨?_, hkd, hs, ed⟩
  unfold derr
  rw [if_neg (by omega), if_neg (fun h => h g1), hs, if_neg (by omega), if_neg (by omega), if_neg (fun h => h g2)]
end Go.Proofs.Ytgplannipnceeaa
