/-
  Contract of the Writer's method Num: as many noughts as the number has bits less one, then its bits.
-/
import Derived.Test.YtaddmegghikhpaaBN1
namespace Go.Proofs.Ytaddmegghikhpaa
open Go.ChangeShapes Go.WideShapes Go.ChangeAt Go.RowKit

theorem Wrote.wr {w w' : World} {base wb c m : Nat} {v : Value} {F B : Nat → Nat} (h : Wrote w base wb v F c m B w') : ∃ v' F', WR w' base wb v' F' (c + m) := by
  obtain ⟨v', F', h1, _⟩ := h; exact ⟨v', F', h1⟩

theorem Wrote.same {w w' : World} {base wb c m m' : Nat} {v : Value} {F B B' : Nat → Nat} (h : Wrote w base wb v F c m B w') (hm : m = m') (hB : ∀ i, i < m → B i = B' i) : Wrote w base wb v F c m' B' w' := by
  subst hm
  obtain ⟨v', F', h1, h2, h3, h4⟩ := h
  exact ⟨v', F', h1, h2, fun i hi => (h3 i hi).trans (hB i hi), h4⟩

theorem put_lit (w : World) (base wb : Nat) (v : Value) (F : Nat → Nat) (c x : Nat) (X z : Int) (hX : X = (x : Int)) (m : Nat) (hm : wn z = m) (h : WR w base wb v F c) (hx : x < 18446744073709551616) (hc : c ≤ 900000) :
    Calls Try.prog 34 #[.pointer (some ⟨wb, 0, none⟩), .int .u64 X, .int .i64 z] w fun e w' => e = .returned (.tuple #[]) ∧ Wrote w base wb v F c m (fun i => x / 2 ^ (m - 1 - i) % 2) w' := by
  subst hX; exact put_any w base wb v F c x z m hm h hx hc

/-- the bits of a number -/
def numBits (x i : Nat) : Nat := if i < nz x then 0 else (x + 1) / 2 ^ (2 * nz x - i) % 2

theorem Wrote.trans {w w1 w2 : World} {base wb c m1 m2 : Nat} {v v1 : Value} {F F1 B1 B2 : Nat → Nat} (_h1 : WR w1 base wb v1 F1 (c + m1)) (a1 : ∀ i, i < c → bitAt F1 i = bitAt F i) (a2 : ∀ i, i < m1 → bitAt F1 (c + i) = B1 i)
    (s1 : WStep wb w v.ownBlock w1 v1.ownBlock) (h2 : Wrote w1 base wb v1 F1 (c + m1) m2 B2 w2) : Wrote w base wb v F c (m1 + m2) (fun i => if i < m1 then B1 i else B2 (i - m1)) w2 := by
  obtain ⟨v2, F2, g1, g2, g3, g4⟩ := h2
  refine ⟨v2, F2, by rw [← Nat.add_assoc]; exact g1, fun i hi => by rw [g2 i (by omega), a1 i hi], fun i hi => ?_, s1.trans g4⟩
  by_cases e : i < m1
  · simp only [e, if_true]; rw [g2 _ (by omega), a2 i e]
  · simp only [e, if_false]
    have := g3 (i - m1) (by omega)
    rw [show c + m1 + (i - m1) = c + i from by omega] at this
    exact this

theorem numBits_parts (x : Nat) (hx : x < 18446744073709551616) (i : Nat) (hi : i < nz x + (1 + nz x)) :
    (if i < nz x then 0 / 2 ^ (nz x - 1 - i) % 2 else (if i - nz x < 1 then 1 / 2 ^ (1 - 1 - (i - nz x)) % 2 else (x + 1) % 18446744073709551616 / 2 ^ (nz x - 1 - (i - nz x - 1)) % 2)) = numBits x i := by
  obtain ⟨h1, h2⟩ := nz_spec x
  unfold numBits
  by_cases e1 : i < nz x
  · rw [if_pos e1, if_pos e1, Nat.zero_div]
  · rw [if_neg e1, if_neg e1]
    by_cases e2 : i - nz x < 1
    · rw [if_pos e2, show 1 - 1 - (i - nz x) = 0 from by omega, show 2 * nz x - i = nz x from by omega]
      rw [Nat.pow_succ] at h2
      have hp := Nat.two_pow_pos (nz x)
      have ed : (x + 1) / 2 ^ nz x = 1 := (Nat.div_eq_iff hp).2 ⟨by omega, by omega⟩
      rw [ed]
    · rw [if_neg e2, show nz x - 1 - (i - nz x - 1) = 2 * nz x - i from by omega]
      by_cases e3 : x + 1 < 18446744073709551616
      · rw [Nat.mod_eq_of_lt e3]
      · have e4 : x + 1 = 2 ^ 64 := by omega
        have e5 : nz x = 64 := by unfold nz; rw [e4]; decide
        rw [e5, e4]
        have e6 : 2 * 64 - i ≤ 63 := by omega
        rw [show 2 ^ 64 % 18446744073709551616 = 0 from by decide, Nat.zero_div]
        have e7 : 2 ^ 64 = 2 ^ (2 * 64 - i) * (2 * 2 ^ (63 - (2 * 64 - i))) := by
          rw [← Nat.pow_succ', ← Nat.pow_add]; congr 1; omega
        rw [e7, Nat.mul_div_cancel_left _ (Nat.two_pow_pos _), Nat.mul_mod_right]

set_option maxHeartbeats 1000000 in
theorem wnum_any (w : World) (base wb : Nat) (v : Value) (F : Nat → Nat) (c x : Nat) (h : WR w base wb v F c) (hx : x < 18446744073709551616) (hc : c ≤ 800000) :
    Calls Try.prog 17 #[.pointer (some ⟨wb, 0, none⟩), .int .u64 (x : Int)] w fun e w' => e = .returned (.tuple #[]) ∧ Wrote w base wb v F c (2 * nz x + 1) (numBits x) w' := by
  have HD := Lib.hid h
  have HX := Lib.hid hx
  have hz := nz_le x hx
  have HI := Lib.hid (inc_wrap x)
  have HP := Lib.hid (numBits_parts x hx)
  clear h hx
  go_enter Try.func17, Try.ntmps17
  go_wp2_with fail
  refine (noughts_any x _ HX.out).mono ?_
  rintro e w' ⟨rfl, rfl⟩
  go_wp2_with fail
  refine (put_lit w base wb v F c 0 0 _ rfl (nz x) (wn_nat _ hz) HD.out (by decide) (by omega)).mono ?_
  rintro e w1 ⟨rfl, v1, F1, h1, a1, a2, s1⟩
  have H1 := Lib.hid h1
  have A1 := Lib.hid (⟨a1, a2, s1⟩ : _ ∧ _ ∧ _)
  clear h1 a1 a2 s1
  go_wp2_with fail
  refine (put_lit w1 base wb v1 F1 (c + nz x) 1 1 1 rfl 1 (by decide) H1.out (by decide) (by omega)).mono ?_
  rintro e w2 ⟨rfl, v2, F2, h2, b1, b2, s2⟩
  have H2 := Lib.hid h2
  have A2 := Lib.hid (⟨b1, b2, s2⟩ : _ ∧ _ ∧ _)
  clear h2 b1 b2 s2
  go_wp2_with fail
  rw [HI.out]
  refine (put_any w2 base wb v2 F2 (c + nz x + 1) ((x + 1) % 18446744073709551616) _ (nz x) (wn_nat _ hz) H2.out (Nat.mod_lt _ (by decide)) (by omega)).mono ?_
  rintro e w3 ⟨rfl, h3⟩
  have H3 : Hid (Wrote w base wb v F c (2 * nz x + 1) (numBits x) w3) := by
    have t1 := Wrote.trans H2.out A2.out.1 A2.out.2.1 A2.out.2.2 h3
    have t2 := Wrote.trans H1.out A1.out.1 A1.out.2.1 A1.out.2.2 t1
    exact Lib.hid (t2.same (by omega) (fun i hi => HP.out i hi))
  clear h3
  go_wp2
  go_end0
  exact ⟨rfl, H3.out⟩

theorem numBits_lead (x : Nat) : numBits x (nz x) = 1 := by
  obtain ⟨h1, h2⟩ := nz_spec x
  unfold numBits
  rw [if_neg (by omega), show 2 * nz x - nz x = nz x from by omega]
  rw [Nat.pow_succ] at h2
  have hp := Nat.two_pow_pos (nz x)
  have ed : (x + 1) / 2 ^ nz x = 1 := (Nat.div_eq_iff hp).2 ⟨by omega, by omega⟩
  rw [ed]
theorem numBits_low (x i : Nat) (h : i < nz x) : numBits x i = 0 := by unfold numBits; rw [if_pos h]

/-- bits that begin a number's: how many noughts lead is told -/
theorem lead_nz {f : Nat → Nat} {n a z x : Nat} (h : Lead f n a z) (hb : ∀ i, a + i < 8 * n → i ≤ nz x → bitAt f (a + i) = numBits x i) : z = nz x := by
  obtain ⟨_, h2, h3, h4⟩ := h
  rcases Nat.lt_trichotomy z (nz x) with e | e | e
  · have := hb z h3 (by omega); rw [h4, numBits_low x z e] at this; omega
  · exact e
  · have := hb (nz x) (by omega) (Nat.le_refl _); rw [h2 _ e, numBits_lead] at this; omega

/-- a number that is cut off is too short -/
theorem cut_short {f : Nat → Nat} {n x : Nat} (hx : x < 18446744073709551616) (hb : ∀ i, i < 8 * n → bitAt f i = numBits x i) (hc : 8 * n < 2 * nz x + 1) : (∀ z, ¬ IsNum f n 0 z) ∧ ¬ IsForm f n 0 := by
  have hz := nz_le x hx
  have hb' : ∀ i, 0 + i < 8 * n → i ≤ nz x → bitAt f (0 + i) = numBits x i := fun i hi _ => by rw [Nat.zero_add] at hi ⊢; exact hb i hi
  constructor
  · rintro z ⟨hl, h2, _⟩
    have := lead_nz hl hb'; omega
  · rintro (⟨h1, h2⟩ | ⟨hl, h2, _⟩)
    · have := h2 (nz x) (by omega)
      rw [hb' (nz x) (by omega) (Nat.le_refl _), numBits_lead] at this; omega
    · have := lead_nz hl hb'; omega
end Go.Proofs.Ytaddmegghikhpaa
