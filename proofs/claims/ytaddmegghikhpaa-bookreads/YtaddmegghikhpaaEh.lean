/-
  Reading a number: what is read is what stands there; a number that is cut off is too short (mathematics and contract).
-/
import Derived.Test.YtaddmegghikhpaaEg
namespace Go.Proofs.Ytaddmegghikhpaa
open Go.ChangeShapes Go.WideShapes Go.ChangeAt Go.RowKit

/-- the bits L stand from place a on, as far as there are bits -/
def Al (f : Nat → Nat) (n a : Nat) (L : List Nat) : Prop := ∀ i, i < L.length → a + i < 8 * n → bitAt f (a + i) = L.getD i 0
theorem Al.sp {f : Nat → Nat} {n a : Nat} {L : List Nat} (h : Al f n a L) (hl : a + L.length ≤ 8 * n) : Sp f a L := fun i hi => h i hi (by omega)
theorem Sp.al {f : Nat → Nat} {n a : Nat} {L : List Nat} (h : Sp f a L) : Al f n a L := fun i hi _ => h i hi
theorem Al.app {f : Nat → Nat} {n a : Nat} {L M : List Nat} (h : Al f n a (L ++ M)) : Al f n a L ∧ Al f n (a + L.length) M := by
  refine ⟨fun i hi hn => ?_, fun i hi hn => ?_⟩
  · rw [h i (by rw [List.length_append]; omega) hn, getD_left _ _ _ hi]
  · have := h (L.length + i) (by rw [List.length_append]; omega) (by omega)
    rw [getD_right, ← Nat.add_assoc] at this
    exact this

theorem gv_split (f : Nat → Nat) (a p q : Nat) : gv f a (p + q) = 2 ^ q * gv f a p + gv f (a + p) q := by
  induction q with
  | zero => simp [gv]
  | succ q ih =>
    show 2 * gv f a (p + q) + bitAt f (a + (p + q)) = 2 ^ (q + 1) * gv f a p + (2 * gv f (a + p) q + bitAt f (a + p + q))
    rw [ih, Nat.pow_succ, Nat.add_assoc a p q, Nat.mul_add, Nat.mul_comm (2 ^ q) 2, Nat.mul_assoc, Nat.add_assoc]
theorem gv_bit (f : Nat → Nat) (a m t : Nat) (h : t < m) : gv f a m / 2 ^ (m - 1 - t) % 2 = bitAt f (a + t) := by
  obtain ⟨q, rfl⟩ : ∃ q, m = (t + 1) + q := ⟨m - (t + 1), by omega⟩
  rw [show t + 1 + q - 1 - t = q by omega, gv_split, Nat.mul_add_div (Nat.two_pow_pos q), Nat.div_eq_of_lt (gv_lt f (a + (t + 1)) q), Nat.add_zero]
  show (2 * gv f a t + bitAt f (a + t)) % 2 = _
  have := bitAt_lt f (a + t)
  omega
theorem gv_sp (f : Nat → Nat) (a m : Nat) : Sp f a (bitsL (gv f a m) m) := fun i hi => by
  rw [bitsL_length] at hi
  rw [bitsL_get _ _ _ hi, gv_bit f a m i hi]

theorem nz_of {x z : Nat} (h1 : 2 ^ z ≤ x + 1) (h2 : x + 1 < 2 ^ (z + 1)) : nz x = z := by
  obtain ⟨g1, g2⟩ := nz_spec x
  rcases Nat.lt_trichotomy (nz x) z with h | h | h
  · have := Nat.pow_le_pow_right (show 0 < 2 by decide) (show nz x + 1 ≤ z by omega)
    omega
  · exact h
  · have := Nat.pow_le_pow_right (show 0 < 2 by decide) (show z + 1 ≤ nz x by omega)
    omega
theorem is_num {f : Nat → Nat} {n a z : Nat} (h : IsNum f n a z) : ∃ x, x = 2 ^ z + gv f (a + z + 1) z - 1 ∧ x < 18446744073709551616 ∧ nz x = z ∧ Sp f a (numL x) := by
  obtain ⟨⟨hz, hlo, _, h1⟩, _, h64⟩ := h
  have hg := gv_lt f (a + z + 1) z
  have hp := Nat.two_pow_pos z
  have hx1 : 2 ^ z + gv f (a + z + 1) z - 1 + 1 = 2 ^ z + gv f (a + z + 1) z := by omega
  have hnz : nz (2 ^ z + gv f (a + z + 1) z - 1) = z := nz_of (by rw [hx1]; omega) (by rw [hx1, Nat.pow_succ]; omega)
  refine ⟨_, rfl, ?_, hnz, fun i hi => ?_⟩
  · rcases Nat.lt_or_ge z 64 with h | h
    · have := Nat.pow_le_pow_right (show 0 < 2 by decide) (show z + 1 ≤ 64 by omega)
      rw [Nat.pow_succ] at this
      omega
    · obtain rfl : z = 64 := by omega
      rw [h64 rfl]; omega
  · rw [numL_length, hnz] at hi
    rw [numL_get _ _ (by rw [hnz]; exact hi)]
    unfold numBits
    rw [hnz, hx1]
    by_cases hi1 : i < z
    · rw [if_pos hi1, hlo i hi1]
    · rw [if_neg hi1]
      by_cases hi2 : i = z
      · subst hi2
        rw [show 2 * i - i = i by omega, Nat.add_div_left _ hp, Nat.div_eq_of_lt hg, h1]
      · obtain ⟨t, rfl⟩ : ∃ t, i = z + 1 + t := ⟨i - (z + 1), by omega⟩
        have hb := gv_bit f (a + z + 1) z t (by omega)
        rw [show 2 * z - (z + 1 + t) = z - 1 - t by omega]
        have e : 2 ^ z = 2 ^ (z - 1 - t) * (2 * 2 ^ t) := by
          rw [← Nat.mul_assoc, Nat.mul_comm (2 ^ (z - 1 - t)) 2, Nat.mul_assoc, ← Nat.pow_add, ← Nat.pow_succ', show (z - 1 - t + t).succ = z by omega]
        have e2 : (2 ^ z + gv f (a + z + 1) z) / 2 ^ (z - 1 - t) = 2 * 2 ^ t + gv f (a + z + 1) z / 2 ^ (z - 1 - t) := by
          have := Nat.mul_add_div (Nat.two_pow_pos (z - 1 - t)) (2 * 2 ^ t) (gv f (a + z + 1) z)
          rw [← e] at this
          exact this
        rw [e2, show a + (z + 1 + t) = a + z + 1 + t by omega, ← hb]
        omega
/-- why no number stands there -/
def ErrN (f : Nat → Nat) (n a : Nat) (er : Int) : Prop := (IsShort f n a ∧ er = 10) ∨ (IsForm f n a ∧ er = 11)
/-- no number stands there; one that would is cut off -/
def NoNum (f : Nat → Nat) (n a : Nat) (er : Int) : Prop := ErrN f n a er ∧ ∀ x, x < 18446744073709551616 → Al f n a (numL x) → er = 10 ∧ 8 * n < a + (numL x).length
theorem lead_al {f : Nat → Nat} {n a z x : Nat} (h : Lead f n a z) (hx : Al f n a (numL x)) : z = nz x := by
  have hat : ∀ i, i < 2 * nz x + 1 → a + i < 8 * n → bitAt f (a + i) = numBits x i := fun i hi hn => by
    rw [hx i (by rw [numL_length]; exact hi) hn, numL_get x i hi]
  rcases Nat.lt_trichotomy z (nz x) with h' | h' | h'
  · have h1 := hat z (by omega) h.2.2.1
    rw [numBits_low x z h', h.2.2.2] at h1
    cases h1
  · exact h'
  · have h1 := hat (nz x) (by omega) (by have := h.2.2.1; omega)
    rw [numBits_lead, h.2.1 (nz x) h'] at h1
    cases h1
theorem short_no {f : Nat → Nat} {n a : Nat} (h : IsShort f n a) : NoNum f n a 10 := by
  refine ⟨.inl ⟨h, rfl⟩, ?_⟩
  intro x hx hal
  refine ⟨rfl, ?_⟩
  rw [numL_length]
  rcases Nat.lt_or_ge (8 * n) (a + (2 * nz x + 1)) with h' | h'
  · exact h'
  · exfalso
    rcases h with ⟨_, h0⟩ | ⟨z, hz, hs⟩
    · have h1 := hal (nz x) (by rw [numL_length]; omega) (by omega)
      rw [numL_get x _ (by omega), numBits_lead, h0 (nz x) (by omega)] at h1
      cases h1
    · have := lead_al hz hal
      omega
theorem form_no {f : Nat → Nat} {n a : Nat} (h : IsForm f n a) : NoNum f n a 11 := by
  refine ⟨.inr ⟨h, rfl⟩, ?_⟩
  intro x hx hal
  exfalso
  have hnz := nz_le x hx
  rcases h with ⟨h65, h0⟩ | ⟨hz, h129, hne⟩
  · have h1 := hal (nz x) (by rw [numL_length]; omega) (by omega)
    rw [numL_get x _ (by omega), numBits_lead, h0 (nz x) (by omega)] at h1
    cases h1
  · have e := lead_al hz hal
    apply hne
    have hsp : Sp f a (numL x) := hal.sp (by rw [numL_length]; omega)
    have hg := num_gv hsp
    rw [← e, show 64 + 1 = 1 + 64 by omega, gv_split] at hg
    have h1 : gv f (a + 64) 1 = 1 := by
      show 2 * gv f (a + 64) 0 + bitAt f (a + 64 + 0) = 1
      rw [Nat.add_zero, hz.2.2.2]; rfl
    rw [h1] at hg
    rw [show a + 65 = a + 64 + 1 by omega]
    omega

/-- what a reader's Num answers, by the bits that stand there -/
def NumQ (w : World) (g rb n : Nat) (f : Nat → Nat) (a : Nat) (e : Ending) (w' : World) : Prop :=
  w.grownBy w' (some rb) ∧
  ((∃ x, x < 18446744073709551616 ∧ Sp f a (numL x) ∧ a + (numL x).length ≤ 8 * n ∧ e = .returned (.int .u64 (x : Int)) ∧ RD w' g rb n f (a + (numL x).length)) ∨
   (∃ er : Int, (er = 10 ∨ er = 11) ∧ e = .returned (.int .u64 0) ∧ RS w' rb er ∧ NoNum f n a er))
theorem num_q (w : World) (g rb n a : Nat) (f : Nat → Nat) (h : RD w g rb n f a) : Calls Try.prog 25 #[.pointer (some ⟨rb, 0, none⟩)] w (NumQ w g rb n f a) := by
  refine (num_any w g rb n a f h).mono ?_
  rintro e w' ⟨hg, ⟨z, hz, rfl, hr⟩ | ⟨hs, rfl, hr⟩ | ⟨hf, rfl, hr⟩⟩
  · obtain ⟨x, ex, hx, hnz, hsp⟩ := is_num hz
    have hl : (numL x).length = 2 * z + 1 := by rw [numL_length, hnz]
    exact ⟨hg, .inl ⟨x, hx, hsp, by rw [hl]; exact hz.2.1, by rw [ex], by rw [hl]; exact hr⟩⟩
  · exact ⟨hg, .inr ⟨10, .inl rfl, rfl, hr, short_no hs⟩⟩
  · exact ⟨hg, .inr ⟨11, .inr rfl, rfl, hr, form_no hf⟩⟩
end Go.Proofs.Ytaddmegghikhpaa
