/-
  A step of the reader beside the reference's: Get, Num and Int answer the same.
-/
import Derived.Test.YtmhjffneemmncaaR2
namespace Go.Proofs.Ytmhjffneemmncaa
open Go.ChangeShapes Go.WideShapes Go.ChangeAt Go.RowKit

theorem lead_uniq {f : Nat → Nat} {n a z y : Nat} (h : Lead f n a z) (k : Lead f n a y) : z = y := by
  obtain ⟨_, h2, _, h4⟩ := h
  obtain ⟨_, k2, _, k4⟩ := k
  rcases Nat.lt_trichotomy z y with c | c | c
  · have := k2 z c; omega
  · exact c
  · have := h2 y c; omega
theorem num_short {f : Nat → Nat} {n a z : Nat} (h : IsNum f n a z) (k : IsShort f n a) : False := by
  obtain ⟨hl, h2, _⟩ := h
  rcases k with ⟨_, k2⟩ | ⟨y, kl, k2⟩
  · have := k2 z hl.2.2.1; have := hl.2.2.2; omega
  · have := lead_uniq hl kl; omega
theorem num_form {f : Nat → Nat} {n a z : Nat} (h : IsNum f n a z) (k : IsForm f n a) : False := by
  obtain ⟨hl, h2, h3⟩ := h
  rcases k with ⟨_, k2⟩ | ⟨kl, _, k3⟩
  · have := k2 z (by have := hl.1; omega); have := hl.2.2.2; omega
  · have e := lead_uniq hl kl; subst e; exact k3 (h3 rfl)
theorem short_form {f : Nat → Nat} {n a : Nat} (h : IsShort f n a) (k : IsForm f n a) : False := by
  rcases k with ⟨k1, k2⟩ | ⟨kl, k2, _⟩
  · rcases h with ⟨h1, _⟩ | ⟨z, hl, _⟩
    · omega
    · have := k2 z (by have := hl.1; omega); have := hl.2.2.2; omega
  · rcases h with ⟨h1, h2⟩ | ⟨z, hl, h2⟩
    · omega
    · have := lead_uniq hl kl; omega

theorem first_one (f : Nat → Nat) (n a m : Nat) : (∀ i, i < m → a + i < 8 * n → bitAt f (a + i) = 0) ∨ ∃ z, z < m ∧ a + z < 8 * n ∧ bitAt f (a + z) = 1 ∧ ∀ i, i < z → bitAt f (a + i) = 0 := by
  induction m with
  | zero => exact .inl (fun i hi => by omega)
  | succ m ih =>
    rcases ih with h | ⟨z, h1, h2⟩
    · by_cases hm : a + m < 8 * n
      · by_cases hb : bitAt f (a + m) = 0
        · refine .inl (fun i hi hl => ?_)
          by_cases e : i = m
          · subst e; exact hb
          · exact h i (by omega) hl
        · exact .inr ⟨m, by omega, hm, by have := bitAt_lt f (a + m); omega, fun i hi => h i hi (by omega)⟩
      · exact .inl (fun i hi hl => h i (by omega) hl)
    · exact .inr ⟨z, by omega, h2⟩

theorem num_cases (f : Nat → Nat) (n a : Nat) : (∃ z, IsNum f n a z) ∨ IsShort f n a ∨ IsForm f n a := by
  rcases first_one f n a 65 with h | ⟨z, h1, h2, h3, h4⟩
  · by_cases hl : a + 65 ≤ 8 * n
    · exact .inr (.inr (.inl ⟨hl, fun i hi => h i hi (by omega)⟩))
    · exact .inr (.inl (.inl ⟨by omega, fun i hi => h i (by omega) hi⟩))
  · have hl : Lead f n a z := ⟨by omega, h4, h2, h3⟩
    by_cases hs : 8 * n < a + (2 * z + 1)
    · exact .inr (.inl (.inr ⟨z, hl, hs⟩))
    · by_cases hf : z = 64 ∧ ¬ gv f (a + z + 1) z = 0
      · obtain ⟨rfl, hf⟩ := hf
        exact .inr (.inr (.inr ⟨hl, by omega, hf⟩))
      · exact .inl ⟨z, hl, by omega, fun e => Classical.byContradiction fun c => hf ⟨e, c⟩⟩

theorem num_lt {f : Nat → Nat} {n a z : Nat} (h : IsNum f n a z) : 2 ^ z + gv f (a + z + 1) z - 1 < 18446744073709551616 := by
  obtain ⟨hl, h2, h3⟩ := h
  have h1 := gv_lt f (a + z + 1) z
  have := hl.1
  by_cases e : z = 64
  · rw [h3 e, e]; decide
  · have : 2 ^ z ≤ 2 ^ 63 := Nat.pow_le_pow_right (by decide) (by omega)
    omega

/-- a number that may be below nought, of one that may not -/
def zag (y : Nat) : Int := if y % 2 = 1 then -((y / 2 : Nat) : Int) - 1 else ((y / 2 : Nat) : Int)

theorem int_of_num (w : World) (rb y : Nat) (P : World → Prop) (hy : y < 18446744073709551616) (hc : Calls Try.prog 26 #[.pointer (some ⟨rb, 0, none⟩)] w fun e w' => e = .returned (.int .u64 (y : Int)) ∧ P w') :
    Calls Try.prog 28 #[.pointer (some ⟨rb, 0, none⟩)] w fun e w' => e = .returned (.int .i64 (zag y)) ∧ P w' := by
  have HC := Lib.hid hc
  clear hc
  have e1 : bits .and .u64 (y : Int) 1 = ((y % 2 : Nat) : Int) := by
    have h := u64_and_nat y 1 hy (by decide)
    rw [nat_mask1] at h; exact h
  by_cases hn : y % 2 = 1
  · have HZ : Hid (zag y = -((y / 2 : Nat) : Int) - 1) := Lib.hid (by unfold zag; rw [if_pos hn])
    rw [hn] at e1
    have E1 := Lib.hid e1
    clear e1
    go_enter Try.func28, Try.ntmps28
    go_wp2_with fail
    refine HC.out.mono ?_
    rintro e w1 ⟨rfl, hp⟩
    have H1 := Lib.hid hp
    clear hp
    have e1 : bits .and .u64 (y : Int) 1 = 1 := E1.out
    go_wp2
    go_ret
    refine ⟨ret_int ?_, H1.out⟩
    rw [HZ.out]; omega
  · have HZ : Hid (zag y = ((y / 2 : Nat) : Int)) := Lib.hid (by unfold zag; rw [if_neg hn])
    rw [show y % 2 = 0 from by omega] at e1
    have E1 := Lib.hid e1
    clear e1
    go_enter Try.func28, Try.ntmps28
    go_wp2_with fail
    refine HC.out.mono ?_
    rintro e w1 ⟨rfl, hp⟩
    have H1 := Lib.hid hp
    clear hp
    have e1 : bits .and .u64 (y : Int) 1 = 0 := E1.out
    go_wp2
    go_ret
    refine ⟨ret_int ?_, H1.out⟩
    rw [HZ.out]; omega

theorem rint_of_num (w : World) (sp : Option Addr) (L cp y : Nat) (m er : Int) (hy : y < 18446744073709551616) (hc : Calls Try.prog 25 #[.slice sp L cp] w fun e w' => e = .returned (.tuple #[.int .u64 (y : Int), .int .i64 m, .int .i64 er]) ∧ w = w') :
    Calls Try.prog 27 #[.slice sp L cp] w fun e w' => e = .returned (.tuple #[.int .i64 (zag y), .int .i64 m, .int .i64 er]) ∧ w = w' := by
  have HC := Lib.hid hc
  clear hc
  by_cases hn : y % 2 = 1
  · have HZ : Hid (-((y : Int) / 2) - 1 = zag y) := Lib.hid (by unfold zag; rw [if_pos hn]; omega)
    have b1 : ((y : Int) % 2 == 1) = true := by rw [beq_iff_eq]; omega
    go_enter Try.func27, Try.ntmps27
    go_wp2_with fail
    refine HC.out.mono ?_
    rintro e w1 ⟨rfl, rfl⟩
    go_wp2
    go_ret3
    rw [HZ.out]
    exact ⟨rfl, rfl⟩
  · have HZ : Hid ((y : Int) / 2 = zag y) := Lib.hid (by unfold zag; rw [if_neg hn]; omega)
    have b1 : ((y : Int) % 2 == 1) = false := by rw [beq_eq_false_iff_ne]; omega
    go_enter Try.func27, Try.ntmps27
    go_wp2_with fail
    refine HC.out.mono ?_
    rintro e w1 ⟨rfl, rfl⟩
    go_wp2
    go_ret3
    rw [HZ.out]
    exact ⟨rfl, rfl⟩

/-- where a reader is behind a step: m bits further, or stopped -/
def Nxt (g rb n : Nat) (f : Nat → Nat) (a m er : Nat) (w w' : World) : Prop :=
  w.grownBy w' (some rb) ∧ ((er = 0 ∧ RD w' g rb n f (a + m)) ∨ (¬ er = 0 ∧ RS w' rb (er : Int)))

theorem get_pair (f : Nat → Nat) (n a L : Nat) (z : Int) (hL : a + L = 8 * n) (hn : n ≤ 1000) :
    ∃ x m er : Nat, x < 18446744073709551616 ∧ m ≤ L ∧ er ≤ 100 ∧ (¬ er = 0 → m = 0) ∧
      (∀ w q o cp, L ≤ cp → BS w q o L a f → Calls Try.prog 23 #[.slice (some ⟨q, o, none⟩) L cp, .int .i64 z] w fun e w' => e = .returned (.tuple #[.int .u64 (x : Int), .int .i64 (m : Int), .int .i64 (er : Int)]) ∧ w = w') ∧
      (∀ w g rb, RD w g rb n f a → Calls Try.prog 24 #[.pointer (some ⟨rb, 0, none⟩), .int .i64 z] w fun e w' => e = .returned (.int .u64 (x : Int)) ∧ Nxt g rb n f a m er w w') := by
  have hw := wn_le z
  by_cases h : wn z ≤ L
  · refine ⟨gv f a (wn z), wn z, 0, ?_, h, by omega, fun h => absurd rfl h, fun w q o cp hc hb => rget_ok q o L cp a f z _ w rfl hb h hc (by omega), fun w g rb hr => (get_ok w g rb n a f z _ rfl hr (by omega)).mono ?_⟩
    · have h1 := gv_lt f a (wn z)
      have h2 : 2 ^ wn z ≤ 2 ^ 64 := Nat.pow_le_pow_right (by decide) hw
      omega
    · rintro e w' ⟨rfl, h1, h2⟩
      exact ⟨rfl, h2, .inl ⟨rfl, h1⟩⟩
  · refine ⟨0, 0, 10, by omega, by omega, by omega, fun _ => rfl, fun w q o cp hc hb => rget_short _ L cp z _ w rfl (by omega), fun w g rb hr => (get_short w g rb n a f z _ rfl hr (by omega)).mono ?_⟩
    rintro e w' ⟨rfl, h1, h2⟩
    exact ⟨rfl, h2, .inr ⟨by omega, h1⟩⟩

theorem num_pair (f : Nat → Nat) (n a L : Nat) (hL : a + L = 8 * n) :
    ∃ x m er : Nat, x < 18446744073709551616 ∧ m ≤ L ∧ er ≤ 100 ∧ (¬ er = 0 → m = 0) ∧
      (∀ w q o cp, L ≤ cp → BS w q o L a f → Calls Try.prog 25 #[.slice (some ⟨q, o, none⟩) L cp] w fun e w' => e = .returned (.tuple #[.int .u64 (x : Int), .int .i64 (m : Int), .int .i64 (er : Int)]) ∧ w = w') ∧
      (∀ w g rb, RD w g rb n f a → Calls Try.prog 26 #[.pointer (some ⟨rb, 0, none⟩)] w fun e w' => e = .returned (.int .u64 (x : Int)) ∧ Nxt g rb n f a m er w w') := by
  rcases num_cases f n a with ⟨z, hz⟩ | hs | hf
  · have h2 := hz.2.1
    refine ⟨2 ^ z + gv f (a + z + 1) z - 1, 2 * z + 1, 0, num_lt hz, by omega, by omega, fun h => absurd rfl h, fun w q o cp hc hb => (rnum_any q o L cp n a f w hb hc hL).mono ?_, fun w g rb hr => (num_any w g rb n a f hr).mono ?_⟩
    · rintro e w' ⟨e1, ⟨y, hy, e2⟩ | ⟨hy, _⟩ | ⟨hy, _⟩⟩
      · have := lead_uniq hy.1 hz.1; subst this; exact ⟨e2, e1⟩
      · exact absurd hy (num_short hz)
      · exact absurd hy (num_form hz)
    · rintro e w' ⟨e1, ⟨y, hy, e2, hr2⟩ | ⟨hy, _⟩ | ⟨hy, _⟩⟩
      · have := lead_uniq hy.1 hz.1; subst this; exact ⟨e2, e1, .inl ⟨rfl, hr2⟩⟩
      · exact absurd hy (num_short hz)
      · exact absurd hy (num_form hz)
  · refine ⟨0, 0, 10, by omega, by omega, by omega, fun _ => rfl, fun w q o cp hc hb => (rnum_any q o L cp n a f w hb hc hL).mono ?_, fun w g rb hr => (num_any w g rb n a f hr).mono ?_⟩
    · rintro e w' ⟨e1, ⟨y, hy, e2⟩ | ⟨hy, e2⟩ | ⟨hy, _⟩⟩
      · exact absurd hs (num_short hy)
      · exact ⟨e2, e1⟩
      · exact absurd hy (short_form hs)
    · rintro e w' ⟨e1, ⟨y, hy, e2, hr2⟩ | ⟨hy, e2, hr2⟩ | ⟨hy, _⟩⟩
      · exact absurd hs (num_short hy)
      · exact ⟨e2, e1, .inr ⟨by omega, hr2⟩⟩
      · exact absurd hy (short_form hs)
  · refine ⟨0, 0, 11, by omega, by omega, by omega, fun _ => rfl, fun w q o cp hc hb => (rnum_any q o L cp n a f w hb hc hL).mono ?_, fun w g rb hr => (num_any w g rb n a f hr).mono ?_⟩
    · rintro e w' ⟨e1, ⟨y, hy, e2⟩ | ⟨hy, e2⟩ | ⟨hy, e2⟩⟩
      · exact absurd hf (num_form hy)
      · exact absurd hf (short_form hy)
      · exact ⟨e2, e1⟩
    · rintro e w' ⟨e1, ⟨y, hy, e2, hr2⟩ | ⟨hy, e2, hr2⟩ | ⟨hy, e2, hr2⟩⟩
      · exact absurd hf (num_form hy)
      · exact absurd hf (short_form hy)
      · exact ⟨e2, e1, .inr ⟨by omega, hr2⟩⟩

theorem int_pair (f : Nat → Nat) (n a L : Nat) (hL : a + L = 8 * n) :
    ∃ (x : Int) (m er : Nat), m ≤ L ∧ er ≤ 100 ∧ (¬ er = 0 → m = 0) ∧
      (∀ w q o cp, L ≤ cp → BS w q o L a f → Calls Try.prog 27 #[.slice (some ⟨q, o, none⟩) L cp] w fun e w' => e = .returned (.tuple #[.int .i64 x, .int .i64 (m : Int), .int .i64 (er : Int)]) ∧ w = w') ∧
      (∀ w g rb, RD w g rb n f a → Calls Try.prog 28 #[.pointer (some ⟨rb, 0, none⟩)] w fun e w' => e = .returned (.int .i64 x) ∧ Nxt g rb n f a m er w w') := by
  obtain ⟨x, m, er, hx, h1, h2, h3, h4, h5⟩ := num_pair f n a L hL
  exact ⟨zag x, m, er, h1, h2, h3, fun w q o cp hc hb => rint_of_num w _ L cp x _ _ hx (h4 w q o cp hc hb), fun w g rb hr => int_of_num w rb x _ hx (h5 w g rb hr)⟩
end Go.Proofs.Ytmhjffneemmncaa
