/-
  The reference's Is.
-/
import Derived.Test.YtcolcgkfppjflaaI
namespace Go.Proofs.Ytcolcgkfppjflaa
open Go.ChangeShapes Go.WideShapes Go.ChangeAt Go.RowKit
set_option linter.unusedVariables false

theorem below_drewN {B : Nat} {a w : World} (h : Below B a w) (n : Nat) : Below B a (w.drewN n) := ⟨h.os, h.tape, h.output, h.size, h.block⟩
theorem cyc_next {N k : Nat} {A : Nat → Nat → Prop} {f : Nat → Int} : Cyc N k A f ↔ 0 < k ∧ (∀ i, i < k → 0 ≤ f i ∧ f i < N) ∧ (∀ i j, i < j → j < k → f i ≠ f j) ∧ ∀ i, i < k → A (f i).toNat (f ((i + 1) % k)).toNat := by
  unfold Cyc
  constructor
  · rintro ⟨h0, h1, h2, h3⟩
    refine ⟨h0, h1, h2, fun i hi => ?_⟩
    by_cases hk : i + 1 = k
    · have := h3 0 h0
      rw [if_pos rfl] at this
      rw [hk, Nat.mod_self, show i = k - 1 by omega]
      exact this
    · have := h3 (i + 1) (by omega)
      rw [if_neg (by omega)] at this
      rw [Nat.mod_eq_of_lt (by omega)]
      exact this
  · rintro ⟨h0, h1, h2, h3⟩
    refine ⟨h0, h1, h2, fun i hi => ?_⟩
    by_cases hk : i = 0
    · have := h3 (k - 1) (by omega)
      rw [show k - 1 + 1 = k by omega, Nat.mod_self] at this
      rw [if_pos hk, hk]
      exact this
    · have := h3 (i - 1) (by omega)
      rw [show i - 1 + 1 = i by omega, Nat.mod_eq_of_lt hi] at this
      rw [if_neg hk]
      exact this

set_option maxRecDepth 100000 in
set_option maxHeartbeats 4000000 in
theorem ris_any (g N : Nat) (rb : Nat → Nat) (T : Nat → Nat → Bool) (c : Option Addr) (k kc : Nat) (f : Nat → Int) (A : Nat → Nat → Prop) (b : Bool) (w : World) (hN : N ≤ 400) (ht : TabR w g N rb T) (hA : ∀ i j, i < N → j < N → (T i j = true ↔ A i j)) (hc : IsS w c k f) (hk : k ≤ 100000) (hb : b = true ↔ Cyc N k A f) :
    Calls Try.prog 23 #[.slice (some ⟨g, 0, none⟩) N N, .slice c k kc] w (fun e w' => e = .returned (.bool b) ∧ Below w.heap.size w w') := by
  have HB := Lib.hid (hb.trans cyc_next)
  have HC := Lib.hid hc
  have HT := Lib.hid ht
  have HA := Lib.hid hA
  clear hb hc ht hA
  go_enter Try.func23, Try.ntmps23
  go_wp2
  go_loopw [4, 5, 6, 7, 12] (fun _ _ _ _ i wr => ∃ t : Nat, t ≤ k ∧ i = .int .i64 (t : Int) ∧ w = wr ∧ Hid ((∀ i, i < t → 0 ≤ f i ∧ f i < N) ∧ ∀ i j, i < j → j < t → f i ≠ f j)) (fun _ _ _ _ i _ => k - (intOf i).toNat)
  case atStart => exact ⟨0, Nat.zero_le _, rfl, rfl, Lib.hid ⟨fun i hi => absurd hi (Nat.not_lt_zero _), fun i j _ hj => absurd hj (Nat.not_lt_zero _)⟩⟩
  case round =>
    obtain ⟨t, ht, rfl, rfl, HR⟩ := hrel
    by_cases htk : t < k
    · obtain ⟨cb, co, rfl, hcl, hci⟩ := HC.out (by omega)
      have htk' : (t : Int) < (k : Int) := by omega
      have cx := hci t htk
      have HCI := Lib.hid hci
      clear hci
      obtain ⟨x, hx⟩ : ∃ x, x = f t := ⟨_, rfl⟩
      rw [← hx] at cx
      have HX := Lib.hid hx
      clear hx
      by_cases hx0 : x < 0
      · obtain rfl : b = false := by
          cases b with
          | false => rfl
          | true => have := (HB.out.1 rfl).2.1 t htk; rw [← HX.out] at this; omega
        go_wp2
        go_ret
        exact ⟨rfl, Below.refl _ _⟩
      · have hx0' : decide (x < 0) = false := by simp; omega
        by_cases hx1 : (N : Int) ≤ x
        · obtain rfl : b = false := by
            cases b with
            | false => rfl
            | true => have := (HB.out.1 rfl).2.1 t htk; rw [← HX.out] at this; omega
          go_wp2
          go_ret
          exact ⟨rfl, Below.refl _ _⟩
        · have hx1' : decide ((N : Int) ≤ x) = false := by simp; omega
          have HXR : Hid (0 ≤ f t ∧ f t < N) := Lib.hid (by rw [← HX.out]; omega)
          clear hx0 hx1
          go_wp2
          go_loopw [4, 7] (fun _ j wr => ∃ s : Nat, s ≤ t ∧ j = .int .i64 (s : Int) ∧ w = wr ∧ Hid (∀ i, i < s → f i ≠ f t)) (fun _ j _ => t - (intOf j).toNat)
          case atStart => exact ⟨0, Nat.zero_le _, rfl, rfl, Lib.hid fun i hi => absurd hi (Nat.not_lt_zero _)⟩
          case round =>
            obtain ⟨s, hs, rfl, rfl, HS⟩ := hrel
            by_cases hst : s < t
            · have hst' : (s : Int) < (t : Int) := by omega
              have hsk' : (s : Int) < (k : Int) := by omega
              have cy := HCI.out s (by omega)
              by_cases he : f s = x
              · obtain rfl : b = false := by
                  cases b with
                  | false => rfl
                  | true => exact absurd (he.trans HX.out) ((HB.out.1 rfl).2.2.1 s t hst htk)
                rw [he] at cy
                clear he
                go_wp2
                go_ret
                exact ⟨rfl, Below.refl _ _⟩
              · have he' : (f s == x) = false := by simp [he]
                have HN : Hid (∀ i, i < s + 1 → f i ≠ f t) := Lib.hid fun i hi => by
                  by_cases h : i < s
                  · exact HS.out i h
                  · obtain rfl : i = s := by omega
                    rw [← HX.out]; exact he
                clear he
                go_wp2
                go_roundw
                case rel => exact ⟨s + 1, by omega, by go_num, by first | rfl | trivial, HN⟩
                case measure => simp [intOf]; omega
            · obtain rfl : s = t := by omega
              have HN : Hid ((∀ i, i < s + 1 → 0 ≤ f i ∧ f i < N) ∧ ∀ i j, i < j → j < s + 1 → f i ≠ f j) := Lib.hid ⟨fun i hi => by
                by_cases h : i < s
                · exact HR.out.1 i h
                · obtain rfl : i = s := by omega
                  exact HXR.out, fun i j hij hj => by
                by_cases h : j < s
                · exact HR.out.2 i j hij h
                · obtain rfl : j = s := by omega
                  exact HS.out i hij⟩
              go_wp2
              go_roundw
              case rel => exact ⟨s + 1, by omega, by go_num, by first | rfl | trivial, HN⟩
              case measure => simp [intOf]; omega
    · obtain rfl : t = k := by omega
      go_wp2
      go_loopw [4, 8, 9, 39] (fun _ _ _ i wr => ∃ s : Nat, s ≤ t ∧ i = .int .i64 (s : Int) ∧ Hid (Below w.heap.size w wr ∧ ∀ i, i < s → A (f i).toNat (f ((i + 1) % t)).toNat)) (fun _ _ _ i _ => t - (intOf i).toNat)
      case atStart => exact ⟨0, Nat.zero_le _, rfl, Lib.hid ⟨Below.refl _ _, fun i hi => absurd hi (Nat.not_lt_zero _)⟩⟩
      case round =>
        obtain ⟨s, hs, rfl, HS⟩ := hrel
        by_cases hst : s < t
        · obtain ⟨cb, co, rfl, hcl, hci⟩ := HC.out (by omega)
          have hst' : (s : Int) < (t : Int) := by omega
          have cx := (HS.out.1.cell (p := ⟨cb, co + s, none⟩) hcl).trans (hci s hst)
          obtain ⟨m, hm⟩ : ∃ m, m = (s + 1) % t := ⟨_, rfl⟩
          have hmt : m < t := by rw [hm]; exact Nat.mod_lt _ (by omega)
          have hmt' : (m : Int) < (t : Int) := by omega
          have cy := (HS.out.1.cell (p := ⟨cb, co + m, none⟩) hcl).trans (hci m hmt)
          obtain ⟨x, hx⟩ : ∃ x : Nat, f s = (x : Int) := ⟨(f s).toNat, by have := HR.out.1 s hst; omega⟩
          obtain ⟨y, hy⟩ : ∃ y : Nat, f m = (y : Int) := ⟨(f m).toNat, by have := HR.out.1 m hmt; omega⟩
          rw [hx] at cx
          rw [hy] at cy
          have hxN : x < N := by have := HR.out.1 s hst; omega
          have hyN : y < N := by have := HR.out.1 m hmt; omega
          have hxN' : (x : Int) < (N : Int) := by omega
          have hyN' : (y : Int) < (N : Int) := by omega
          have hR := HT.out.below HS.out.1
          have d0 := (hR.top x hxN).1
          have d1 := hR.cell x y hxN hyN
          have hrem : Int.tmod ((s : Int) + 1) (t : Int) = (m : Int) := by
            rw [hm, ← Int.natCast_one, ← Int.natCast_add]
            rfl
          have ht0 : ((t : Int) == 0) = false := by simp; omega
          have ht1 : ¬ (t : Int) = 0 := by omega
          have HM := Lib.hid hm
          have HX := Lib.hid hx
          have HY := Lib.hid hy
          clear hm hx hy hci hR
          cases hT : T x y with
          | true =>
            rw [hT] at d1
            have HN : Hid (∀ W, Below w.heap.size w W → (Below w.heap.size w W ∧ ∀ i, i < s + 1 → A (f i).toNat (f ((i + 1) % t)).toNat)) := Lib.hid fun W hW => ⟨hW, fun i hi => by
              by_cases h : i < s
              · exact HS.out.2 i h
              · obtain rfl : i = s := by omega
                rw [← HM.out, HX.out, HY.out]
                exact (HA.out x y hxN hyN).1 hT⟩
            have HBD := Lib.hid HS.out.1
            clear hT
            go_wp2
            go_quiet (fail)
            go_wp2
            go_roundw
            case rel => exact ⟨s + 1, by omega, by go_num, Lib.hid (HN.out _ (below_drewN HBD.out _))⟩
            case measure => simp [intOf]; omega
          | false =>
            rw [hT] at d1
            obtain rfl : b = false := by
              cases b with
              | false => rfl
              | true =>
                have := (HB.out.1 rfl).2.2.2 s hst
                rw [← HM.out, HX.out, HY.out] at this
                have := (HA.out x y hxN hyN).2 this
                rw [hT] at this
                cases this
            have HBD := Lib.hid HS.out.1
            clear hT
            go_wp2
            go_quiet (fail)
            go_wp2
            go_ret
            exact ⟨rfl, below_drewN HBD.out _⟩
        · obtain rfl : s = t := by omega
          by_cases hk0 : 0 < s
          · obtain rfl : b = true := HB.out.2 ⟨hk0, HR.out.1, HR.out.2, HS.out.2⟩
            have hk0' : (0 : Int) < (s : Int) := by omega
            go_wp2
            go_ret
            exact ⟨rfl, HS.out.1⟩
          · obtain rfl : b = false := by
              cases b with
              | false => rfl
              | true => exact absurd (HB.out.1 rfl).1 hk0
            obtain rfl : s = 0 := by omega
            go_wp2
            go_ret
            exact ⟨rfl, HS.out.1⟩
end Go.Proofs.Ytcolcgkfppjflaa
