/-
  Contracts of package mix's functions weight and Weigh: a draw of a place, the likelier the greater its weight.
-/
import Derived.Test.YtbdpinfiicpmhaaH
import Derived.Test.YtbdpinfiicpmhaaWMath
namespace Go.Proofs.Ytbdpinfiicpmhaa
open Go.ChangeShapes Go.WideShapes Go.ChangeAt Go.RowKit RefMath

theorem weight_any (z : Int) (w : World) :
    Calls Try.prog 33 #[.int .i64 z] w fun e w' => e = .returned (.int .i64 ((wt z : Nat) : Int)) ∧ w = w' := by
  by_cases h1 : z < 0
  · rw [wt_neg z h1]
    go_enter Try.func33, Try.ntmps33
    go_wp2
    go_ret
    exact ⟨rfl, rfl⟩
  · by_cases h2 : 1048576 < z
    · rw [wt_top z h2]
      go_enter Try.func33, Try.ntmps33
      go_wp2
      go_ret
      exact ⟨rfl, rfl⟩
    · rw [wt_mid z (by omega) (by omega)]
      go_enter Try.func33, Try.ntmps33
      go_wp2
      go_ret
      exact ⟨rfl, rfl⟩

set_option maxHeartbeats 1000000 in
theorem weigh_any (sb so st b off len cap : Nat) (g : Nat → Int) (w : World) (hl : len ≤ 60) (hs : w.cell? ⟨sb, so, none⟩ = some (.int .u64 (st : Int))) (hf : w.frozen? ⟨sb, so, none⟩ = false)
    (hc : ∀ j, j < len → w.cell? ⟨b, off + j, none⟩ = some (.int .i64 (g j))) (hne : b ≠ sb) (x : Nat) (hx : drawn st ((cum g len : Nat) : Int) = (x : Int)) :
    Calls Try.prog 27 #[.pointer (some ⟨sb, so, none⟩), .slice (some ⟨b, off, none⟩) len cap] w fun e w' => e = .returned (.int .i64 ((place g x len : Nat) : Int)) ∧ w.setCell ⟨sb, so, none⟩ (.int .u64 ((MixMath.nxt st : Nat) : Int)) = w' := by
  have HC := Lib.hid hc
  have HX := Lib.hid hx
  have HS := Lib.hid (⟨hs, hf⟩ : _ ∧ _)
  have HX' : Hid (x ≤ 1048576 * 60) := Lib.hid (by
    have h1 := cum_le g len
    by_cases h : 0 < cum g len
    · have h2 := drawn_lt st ((cum g len : Nat) : Int) (by omega); omega
    · have h2 := drawn_one st ((cum g len : Nat) : Int) (by omega); omega)
  clear hc hs hf hx
  go_enter Try.func27, Try.ntmps27
  go_wp2
  go_loop [5, 13] (fun s i => ∃ k : Nat, k ≤ len ∧ i = .int .i64 (k : Int) ∧ s = .int .i64 ((cum g k : Nat) : Int)) (fun _ i => len - (intOf i).toNat)
  case atStart => exact ⟨0, Nat.zero_le _, rfl, rfl⟩
  case round =>
    obtain ⟨k, hk, rfl, rfl⟩ := hrel
    by_cases hlt : k < len
    · have c1 := HC.out k hlt
      have h1 := cum_le g k
      have h2 := wt_le (g k)
      generalize hgk : g k = n at c1 h2
      have HG := Lib.hid hgk
      clear hgk
      go_wp2_with (go_at_call 33; refine (weight_any _ _).mono ?_; rintro e w' ⟨rfl, rfl⟩)
      go_round
      case rel => exact ⟨k + 1, by omega, by go_num, val_int (by show _ = ((cum g k + wt (g k) : Nat) : Int); rw [HG.out]; omega)⟩
      case measure => simp [intOf]; omega
    · obtain rfl : k = len := by omega
      go_wp2_with fail
      refine (below_all sb so st _ (by have := cum_le g k; omega) _ HS.out.1 HS.out.2).mono ?_
      rw [HX.out]
      rintro e w' ⟨rfl, rfl⟩
      have hx1 := HX'.out
      go_wp2
      go_loop [8, 27] (fun d i => ∃ j : Nat, j ≤ k ∧ i = .int .i64 (j : Int) ∧ cum g j ≤ x ∧ d = .int .i64 ((x - cum g j : Nat) : Int)) (fun _ i => k - (intOf i).toNat)
      case atStart => exact ⟨0, Nat.zero_le _, rfl, Nat.zero_le _, rfl⟩
      case round =>
        obtain ⟨j, hj, rfl, hcx, rfl⟩ := hrel
        by_cases hlt : j < k
        · have c1 := HC.out j hlt
          have c2 : (w.setCell ⟨sb, so, none⟩ (.int .u64 ((MixMath.nxt st : Nat) : Int))).cell? ⟨b, off + j, none⟩ = some (.int .i64 (g j)) := by
            rw [World.cell?_setCell_other _ _ _ _ (by intro h; injection h with h; exact hne h.symm)]; exact c1
          have h2 := wt_le (g j)
          have h3 : cum g (j + 1) = cum g j + wt (g j) := rfl
          have H3 := Lib.hid h3
          clear c1 h3
          generalize hgk : g j = n at c2 h2
          have HG := Lib.hid hgk
          clear hgk
          go_wp2_with (go_at_call 33; refine (weight_any _ _).mono ?_; rintro e w' ⟨rfl, rfl⟩)
          · have ht : ((x - cum g j : Nat) : Int) - ((wt n : Nat) : Int) < 0 := by assumption
            go_ret
            refine ⟨ret_int ?_, rfl⟩
            have h4 := H3.out
            rw [HG.out] at h4
            rw [place_here g x j k hcx (by omega) hlt]
          · have ht : 0 ≤ ((x - cum g j : Nat) : Int) - ((wt n : Nat) : Int) := by assumption
            have h4 := H3.out
            rw [HG.out] at h4
            go_round
            case rel => exact ⟨j + 1, by omega, by go_num, by omega, val_int (by omega)⟩
            case measure => simp [intOf]; omega
        · obtain rfl : j = k := by omega
          go_wp2
          go_ret
          refine ⟨ret_int ?_, rfl⟩
          rw [place_none g x j hcx]; rfl
end Go.Proofs.Ytbdpinfiicpmhaa
