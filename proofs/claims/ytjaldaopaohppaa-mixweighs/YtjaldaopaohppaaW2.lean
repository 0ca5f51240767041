/-
  The walk of the law MixWeighs: what it answers for a list of numbers that lies in memory.
-/
import Derived.Test.YtjaldaopaohppaaW
namespace Go.Proofs.Ytjaldaopaohppaa
open Go.ChangeShapes Go.WideShapes Go.ChangeAt Go.RowKit RefMath

theorem wt_cases (n : Int) : (n < 0 ∧ Hid (((wt n : Nat) : Int) = 0)) ∨ ((0 ≤ n ∧ n ≤ 1048576) ∧ Hid (((wt n : Nat) : Int) = n)) ∨ (1048576 < n ∧ Hid (((wt n : Nat) : Int) = 1048576)) := by
  by_cases h1 : n < 0
  · exact .inl ⟨h1, Lib.hid (by rw [wt_neg n h1]; rfl)⟩
  · by_cases h2 : 1048576 < n
    · exact .inr (.inr ⟨h2, Lib.hid (by rw [wt_top n h2]; rfl)⟩)
    · exact .inr (.inl ⟨⟨by omega, by omega⟩, Lib.hid (wt_mid n (by omega) (by omega))⟩)

set_option maxRecDepth 100000 in
set_option maxHeartbeats 2000000 in
theorem weighs_some (s b off len cap : Nat) (g : Nat → Int) (w : World) (hs : s < 18446744073709551616) (hl : 0 < len) (hl' : len ≤ 60)
    (hc : ∀ j, j < len → w.cell? ⟨b, off + j, none⟩ = some (.int .i64 (g j))) (hb : b < w.heap.size) :
    Calls Try.prog 5 #[.int .u64 (s : Int), .slice (some ⟨b, off, none⟩) len cap] w fun e w' => e = .returned (.bool true) ∧ Below w.heap.size w w' := by
  have HS := Lib.hid hs
  have HC := Lib.hid hc
  clear hs hc
  go_enter Try.func5, Try.ntmps5
  go_wp2_with fail
  refine (head_any _).mono ?_
  rintro e w' ⟨rfl, rfl⟩
  have HC1 : Hid (∀ j, j < len → (w.alloc (.cells #[.int .u64 ((MixMath.nxt 0 : Nat) : Int)] 49)).cell? ⟨b, off + j, none⟩ = some (.int .i64 (g j))) :=
    Lib.hid (fun j hj => by rw [World.cell?_alloc_lt _ _ _ hb]; exact HC.out j hj)
  have HB0 : Hid (Below w.heap.size w (w.alloc (.cells #[.int .u64 ((MixMath.nxt 0 : Nat) : Int)] 49))) := Lib.hid ((Below.refl _ _).alloc (Nat.le_refl _) _)
  have hsz : w.heap.size < (w.alloc (.cells #[.int .u64 ((MixMath.nxt 0 : Nat) : Int)] 49)).heap.size := by simp
  generalize (w.alloc (.cells #[.int .u64 ((MixMath.nxt 0 : Nat) : Int)] 49)) = w0 at HC1 HB0 hsz ⊢
  have hb0 : b < w0.heap.size := by omega
  go_wp2
  go_loop [5, 26] (fun s i => ∃ k : Nat, k ≤ len ∧ i = .int .i64 (k : Int) ∧ s = .int .i64 ((cum g k : Nat) : Int)) (fun _ i => len - (intOf i).toNat)
  case atStart => exact ⟨0, Nat.zero_le _, rfl, rfl⟩
  case round =>
    obtain ⟨k, hk, rfl, rfl⟩ := hrel
    by_cases hlt : k < len
    · have c1 := HC1.out k hlt
      have h1 := cum_le g k
      have h2 := wt_le (g k)
      generalize hgk : g k = n at c1 h2
      have HG := Lib.hid hgk
      clear hgk
      rcases wt_cases n with ⟨hn, HW⟩ | ⟨⟨hn, hn'⟩, HW⟩ | ⟨hn, HW⟩
      all_goals
        go_wp2
        go_round
        case rel => exact ⟨k + 1, by omega, by go_num, val_int (by have := HW.out; show _ = ((cum g k + wt (g k) : Nat) : Int); rw [HG.out]; omega)⟩
        case measure => simp [intOf]; omega
    · obtain rfl : k = len := by omega
      obtain ⟨x, hx⟩ : ∃ x : Nat, drawn s ((cum g k : Nat) : Int) = (x : Int) := ⟨(drawn s ((cum g k : Nat) : Int)).toNat, by have := drawn_nonneg s ((cum g k : Nat) : Int); omega⟩
      have HX := Lib.hid hx
      have hcl := cum_le g k
      have HXL : Hid (0 < cum g k → x < cum g k) := Lib.hid (fun h => by have := drawn_lt s ((cum g k : Nat) : Int) (by omega); omega)
      have HX0 : Hid (cum g k = 0 → x = 0) := Lib.hid (fun h => by have := drawn_one s ((cum g k : Nat) : Int) (by omega); omega)
      have hxb : x ≤ 1048576 * 60 := by
        by_cases h : 0 < cum g k
        · have := HXL.out h; omega
        · have := HX0.out (by omega); omega
      clear hx
      go_wp2_with fail
      refine (rbelow_all s _ (by omega) _ HS.out).mono ?_
      rw [HX.out]
      rintro e w1 ⟨rfl, hb1⟩
      have HB1 := Lib.hid hb1
      have HC2 : Hid (∀ j, j < k → w1.cell? ⟨b, off + j, none⟩ = some (.int .i64 (g j))) := Lib.hid (fun j hj => (hb1.cell (p := ⟨b, off + j, none⟩) hb0).trans (HC1.out j hj))
      have hsz1 : w0.heap.size ≤ w1.heap.size := hb1.size
      clear hb1
      go_wp2
      go_loop [10, 11, 12, 44] (fun wa su fo i => ∃ j : Nat, j ≤ k ∧ i = .int .i64 (j : Int) ∧ su = .int .i64 ((cum g j : Nat) : Int) ∧ wa = .int .i64 ((place g x j : Nat) : Int) ∧ fo = .bool (found g x j)) (fun _ _ _ i => k - (intOf i).toNat)
      case atStart => exact ⟨0, Nat.zero_le _, rfl, rfl, rfl, rfl⟩
      case round =>
        obtain ⟨j, hj, rfl, rfl, rfl, rfl⟩ := hrel
        by_cases hlt : j < k
        · have c1 := HC2.out j hlt
          have h1 := cum_le g j
          have h2 := wt_le (g j)
          have H3 : Hid (cum g (j + 1) = cum g j + wt (g j)) := Lib.hid rfl
          generalize hgk : g j = n at c1 h2
          have HG := Lib.hid hgk
          clear hgk
          by_cases hf : x < cum g j
          · have ef := found_true g x j hf
            have ef' := Lib.hid (found_true g x (j + 1) (by have := H3.out; omega))
            have ep := Lib.hid (place_stays g x j hf)
            rw [ef]
            rcases wt_cases n with ⟨hn, HW⟩ | ⟨⟨hn, hn'⟩, HW⟩ | ⟨hn, HW⟩
            all_goals
              go_wp2
              go_round
              case rel => exact ⟨j + 1, by omega, by go_num, val_int (by have := HW.out; rw [H3.out, HG.out]; omega), by rw [ep.out], by rw [ef'.out]⟩
              case measure => simp [intOf]; omega
          · have ef := found_false g x j (by omega)
            rw [ef]
            rcases wt_cases n with ⟨hn, HW⟩ | ⟨⟨hn, hn'⟩, HW⟩ | ⟨hn, HW⟩
            · go_wp2
              go_round
              case rel => exact ⟨j + 1, by omega, by go_num, val_int (by have := HW.out; rw [H3.out, HG.out]; omega), by rw [place_none g x (j + 1) (by have := HW.out; rw [H3.out, HG.out]; omega), place_none g x j (by omega)], by rw [found_false g x (j + 1) (by have := HW.out; rw [H3.out, HG.out]; omega)]⟩
              case measure => simp [intOf]; omega
            · by_cases ht : (x : Int) < ((cum g j : Nat) : Int) + n
              · go_wp2
                go_round
                case rel => exact ⟨j + 1, by omega, by go_num, val_int (by have := HW.out; rw [H3.out, HG.out]; omega), by rw [place_here g x j (j + 1) (by omega) (by have := HW.out; rw [H3.out, HG.out]; omega) (by omega)], by rw [found_true g x (j + 1) (by have := HW.out; rw [H3.out, HG.out]; omega)]⟩
                case measure => simp [intOf]; omega
              · go_wp2
                go_round
                case rel => exact ⟨j + 1, by omega, by go_num, val_int (by have := HW.out; rw [H3.out, HG.out]; omega), by rw [place_none g x (j + 1) (by have := HW.out; rw [H3.out, HG.out]; omega), place_none g x j (by omega)], by rw [found_false g x (j + 1) (by have := HW.out; rw [H3.out, HG.out]; omega)]⟩
                case measure => simp [intOf]; omega
            · by_cases ht : (x : Int) < ((cum g j : Nat) : Int) + 1048576
              · go_wp2
                go_round
                case rel => exact ⟨j + 1, by omega, by go_num, val_int (by have := HW.out; rw [H3.out, HG.out]; omega), by rw [place_here g x j (j + 1) (by omega) (by have := HW.out; rw [H3.out, HG.out]; omega) (by omega)], by rw [found_true g x (j + 1) (by have := HW.out; rw [H3.out, HG.out]; omega)]⟩
                case measure => simp [intOf]; omega
              · go_wp2
                go_round
                case rel => exact ⟨j + 1, by omega, by go_num, val_int (by have := HW.out; rw [H3.out, HG.out]; omega), by rw [place_none g x (j + 1) (by have := HW.out; rw [H3.out, HG.out]; omega), place_none g x j (by omega)], by rw [found_false g x (j + 1) (by have := HW.out; rw [H3.out, HG.out]; omega)]⟩
                case measure => simp [intOf]; omega
        · obtain rfl : j = k := by omega
          go_wp2_with fail
          refine (new_any _ _).mono ?_
          rintro e w' ⟨rfl, rfl⟩
          go_wp2_with fail
          refine (weigh_any w1.heap.size s b off j cap g _ hl' ?_ ?_ ?_ (by omega) x HX.out).mono ?_
          · go_simp
          · go_simp
          · intro i hi
            rw [World.cell?_alloc_lt _ _ _ (by show b < _; omega)]; exact HC2.out i hi
          rintro e w' ⟨rfl, rfl⟩
          have HA : Hid ((∀ i, i < j → (w1.alloc (.cells #[.int .u64 ((MixMath.nxt s : Nat) : Int)] 49)).cell? ⟨b, off + i, none⟩ = some (.int .i64 (g i))) ∧ (w1.alloc (.cells #[.int .u64 ((MixMath.nxt s : Nat) : Int)] 49)).cell? ⟨w1.heap.size, 0, none⟩ = some (.int .u64 ((MixMath.nxt s : Nat) : Int)) ∧ (w1.alloc (.cells #[.int .u64 ((MixMath.nxt s : Nat) : Int)] 49)).frozen? ⟨w1.heap.size, 0, none⟩ = false
              ∧ Below w.heap.size w (w1.alloc (.cells #[.int .u64 ((MixMath.nxt s : Nat) : Int)] 49)) ∧ w1.heap.size < (w1.alloc (.cells #[.int .u64 ((MixMath.nxt s : Nat) : Int)] 49)).heap.size) := by
            refine Lib.hid ⟨?_, ?_, ?_, ?_, ?_⟩
            · intro i hi
              rw [World.cell?_alloc_lt _ _ _ (by show b < _; omega)]; exact HC2.out i hi
            · go_simp
            · go_simp
            · have h1 := HB0.out.trans (HB1.out.mono HB0.out.size)
              exact h1.alloc h1.size _
            · simp
          go_wp2_with fail
          generalize (w1.alloc (.cells #[.int .u64 ((MixMath.nxt s : Nat) : Int)] 49)) = w2 at HA ⊢
          refine (rnext_any (MixMath.nxt s) _ (MixMath.nxt_lt' s)).mono ?_
          rintro e w3 ⟨rfl, hb3⟩
          have hs2 := HA.out.2.2.2.2
          have hbw1 : b < w1.heap.size := by omega
          have n1 := (hb3.cell (p := ⟨w1.heap.size, 0, none⟩) hs2).trans HA.out.2.1
          have n2 := (hb3.frozen (p := ⟨w1.heap.size, 0, none⟩) hs2).trans HA.out.2.2.1
          have HB3 := Lib.hid (HA.out.2.2.2.1.trans (hb3.mono HA.out.2.2.2.1.size))
          have HBE : Hid (Below w.heap.size w (w3.setCell ⟨w1.heap.size, 0, none⟩ (.int .u64 ((MixMath.nxt (MixMath.nxt s) : Nat) : Int)))) := Lib.hid (HB3.out.setCell (by show w.heap.size ≤ w1.heap.size; omega) _)
          by_cases hz : cum g j = 0
          · have hz' : (((cum g j : Nat) : Int) == 0) = true := by rw [hz]; rfl
            clear hz hb3
            go_wp2_with fail
            refine (next_any w1.heap.size (MixMath.nxt s) _ n1 n2).mono ?_
            rintro e w' ⟨rfl, rfl⟩
            go_wp2
            go_ret
            exact ⟨rfl, HBE.out⟩
          · have hp := HXL.out (by omega)
            have ⟨p1, _⟩ := place_spec g x j hp
            have p2 := place_weight g x j hp
            have c1 := (hb3.cell (p := ⟨b, off + place g x j, none⟩) (by show b < _; omega)).trans (HA.out.1 _ p1)
            have hz' : (((cum g j : Nat) : Int) == 0) = false := by rw [beq_eq_false_iff_ne]; omega
            generalize g (place g x j) = n at c1 p2
            generalize place g x j = q at c1 p1 ⊢
            clear hz hb3 hp
            go_wp2_with fail
            refine (next_any w1.heap.size (MixMath.nxt s) _ n1 n2).mono ?_
            rintro e w' ⟨rfl, rfl⟩
            go_wp2
            go_ret
            exact ⟨rfl, HBE.out⟩
end Go.Proofs.Ytjaldaopaohppaa
