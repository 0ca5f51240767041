/-
  Contract of the reference's function Num: a number's bits.
-/
import Derived.Test.YtaddmegghikhpaaBV0
import Derived.Test.YtaddmegghikhpaaBV1
import Derived.Deep.RegionHeld3
import Derived.Deep.AppendLies
namespace Go.Proofs.Ytaddmegghikhpaa
open Go.ChangeShapes Go.WideShapes Go.ChangeAt Go.RowKit

/-- a new list of bits -/
def ListPost (h : Nat → Nat) (m : Nat) (w : World) (e : Ending) (w' : World) : Prop :=
  ∃ g cap, e = .returned (.slice (some ⟨g, 0, none⟩) m cap) ∧ w.heap.size ≤ g ∧ w'.ownsRow w.heap.size 5 1 (.slice (some ⟨g, 0, none⟩) m cap) m (rowB h m) ∧ Below w.heap.size w w'

theorem nz_top : nz 18446744073709551615 = 64 := by unfold nz; decide
theorem nz_low (x : Nat) (hx : x + 1 < 18446744073709551616) : nz x ≤ 63 := by
  have h1 := (nz_spec x).1
  rcases Nat.lt_or_ge (nz x) 64 with h2 | h2
  · omega
  · have : 2 ^ 64 ≤ 2 ^ nz x := Nat.pow_le_pow_right (by decide) h2
    omega

theorem top_bits : List.replicate 64 (Value.int .u8 0) ++ [Value.int .u8 1] ++ List.replicate 64 (Value.int .u8 0) = rowB (numBits 18446744073709551615) 129 := by
  have h1 : ∀ j, j < 64 → numBits 18446744073709551615 j = (fun _ => 0) j := fun j hj => numBits_low _ _ (by rw [nz_top]; exact hj)
  have h2 : ∀ j, j < 1 → numBits 18446744073709551615 (64 + j) = (fun _ => 1) j := fun j hj => by
    obtain rfl : j = 0 := by omega
    have h := numBits_lead 18446744073709551615
    rw [nz_top] at h
    exact h
  have h3 : ∀ j, j < 64 → numBits 18446744073709551615 (65 + j) = (fun _ => 0) j := fun j hj => by
    unfold numBits
    rw [nz_top, if_neg (by omega), show 18446744073709551615 + 1 = 2 ^ 64 from rfl, Nat.pow_div (by omega) (by decide), show 64 - (2 * 64 - (65 + j)) = j + 1 from by omega, Nat.pow_succ, Nat.mul_mod_left]
  rw [rowB_rep, show [Value.int .u8 1] = rowB (fun _ => 1) 1 from rfl, rowB_app _ _ 64 1 (numBits 18446744073709551615) h1 h2, rowB_app _ _ 65 64 (numBits 18446744073709551615) (fun _ _ => rfl) h3]

set_option maxHeartbeats 1000000 in
theorem rnumw_top (w : World) : Calls Try.prog 37 #[.int .u64 18446744073709551615] w (ListPost (numBits 18446744073709551615) 129 w) := by
  obtain ⟨i0, hi, hz0, hz1, hz2⟩ := info_parts info5
  obtain ⟨cur, hcur⟩ : ∃ cur, cur = List.replicate 64 (Value.int .u8 0) := ⟨_, rfl⟩
  have hmk := makeB 64 cur hcur (by decide)
  rw [show ((64 : Nat) : Int) = 64 from rfl] at hmk
  have HCL : Hid (cur.length = 64) := Lib.hid (by rw [hcur]; simp)
  have HC := Lib.hid hcur
  clear hcur
  go_enter Try.func37, Try.ntmps37
  go_wp2_with (at_builtin; refine wpList_append_own _ rfl _ _ 26 rfl w.heap.size 5 i0 (.int .u8 0) 1 1 Try.underlying26 hi hz0 hz1 hz2 rfl (by decide) _ 64 cur rfl ?c0 ⟨w.heap.size + 1, 0, none⟩ 1 1 [.int .u8 1] rfl ?cl ?c1 ?c2 ?c3 ?c4 ?c5 ?_)
  case c0 =>
    have h := (World.ownsRow_lit (base := w.heap.size) (e := 5) (size := 1) w cur.toArray 64 (Nat.le_refl _) (by unfold maxLen; omega) (by simp [HCL.out])).alloc (.cells #[.int .u8 1] 5)
    rw [List.toList_toArray] at h
    exact h
  case cl => rfl
  case c1 =>
    intro j u hj
    rcases j with _ | j
    · simp at hj; subst hj; simp [Addr.add]
    · simp at hj
  case c2 => intro u hu; simp at hu; subst hu; rfl
  case c3 => unfold maxLen; omega
  case c4 => omega
  case c5 => simp; omega
  intro v5 w5 hown5 hgrow5 _
  have HB5 : Hid (Below w.heap.size w w5) := Lib.hid ((((Below.refl _ _).alloc (Nat.le_refl _) _).alloc (by simp) _).grown hgrow5 (by simp; omega) (fun q hq => by simp [Value.ownBlock] at hq; omega))
  obtain ⟨g5, cap5, rfl, hg1, hg2⟩ := hown5.form (by omega)
  obtain ⟨L5, eL5⟩ : ∃ L5, L5 = cur ++ [Value.int .u8 1] := ⟨_, rfl⟩
  rw [← eL5] at hown5
  have HL5 := Lib.hid eL5
  have HO5 := Lib.hid hown5
  clear eL5
  clear hown5 hgrow5
  go_wp2_with (at_builtin; refine wpList_append_noughts _ rfl _ _ rfl i0 hi hz0 hz1 hz2 w.heap.size g5 65 cap5 64 L5 rfl rfl ?d0 ?d1 ?d2 ?d3 ?d4 ?_)
  case d0 => exact HO5.out
  case d1 => omega
  case d2 => omega
  case d3 => omega
  case d4 => exact HB5.out.size
  intro g6 cap6 w6 hown6 hgrow6
  have HB6 : Hid (Below w.heap.size w w6) := Lib.hid (HB5.out.grown hgrow6 HB5.out.size (fun q hq => by injection hq with hq; omega))
  have HO6 : Hid (w.heap.size ≤ g6 ∧ w6.ownsRow w.heap.size 5 1 (.slice (some ⟨g6, 0, none⟩) 129 cap6) 129 (rowB (numBits 18446744073709551615) 129)) := Lib.hid ⟨(hown6.lt g6 rfl).1, by
    have e := top_bits
    rw [← HC.out, ← HL5.out, HC.out, rowB_rep] at e
    rw [← e]; exact hown6⟩
  clear hown6 hgrow6
  go_wp2
  go_ret
  exact ⟨g6, cap6, rfl, HO6.out.1, HO6.out.2, HB6.out⟩

theorem num_list (x z : Nat) (hz : z = nz x) : List.replicate z (Value.int .u8 0) ++ rowB (pb (x + 1) (z + 1)) (z + 1) = rowB (numBits x) (2 * z + 1) := by
  rw [rowB_rep, rowB_app _ _ z (z + 1) (numBits x) (fun j hj => numBits_low _ _ (by omega)) (fun j hj => by
    unfold numBits pb
    rw [if_neg (by omega), ← hz]
    congr 3
    omega), show z + (z + 1) = 2 * z + 1 from by omega]

theorem num_fin (x z : Nat) (ez : z = nz x) (cur : List Value) (hc : cur = List.replicate z (Value.int .u8 0)) (w w5 : World) (g5 cap5 : Nat)
    (hown : w5.ownsRow w.heap.size 5 1 (.slice (some ⟨g5, 0, none⟩) (z + (z + 1)) cap5) (z + (z + 1)) (cur.toArray.toList ++ rowB (pb (x + 1) (z + 1)) (z + 1))) (hB : Below w.heap.size w w5) :
    ListPost (numBits x) (2 * nz x + 1) w (.returned (.slice (some ⟨g5, 0, none⟩) (z + (z + 1)) cap5)) w5 := by
  rw [List.toList_toArray, hc, num_list x z ez, show z + (z + 1) = 2 * z + 1 from by omega] at hown
  rw [← ez, show z + (z + 1) = 2 * z + 1 from by omega]
  exact ⟨g5, cap5, rfl, (hown.lt g5 rfl).1, hown, hB⟩

set_option maxHeartbeats 1000000 in
theorem rnumw_any (x : Nat) (w : World) (hx : x + 1 < 18446744073709551616) : Calls Try.prog 37 #[.int .u64 (x : Int)] w (ListPost (numBits x) (2 * nz x + 1) w) := by
  obtain ⟨i0, hi, hz0, hz1, hz2⟩ := info_parts info5
  have hz := nz_le x (by omega)
  have HNZ := Lib.hid (nz_spec x)
  have b1 : ((x : Int) == 18446744073709551615) = false := by rw [beq_eq_false_iff_ne]; omega
  go_enter Try.func37, Try.ntmps37
  go_wp2
  go_loopw [3, 4] (fun n y wr => ∃ k : Nat, k ≤ nz x + 1 ∧ n = .int .i64 (k : Int) ∧ y = .int .u64 (((x + 1) / 2 ^ k : Nat) : Int) ∧ w = wr) (fun n _ _ => nz x + 1 - (intOf n).toNat)
  case atStart => exact ⟨0, by omega, rfl, by rw [Nat.pow_zero, Nat.div_one]; rfl, rfl⟩
  case round =>
    obtain ⟨k, hk, rfl, rfl, rfl⟩ := hrel
    by_cases hlt : k < nz x + 1
    · have hy : 0 < (x + 1) / 2 ^ k := Nat.div_pos (Nat.le_trans (Nat.pow_le_pow_right (by decide) (by omega)) HNZ.out.1) (Nat.two_pow_pos _)
      have HH := Lib.hid (half_int (x + 1) k hx)
      have hy2 : (x + 1) / 2 ^ k ≤ x + 1 := Nat.div_le_self _ _
      generalize (x + 1) / 2 ^ k = y at *
      go_wp2
      go_roundw
      case rel => exact ⟨k + 1, by omega, by go_num, val_int (by rw [← HH.out, IntKind.wrap_u64]; omega), by first | rfl | trivial⟩
      case measure => simp [intOf]; omega
    · obtain rfl : k = nz x + 1 := by omega
      have hy : (x + 1) / 2 ^ (nz x + 1) = 0 := Nat.div_eq_of_lt HNZ.out.2
      rw [hy]
      clear hy
      obtain ⟨z, ez⟩ : ∃ z, z = nz x := ⟨_, rfl⟩
      have EZ := Lib.hid ez
      rw [← ez] at hz ⊢
      clear ez hlt hk
      obtain ⟨cur, hcur⟩ : ∃ cur, cur = List.replicate z (Value.int .u8 0) := ⟨_, rfl⟩
      have hmk := makeB z cur hcur (by omega)
      have HCL : Hid (cur.length = z) := Lib.hid (by rw [hcur]; simp)
      have HC := Lib.hid hcur
      clear hcur
      have hz63 : z ≤ 63 := by rw [EZ.out]; exact nz_low x hx
      have HPUT : Hid (∀ w, Calls Try.prog 38 #[.int .u64 ((x : Int) + 1), .int .i64 ((z : Int) + 1)] w (PutPost (x + 1) (z + 1) w)) := Lib.hid (fun w => rput_any (x + 1) ((z : Int) + 1) (z + 1) w hx (wn_nat' (z + 1) (by omega)))
      have HOA : Hid (∀ w4, Below (w.alloc (.cells cur.toArray 5)).drew.heap.size (w.alloc (.cells cur.toArray 5)).drew w4 → w4.ownsRow w.heap.size 5 1 (.slice (some ⟨w.heap.size, 0, none⟩) z z) z cur.toArray.toList ∧ w.heap.size ≤ w4.heap.size ∧ Below w.heap.size w w4) := Lib.hid (fun w4 hb => by
        have h0 : (w.alloc (.cells cur.toArray 5)).ownsRow w.heap.size 5 1 (.slice (some ⟨w.heap.size, 0, none⟩) z z) z cur.toArray.toList := World.ownsRow_lit w cur.toArray z (Nat.le_refl _) (by unfold maxLen; omega) (by simp [HCL.out])
        have h1 : (w.alloc (.cells cur.toArray 5)).drew.ownsRow w.heap.size 5 1 (.slice (some ⟨w.heap.size, 0, none⟩) z z) z cur.toArray.toList := h0
        have b1 : Below w.heap.size w (w.alloc (.cells cur.toArray 5)).drew := ((Below.refl _ _).alloc (Nat.le_refl _) _).drew
        have b2 := b1.trans (hb.mono b1.size)
        exact ⟨own_below h1 hb, b2.size, b2⟩)
      have HOB : Hid (∀ w4, Below w.drew.heap.size w.drew w4 → (w4.alloc (.cells cur.toArray 5)).ownsRow w.heap.size 5 1 (.slice (some ⟨w4.heap.size, 0, none⟩) z z) z cur.toArray.toList ∧ w.heap.size ≤ (w4.alloc (.cells cur.toArray 5)).heap.size ∧ Below w.heap.size w (w4.alloc (.cells cur.toArray 5))) := Lib.hid (fun w4 hb => by
        have b1 : Below w.heap.size w w.drew := (Below.refl _ _).drew
        have b2 := b1.trans (hb.mono b1.size)
        have b3 := b2.alloc b2.size (.cells cur.toArray 5)
        exact ⟨World.ownsRow_lit w4 cur.toArray z b2.size (by unfold maxLen; omega) (by simp [HCL.out]), b3.size, b3⟩)
      have hw1 : IntKind.i64.wrap (z : Int) = (z : Int) := by rw [IntKind.wrap_i64]; omega
      have hw2 : IntKind.u64.wrap ((x : Int) + 1) = (x : Int) + 1 := by rw [IntKind.wrap_u64]; omega
      go_wp2_with fail
      go_region_held3 (fun _ => True) (trivial)
        (first
          | (go_at_call 38; refine (HPUT.out _).mono ?_; rintro e w4 ⟨g4, cap4, rfl, hg4, hown4, hb4⟩)
          | (refine step_append_lies _ (by rfl) _ _ 26 (by rfl) w.heap.size 5 i0 (.int .u8 0) 1 1 Try.underlying26 hi hz0 hz1 hz2 rfl (by decide) _ z cur.toArray.toList (by rfl) (HOA.out _ hb4).1 ⟨g4, 0, none⟩ (z + 1) cap4 (rowB (pb (x + 1) (z + 1)) (z + 1)) (by rfl) (by rw [rowB_length]; omega) (fun j u hj => hown4.cells (g := g4) rfl j u hj) (rowB_one _ _) (by omega) (by unfold maxLen; omega) (by omega) (HOA.out _ hb4).2.1 _ rfl ?_; intro g5 cap5 w5 hown5 hgrow5 hat5 hlt5)
          | (refine step_append_lies _ (by rfl) _ _ 26 (by rfl) w.heap.size 5 i0 (.int .u8 0) 1 1 Try.underlying26 hi hz0 hz1 hz2 rfl (by decide) _ z cur.toArray.toList (by rfl) (HOB.out _ hb4).1 ⟨g4, 0, none⟩ (z + 1) cap4 (rowB (pb (x + 1) (z + 1)) (z + 1)) (by rfl) (by rw [rowB_length]; omega) (fun j u hj => (World.cell?_alloc_lt _ _ _ (cell_lt (hown4.cells (g := g4) rfl j u hj))).trans (hown4.cells (g := g4) rfl j u hj)) (rowB_one _ _) (by omega) (by unfold maxLen; omega) (by omega) (HOB.out _ hb4).2.1 _ rfl ?_; intro g5 cap5 w5 hown5 hgrow5 hat5 hlt5))
      · have HF := Lib.hid (num_fin x z EZ.out cur HC.out w w5 g5 cap5 hown5 ((HOA.out _ hb4).2.2.grown hgrow5 (HOA.out _ hb4).2.1 (fun q hq => by have hq' : w.heap.size = q := Option.some.inj hq; omega)))
        clear hown4 hb4 hown5 hgrow5 hat5
        go_wp2
        go_ret
        exact HF.out
      · have HF := Lib.hid (num_fin x z EZ.out cur HC.out w w5 g5 cap5 hown5 ((HOB.out _ hb4).2.2.grown hgrow5 (HOB.out _ hb4).2.1 (fun q hq => by have hq' : w4.heap.size = q := Option.some.inj hq; have h2 : w.heap.size ≤ w4.heap.size := hb4.size; omega)))
        clear hown4 hb4 hown5 hgrow5 hat5
        go_wp2
        go_ret
        exact HF.out
end Go.Proofs.Ytaddmegghikhpaa
