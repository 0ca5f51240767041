/-
  Contracts of the reference's functions Num, Int and Bytes.
-/
import Derived.Test.YtaddmegghikhpaaBV2
import Derived.Test.YtaddmegghikhpaaBR1
namespace Go.Proofs.Ytaddmegghikhpaa
open Go.ChangeShapes Go.WideShapes Go.ChangeAt Go.RowKit

theorem rnumw (x : Nat) (w : World) (hx : x < 18446744073709551616) : Calls Try.prog 37 #[.int .u64 (x : Int)] w (ListPost (numBits x) (2 * nz x + 1) w) := by
  by_cases h : x + 1 < 18446744073709551616
  · exact rnumw_any x w h
  · obtain rfl : x = 18446744073709551615 := by omega
    rw [nz_top]
    exact rnumw_top w

theorem gv_byte (F : Nat → Nat) (t : Nat) (h : F t < 256) : gv F (8 * t) 8 = F t := by
  have e := gv_of F (8 * t) (F t) 8 8 (Nat.le_refl _) (fun j hj => by unfold bitAt; rw [show (8 * t + j) / 8 = t from by omega, show (8 * t + j) % 8 = j from by omega])
  rw [e, Nat.sub_self, Nat.pow_zero, Nat.div_one, Nat.mod_eq_of_lt h]

set_option maxHeartbeats 2000000 in
theorem rbytes_any (q L cp : Nat) (F : Nat → Nat) (w : World) (h : BS w q 0 L 0 F) (hE : Ends F L) (hL : L ≤ 800000) :
    Calls Try.prog 21 #[.slice (some ⟨q, 0, none⟩) L cp] w (ListPost F ((L + 7) / 8) w) := by
  have HB := Lib.hid h
  have HE := Lib.hid hE
  clear h hE
  obtain ⟨i0, hi, hz0, hz1, hz2⟩ := info_parts info5
  go_enter Try.func21, Try.ntmps21
  go_wp2
  go_loopw [3, 4] (fun v i wr => ∃ t g cap : Nat, t ≤ (L + 7) / 8 ∧ i = .int .i64 ((8 * t : Nat) : Int) ∧ v = .slice (some ⟨g, 0, none⟩) t cap ∧ Hid (w.heap.size ≤ g ∧ wr.ownsRow w.heap.size 5 1 (.slice (some ⟨g, 0, none⟩) t cap) t (rowB F t) ∧ Below w.heap.size w wr)) (fun _ i _ => 8 * ((L + 7) / 8) - (intOf i).toNat)
  case atStart => exact ⟨0, w.heap.size, 0, Nat.zero_le _, rfl, rfl, Lib.hid ⟨Nat.le_refl _, World.ownsRow_lit w #[] 0 (Nat.le_refl _) (Nat.zero_le _) rfl, (Below.refl _ _).alloc (Nat.le_refl _) _⟩⟩
  case round =>
    obtain ⟨t, g, cap, ht, rfl, rfl, HA⟩ := hrel
    by_cases hlt : 8 * t < L
    · have hlt' : (((8 * t : Nat) : Int)) < (L : Int) := by omega
      go_wp2
      go_loopw [5, 6] (fun c k wx => ∃ s : Nat, s ≤ 8 ∧ k = .int .i64 (s : Int) ∧ c = .int .i64 ((gv F (8 * t) s : Nat) : Int) ∧ wr = wx) (fun _ k _ => 8 - (intOf k).toNat)
      case atStart => exact ⟨0, by omega, rfl, rfl, rfl⟩
      case round =>
        obtain ⟨s, hs, rfl, rfl, rfl⟩ := hrel
        by_cases hs8 : s < 8
        · have hx : gv F (8 * t) s < 256 := Nat.lt_of_lt_of_le (gv_lt F (8 * t) s) (Nat.pow_le_pow_right (by decide) (by omega : s ≤ 8))
          have hb := bitAt_lt F (8 * t + s)
          have HG : Hid (gv F (8 * t) (s + 1) = 2 * gv F (8 * t) s + bitAt F (8 * t + s)) := Lib.hid rfl
          by_cases hin : 8 * t + s < L
          · have hin' : (((8 * t : Nat) : Int)) + (s : Int) < (L : Int) := by omega
            have c1 := (HA.out.2.2.cell (p := ⟨q, 0 + (8 * t + s), none⟩) HB.out.lt).trans (HB.out.cb (8 * t + s) hin)
            simp only [Nat.zero_add] at c1
            generalize gv F (8 * t) s = x at *
            generalize bitAt F (8 * t + s) = b at *
            go_wp2
            go_roundw
            case rel => exact ⟨s + 1, by omega, by go_num, val_int (by rw [HG.out]; omega), by first | rfl | trivial⟩
            case measure => simp [intOf]; omega
          · have hin' : ¬ (((8 * t : Nat) : Int)) + (s : Int) < (L : Int) := by omega
            have HN : Hid (bitAt F (8 * t + s) = 0) := Lib.hid (HE.out.nought _ (by omega) (by omega))
            generalize gv F (8 * t) s = x at *
            generalize bitAt F (8 * t + s) = b at *
            go_wp2
            go_roundw
            case rel => exact ⟨s + 1, by omega, by go_num, val_int (by rw [HG.out, HN.out]; omega), by first | rfl | trivial⟩
            case measure => simp [intOf]; omega
        · obtain rfl : s = 8 := by omega
          have hb := HE.out.1 t
          rw [gv_byte F t hb]
          have hwr : w.heap.size ≤ wr.heap.size := HA.out.2.2.size
          obtain ⟨y, ey⟩ : ∃ y, y = F t := ⟨_, rfl⟩
          have EY := Lib.hid ey
          rw [← ey] at hb ⊢
          clear ey
          go_wp2_with (at_builtin; refine wpList_append_own _ rfl _ _ 26 rfl w.heap.size 5 i0 (.int .u8 0) 1 1 Try.underlying26 hi hz0 hz1 hz2 rfl (by decide) _ t (rowB F t) rfl ?c0 ⟨wr.heap.size, 0, none⟩ 1 1 [.int .u8 (y : Int)] rfl ?cl ?c1 ?c2 ?c3 ?c4 ?c5 ?_)
          case c0 => exact HA.out.2.1.alloc _
          case cl => rfl
          case c1 =>
            intro j u hj
            rcases j with _ | j
            · simp at hj; subst hj; simp [Addr.add]
            · simp at hj
          case c2 => intro u hu; simp at hu; subst hu; rfl
          case c3 => unfold maxLen; omega
          case c4 => omega
          case c5 => simp; omega
          intro v5 w5 hown5 hgrow5 _
          have HB5 : Hid (Below w.heap.size w w5) := Lib.hid ((HA.out.2.2.alloc HA.out.2.2.size _).grown hgrow5 (by simp; omega) (fun q hq => by have := (HA.out.2.1.lt q hq).1; omega))
          rw [show [Value.int .u8 (y : Int)] = rowB (fun _ => y) 1 from rfl, rowB_app F (fun _ => y) t 1 F (fun _ _ => rfl) (fun j hj => by obtain rfl : j = 0 := by omega
                                                                                                                                            exact EY.out.symm)] at hown5
          obtain ⟨g5, cap5, rfl, hg1, hg2⟩ := hown5.form (by omega)
          have HO5 := Lib.hid (⟨hg1, hown5, HB5.out⟩ : _ ∧ _ ∧ _)
          clear hown5 hgrow5
          go_wp2
          go_roundw
          case rel => exact ⟨t + 1, g5, cap5, by omega, by go_num, rfl, HO5⟩
          case measure => simp [intOf]; omega
    · have hlt' : ¬ (((8 * t : Nat) : Int)) < (L : Int) := by omega
      obtain rfl : t = (L + 7) / 8 := by omega
      go_wp2
      go_ret
      exact ⟨g, cap, rfl, HA.out.1, HA.out.2.1, HA.out.2.2⟩
end Go.Proofs.Ytaddmegghikhpaa
