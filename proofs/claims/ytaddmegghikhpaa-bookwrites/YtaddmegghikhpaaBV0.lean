/-
  Contract of the reference's function Put, of any number of bits; append of noughts.
-/
import Derived.Test.YtaddmegghikhpaaBR0
import Derived.Deep.CutRange
namespace Go.Proofs.Ytaddmegghikhpaa
open Go.ChangeShapes Go.WideShapes Go.ChangeAt Go.RowKit

set_option maxHeartbeats 1000000 in
theorem rput_any (x : Nat) (z : Int) (m : Nat) (w : World) (hx : x < 18446744073709551616) (hm : wn z = m) :
    Calls Try.prog 38 #[.int .u64 (x : Int), .int .i64 z] w (PutPost x m w) := by
  have HX := Lib.hid hx
  have hw := wn_le z
  rw [hm] at hw
  have HZ : Hid ((z < 0 → m = 0) ∧ (64 < z → m = 64) ∧ (0 ≤ z → z ≤ 64 → z = (m : Int))) := Lib.hid ⟨fun h => by rw [← hm]; exact wn_neg z h, fun h => by rw [← hm]; exact wn_top z h, fun h h' => by rw [← hm]; exact (wn_mid z h h').symm⟩
  clear hx hm
  obtain ⟨i0, hi, hz0, hz1, hz2⟩ := info_parts info5
  go_enter Try.func38, Try.ntmps38
  go_upto_if 8 with (fail)
  go_cut [1] from 7 (fun v wc => ∃ zz : Int, v = .int .i64 zz ∧ (zz = (m : Int) ∨ (zz < 0 ∧ m = 0)) ∧ w = wc)
  case first =>
    by_cases h64 : 64 < z
    · have hm := HZ.out.2.1 h64
      subst hm
      go_wp2
      go_meet
      exact ⟨64, rfl, .inl rfl, rfl⟩
    · have HQ : Hid (z = (m : Int) ∨ (z < 0 ∧ m = 0)) := Lib.hid (by
        by_cases h0 : z < 0
        · exact .inr ⟨h0, HZ.out.1 h0⟩
        · exact .inl (HZ.out.2.2 (by omega) (by omega)))
      go_wp2
      go_meet
      exact ⟨z, rfl, HQ.out, rfl⟩
  case rest =>
  obtain ⟨zz, rfl, hzz, rfl⟩ := hcut
  go_wp2
  go_loopw [0, 5, 6] (fun y v i wr => ∃ k g cap : Nat, k ≤ m ∧ i = .int .i64 (k : Int) ∧ y = .int .u64 ((x / 2 ^ k : Nat) : Int) ∧ v = .slice (some ⟨g, 0, none⟩) k cap ∧ Hid (w.heap.size ≤ g ∧ wr.ownsRow w.heap.size 5 1 (.slice (some ⟨g, 0, none⟩) k cap) k (rowB (pb x k) k) ∧ Below w.heap.size w wr)) (fun _ _ i _ => m - (intOf i).toNat)
  case atStart => exact ⟨0, w.heap.size, 0, by omega, rfl, by rw [Nat.pow_zero, Nat.div_one], rfl, Lib.hid ⟨Nat.le_refl _, World.ownsRow_lit w #[] 0 (Nat.le_refl _) (Nat.zero_le _) rfl, (Below.refl _ _).alloc (Nat.le_refl _) _⟩⟩
  case round =>
    obtain ⟨k, g, cap, hk, rfl, rfl, rfl, HA⟩ := hrel
    by_cases hlt : k < m
    · have hlt' : (k : Int) < zz := by omega
      have hwr : w.heap.size ≤ wr.heap.size := HA.out.2.2.size
      have hy : (x / 2 ^ k) % 2 < 2 := Nat.mod_lt _ (by decide)
      have HH := Lib.hid (half_int x k HX.out)
      obtain ⟨y, ey⟩ : ∃ y, y = x / 2 ^ k := ⟨_, rfl⟩
      rw [← ey] at hy HH ⊢
      have HY := Lib.hid ey
      have HZZ := Lib.hid hzz
      clear ey hzz
      go_wp2_with (at_builtin; refine wpList_append_own _ rfl _ _ 26 rfl w.heap.size 5 i0 (.int .u8 0) 1 1 Try.underlying26 hi hz0 hz1 hz2 rfl (by decide) _ 1 [.int .u8 ((y : Int) % 2)] rfl ?c0 ⟨g, 0, none⟩ k cap (rowB (pb x k) k) rfl ?cl ?c1 ?c2 ?c3 ?c4 ?c5 ?_)
      case c0 => exact World.ownsRow_lit wr #[.int .u8 ((y : Int) % 2)] 1 hwr (by unfold maxLen; omega) rfl
      case cl => rw [rowB_length]; omega
      case c1 =>
        intro j u hj
        have hg := (HA.out.2.1.cells (g := g) rfl) j u hj
        have hlt' := cell_lt hg
        rw [World.cell?_alloc_lt _ _ _ hlt']; exact hg
      case c2 => exact rowB_one _ _
      case c3 => unfold maxLen; omega
      case c4 => omega
      case c5 => simp; omega
      intro v5 w5 hown5 hgrow5 _
      have HB5 : Hid (Below w.heap.size w w5) := Lib.hid ((HA.out.2.2.alloc HA.out.2.2.size _).grown hgrow5 (by simp; omega) (fun q hq => by simp [Value.ownBlock] at hq; omega))
      rw [show (y : Int) % 2 = ((y % 2 : Nat) : Int) from by omega, rowB_cons (y % 2) (pb x k) (pb x (k + 1)) k (by unfold pb; rw [HY.out]; congr 3) (fun j hj => by unfold pb; congr 3; omega), Nat.add_comm 1 k] at hown5
      obtain ⟨g5, cap5, rfl, hg1, hg2⟩ := hown5.form (by omega)
      have HO5 := Lib.hid (⟨hg1, hown5, HB5.out⟩ : _ ∧ _ ∧ _)
      clear hown5 hgrow5
      go_wp2
      go_roundw
      case rel => exact ⟨k + 1, g5, cap5, by omega, by go_num, val_int HH.out, rfl, HO5⟩
      case measure => simp [intOf]; omega
    · obtain rfl : k = m := by omega
      have hlt' : ¬ (k : Int) < zz := by omega
      have HZZ := Lib.hid hzz
      clear hzz
      go_wp2
      go_ret
      exact ⟨g, cap, rfl, HA.out.1, HA.out.2.1, HA.out.2.2⟩
end Go.Proofs.Ytaddmegghikhpaa
