/-
  Contract of package mix's method Shuffle, for every number n: the walk.
-/
import Derived.Test.YtjaldaopaohppaaS1
namespace Go.Proofs.Ytjaldaopaohppaa
open Go.ChangeShapes Go.WideShapes Go.ChangeAt Go.RowKit RefMath

theorem make_at (M : Nat) (z : Int) (hz : (M : Int) = z) (hM : M ≤ 1000) (mc : Array Value) (hmc : mc = madeCells #[.int .i64 0] M) (w : World) :
    (Instr.makeSlice 25 (.int .i64 z) (.int .i64 z)).run Try.prog w = .ok (.slice (some ⟨w.heap.size, 0, none⟩) M M) (w.alloc (.cells mc 3)) := by
  subst hz; subst hmc
  exact run_make_row' (P := Try.prog) 25 3 (.int .i64 0) 8 Try.underlying25 info3 rfl .i64 .i64 M (by omega) (by omega) w

set_option maxHeartbeats 1000000 in
theorem shuffle_mid (B sb x m : Nat)  (w : World) (hs : w.cell? ⟨sb, 0, none⟩ = some (.int .u64 (x : Int))) (hf : w.frozen? ⟨sb, 0, none⟩ = false) (hsb : sb < w.heap.size) (hB : B ≤ sb) (hm : m ≤ 1000) :
    Calls Try.prog 18 #[.pointer (some ⟨sb, 0, none⟩), .int .i64 (m : Int)] w (ShPost B w m x) := by
  have HS0 := Lib.hid (ShAt.start B w sb m x hs hf hsb hB)
  clear hs hf
  obtain ⟨mc, hmc⟩ : ∃ mc, mc = madeCells #[.int .i64 0] m := ⟨_, rfl⟩
  rw [← hmc] at HS0
  have hmk := make_at m (m : Int) rfl (by omega) mc hmc
  clear hmc
  go_enter Try.func18, Try.ntmps18
  go_wp2
  go_loopw [14] (fun i wr => ∃ k : Nat, k ≤ m ∧ i = .int .i64 (k : Int) ∧ Hid (ShAt B w wr sb m x k)) (fun i _ => m - (intOf i).toNat)
  case atStart => exact ⟨0, Nat.zero_le _, rfl, HS0⟩
  case round =>
    clear HS0
    obtain ⟨k, hk, rfl, HA⟩ := hrel
    by_cases hlt : k < m
    · have HA1 := Lib.hid (HA.out.step hlt hsb hB)
      have hd := dr_le x k
      obtain ⟨d, ed⟩ : ∃ d, d = dr x k := ⟨_, rfl⟩
      rw [← ed] at HA1 hd
      have HE := Lib.hid (dr_eq x k)
      rw [← ed] at HE
      clear ed
      obtain ⟨v1, ev⟩ : ∃ v1, v1 = ((sl x k d : Nat) : Int) := ⟨_, rfl⟩
      rw [← ev] at HA1
      go_wp2_with fail
      refine (below_all sb (nk x k) _ (by omega) _ HA.out.cs HA.out.fs).mono ?_
      rw [HE.out]
      rintro e w' ⟨rfl, rfl⟩
      have c1 : (wr.setCell ⟨sb, 0, none⟩ (.int .u64 ((MixMath.nxt (nk x k) : Nat) : Int))).cell? ⟨w.heap.size, d, none⟩ = some (.int .i64 v1) := by
        rw [World.cell?_setCell_other _ _ _ _ (by intro h; injection h with h; omega), ev]; exact HA.out.cl _ (by omega)
      have c2 : ∃ v2, (wr.setCell ⟨sb, 0, none⟩ (.int .u64 ((MixMath.nxt (nk x k) : Nat) : Int))).cell? ⟨w.heap.size, k, none⟩ = some v2 := by
        rw [World.cell?_setCell_other _ _ _ _ (by intro h; injection h with h; omega)]; exact ⟨_, HA.out.cl _ (by omega)⟩
      obtain ⟨v2, c2⟩ := c2
      have c3 : ∀ j, (wr.setCell ⟨sb, 0, none⟩ (.int .u64 ((MixMath.nxt (nk x k) : Nat) : Int))).frozen? ⟨w.heap.size, j, none⟩ = false := fun j => by have := HA.out.fl j; go_simp
      have f1 := c3 d
      have f2 := c3 k
      clear c3 ev
      generalize (wr.setCell ⟨sb, 0, none⟩ (.int .u64 ((MixMath.nxt (nk x k) : Nat) : Int))) = wr1 at HA1 c1 c2 f1 f2 ⊢
      have c4 : ∃ v, (wr1.setCell ⟨w.heap.size, k, none⟩ (.int .i64 v1)).cell? ⟨w.heap.size, d, none⟩ = some v := cell?_setCell_some c1
      obtain ⟨v4, c4⟩ := c4
      go_wp2
      go_roundw
      case rel => exact ⟨k + 1, by omega, by go_num, HA1⟩
      case measure => simp [intOf]; omega
    · obtain rfl : k = m := by omega
      go_wp2
      go_ret
      exact ⟨rfl, HA.out.cl, HA.out.size, HA.out.bel⟩

set_option maxHeartbeats 1000000 in
theorem shuffle_top (B sb x m : Nat) (n : Int) (w : World) (hs : w.cell? ⟨sb, 0, none⟩ = some (.int .u64 (x : Int))) (hf : w.frozen? ⟨sb, 0, none⟩ = false) (hsb : sb < w.heap.size) (hB : B ≤ sb) (hn : 1000 < n) (hm : m ≤ 1000) (hm1 : 1000 ≤ m) :
    Calls Try.prog 18 #[.pointer (some ⟨sb, 0, none⟩), .int .i64 n] w (ShPost B w m x) := by
  have HS0 := Lib.hid (ShAt.start B w sb m x hs hf hsb hB)
  clear hs hf
  obtain ⟨mc, hmc⟩ : ∃ mc, mc = madeCells #[.int .i64 0] m := ⟨_, rfl⟩
  rw [← hmc] at HS0
  have hmk := make_at m 1000 (by omega) (by omega) mc hmc
  clear hmc
  go_enter Try.func18, Try.ntmps18
  go_wp2
  go_loopw [14] (fun i wr => ∃ k : Nat, k ≤ m ∧ i = .int .i64 (k : Int) ∧ Hid (ShAt B w wr sb m x k)) (fun i _ => m - (intOf i).toNat)
  case atStart => exact ⟨0, Nat.zero_le _, rfl, HS0⟩
  case round =>
    clear HS0
    obtain ⟨k, hk, rfl, HA⟩ := hrel
    by_cases hlt : k < m
    · have hk1 : (k : Int) < 1000 := by omega
      have HA1 := Lib.hid (HA.out.step hlt hsb hB)
      have hd := dr_le x k
      obtain ⟨d, ed⟩ : ∃ d, d = dr x k := ⟨_, rfl⟩
      rw [← ed] at HA1 hd
      have HE := Lib.hid (dr_eq x k)
      rw [← ed] at HE
      clear ed
      obtain ⟨v1, ev⟩ : ∃ v1, v1 = ((sl x k d : Nat) : Int) := ⟨_, rfl⟩
      rw [← ev] at HA1
      go_wp2_with fail
      refine (below_all sb (nk x k) _ (by omega) _ HA.out.cs HA.out.fs).mono ?_
      rw [HE.out]
      rintro e w' ⟨rfl, rfl⟩
      have c1 : (wr.setCell ⟨sb, 0, none⟩ (.int .u64 ((MixMath.nxt (nk x k) : Nat) : Int))).cell? ⟨w.heap.size, d, none⟩ = some (.int .i64 v1) := by
        rw [World.cell?_setCell_other _ _ _ _ (by intro h; injection h with h; omega), ev]; exact HA.out.cl _ (by omega)
      have c2 : ∃ v2, (wr.setCell ⟨sb, 0, none⟩ (.int .u64 ((MixMath.nxt (nk x k) : Nat) : Int))).cell? ⟨w.heap.size, k, none⟩ = some v2 := by
        rw [World.cell?_setCell_other _ _ _ _ (by intro h; injection h with h; omega)]; exact ⟨_, HA.out.cl _ (by omega)⟩
      obtain ⟨v2, c2⟩ := c2
      have c3 : ∀ j, (wr.setCell ⟨sb, 0, none⟩ (.int .u64 ((MixMath.nxt (nk x k) : Nat) : Int))).frozen? ⟨w.heap.size, j, none⟩ = false := fun j => by have := HA.out.fl j; go_simp
      have f1 := c3 d
      have f2 := c3 k
      clear c3 ev
      generalize (wr.setCell ⟨sb, 0, none⟩ (.int .u64 ((MixMath.nxt (nk x k) : Nat) : Int))) = wr1 at HA1 c1 c2 f1 f2 ⊢
      have c4 : ∃ v, (wr1.setCell ⟨w.heap.size, k, none⟩ (.int .i64 v1)).cell? ⟨w.heap.size, d, none⟩ = some v := cell?_setCell_some c1
      obtain ⟨v4, c4⟩ := c4
      go_wp2
      go_roundw
      case rel => exact ⟨k + 1, by omega, by go_num, HA1⟩
      case measure => simp [intOf]; omega
    · obtain rfl : k = m := by omega
      have hk1 : ¬ (k : Int) < 1000 := by omega
      go_wp2
      go_ret
      exact ⟨rfl, HA.out.cl, HA.out.size, HA.out.bel⟩

theorem shuffle_neg (B sb x : Nat) (n : Int) (w : World) (hs : w.cell? ⟨sb, 0, none⟩ = some (.int .u64 (x : Int))) (hf : w.frozen? ⟨sb, 0, none⟩ = false) (hsb : sb < w.heap.size) (hB : B ≤ sb) (hn : n < 0) :
    Calls Try.prog 18 #[.pointer (some ⟨sb, 0, none⟩), .int .i64 n] w (ShPost B w 0 x) := by
  have HS0 := Lib.hid (ShAt.start B w sb 0 x hs hf hsb hB)
  clear hs hf
  obtain ⟨mc, hmc⟩ : ∃ mc, mc = madeCells #[.int .i64 0] 0 := ⟨_, rfl⟩
  rw [← hmc] at HS0
  have hmk := make_at 0 0 rfl (by omega) mc hmc
  clear hmc
  go_enter Try.func18, Try.ntmps18
  go_wp2
  refine wp_loop_rounds 1 ?_
  rw [rounds_succ]
  go_wp2
  go_ret
  exact ⟨rfl, HS0.out.cl, HS0.out.size, HS0.out.bel⟩

end Go.Proofs.Ytjaldaopaohppaa
