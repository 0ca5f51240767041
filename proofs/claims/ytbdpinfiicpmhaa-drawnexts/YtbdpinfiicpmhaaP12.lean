/-
  Contracts of the reference's Fork, New and below.
-/
import Derived.Test.YtbdpinfiicpmhaaP10
namespace Go.Proofs.Ytbdpinfiicpmhaa
open Go.ChangeShapes Go.WideShapes Go.ChangeAt Go.RowKit RefMath
set_option linter.unusedVariables false

set_option maxHeartbeats 1000000 in
theorem rfork_any (s x : Nat) (w : World) (hs : s < 18446744073709551616) (hx : x < 1000000) :
    Calls Try.prog 22 #[.int .u64 (s : Int), .int .u64 (x : Int)] w fun e w' => e = .returned (U (forkN s x)) ∧ Below w.heap.size w w' := by
  have HS := Lib.hid hs
  have HSt : Hid (∀ w, Calls Try.prog 31 #[.int .u64 ((x : Int) + 1)] w fun e w' => e = .returned (U (MixMath.stir (x + 1))) ∧ Below w.heap.size w w') := Lib.hid fun w => by
    have h := rstir_any (x + 1) w (by omega)
    rw [show ((x + 1 : Nat) : Int) = (x : Int) + 1 by omega] at h
    exact h
  have HF : Hid (MixMath.stir (s ^^^ MixMath.stir (x + 1)) = forkN s x) := Lib.hid (by unfold forkN; rw [Nat.mod_eq_of_lt (show x + 1 < 18446744073709551616 by omega)])
  obtain ⟨y, hy⟩ : ∃ y, y = MixMath.stir (x + 1) := ⟨_, rfl⟩
  rw [← hy] at HSt HF
  have HY : Hid (y < 18446744073709551616) := Lib.hid (by rw [hy]; exact MixMath.stir_lt' _)
  clear hs hy
  go_enter Try.func22, Try.ntmps22
  go_wp2_with fail
  refine (HSt.out _).mono ?_
  rintro e w1 ⟨rfl, hb⟩
  have HB1 := Lib.hid hb
  clear hb
  go_wp2
  go_loopw [0, 5, 6, 7, 8] (fun a y' o b i wr => ∃ j : Nat, j ≤ 64 ∧ a = .int .u64 ((hf s j : Nat) : Int) ∧ y' = .int .u64 ((hf y j : Nat) : Int) ∧ o = .int .u64 ((ox s y j : Nat) : Int) ∧ b = .int .u64 ((bt j : Nat) : Int) ∧ i = .int .i64 (j : Int) ∧ wr = w1) (fun _ _ _ _ i _ => 64 - (intOf i).toNat)
  case atStart => exact ⟨0, by omega, by rw [hf_zero], by rw [hf_zero], by rw [ox_zero]; rfl, by rw [bt_zero]; rfl, rfl, rfl⟩
  case round =>
    obtain ⟨j, hj, rfl, rfl, rfl, rfl, rfl, rfl⟩ := hrel
    by_cases hlt : j < 64
    · go_wp2
      · have ht : (((hf s j : Nat) : Int) % 2 != ((hf y j : Nat) : Int) % 2) = true := by assumption
        go_roundw
        case rel => exact ⟨j + 1, by omega, val_int (half_step s j HS.out), val_int (half_step y j HY.out), val_int (ox_step s y j hlt ht), val_int (bt_step j), by go_num, trivial⟩
        case measure => simp [intOf]; omega
      · have ht : (((hf s j : Nat) : Int) % 2 != ((hf y j : Nat) : Int) % 2) = false := by assumption
        go_roundw
        case rel => exact ⟨j + 1, by omega, val_int (half_step s j HS.out), val_int (half_step y j HY.out), val_int (ox_stay s y j ht), val_int (bt_step j), by go_num, trivial⟩
        case measure => simp [intOf]; omega
    · obtain rfl : j = 64 := by omega
      have he := ox_end s y HS.out HY.out
      rw [he]
      have hl := xor_lt HS.out HY.out
      go_wp2_with fail
      refine (rstir_any _ _ hl).mono ?_
      rintro e w2 ⟨rfl, hb⟩
      have HB2 := Lib.hid (HB1.out.trans (hb.mono HB1.out.size))
      have hff := HF.out
      clear hb
      go_wp2
      go_ret
      exact ⟨by rw [← hff]; rfl, HB2.out⟩

theorem cells2 {w : World} {b t : Nat} {v0 v1 : Value} (h : w.heap[b]? = some (.cells #[v0, v1] t (0, 0))) :
    (w.cell? ⟨b, 0, none⟩ = some v0 ∧ w.cell? ⟨b, 1, none⟩ = some v1) ∧ ∀ j, w.frozen? ⟨b, j, none⟩ = false :=
  ⟨⟨by simp [World.cell?, h], by simp [World.cell?, h]⟩, fun j => by simp [World.frozen?, h]⟩
abbrev stV (s n : Nat) : Value := .agg #[.int .u64 (s : Int), .int .i64 (n : Int)]
set_option maxHeartbeats 1000000 in
theorem rnew_any (c : Int) (seed : Nat) (w : World) (hc : 1 ≤ c) (hc' : c ≤ 16) (hs : seed < 18446744073709551616) :
    Calls Try.prog 13 #[.int .i64 c, .int .u64 (seed : Int)] w fun e w' => e = .returned (stV (seedN seed c) 0) ∧ Below w.heap.size w w' := by
  obtain ⟨m, rfl⟩ : ∃ m : Nat, c = (m : Int) := ⟨c.toNat, by omega⟩
  have HF : Hid (∀ w, Calls Try.prog 22 #[.int .u64 (seed : Int), .int .u64 (m : Int)] w fun e w' => e = .returned (U (seedN seed (m : Int))) ∧ Below w.heap.size w w') := Lib.hid fun w => by
    unfold seedN cliN
    rw [Int.toNat_natCast]
    exact rfork_any seed m w hs (by omega)
  generalize seedN seed (m : Int) = sd at *
  go_enter Try.func13, Try.ntmps13
  go_wp2_with fail
  refine (HF.out _).mono ?_
  rintro e w1 ⟨rfl, hb⟩
  have hx := (hb.block w.heap.size (by simp)).trans (heap_alloc_new w (.cells #[.int .u64 0, .int .i64 0] 37))
  obtain ⟨⟨c0, c1⟩, hf⟩ := cells2 hx
  have hf0 := hf 0
  have hf1 := hf 1
  have HB : Hid (Below w.heap.size w w1) := Lib.hid (((Below.refl _ _).alloc (Nat.le_refl _) _).trans (hb.mono (by simp)))
  clear hb hf hx
  go_wp2
  refine bodyPost_ret (v := stV sd 0) (by simp [results, Try.results13, go_sem, c0, c1]) rfl ⟨rfl, ?_⟩
  exact (HB.out.setCell (Nat.le_refl _) _).setCell (Nat.le_refl _) _

set_option maxHeartbeats 1000000 in
theorem rbelow13_any (s n : Nat) (k : Int) (w : World) (hk : k ≤ 9223372036854775807) (hs : s < 18446744073709551616) :
    Calls Try.prog 23 #[stV s n, .int .i64 k] w fun e w' => e = .returned (.tuple #[stV (MixMath.nxt s) n, .int .i64 (drawn s k)]) ∧ Below w.heap.size w w' := by
  have HB := Lib.hid (fun w => rbelow_all s k hk w hs)
  generalize MixMath.nxt s = s1 at *
  generalize drawn s k = d at *
  go_enter Try.func23, Try.ntmps23
  go_wp2_with fail
  refine (HB.out _).mono ?_
  rintro e w1 ⟨rfl, hb⟩
  have hx := (hb.block w.heap.size (by simp; omega)).trans ((Below.heap_alloc _ _ _ (by simp)).trans (heap_alloc_new w (.cells #[.int .u64 (s : Int), .int .i64 (n : Int)] 37)))
  have hy0 := heap_alloc_new (w.alloc (.cells #[.int .u64 (s : Int), .int .i64 (n : Int)] 37)) (.cells #[.int .u64 0, .int .i64 0] 37)
  rw [show (w.alloc (.cells #[.int .u64 (s : Int), .int .i64 (n : Int)] 37)).heap.size = w.heap.size + 1 by simp] at hy0
  have hy := (hb.block (w.heap.size + 1) (by simp)).trans hy0
  obtain ⟨⟨c0, c1⟩, hf⟩ := cells2 hx
  obtain ⟨⟨e0, e1⟩, hg⟩ := cells2 hy
  have hf0 := hf 0
  have hg0 := hg 0
  have hg1 := hg 1
  have HB1 : Hid (Below w.heap.size w w1) := Lib.hid ((((Below.refl _ _).alloc (Nat.le_refl _) _).alloc (by simp) _).trans (hb.mono (by simp; omega)))
  clear hb hf hg hx hy hy0 HB
  go_wp2
  refine bodyPost_ret (v := .tuple #[stV s1 n, .int .i64 d]) (by simp [results, Try.results23, go_sem, e0, e1]) rfl ⟨rfl, ?_⟩
  exact ((HB1.out.setCell (Nat.le_refl _) _).setCell (by simp) _).setCell (by simp) _
end Go.Proofs.Ytbdpinfiicpmhaa
