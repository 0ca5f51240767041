/-
  Contract of the reference's function all: the whole product in eight parts.
-/
import Derived.Test.YtbdpinfiicpmhaaE0
namespace Go.Proofs.Ytbdpinfiicpmhaa
open Go.ChangeShapes Go.WideShapes Go.ChangeAt Go.RowKit RefMath

set_option maxHeartbeats 1000000 in
theorem all_any (a b : Nat → Nat) (w : World) (ha : ∀ j, a j < 65536) (hb : ∀ j, b j < 65536) :
    Calls Try.prog 39 #[.agg #[U (a 0), U (a 1), U (a 2), U (a 3)], .agg #[U (b 0), U (b 1), U (b 2), U (b 3)]] w (AllPost a b w) := by
  have HX := Lib.hid (⟨ha, hb⟩ : (∀ j, a j < 65536) ∧ (∀ j, b j < 65536))
  clear ha hb
  go_enter Try.func39, Try.ntmps39
  go_wp2
  go_loopw [6, 7] (fun i _ wr => ∃ t : Nat, ∃ f : Nat → Nat, t ≤ 4 ∧ i = .int .i64 (t : Int) ∧ Hid (Arr w wr a b f) ∧ Hid (val8 f = ps a b (4 * t)) ∧ Hid (∀ j, f j ≤ 131070 * (4 * t))) (fun i _ _ => 4 - (intOf i).toNat)
  case atStart => exact ⟨0, fun _ => 0, by omega, rfl, Lib.hid (Arr.start w a b), Lib.hid rfl, Lib.hid (by intro j; exact Nat.zero_le _)⟩
  case round =>
    obtain ⟨i, f0, hi, rfl, HA0, HV0, HB0⟩ := hrel
    by_cases hlt : i < 4
    · go_wp2
      go_loopw [7] (fun k wr => ∃ t : Nat, ∃ f : Nat → Nat, t ≤ 4 ∧ k = .int .i64 (t : Int) ∧ Hid (Arr w wr a b f) ∧ Hid (val8 f = ps a b (4 * i + t)) ∧ Hid (∀ j, f j ≤ 131070 * (4 * i + t))) (fun k _ => 4 - (intOf k).toNat)
      case atStart => exact ⟨0, f0, by omega, rfl, HA0, HV0, HB0⟩
      case round =>
        clear HA0 HV0 HB0
        obtain ⟨k, f, hk, rfl, HA, HV, HB⟩ := hrel
        by_cases hlk : k < 4
        · have c1 := HA.out.ca i hlt
          have c2 := HA.out.cb k hlk
          have c3 := HA.out.co (i + k) (by omega)
          have c4 := HA.out.fo (i + k)
          unfold U at c1 c2 c3
          go_wp2
          go_region
          clear c1 c2 c3 c4
          have e1 := low_step (f (i + k)) (a i) (b k) (4 * i + k) (HX.out.1 i) (HX.out.2 k) (HB.out _) (by omega)
          rw [e1]
          have HA1 : Hid (Arr w ((wr.setCell ⟨w.heap.size + 1 + 1 + 1, i + k, none⟩ (.int .u64 ((f (i + k) + a i * b k % 65536 : Nat) : Int))).drew) a b (upd f (i + k) (f (i + k) + a i * b k % 65536))) := Lib.hid ((HA.out.store (i + k) _ (by omega)).drew)
          clear e1
          generalize ((wr.setCell ⟨w.heap.size + 1 + 1 + 1, i + k, none⟩ (.int .u64 ((f (i + k) + a i * b k % 65536 : Nat) : Int))).drew) = wr1 at HA1 ⊢
          have c1 := HA1.out.ca i hlt
          have c2 := HA1.out.cb k hlk
          have c3 := HA1.out.co (i + k + 1) (by omega)
          have c4 := HA1.out.fo (i + k + 1)
          unfold U at c1 c2 c3
          go_wp2
          go_region
          clear c1 c2 c3 c4
          have hb1 : upd f (i + k) (f (i + k) + a i * b k % 65536) (i + k + 1) ≤ 131070 * (4 * i + k) + 65535 := by
            refine upd_le f _ _ _ (fun j => ?_) ?_ _
            · have := HB.out j; omega
            · have := HB.out (i + k); omega
          have e1 := high_step (upd f (i + k) (f (i + k) + a i * b k % 65536) (i + k + 1)) (a i) (b k) (4 * i + k) (HX.out.1 i) (HX.out.2 k) hb1 (by omega)
          rw [e1]
          have HA2 : Hid (Arr w ((wr1.setCell ⟨w.heap.size + 1 + 1 + 1, i + k + 1, none⟩ (.int .u64 ((upd f (i + k) (f (i + k) + a i * b k % 65536) (i + k + 1) + a i * b k / 65536 : Nat) : Int))).drew) a b (upd (upd f (i + k) (f (i + k) + a i * b k % 65536)) (i + k + 1) (upd f (i + k) (f (i + k) + a i * b k % 65536) (i + k + 1) + a i * b k / 65536))) := Lib.hid ((HA1.out.store (i + k + 1) _ (by omega)).drew)
          clear e1 HA1
          have HV2 := Lib.hid (val8_step f i k (a i * b k) (by omega))
          have HB2 : Hid (∀ j, upd (upd f (i + k) (f (i + k) + a i * b k % 65536)) (i + k + 1) (upd f (i + k) (f (i + k) + a i * b k % 65536) (i + k + 1) + a i * b k / 65536) j ≤ 131070 * (4 * i + (k + 1))) := by
            refine Lib.hid (fun j => ?_)
            have hp := prod_lt (a i) (b k) (HX.out.1 i) (HX.out.2 k)
            refine upd_le _ _ _ _ (fun j => ?_) (by omega) j
            refine upd_le _ _ _ _ (fun j => ?_) ?_ j
            · have := HB.out j; omega
            · have := HB.out (i + k); omega
          clear hb1
          generalize ((wr1.setCell ⟨w.heap.size + 1 + 1 + 1, i + k + 1, none⟩ (.int .u64 ((upd f (i + k) (f (i + k) + a i * b k % 65536) (i + k + 1) + a i * b k / 65536 : Nat) : Int))).drew) = wr2 at HA2 ⊢
          go_wp2
          go_roundw
          case rel =>
            refine ⟨k + 1, _, by omega, by go_num, HA2, Lib.hid ?_, HB2⟩
            rw [HV2.out, HV.out, ps_step a b i k hlk]
          case measure => simp [intOf]; omega
        · obtain rfl : k = 4 := by omega
          go_wp2
          go_roundw
          case rel => exact ⟨i + 1, f, by omega, by go_num, HA, HV, HB⟩
          case measure => simp [intOf]; omega
    · obtain rfl : i = 4 := by omega
      go_wp2
      go_loopw [8] (fun i wr => ∃ t : Nat, ∃ f : Nat → Nat, t ≤ 7 ∧ i = .int .i64 (t : Int) ∧ Hid (Arr w wr a b f) ∧ Hid (val8 f = ps a b 16) ∧ Hid ((∀ j, f j ≤ 3000000) ∧ (∀ j, t < j → f j ≤ 2097120) ∧ (∀ j, j < t → f j < 65536))) (fun i _ => 7 - (intOf i).toNat)
      case atStart => exact ⟨0, f0, by omega, rfl, HA0, HV0, Lib.hid ⟨fun j => by have := HB0.out j; omega, fun j _ => by have := HB0.out j; omega, fun j h => by omega⟩⟩
      case round =>
        clear HA0 HV0 HB0
        obtain ⟨t, f, ht, rfl, HA, HV, HB⟩ := hrel
        by_cases hlk : t < 7
        · have c1 := HA.out.co t (by omega)
          have c2 := HA.out.co (t + 1) (by omega)
          have c4 := HA.out.fo (t + 1)
          unfold U at c1 c2
          go_wp2
          go_region
          clear c1 c2 c4
          rw [carry_step (f (t + 1)) (f t) (HB.out.1 _) (HB.out.1 _)]
          have HA1 : Hid (Arr w ((wr.setCell ⟨w.heap.size + 1 + 1 + 1, t + 1, none⟩ (.int .u64 ((f (t + 1) + f t / 65536 : Nat) : Int))).drew) a b (upd f (t + 1) (f (t + 1) + f t / 65536))) := Lib.hid ((HA.out.store (t + 1) _ (by omega)).drew)
          generalize ((wr.setCell ⟨w.heap.size + 1 + 1 + 1, t + 1, none⟩ (.int .u64 ((f (t + 1) + f t / 65536 : Nat) : Int))).drew) = wr1 at HA1 ⊢
          have c1 := HA1.out.co t (by omega)
          rw [upd_other _ _ _ _ (by omega)] at c1
          have c4 := HA1.out.fo t
          unfold U at c1
          go_wp2
          rw [emodN]
          clear c1 c4
          have HA2 : Hid (Arr w (wr1.setCell ⟨w.heap.size + 1 + 1 + 1, t, none⟩ (.int .u64 ((f t % 65536 : Nat) : Int))) a b (upd (upd f (t + 1) (f (t + 1) + f t / 65536)) t (f t % 65536))) := Lib.hid (HA1.out.store t _ (by omega))
          go_roundw
          case rel => exact ⟨t + 1, _, by omega, by go_num, HA2, Lib.hid ((carry_val f t hlk).trans HV.out), Lib.hid (carry_bound f t HB.out)⟩
          case measure => simp [intOf]; omega
        · obtain rfl : t = 7 := by omega
          have c0 := HA.out.co 0 (by omega)
          have c1 := HA.out.co 1 (by omega)
          have c2 := HA.out.co 2 (by omega)
          have c3 := HA.out.co 3 (by omega)
          have c4 := HA.out.co 4 (by omega)
          have c5 := HA.out.co 5 (by omega)
          have c6 := HA.out.co 6 (by omega)
          have c7 := HA.out.co 7 (by omega)
          have d0 := HA.out.cr 0 (by omega)
          have d1 := HA.out.cr 1 (by omega)
          have d2 := HA.out.cr 2 (by omega)
          have d3 := HA.out.cr 3 (by omega)
          have d4 := HA.out.cr 4 (by omega)
          have d5 := HA.out.cr 5 (by omega)
          have d6 := HA.out.cr 6 (by omega)
          have d7 := HA.out.cr 7 (by omega)
          have hfr := HA.out.fr
          unfold U at c0 c1 c2 c3 c4 c5 c6 c7
          go_wp2
          refine bodyPost_ret (v := .agg #[U (f 0), U (f 1), U (f 2), U (f 3), U (f 4), U (f 5), U (f 6), U (f 7)]) (by simp [results, Try.results39, go_sem, d0, d1, d2, d3, d4, d5, d6, d7]) rfl ⟨f, rfl, ?_, ?_, ?_⟩
          · intro j hj
            by_cases e : j = 7
            · rw [e]; exact top_lt a b f HX.out.1 HX.out.2 HV.out
            · exact HB.out.2.2 j (by omega)
          · rw [HV.out, ps_end]
          · have hbel := HA.out.bel
            refine (((((((hbel.setCell ?_ _).setCell ?_ _).setCell ?_ _).setCell ?_ _).setCell ?_ _).setCell ?_ _).setCell ?_ _).setCell ?_ _ <;> (simp; omega)

end Go.Proofs.Ytbdpinfiicpmhaa
