/-
  Contract of slices.Repeat of one -1.
-/
import Derived.Test.YtcolcgkfppjflaaL
import Derived.Test.YtcolcgkfppjflaaSm
import Derived.Laws.CopyOwn
namespace Go.Proofs.Ytcolcgkfppjflaa
open Go.ChangeShapes Go.WideShapes Go.ChangeAt Go.RowKit
set_option linter.unusedVariables false

def rowR (n N : Nat) : List Value := List.replicate n (.int .i64 (-1)) ++ List.replicate (N - n) (.int .i64 0)
theorem rowR_length (n N : Nat) (h : n ≤ N) : (rowR n N).length = N := by unfold rowR; simp; omega
theorem rowR_splice (n m N : Nat) (h : n + m ≤ N) : splice (rowR n N) n (List.replicate m (.int .i64 (-1))) = rowR (n + m) N := by
  unfold splice rowR
  rw [List.take_append_of_le_length (by simp), List.take_of_length_le (by simp), List.length_replicate, List.drop_append, List.drop_of_length_le (by simp), List.length_replicate, List.drop_replicate, List.nil_append, ← List.append_assoc, List.replicate_append_replicate]
  congr 2
  omega
theorem rowR_get (n N j : Nat) (h : j < n) : (rowR n N)[j]? = some (.int .i64 (-1)) := by
  unfold rowR
  rw [List.getElem?_append_left (by simpa using h), List.getElem?_replicate, if_pos h]
theorem rowR_zero (N : Nat) : (madeCells #[Value.int .i64 0] N) = (rowR 0 N).toArray := by
  apply Array.toList_inj.1
  rw [toList_madeCells_one]; unfold rowR; simp
theorem makeI' (M : Nat) (hM : M ≤ 1000) (mc : Array Value) (hmc : mc = madeCells #[.int .i64 0] M) (w : World) :
    (Instr.makeSlice 33 (.int .i64 (M : Int)) (.int .i64 (M : Int))).run Try.prog w = .ok (.slice (some ⟨w.heap.size, 0, none⟩) M M) (w.alloc (.cells mc 3)) := by
  subst hmc
  exact run_make_row' (P := Try.prog) 33 3 (.int .i64 0) 8 Try.underlying33 info3 rfl .i64 .i64 M (by omega) (by omega) w
theorem size3 : (Try.prog.info? 3).map (·.size) = some 1 := by kernel_rfl

set_option maxRecDepth 100000 in
set_option maxHeartbeats 1000000 in
theorem rep_any (b N : Nat) (w : World) (hN : 1 ≤ N) (hN4 : N ≤ 400) (hc : w.cell? ⟨b, 0, none⟩ = some (.int .i64 (-1))) :
    Calls Try.prog 38 #[.slice (some ⟨b, 0, none⟩) 1 1, .int .i64 (N : Int)] w (fun e w' => ∃ g, e = .returned (.slice (some ⟨g, 0, none⟩) N N) ∧ w'.heap[g]? = some (.cells (rowR N N).toArray 3 (0, 0)) ∧ w.heap.size ≤ g ∧ Below w.heap.size w w') := by
  have hlt : ¬ (N : Int) < 0 := by omega
  have HM : Hid (Calls Try.prog 50 #[.int .u64 ((1 : Nat) : Int), .int .u64 (N : Int)] w (fun e w' => e = .returned (.tuple #[.int .u64 ((1 * N / 18446744073709551616 : Nat) : Int), .int .u64 ((1 * N % 18446744073709551616 : Nat) : Int)]) ∧ w = w')) := Lib.hid ((Try.bits_Mul 1 N (by omega) (by omega) w).mono (fun e w' h => ⟨h.1, h.2.symm⟩))
  have e1 : 1 * N / 18446744073709551616 = 0 := by omega
  have e2 : 1 * N % 18446744073709551616 = N := by omega
  rw [e1, e2] at HM
  clear e1 e2
  have hdd : decide ((9223372036854775807 : Int) < (N : Int)) = false := by simp; omega
  obtain ⟨mc, hmc⟩ : ∃ mc, mc = madeCells #[.int .i64 0] N := ⟨_, rfl⟩
  have hmi := makeI' N (by omega) mc hmc
  have hb1 : Below w.heap.size w (w.alloc (.cells mc 3)) := (Below.refl _ _).alloc (Nat.le_refl _) _
  have c1 := (hb1.cell (p := ⟨b, 0, none⟩) (cell_lt hc)).trans hc
  have HB1 := Lib.hid hb1
  have HC1 := Lib.hid c1
  have HG : Hid ((w.alloc (.cells mc 3)).heap[w.heap.size]? = some (.cells (rowR 0 N).toArray 3 (0, 0))) := Lib.hid (by rw [← rowR_zero, ← hmc]; exact heap_alloc_new _ _)
  clear hmc hb1 c1 hc
  go_enter Try.func38, Try.ntmps38
  go_upto_region 7 with (go_at_call 50; refine HM.out.mono ?_; rintro e w' ⟨rfl, rfl⟩)
  have H1 : Hid (∀ v ∈ [Value.int .i64 (-1)], v.oneCell' = true) := Lib.hid (by intro v hv; simp at hv; subst hv; rfl)
  have HP : Hid (∀ j v, [Value.int .i64 (-1)][j]? = some v → (w.alloc (.cells mc 3)).cell? ((⟨b, 0, none⟩ : Addr).add j) = some v) := Lib.hid (by
    intro j v hv
    match j, hv with
    | 0, hv => simp at hv; subst hv; rw [Go.WideShapes.add_plain]; exact HC1.out)
  obtain ⟨w2, hrun, HG2, hB2⟩ : ∃ w2, (Builtin.copy_ #[33, 33] 3 #[.slice (some ⟨w.heap.size, 0, none⟩) N N, .slice (some ⟨b, 0, none⟩) 1 1]).run Try.prog (w.alloc (.cells mc 3)) = .ok (.int .i64 1) w2 ∧ Hid (w2.heap[w.heap.size]? = some (.cells (splice (rowR 0 N) 0 [.int .i64 (-1)]).toArray 3 (0, 0))) ∧ Below w.heap.size w w2 := by
    have hrun := run_copy_row (P := Try.prog) (w.alloc (.cells mc 3)) 33 33 3 3 w.heap.size 0 N N ⟨b, 0, none⟩ 1 1 (rowR 0 N).toArray 3 [.int .i64 (-1)] Try.underlying33 size3 HG.out (by show 1 = min 1 N; omega) HP.out (by have := rowR_length 0 N (by omega); simp; omega) H1.out
    refine ⟨_, hrun, Lib.hid ?_, below_setRow HB1.out (Nat.le_refl _) _⟩
    simpa [splice] using setRow_heap (w.alloc (.cells mc 3)) w.heap.size _ _ 3 _ HG.out
  go_wp2
  have HG3 : Hid (w2.heap[w.heap.size]? = some (.cells (rowR 1 N).toArray 3 (0, 0))) := Lib.hid (by
    have := HG2.out
    rw [show [Value.int .i64 (-1)] = List.replicate 1 (.int .i64 (-1)) from rfl, rowR_splice 0 1 N (by omega), Nat.zero_add] at this
    exact this)
  have HB2 := Lib.hid hB2
  obtain ⟨g, eg⟩ : ∃ g, g = w.heap.size := ⟨_, rfl⟩
  rw [← eg] at HG3
  rw [← eg]
  have hgl : w.heap.size ≤ g := by omega
  clear eg HG2 hB2 HG HB1 HC1 H1 HP hmi HM hrun
  go_loopg [8] (N - 1) (fun k v wr => ∃ n : Nat, 1 ≤ n ∧ n ≤ N ∧ k = N - n ∧ v = .int .i64 (n : Int) ∧ Hid (wr.heap[g]? = some (.cells (rowR n N).toArray 3 (0, 0)) ∧ Below w.heap.size w wr))
  case atStart => exact ⟨1, Nat.le_refl _, hN, rfl, rfl, Lib.hid ⟨HG3.out, HB2.out⟩⟩
  case round =>
    obtain ⟨n, hn1, hnN, rfl, rfl, HT⟩ := hrel
    clear HG3 HB2
    by_cases hlt2 : n < N
    · have hlt3 : (n : Int) < (N : Int) := by omega
      have hle3 : (n : Int) ≤ (N : Int) := by omega
      obtain ⟨m, hm⟩ : ∃ m, m = min n (N - n) := ⟨_, rfl⟩
      have hmp : 0 < m := by omega
      have hmn : n + m ≤ N := by omega
      have HMN : Hid (m = min n (N - n)) := Lib.hid hm
      have H1 : Hid (∀ v ∈ List.replicate m (Value.int .i64 (-1)), v.oneCell' = true) := Lib.hid (by intro v hv; rw [(List.mem_replicate.1 hv).2]; rfl)
      have HP : Hid (∀ (W : World), W.heap[g]? = some (.cells (rowR n N).toArray 3 (0, 0)) → ∀ j v, (List.replicate m (Value.int .i64 (-1)))[j]? = some v → W.cell? ((⟨g, 0, none⟩ : Addr).add j) = some v) := Lib.hid (by
        intro W hW j v hv
        rw [Go.WideShapes.add_plain, cell_of_row _ _ _ _ _ _ hW, Nat.zero_add]
        have hj : j < m := by
          have := (List.getElem?_eq_some_iff.1 hv).1
          simpa using this
        rw [List.getElem?_replicate, if_pos hj] at hv
        have := rowR_get n N j (by have := HMN.out; omega)
        simp only [List.getElem?_toArray]
        rw [this, hv])
      have HLN : Hid ((List.replicate m (Value.int .i64 (-1))).length = m) := Lib.hid (by simp)
      clear hm
      obtain ⟨w4, hrun, HG4, hB4⟩ : ∃ w4, (Builtin.copy_ #[33, 33] 3 #[.slice (some ⟨g, n, none⟩) (N - n) (N - n), .slice (some ⟨g, 0, none⟩) n N]).run Try.prog wr.drew = .ok (.int .i64 (m : Int)) w4 ∧ Hid (w4.heap[g]? = some (.cells (rowR (n + m) N).toArray 3 (0, 0))) ∧ Below w.heap.size w w4 := by
        have hrun := run_copy_row (P := Try.prog) wr.drew 33 33 3 3 g n (N - n) (N - n) ⟨g, 0, none⟩ n N (rowR n N).toArray 3 (List.replicate m (.int .i64 (-1))) Try.underlying33 size3 HT.out.1 (by rw [HLN.out]; exact HMN.out) (HP.out wr.drew HT.out.1) (by have := rowR_length n N (by omega); simp; omega) H1.out
        rw [HLN.out] at hrun
        refine ⟨_, hrun, Lib.hid ?_, below_setRow HT.out.2.drew hgl _⟩
        have h5 := setRow_heap wr.drew g _ ((rowR n N).toArray.toList.take n ++ List.replicate m (Value.int .i64 (-1)) ++ (rowR n N).toArray.toList.drop (n + m)).toArray 3 _ HT.out.1
        rw [h5]
        have h6 := rowR_splice n m N hmn
        unfold splice at h6
        rw [HLN.out, ← List.append_assoc] at h6
        rw [← h6]
      have HB4 := Lib.hid hB4
      clear hB4 H1 HP HLN HT
      go_wp2
      go_region
      go_wp2
      go_roundg (N - (n + m))
      case measure => omega
      case rel => exact ⟨n + m, by omega, hmn, rfl, by go_num, Lib.hid ⟨HG4.out, HB4.out⟩⟩
    · obtain rfl : n = N := by omega
      go_wp2
      go_ret
      exact ⟨g, rfl, HT.out.1, hgl, HT.out.2⟩
end Go.Proofs.Ytcolcgkfppjflaa
