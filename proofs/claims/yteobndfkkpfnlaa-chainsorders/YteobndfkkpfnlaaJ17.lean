/-
  The library's contract of bits.Mul, laid at this program (the text comes of the kit's lay-plain).
  Contract of slices.Repeat of one -1.
  slices.Repeat of nothing.
  chains: Chain: mathematics.
  chains: Chain.
-/
import Derived.Test.YteobndfkkpfnlaaJ16
import Derived.Shelf.Bits.Mul64
import Derived.Test.YteobndfkkpfnlaaProg
import Derived.Laws.CopyOwn
import Derived.Deep.LoopGhost
import Derived.Deep.Cut

namespace Go.Proofs
open Go.Shelf
def Try.lays212_ren : Go.Shelf.Ren := ⟨fun | 212 => 79 | 263 => 88 | 264 => 89 | n => n, fun | 46 => 86 | 51 => 146 | 146 => 147 | 53 => 149 | 148 => 150 | n => n, fun | n => n⟩
theorem Try.lays212 : Go.Proofs.Lays.n212 Try.prog Try.lays212_ren := {
  mixed := by kernel_rfl
  f212 := Try.func79.trans (congrArg some (by kernel_rfl))
  f263 := Try.func88.trans (congrArg some (by kernel_rfl))
  f264 := Try.func89.trans (congrArg some (by kernel_rfl))
  t46 := Try.underlying86
  a46 := Try.isAgg86
  z46 := Try.sizeOf86
  v46 := Try.zeroValue86
  t51 := Try.underlying146
  a51 := Try.isAgg146
  z51 := Try.sizeOf146
  v51 := Try.zeroValue146
  t53 := Try.underlying149
  a53 := Try.isAgg149
  z53 := Try.sizeOf149
  v53 := Try.zeroValue149
  t146 := Try.underlying147
  a146 := Try.isAgg147
  z146 := Try.sizeOf147
  v146 := Try.zeroValue147
  t148 := Try.underlying150
  a148 := Try.isAgg150
  z148 := Try.sizeOf150
  v148 := Try.zeroValue150 }
open Go.RowKit Go.Lib in
/-- math/bits.Mul: "Mul returns the full-width product of x and y": on a machine of 64 bits: Mul64's. (LAID: no walk: one application.) -/
theorem Try.bits_Mul (x y : Nat) (hx : x < 18446744073709551616) (hy : y < 18446744073709551616) (w : World) :
    Calls Try.prog 79 #[.int .u64 x, .int .u64 y] w fun e w' => e = .returned (.tuple #[.int .u64 ((x * y / 18446744073709551616 : Nat) : Int), .int .u64 ((x * y % 18446744073709551616 : Nat) : Int)]) ∧ w' = w := Any.bits_Mul Try.lays212 x y hx hy w
end Go.Proofs

namespace Go.Proofs.Yteobndfkkpfnlaa
open Go.ChangeShapes Go.WideShapes Go.ChangeAt Go.RowKit
set_option linter.unusedVariables false

def rowR (n N : Nat) : List Value := List.replicate n (.int .i64 (-1)) ++ List.replicate (N - n) (.int .i64 0)
theorem rowR_length (n N : Nat) (h : n ≤ N) : (rowR n N).length = N := by unfold rowR; simp; omega
theorem rowR_splice (n m N : Nat) (h : n + m ≤ N) : splice (rowR n N) n (List.replicate m (.int .i64 (-1))) = rowR (n + m) N := by
  unfold splice rowR
  rw [List.take_append_of_le_length (by simp), List.take_of_length_le (by simp), List.length_replicate, List.drop_append, List.drop_of_length_le (by simp), List.length_replicate, List.drop_replicate, List.nil_append, ← List.append_assoc, List.replicate_append_replicate]
  congr 2
  omega
theorem rowR_get (n N j : Nat) (h : j < n) : (rowR n N)[j]? = some (.int .i64 (-1)) := by
  unfold rowR
  rw [List.getElem?_append_left (by simpa using h), List.getElem?_replicate, if_pos h]
theorem rowR_zero (N : Nat) : (madeCells #[Value.int .i64 0] N) = (rowR 0 N).toArray := by
  apply Array.toList_inj.1
  rw [toList_madeCells_one]; unfold rowR; simp
theorem makeI' (M : Nat) (hM : M ≤ 1000) (mc : Array Value) (hmc : mc = madeCells #[.int .i64 0] M) (w : World) :
    (Instr.makeSlice 41 (.int .i64 (M : Int)) (.int .i64 (M : Int))).run Try.prog w = .ok (.slice (some ⟨w.heap.size, 0, none⟩) M M) (w.alloc (.cells mc 3)) := by
  subst hmc
  exact run_make_row' (P := Try.prog) 41 3 (.int .i64 0) 8 Try.underlying41 info3 rfl .i64 .i64 M (by omega) (by omega) w
theorem size3 : (Try.prog.info? 3).map (·.size) = some 1 := by kernel_rfl

set_option maxRecDepth 100000 in
set_option maxHeartbeats 1000000 in
theorem rep_any (b N : Nat) (w : World) (hN : 1 ≤ N) (hN4 : N ≤ 400) (hc : w.cell? ⟨b, 0, none⟩ = some (.int .i64 (-1))) :
    Calls Try.prog 64 #[.slice (some ⟨b, 0, none⟩) 1 1, .int .i64 (N : Int)] w (fun e w' => ∃ g, e = .returned (.slice (some ⟨g, 0, none⟩) N N) ∧ w'.heap[g]? = some (.cells (rowR N N).toArray 3 (0, 0)) ∧ w.heap.size ≤ g ∧ Below w.heap.size w w') := by
  have hlt : ¬ (N : Int) < 0 := by omega
  have HM : Hid (Calls Try.prog 79 #[.int .u64 ((1 : Nat) : Int), .int .u64 (N : Int)] w (fun e w' => e = .returned (.tuple #[.int .u64 ((1 * N / 18446744073709551616 : Nat) : Int), .int .u64 ((1 * N % 18446744073709551616 : Nat) : Int)]) ∧ w = w')) := Lib.hid ((Try.bits_Mul 1 N (by omega) (by omega) w).mono (fun e w' h => ⟨h.1, h.2.symm⟩))
  have e1 : 1 * N / 18446744073709551616 = 0 := by omega
  have e2 : 1 * N % 18446744073709551616 = N := by omega
  rw [e1, e2] at HM
  clear e1 e2
  have hdd : decide ((9223372036854775807 : Int) < (N : Int)) = false := by simp; omega
  obtain ⟨mc, hmc⟩ : ∃ mc, mc = madeCells #[.int .i64 0] N := ⟨_, rfl⟩
  have hmi := makeI' N (by omega) mc hmc
  have hb1 : Below w.heap.size w (w.alloc (.cells mc 3)) := (Below.refl _ _).alloc (Nat.le_refl _) _
  have c1 := (hb1.cell (p := ⟨b, 0, none⟩) (cell_lt hc)).trans hc
  have HB1 := Lib.hid hb1
  have HC1 := Lib.hid c1
  have HG : Hid ((w.alloc (.cells mc 3)).heap[w.heap.size]? = some (.cells (rowR 0 N).toArray 3 (0, 0))) := Lib.hid (by rw [← rowR_zero, ← hmc]; exact heap_alloc_new _ _)
  clear hmc hb1 c1 hc
  go_enter Try.func64, Try.ntmps64
  go_upto_region 7 with (go_at_call 79; refine HM.out.mono ?_; rintro e w' ⟨rfl, rfl⟩)
  have H1 : Hid (∀ v ∈ [Value.int .i64 (-1)], v.oneCell' = true) := Lib.hid (by intro v hv; simp at hv; subst hv; rfl)
  have HP : Hid (∀ j v, [Value.int .i64 (-1)][j]? = some v → (w.alloc (.cells mc 3)).cell? ((⟨b, 0, none⟩ : Addr).add j) = some v) := Lib.hid (by
    intro j v hv
    match j, hv with
    | 0, hv => simp at hv; subst hv; rw [Go.WideShapes.add_plain]; exact HC1.out)
  obtain ⟨w2, hrun, HG2, hB2⟩ : ∃ w2, (Builtin.copy_ #[41, 41] 3 #[.slice (some ⟨w.heap.size, 0, none⟩) N N, .slice (some ⟨b, 0, none⟩) 1 1]).run Try.prog (w.alloc (.cells mc 3)) = .ok (.int .i64 1) w2 ∧ Hid (w2.heap[w.heap.size]? = some (.cells (splice (rowR 0 N) 0 [.int .i64 (-1)]).toArray 3 (0, 0))) ∧ Below w.heap.size w w2 := by
    have hrun := run_copy_row (P := Try.prog) (w.alloc (.cells mc 3)) 41 41 3 3 w.heap.size 0 N N ⟨b, 0, none⟩ 1 1 (rowR 0 N).toArray 3 [.int .i64 (-1)] Try.underlying41 size3 HG.out (by show 1 = min 1 N; omega) HP.out (by have := rowR_length 0 N (by omega); simp; omega) H1.out
    refine ⟨_, hrun, Lib.hid ?_, below_setRow HB1.out (Nat.le_refl _) _⟩
    simpa [splice] using setRow_heap (w.alloc (.cells mc 3)) w.heap.size _ _ 3 _ HG.out
  go_wp2
  have HG3 : Hid (w2.heap[w.heap.size]? = some (.cells (rowR 1 N).toArray 3 (0, 0))) := Lib.hid (by
    have := HG2.out
    rw [show [Value.int .i64 (-1)] = List.replicate 1 (.int .i64 (-1)) from rfl, rowR_splice 0 1 N (by omega), Nat.zero_add] at this
    exact this)
  have HB2 := Lib.hid hB2
  obtain ⟨g, eg⟩ : ∃ g, g = w.heap.size := ⟨_, rfl⟩
  rw [← eg] at HG3
  rw [← eg]
  have hgl : w.heap.size ≤ g := by omega
  clear eg HG2 hB2 HG HB1 HC1 H1 HP hmi HM hrun
  go_loopg [8] (N - 1) (fun k v wr => ∃ n : Nat, 1 ≤ n ∧ n ≤ N ∧ k = N - n ∧ v = .int .i64 (n : Int) ∧ Hid (wr.heap[g]? = some (.cells (rowR n N).toArray 3 (0, 0)) ∧ Below w.heap.size w wr))
  case atStart => exact ⟨1, Nat.le_refl _, hN, rfl, rfl, Lib.hid ⟨HG3.out, HB2.out⟩⟩
  case round =>
    obtain ⟨n, hn1, hnN, rfl, rfl, HT⟩ := hrel
    clear HG3 HB2
    by_cases hlt2 : n < N
    · have hlt3 : (n : Int) < (N : Int) := by omega
      have hle3 : (n : Int) ≤ (N : Int) := by omega
      obtain ⟨m, hm⟩ : ∃ m, m = min n (N - n) := ⟨_, rfl⟩
      have hmp : 0 < m := by omega
      have hmn : n + m ≤ N := by omega
      have HMN : Hid (m = min n (N - n)) := Lib.hid hm
      have H1 : Hid (∀ v ∈ List.replicate m (Value.int .i64 (-1)), v.oneCell' = true) := Lib.hid (by intro v hv; rw [(List.mem_replicate.1 hv).2]; rfl)
      have HP : Hid (∀ (W : World), W.heap[g]? = some (.cells (rowR n N).toArray 3 (0, 0)) → ∀ j v, (List.replicate m (Value.int .i64 (-1)))[j]? = some v → W.cell? ((⟨g, 0, none⟩ : Addr).add j) = some v) := Lib.hid (by
        intro W hW j v hv
        rw [Go.WideShapes.add_plain, cell_of_row _ _ _ _ _ _ hW, Nat.zero_add]
        have hj : j < m := by
          have := (List.getElem?_eq_some_iff.1 hv).1
          simpa using this
        rw [List.getElem?_replicate, if_pos hj] at hv
        have := rowR_get n N j (by have := HMN.out; omega)
        simp only [List.getElem?_toArray]
        rw [this, hv])
      have HLN : Hid ((List.replicate m (Value.int .i64 (-1))).length = m) := Lib.hid (by simp)
      clear hm
      obtain ⟨w4, hrun, HG4, hB4⟩ : ∃ w4, (Builtin.copy_ #[41, 41] 3 #[.slice (some ⟨g, n, none⟩) (N - n) (N - n), .slice (some ⟨g, 0, none⟩) n N]).run Try.prog wr.drew = .ok (.int .i64 (m : Int)) w4 ∧ Hid (w4.heap[g]? = some (.cells (rowR (n + m) N).toArray 3 (0, 0))) ∧ Below w.heap.size w w4 := by
        have hrun := run_copy_row (P := Try.prog) wr.drew 41 41 3 3 g n (N - n) (N - n) ⟨g, 0, none⟩ n N (rowR n N).toArray 3 (List.replicate m (.int .i64 (-1))) Try.underlying41 size3 HT.out.1 (by rw [HLN.out]; exact HMN.out) (HP.out wr.drew HT.out.1) (by have := rowR_length n N (by omega); simp; omega) H1.out
        rw [HLN.out] at hrun
        refine ⟨_, hrun, Lib.hid ?_, below_setRow HT.out.2.drew hgl _⟩
        have h5 := setRow_heap wr.drew g _ ((rowR n N).toArray.toList.take n ++ List.replicate m (Value.int .i64 (-1)) ++ (rowR n N).toArray.toList.drop (n + m)).toArray 3 _ HT.out.1
        rw [h5]
        have h6 := rowR_splice n m N hmn
        unfold splice at h6
        rw [HLN.out, ← List.append_assoc] at h6
        rw [← h6]
      have HB4 := Lib.hid hB4
      clear hB4 H1 HP HLN HT
      go_wp2
      go_region
      go_wp2
      go_roundg (N - (n + m))
      case measure => omega
      case rel => exact ⟨n + m, by omega, hmn, rfl, by go_num, Lib.hid ⟨HG4.out, HB4.out⟩⟩
    · obtain rfl : n = N := by omega
      go_wp2
      go_ret
      exact ⟨g, rfl, HT.out.1, hgl, HT.out.2⟩
end Go.Proofs.Yteobndfkkpfnlaa

namespace Go.Proofs.Yteobndfkkpfnlaa
open Go.ChangeShapes Go.WideShapes Go.ChangeAt Go.RowKit
set_option linter.unusedVariables false

set_option maxRecDepth 100000 in
set_option maxHeartbeats 1000000 in
theorem rep0_any (b : Nat) (w : World) (hc : w.cell? ⟨b, 0, none⟩ = some (.int .i64 (-1))) :
    Calls Try.prog 64 #[.slice (some ⟨b, 0, none⟩) 1 1, .int .i64 ((0 : Nat) : Int)] w (fun e w' => ∃ g, e = .returned (.slice (some ⟨g, 0, none⟩) 0 0) ∧ w'.heap[g]? = some (.cells (rowR 0 0).toArray 3 (0, 0)) ∧ w.heap.size ≤ g ∧ Below w.heap.size w w') := by
  have HM : Hid (Calls Try.prog 79 #[.int .u64 ((1 : Nat) : Int), .int .u64 ((0 : Nat) : Int)] w (fun e w' => e = .returned (.tuple #[.int .u64 ((1 * 0 / 18446744073709551616 : Nat) : Int), .int .u64 ((1 * 0 % 18446744073709551616 : Nat) : Int)]) ∧ w = w')) := Lib.hid ((Try.bits_Mul 1 0 (by omega) (by omega) w).mono (fun e w' h => ⟨h.1, h.2.symm⟩))
  have e1 : 1 * 0 / 18446744073709551616 = 0 := by omega
  have e2 : 1 * 0 % 18446744073709551616 = 0 := by omega
  rw [e1, e2] at HM
  clear e1 e2
  obtain ⟨mc, hmc⟩ : ∃ mc, mc = madeCells #[.int .i64 0] 0 := ⟨_, rfl⟩
  have hmi : ∀ w : World, (Instr.makeSlice 41 (.int .i64 0) (.int .i64 0)).run Try.prog w = .ok (.slice (some ⟨w.heap.size, 0, none⟩) 0 0) (w.alloc (.cells mc 3)) := fun w => makeI' 0 (by omega) mc hmc w
  have hb1 : Below w.heap.size w (w.alloc (.cells mc 3)) := (Below.refl _ _).alloc (Nat.le_refl _) _
  have c1 := (hb1.cell (p := ⟨b, 0, none⟩) (cell_lt hc)).trans hc
  have HB1 := Lib.hid hb1
  have HC1 := Lib.hid c1
  have HG : Hid ((w.alloc (.cells mc 3)).heap[w.heap.size]? = some (.cells (rowR 0 0).toArray 3 (0, 0))) := Lib.hid (by rw [← rowR_zero, ← hmc]; exact heap_alloc_new _ _)
  clear hmc hb1 c1 hc
  go_enter Try.func64, Try.ntmps64
  go_upto_region 7 with (go_at_call 79; refine HM.out.mono ?_; rintro e w' ⟨rfl, rfl⟩)
  obtain ⟨w2, hrun, HG2, hB2⟩ : ∃ w2, (Builtin.copy_ #[41, 41] 3 #[.slice (some ⟨w.heap.size, 0, none⟩) 0 0, .slice (some ⟨b, 0, none⟩) 1 1]).run Try.prog (w.alloc (.cells mc 3)) = .ok (.int .i64 0) w2 ∧ Hid (w2.heap[w.heap.size]? = some (.cells (rowR 0 0).toArray 3 (0, 0))) ∧ Below w.heap.size w w2 := by
    have hrun := run_copy_row (P := Try.prog) (w.alloc (.cells mc 3)) 41 41 3 3 w.heap.size 0 0 0 ⟨b, 0, none⟩ 1 1 (rowR 0 0).toArray 3 [] Try.underlying41 size3 HG.out (by show 0 = min 0 1; omega) (fun j v h => by simp at h) (by simp [rowR]) (by simp)
    refine ⟨_, hrun, Lib.hid ?_, below_setRow HB1.out (Nat.le_refl _) _⟩
    simpa [splice, rowR] using setRow_heap (w.alloc (.cells mc 3)) w.heap.size _ _ 3 _ HG.out
  go_wp2
  have HB2 := Lib.hid hB2
  obtain ⟨g, eg⟩ : ∃ g, g = w.heap.size := ⟨_, rfl⟩
  rw [← eg] at HG2
  rw [← eg]
  have hgl : w.heap.size ≤ g := by omega
  clear eg hB2 HG HB1 HC1 hmi HM hrun
  refine wp_loop_rounds 1 ?_
  rw [rounds_succ]
  go_wp2
  go_ret
  exact ⟨g, rfl, HG2.out, hgl, HB2.out⟩
end Go.Proofs.Yteobndfkkpfnlaa

namespace Go.Proofs.Yteobndfkkpfnlaa
open Go.ChangeShapes Go.WideShapes Go.ChangeAt Go.RowKit Go.Maps
set_option linter.unusedVariables false

/-- who comes behind by a pair -/
def bhP (F : CM) (c : C4) (x : Int) : Bool := (F c.k c.y c.a c.b == some true && c.b == x) || (F c.k c.y c.a c.b == some false && c.a == x)
/-- how many are ahead of one, by these pairs -/
def ahN (F : CM) (l : List C4) (x : Int) : Nat := l.countP fun c => bhP F c x
theorem ahN_snoc (F : CM) (l : List C4) (c : C4) (x : Int) : ahN F (l ++ [c]) x = ahN F l x + (if bhP F c x then 1 else 0) := by
  unfold ahN
  rw [List.countP_append, List.countP_cons, List.countP_nil]
  omega
theorem wlF_inc (T : Nat → Tx) (c : Nat → Bool) (m : Nat) (y : Int) : (wlF T c m y).Pairwise (fun a b => a < b) := by
  unfold wlF
  rw [List.pairwise_map]
  exact (List.Pairwise.filter _ List.pairwise_lt_range).imp (fun h => by omega)
theorem inc_count {l : List Int} (h : l.Pairwise (fun a b => a < b)) (x : Int) : l.countP (fun a => decide (a = x)) ≤ 1 := by
  induction l with
  | nil => simp
  | cons a l ih =>
    obtain ⟨h1, h2⟩ := List.pairwise_cons.1 h
    rw [List.countP_cons]
    by_cases e : a = x
    · have : l.countP (fun a => decide (a = x)) = 0 := by
        rw [List.countP_eq_zero]
        intro b hb
        have := h1 b hb
        simp
        omega
      rw [this]
      simp [e]
    · have := ih h2
      simp [e]
      simpa using this
/-- pairs with one -/
def inP (x : Int) (c : C4) : Bool := decide (c.a = x ∨ c.b = x)
theorem bh_in {F : CM} {c : C4} {x : Int} (h : bhP F c x = true) : inP x c = true := by
  unfold bhP at h
  unfold inP
  simp at h ⊢
  rcases h with ⟨_, h⟩ | ⟨_, h⟩
  · exact .inr h
  · exact .inl h
theorem ahN_le_in (F : CM) (l : List C4) (x : Int) : ahN F l x ≤ l.countP (inP x) := List.countP_mono_left fun c _ h => bh_in h
theorem prP_count {y : Int} {l : List Int} (h : l.Pairwise (fun a b => a < b)) (x : Int) : ∀ n, n ≤ l.length → (prP y l n).countP (inP x) ≤ n - 1 ∧ (x ∉ l.take n → (prP y l n).countP (inP x) = 0)
  | 0, _ => ⟨by simp [prP], fun _ => by simp [prP]⟩
  | n + 1, hn => by
    obtain ⟨i1, i2⟩ := prP_count (y := y) h x n (by omega)
    have htk := take_snoc (l := l) (k := n) (by omega)
    rw [prP_succ, List.countP_append]
    unfold rwP
    rw [List.countP_map]
    have hlen : (l.take n).length = n := by rw [List.length_take]; omega
    have hlt : ∀ a, a ∈ l.take n → a < l.getD n 0 := by
      intro a ha
      obtain ⟨i, hi, rfl⟩ := List.getElem_of_mem ha
      rw [List.getElem_take, List.getD_eq_getElem?_getD, List.getElem?_eq_getElem (by omega)]
      rw [hlen] at hi
      exact List.pairwise_iff_getElem.1 h i n (by omega) (by omega) hi
    by_cases hx : x = l.getD n 0
    · have hnot : x ∉ l.take n := fun hm => by have := hlt x hm; omega
      rw [i2 hnot]
      refine ⟨?_, fun hc => absurd (by rw [htk, hx]; simp) hc⟩
      have := List.countP_le_length (p := inP x ∘ fun a => (⟨2, y, a, l.getD n 0⟩ : C4)) (l := l.take n)
      omega
    · have e : (l.take n).countP (inP x ∘ fun a => (⟨2, y, a, l.getD n 0⟩ : C4)) = (l.take n).countP (fun a => decide (a = x)) := by
        congr 1
        funext a
        unfold inP
        simp only [Function.comp]
        rw [decide_eq_decide]
        exact ⟨fun hh => hh.elim id fun hh => absurd hh.symm hx, .inl⟩
      rw [e]
      have hinc : (l.take n).Pairwise (fun a b => a < b) := List.Pairwise.sublist (List.take_sublist _ _) h
      by_cases hm : x ∈ l.take n
      · have h1 := inc_count hinc x
        have hpos : 0 < n := by rw [← hlen]; exact List.length_pos_of_mem hm
        refine ⟨by omega, fun hc => absurd (by rw [htk]; exact List.mem_append_left _ hm) hc⟩
      · have h0 : (l.take n).countP (fun a => decide (a = x)) = 0 := by
          rw [List.countP_eq_zero]
          intro a ha hc
          simp at hc
          exact hm (hc ▸ ha)
        rw [h0, i2 hm]
        exact ⟨by omega, fun _ => rfl⟩
/-- fewer are ahead of one than there are -/
theorem ahN_lt {F : CM} {y : Int} {l : List Int} (h : l.Pairwise (fun a b => a < b)) {x : Int} (hx : x ∈ l) : ahN F (prP y l l.length) x < l.length := by
  have h1 := ahN_le_in F (prP y l l.length) x
  have h2 := (prP_count (y := y) h x l.length (Nat.le_refl _)).1
  have h3 := List.length_pos_of_mem hx
  omega
theorem ahN_pre {F : CM} {y : Int} {l : List Int} {pre : List C4} {x : Int} (h : l.Pairwise (fun a b => a < b)) (hp : pre <+: prP y l l.length) : ahN F pre x ≤ l.length := by
  have h1 := ahN_le_in F (prP y l l.length) x
  have h2 := (prP_count (y := y) h x l.length (Nat.le_refl _)).1
  obtain ⟨r, hr⟩ := hp
  have h3 : ahN F pre x ≤ ahN F (prP y l l.length) x := by
    rw [← hr]
    unfold ahN
    rw [List.countP_append]
    omega
  omega

/-- the places being filled: t of them -/
structure Fil (l : List Int) (ah : Int → Nat) (t : Nat) (C : List Int) : Prop where
  len : C.length = l.length
  at_ : ∀ i, i < t → C.getD (ah (l.getD i 0)) 0 = l.getD i 0
  is : ∀ p, p < l.length → C.getD p 0 = -1 ∨ ∃ i, i < t ∧ C.getD p 0 = l.getD i 0 ∧ ah (l.getD i 0) = p
  free : C.countP (fun v => decide (v < 0)) = l.length - t
theorem Fil.start (l : List Int) (ah : Int → Nat) : Fil l ah 0 (List.replicate l.length (-1)) :=
  ⟨by simp, fun i hi => absurd hi (Nat.not_lt_zero _), fun p hp => .inl (by rw [List.getD_eq_getElem?_getD, List.getElem?_replicate, if_pos hp]; rfl), by rw [List.countP_replicate]; simp⟩
theorem set_getD {C : List Int} {p q : Nat} {v : Int} (hp : p < C.length) : (C.set p v).getD q 0 = if q = p then v else C.getD q 0 := by
  rw [List.getD_eq_getElem?_getD, List.getD_eq_getElem?_getD, List.getElem?_set]
  by_cases e : p = q
  · subst e; simp [hp]
  · rw [if_neg e, if_neg (fun h => e h.symm)]
theorem set_count {C : List Int} {v : Int} (hv : 0 ≤ v) : ∀ {p : Nat}, p < C.length → C.getD p 0 < 0 → (C.set p v).countP (fun v => decide (v < 0)) + 1 = C.countP (fun v => decide (v < 0)) := by
  induction C with
  | nil => intro p hp; cases hp
  | cons a C ih =>
    intro p hp h
    cases p with
    | zero =>
      simp only [List.set_cons_zero, List.countP_cons]
      have ha : a < 0 := by simpa using h
      have hv' : ¬ v < 0 := by omega
      simp [ha, hv']
    | succ p =>
      simp only [List.set_cons_succ, List.countP_cons]
      have := ih (p := p) (by simpa using hp) (by simpa using h)
      omega
theorem Fil.next {l : List Int} {ah : Int → Nat} {t : Nat} {C : List Int} (h : Fil l ah t C) (ht : t < l.length) (hpos : ∀ x ∈ l, 0 ≤ x) (hah : ah (l.getD t 0) < l.length) (hfree : C.getD (ah (l.getD t 0)) 0 < 0) : Fil l ah (t + 1) (C.set (ah (l.getD t 0)) (l.getD t 0)) := by
  have hp : ah (l.getD t 0) < C.length := by rw [h.len]; exact hah
  have hm : ∀ i, i < l.length → l.getD i 0 ∈ l := fun i hi => by rw [List.getD_eq_getElem?_getD, List.getElem?_eq_getElem hi]; exact List.getElem_mem _
  refine ⟨by rw [List.length_set]; exact h.len, fun i hi => ?_, fun p hp2 => ?_, ?_⟩
  · rw [set_getD hp]
    by_cases e : ah (l.getD i 0) = ah (l.getD t 0)
    · rw [if_pos e]
      by_cases e2 : i = t
      · rw [e2]
      · have h1 := h.at_ i (by omega)
        rw [e] at h1
        have := hpos _ (hm i (by omega))
        omega
    · rw [if_neg e]
      exact h.at_ i (by have : i ≠ t := fun e2 => e (by rw [e2]); omega)
  · rw [set_getD hp]
    by_cases e : p = ah (l.getD t 0)
    · rw [if_pos e]
      exact .inr ⟨t, by omega, rfl, e.symm⟩
    · rw [if_neg e]
      rcases h.is p hp2 with h1 | ⟨i, hi, h1, h2⟩
      · exact .inl h1
      · exact .inr ⟨i, by omega, h1, h2⟩
  · have h1 := set_count (hpos _ (hm t ht)) hp hfree
    have h2 := h.free
    omega
theorem Fil.full {l : List Int} {ah : Int → Nat} {C : List Int} (h : Fil l ah l.length C) : ∀ v ∈ C, v ∈ l := by
  intro v hv
  obtain ⟨p, hp, rfl⟩ := List.getElem_of_mem hv
  have h0 : C.countP (fun v => decide (v < 0)) = 0 := by have := h.free; omega
  rw [List.countP_eq_zero] at h0
  have h1 := h0 _ (List.getElem_mem hp)
  have e : C.getD p 0 = C[p] := by rw [List.getD_eq_getElem?_getD, List.getElem?_eq_getElem hp]; rfl
  rcases h.is p (by rw [← h.len]; exact hp) with h2 | ⟨i, hi, h2, _⟩
  · rw [e] at h2
    rw [h2] at h1
    simp at h1
  · rw [← e, h2, List.getD_eq_getElem?_getD, List.getElem?_eq_getElem hi]
    exact List.getElem_mem _
end Go.Proofs.Yteobndfkkpfnlaa

namespace Go.Proofs.Yteobndfkkpfnlaa
open Go.RowKit Go.Shelf Go.Maps
set_option linter.unusedVariables false
variable {n0 : Nat}

attribute [local go_sem] Oper.semAt_some

set_option maxRecDepth 100000 in
theorem MapS.get {w : World} {b n : Nat} {m : Int → Option Int} (h : MapS w b n m) (x : Int) (hx : -9223372036854775808 ≤ x ∧ x ≤ 9223372036854775807) :
    (Instr.lookup 120 (.map (some b)) (.int .i64 x) false).run Try.prog w = .ok (.int .i64 ((m x).getD 0)) w := by
  obtain ⟨D, ho, hv⟩ := h
  obtain ⟨v, ps, hrun, hR⟩ := ho.lookup law3 Try.underlying120 (zero3 w) (plainElem_int Try.underlying3 (by decide)) (keyOf_int_mk Try.underlying3 (wf64 hx))
  obtain ⟨c, rfl, hc, _⟩ := plainElem_int_inv Try.underlying3 hR
  simp only [Prod.mk.injEq] at hc
  have e := hc.1
  rw [(hv x).2] at e
  injection e with e
  injection e with _ e
  rw [hrun, e]
set_option maxRecDepth 100000 in
theorem makeHint (n : Int) (w : World) : (Instr.makeMap 120 (some (.int .i64 n))).run Try.prog w = .ok (.map (some w.heap.size)) (w.alloc (.map #[] 0)) := by
  unfold Instr.makeMap
  simp [Sem.run_bind, run_underlying Try.underlying120, asInt, Result.andThen, go_sem]
/-- .. as the map has it -/
def amF (F : CM) (l : List C4) (x : Int) : Option Int := if ahN F l x = 0 then none else some (ahN F l x : Int)
theorem amF_get (F : CM) (l : List C4) (x : Int) : (amF F l x).getD 0 = (ahN F l x : Int) := by
  unfold amF
  by_cases h : ahN F l x = 0
  · rw [if_pos h, h]; rfl
  · rw [if_neg h]; rfl
theorem amF_nil (F : CM) : amF F [] = fun _ => none := by
  funext x
  exact if_pos rfl
theorem amF_snoc (F : CM) (l : List C4) (c : C4) (x0 : Int) (h : ∀ x, bhP F c x = true ↔ x = x0) : amF F (l ++ [c]) = fun x => if x = x0 then some ((ahN F l x0 : Int) + 1) else amF F l x := by
  funext x
  unfold amF
  rw [ahN_snoc]
  by_cases e : x = x0
  · rw [if_pos e, if_pos ((h x).2 e), if_neg (by omega), e]
    simp
  · have : bhP F c x ≠ true := fun hh => e ((h x).1 hh)
    rw [if_neg e, if_neg this]
    rfl
theorem bhP_true {F : CM} {c : C4} (h : F c.k c.y c.a c.b = some true) (x : Int) : bhP F c x = true ↔ x = c.b := by
  unfold bhP
  rw [h]
  simp
  exact eq_comm
theorem bhP_false {F : CM} {c : C4} (h : F c.k c.y c.a c.b = some false) (x : Int) : bhP F c x = true ↔ x = c.a := by
  unfold bhP
  rw [h]
  simp
  exact eq_comm

theorem prP_len (y : Int) (l : List Int) : ∀ n, n ≤ l.length → l.length ≤ 400 → (prP y l n).length ≤ 400 * n
  | 0, _, _ => by simp [prP]
  | n + 1, h, h4 => by
    rw [prP_succ, List.length_append]
    have := prP_len y l n (by omega) h4
    unfold rwP
    rw [List.length_map, List.length_take]
    omega
theorem prP_in {y : Int} {l : List Int} {x : C4} (h : x ∈ prP y l l.length) : x.k = 2 ∧ x.y = y ∧ x.a ∈ l ∧ x.b ∈ l := by
  unfold prP at h
  obtain ⟨i, hi, h⟩ := List.mem_flatMap.1 h
  unfold rwP at h
  obtain ⟨a, ha, rfl⟩ := List.mem_map.1 h
  have hi' := List.mem_range.1 hi
  refine ⟨rfl, rfl, List.mem_of_mem_take ha, ?_⟩
  show l.getD i 0 ∈ l
  rw [List.getD_eq_getElem?_getD, List.getElem?_eq_getElem hi']
  exact List.getElem_mem _
/-- what Chain answers -/
def ChainP (F : CM) (l : List Int) (y : Int) (w : World) (e : Ending) (w' : World) : Prop :=
  ∃ (o : List Int) (sp : Option Addr) (cp : Nat) (ok : Bool), e = .returned (.tuple #[.slice sp o.length cp, .bool ok]) ∧ PkS w' sp o.length (fun i => o.getD i 0) ∧ Below w.heap.size w w' ∧
    (ok = true → (∀ x ∈ prP y l l.length, F x.k x.y x.a x.b ≠ none) ∧ Fil l (ahN F (prP y l l.length)) l.length o) ∧
    (ok = false → o = [] ∧ ((∃ x ∈ prP y l l.length, F x.k x.y x.a x.b = none) ∨ ∃ i j, i < j ∧ j < l.length ∧ ahN F (prP y l l.length) (l.getD i 0) = ahN F (prP y l l.length) (l.getD j 0)))
/-- between two pairs -/
structure ChI (F : CM) (w : World) (M : Nat) (W0 : World) (pre : List C4) (W : World) : Prop where
  said : ∀ x ∈ pre, F x.k x.y x.a x.b ≠ none
  mp : MapS W M pre.length (amF F pre)
  bel : Below w.heap.size w W
  fix : ∀ k, k < W0.heap.size → k ≠ M → W.heap[k]? = W0.heap[k]?
theorem ChI.size {F : CM} {w : World} {M : Nat} {W0 : World} {pre : List C4} {W : World} (h : ChI F w M W0 pre W) (hM : M + 2 ≤ W0.heap.size) : W0.heap.size ≤ W.heap.size := by
  have h1 := h.fix (W0.heap.size - 1) (by omega) (by omega)
  rw [Array.getElem?_eq_getElem (show W0.heap.size - 1 < W0.heap.size by omega)] at h1
  have := (Array.getElem?_eq_some_iff.1 h1).1
  omega
theorem ChI.own (F : CM) (w : World) (M : Nat) (W0 : World) (hM : M + 2 ≤ W0.heap.size) (hw : w.heap.size ≤ W0.heap.size) : OwnFrom W0.heap.size (ChI F w M W0) := by
  intro s A C row hs hg hr
  have hsz := hs.size hM
  exact ⟨hs.said, hs.mp.kept (hg.block _ hs.mp.lt (fun e => by have := (hr _ e.symm).1; omega)), hs.bel.grown hg hs.bel.size (fun k e => by have := (hr k e).1; omega), fun k h1 h2 => (hg.block k (by omega) (fun e => by have := (hr _ e.symm).1; omega)).trans (hs.fix k h1 h2)⟩
theorem ChI.calm {F : CM} {w : World} {M : Nat} {W0 : World} {pre : List C4} {W W' : World} (h : ChI F w M W0 pre W) (hb : Below W.heap.size W W') (hM : M + 2 ≤ W0.heap.size) : ChI F w M W0 pre W' := by
  have hsz := h.size hM
  exact ⟨h.said, h.mp.kept (hb.block _ h.mp.lt), h.bel.trans (hb.mono h.bel.size), fun k h1 h2 => (hb.block k (by omega)).trans (h.fix k h1 h2)⟩
/-- a pair that is not said -/
structure ChX (F : CM) (w : World) (pre : List C4) (W : World) : Prop where
  hit : ∃ x ∈ pre, F x.k x.y x.a x.b = none
  bel : Below w.heap.size w W
  r6 : W.heap[w.heap.size + 1]? = some (.cells #[.slice none 0 0] 41 (0, 0))
  r7 : W.heap[w.heap.size + 1 + 1]? = some (.cells #[.bool false] 4 (0, 0))
theorem ChX.own (F : CM) (w : World) (B : Nat) (hB : w.heap.size + 3 ≤ B) : OwnFrom B (ChX F w) := by
  intro s A C row hs hg hr
  exact ⟨hs.hit, hs.bel.grown hg hs.bel.size (fun k e => by have := (hr k e).1; omega), (hg.block _ (Array.getElem?_eq_some_iff.1 hs.r6).1 (fun e => by have := (hr _ e.symm).1; omega)).trans hs.r6, (hg.block _ (Array.getElem?_eq_some_iff.1 hs.r7).1 (fun e => by have := (hr _ e.symm).1; omega)).trans hs.r7⟩

set_option maxRecDepth 100000 in
set_option maxHeartbeats 16000000 in
theorem chain_any (a : Option Addr) (m cap : Nat) (T : Nat → Tx) (f : Value) (F : CM) (y : Int) (w : World) (hs : TxS w a m T) (ok : TOk m T) (hF : FacS w f F) (hy : In64 y) :
    Calls Try.prog 33 #[.slice a m cap, f, .int .i64 y] w (ChainP F (wlF T (dnB T m F) m y) y w) := by
  obtain ⟨mb, rfl⟩ : ∃ mb, f = .map mb := by
    rcases hF with ⟨rfl, _⟩ | ⟨b, n, rfl, _⟩
    · exact ⟨_, rfl⟩
    · exact ⟨_, rfl⟩
  have hmm := makeHint
  have HS := Lib.hid hs
  have HF := Lib.hid hF
  have HOK := Lib.hid ok
  obtain ⟨wy, ewy⟩ : ∃ wy, wy = ((w.alloc (.cells #[.map mb] 62)).alloc (.cells #[.slice none 0 0] 41)).alloc (.cells #[.bool false] 4) := ⟨_, rfl⟩
  have hzy : wy.heap.size = w.heap.size + 3 := by rw [ewy]; simp
  have hBy : Below w.heap.size w wy := by rw [ewy]; exact (((Below.refl _ _).alloc (Nat.le_refl _) _).alloc (by simp) _).alloc (by simp; omega) _
  have h0 : wy.heap[w.heap.size]? = some (.cells #[.map mb] 62 (0, 0)) := by
    rw [ewy]; exact (Below.heap_alloc _ _ _ (by simp; omega)).trans ((Below.heap_alloc _ _ _ (by simp)).trans (World.alloc_heap_new w _))
  have h1 : wy.heap[w.heap.size + 1]? = some (.cells #[.slice none 0 0] 41 (0, 0)) := by
    rw [ewy]
    have := World.alloc_heap_new (w.alloc (.cells #[.map mb] 62)) (.cells #[.slice none 0 0] 41)
    rw [World.size_alloc] at this
    exact (Below.heap_alloc _ _ _ (by simp)).trans this
  have h2 : wy.heap[w.heap.size + 1 + 1]? = some (.cells #[.bool false] 4 (0, 0)) := by
    rw [ewy]
    have := World.alloc_heap_new ((w.alloc (.cells #[.map mb] 62)).alloc (.cells #[.slice none 0 0] 41)) (.cells #[.bool false] 4)
    rw [World.size_alloc, World.size_alloc] at this
    exact this
  have HBY := Lib.hid hBy
  have H0 := Lib.hid h0
  have H1 := Lib.hid h1
  have H2 := Lib.hid h2
  have HSU := Lib.hid (sure_any a m cap T wy.drew (hs.below hBy.drew) ok)
  have hcs : wy.cell? ⟨w.heap.size, 0, none⟩ = some (.map mb) := cells1 h0
  have hcd : wy.drew.cell? ⟨w.heap.size, 0, none⟩ = some (.map mb) := hcs
  have hBD : Below wy.heap.size wy wy.drew := (Below.refl _ _).drew
  have HCC : Hid (∀ W', Below wy.heap.size wy W' → W'.cell? ⟨w.heap.size, 0, none⟩ = some (.map mb)) := Lib.hid fun W' hb => cells1 ((hb.block _ (by omega)).trans H0.out)
  clear hs ok hF hBy h0 h1 h2
  refine (callsIn_wide (n := 5)).1 ?_
  refine callsIn_of_wp_marks Try.func33 rfl trivial ?_ rfl
  simp only [Try.ntmps33, List.size_toArray, List.length_cons, List.length_nil, Nat.reduceAdd, Nat.reduceSub, Array.replicate_succ, Array.replicate_zero, List.push_toArray, List.append_toArray, List.nil_append, List.cons_append]
  gi_wp2
  rw [← ewy]
  clear ewy
  refine wpIn_wide.2 ?_
  go_region_held3 (fun W1 => W1.cell? ⟨w.heap.size, 0, none⟩ = some (.map mb)) (first | exact hcs | exact hcd | exact hc5 | exact hc6 | exact hc7)
    (first
      | (go_at_call 18; refine HSU.out.mono ?_; rintro e w5 ⟨g5, rfl, hM5, hb5⟩; have hB5 : Below wy.heap.size wy w5 := hBD.trans hb5; have hc5 := HCC.out w5 hB5)
      | (go_at_call 61; refine (done_any a m cap T (.map mb) F g5 (suL T m) (dnB T m F) w5 (HS.out.below (HBY.out.trans (hB5.mono HBY.out.size))) HOK.out (HF.out.below (HBY.out.trans (hB5.mono HBY.out.size))) hM5.bools (fun i hi => by rw [dnB_iff]; rfl)).mono ?_; rintro e w6 ⟨g6, rfl, hM6, hb6⟩; have hB6 : Below wy.heap.size wy w6 := hB5.trans (hb6.mono hB5.size); have hc6 := HCC.out w6 hB6)
      | (go_at_call 60; refine (writersOf_any a m cap T g6 (dnB T m F) w6 (HS.out.below (HBY.out.trans (hB6.mono HBY.out.size))) HOK.out (hM6.bools.congr fun i hi => upT_all hi)).mono ?_; rintro e w7 ⟨rfl, q7, hq7, hm7, hb7⟩; have hB7 : Below wy.heap.size wy w7 := hB6.trans (hb7.mono hB6.size); have hc7 := HCC.out w7 hB7; have hm4 := HOK.out.cnt; obtain ⟨v7, hlook, hoi, hzl, _⟩ := hm7.look (by omega) y hy; obtain ⟨sv, cv, rfl⟩ := own_form' hoi.1))
  have hinc := wlF_inc T (dnB T m F) m y
  have hmem := fun x (h : x ∈ wlF T (dnB T m F) m y) => wlF_lt h
  have hll := wlF_le (T := T) (c := dnB T m F) (t := m) y
  generalize wlF T (dnB T m F) m y = l at *
  have hpos : ∀ x ∈ l, 0 ≤ x ∧ x ≤ 1000 := fun x h => by
    obtain ⟨i, rfl, hi, _⟩ := hmem x h
    omega
  have HROW := Lib.hid hoi.1
  have h36 : w.heap.size + 3 ≤ w6.heap.size := by have := hB6.size; omega
  have HB7 := Lib.hid hB7
  have HINC := Lib.hid hinc
  have HPOS := Lib.hid hpos
  clear hcs hcd hc5 hc6 hc7 hM5 hb5 hB5 hM6 hb6 hB6 hm7 hb7 hB7 hlook hoi hzl hinc hmem hpos HSU HCC hBD
  gi_wp2_with (first | (refine ⟨trivial, ?_⟩; gi_at_call 63; refine (callsIn_wide.2 (pairs_any _ _ _ _ _)).mono ?_; rintro e w' ⟨rfl, rfl⟩))
  obtain ⟨W0, eW0⟩ : ∃ W0, W0 = (((w7.alloc (.map #[] 0)).alloc (.cells #[.map (some w7.heap.size)] 120)).alloc (.cells #[.int .i64 y] 3)).alloc (.cells #[.slice sv l.length cv] 41) := ⟨_, rfl⟩
  have hz0 : W0.heap.size = w7.heap.size + 4 := by rw [eW0]; simp
  have hBW : Below w7.heap.size w7 W0 := by rw [eW0]; exact ((((Below.refl _ _).alloc (Nat.le_refl _) _).alloc (by simp) _).alloc (by simp only [World.size_alloc]; omega) _).alloc (by simp only [World.size_alloc]; omega) _
  have hm0 : MapS W0 w7.heap.size 0 (amF F []) := by
    rw [eW0, amF_nil]
    have h := MapS.made w7
    exact ((h.kept (Below.heap_alloc _ _ _ (by simp only [World.size_alloc]; omega))).kept (Below.heap_alloc _ _ _ (by simp only [World.size_alloc]; omega))).kept (Below.heap_alloc _ _ _ (by simp only [World.size_alloc]; omega))
  have hb1 : W0.heap[w7.heap.size + 1]? = some (.cells #[.map (some w7.heap.size)] 120 (0, 0)) := by
    rw [eW0]
    have := World.alloc_heap_new (w7.alloc (.map #[] 0)) (.cells #[.map (some w7.heap.size)] 120)
    rw [World.size_alloc] at this
    exact (Below.heap_alloc _ _ _ (by simp only [World.size_alloc]; omega)).trans ((Below.heap_alloc _ _ _ (by simp only [World.size_alloc]; omega)).trans this)
  have hb2 : W0.heap[w7.heap.size + 1 + 1]? = some (.cells #[.int .i64 y] 3 (0, 0)) := by
    rw [eW0]
    have := World.alloc_heap_new ((w7.alloc (.map #[] 0)).alloc (.cells #[.map (some w7.heap.size)] 120)) (.cells #[.int .i64 y] 3)
    rw [World.size_alloc, World.size_alloc] at this
    exact (Below.heap_alloc _ _ _ (by simp only [World.size_alloc]; omega)).trans this
  have hb3 : W0.heap[w7.heap.size + 1 + 1 + 1]? = some (.cells #[.slice sv l.length cv] 41 (0, 0)) := by
    rw [eW0]
    have := World.alloc_heap_new (((w7.alloc (.map #[] 0)).alloc (.cells #[.map (some w7.heap.size)] 120)).alloc (.cells #[.int .i64 y] 3)) (.cells #[.slice sv l.length cv] 41)
    rw [World.size_alloc, World.size_alloc, World.size_alloc] at this
    exact this
  have h37 : w.heap.size + 3 ≤ w7.heap.size := by have := HB7.out.size; omega
  have hrow0 := own_keep HROW.out fun g hg => hBW.block g (HROW.out.lt g hg).2
  have hbase := fun g hg => (HROW.out.lt g hg)
  obtain ⟨hints, hcv⟩ := ints_of_own (X := fun k => (k ≠ w7.heap.size ∧ k ≠ w.heap.size + 1 ∧ k ≠ w.heap.size + 1 + 1) ∧ k ≠ W0.heap.size ∧ k ≠ W0.heap.size + 1) HROW.out rfl (fun k h1 h2 => ⟨⟨by omega, by omega, by omega⟩, by omega, by omega⟩)
  have hps := pairs_stops (n0 := w.heap.size) (fun k => (k ≠ w7.heap.size ∧ k ≠ w.heap.size + 1 ∧ k ≠ w.heap.size + 1 + 1) ∧ k ≠ W0.heap.size ∧ k ≠ W0.heap.size + 1) (w7.heap.size + 1 + 1 + 1) (w7.heap.size + 1 + 1) y sv cv l W0 hcv (by have := HOK.out.cnt; omega)
    ⟨⟨⟨by omega, by omega, by omega⟩, by omega, by omega⟩, by decide, (0, 0), hb3⟩ ⟨⟨⟨by omega, by omega, by omega⟩, by omega, by omega⟩, by decide, (0, 0), hb2⟩ (hints.keep (KeptX.all (n0 := w.heap.size) hBW))
  have hlong : (prP y l l.length).length ≤ 400 * l.length := prP_len y l _ (Nat.le_refl _) (by have := HOK.out.cnt; omega)
  have hm4 := HOK.out.cnt
  obtain ⟨tot, etot⟩ : ∃ tot, tot = prP y l l.length := ⟨_, rfl⟩
  rw [← etot] at hps hlong
  have HPS := Lib.hid hps
  have HTOT := Lib.hid etot
  have HIN : Hid (∀ x, x ∈ tot → (0 ≤ x.a ∧ x.a ≤ 1000) ∧ (0 ≤ x.b ∧ x.b ≤ 1000) ∧ x.k = 2 ∧ x.y = y) := Lib.hid fun x hx => by
    rw [etot] at hx
    obtain ⟨h1, h2, h3, h4⟩ := prP_in hx
    exact ⟨HPOS.out _ h3, HPOS.out _ h4, h1, h2⟩
  have HI0 : Hid (ChI F w w7.heap.size W0 [] W0) := Lib.hid ⟨fun x hx => absurd hx (by simp), hm0, HBY.out.trans ((HB7.out.trans (hBW.mono HB7.out.size)).mono HBY.out.size), fun k _ _ => rfl⟩
  have HH0 : Hid (W0.heap[w.heap.size]? = some (.cells #[.map mb] 62 (0, 0))) := Lib.hid ((hBW.block _ (by omega)).trans ((HB7.out.block _ (by omega)).trans H0.out))
  have HH1 : Hid (W0.heap[w.heap.size + 1]? = some (.cells #[.slice none 0 0] 41 (0, 0))) := Lib.hid ((hBW.block _ (by omega)).trans ((HB7.out.block _ (by omega)).trans H1.out))
  have HH2 : Hid (W0.heap[w.heap.size + 1 + 1]? = some (.cells #[.bool false] 4 (0, 0))) := Lib.hid ((hBW.block _ (by omega)).trans ((HB7.out.block _ (by omega)).trans H2.out))
  have HB1 := Lib.hid hb1
  have HIS := Lib.hid (hints.keep (KeptX.all (n0 := w.heap.size) hBW))
  rw [← eW0]
  clear hps etot hm0 hb1 hb2 hb3 hrow0 hbase hints hmm eW0
  refine range_o (n0 := w.heap.size) (gf := 78) (lb := #[.pointer (some ⟨w7.heap.size + 1 + 1 + 1, 0, none⟩), .pointer (some ⟨w7.heap.size + 1 + 1, 0, none⟩)]) rfl (enters_of Try.func78 (by kernel_rfl) rfl) (fun k => k ≠ w7.heap.size ∧ k ≠ w.heap.size + 1 ∧ k ≠ w.heap.size + 1 + 1) HPS.out (KeptX.refl _ _) (fun k hk => ⟨by omega, by omega, by omega⟩) (fun _ => rfl)
    (ChI F w w7.heap.size W0) (fun c pre Wx => c = .ret ∧ ChX F w pre Wx)
    (ChI.own F w w7.heap.size W0 (by omega) (by omega)) (fun c s A C row hs hg hr => ⟨hs.1, ChX.own F w W0.heap.size (by omega) s A C row hs.2 hg hr⟩) HI0.out
    (fun x a' Wx => ∃ Bx, W0.heap.size ≤ Bx ∧ Wx.heap[Bx]? = some (.cells #[.int .i64 x.k, .int .i64 x.y, .int .i64 x.a, .int .i64 x.b] 58 (0, 0)) ∧
      a' = { tmps := #[.slice a m cap, .map mb, .int .i64 y, undef, .pointer (some ⟨w.heap.size, 0, none⟩), undef, .pointer (some ⟨w.heap.size + 1, 0, none⟩), .pointer (some ⟨w.heap.size + 1 + 1, 0, none⟩), .slice sv l.length cv, .pointer (some ⟨w7.heap.size + 1, 0, none⟩), .pointer (some ⟨Bx, 0, none⟩), undef, undef, undef, undef, undef, .slice a m cap, .map mb, .slice a m cap, .slice a m cap, .slice (some ⟨g5, 0, none⟩) m m, .slice (some ⟨g6, 0, none⟩) m m, .map (some w6.heap.size), .int .i64 y, .slice sv l.length cv, .slice sv l.length cv, .int .i64 (l.length : Int), .map (some w7.heap.size), .int .i64 y, .slice sv l.length cv, .func (.func 78) #[] #[.pointer (some ⟨w7.heap.size + 1 + 1 + 1, 0, none⟩), .pointer (some ⟨w7.heap.size + 1 + 1, 0, none⟩)], .agg #[.int .i64 x.k, .int .i64 x.y, .int .i64 x.a, .int .i64 x.b], undef, undef, undef, undef, undef, undef, undef, undef, undef, undef, undef, undef, undef, undef, undef, undef, undef, undef, undef, undef, undef, undef, undef, undef, undef, undef, undef, undef, undef, undef, undef, undef, undef, undef, undef, undef, undef, undef, undef, undef, undef, undef, undef, undef], defers := [] })
    (fun x a' => own_box _ _ _ _) ?assign ?body ?done ?stop
  case assign =>
    rintro lo pre x Wx K hI hK
    have hal : Below Wx.heap.size Wx (Wx.alloc (.cells #[.int .i64 x.k, .int .i64 x.y, .int .i64 x.a, .int .i64 x.b] 58)) := (Below.refl _ _).alloc (Nat.le_refl _) _
    have hsz : W0.heap.size ≤ Wx.heap.size := hI.size (by omega)
    unfold encC
    gi_wp2
    exact hK _ _ (KeptX.all hal) (hI.calm hal (by omega)) ⟨Wx.heap.size, hsz, World.alloc_heap_new Wx _, rfl⟩
  case body =>
    rintro lo pre x a' Wx hl ⟨r, hr⟩ hI ⟨Bx, hBx, hXX, rfl⟩ hlen
    have hsz := hI.size (by omega)
    have hxt : x ∈ tot := hlen.subset (by simp)
    have hxi := HIN.out x hxt
    obtain ⟨z0, z1, z2, z3⟩ := cells4' hXX
    have hfb := cells1 ((hI.fix _ (by omega) (by omega)).trans HH0.out)
    have hab := cells1 ((hI.fix _ (by omega) (by omega)).trans HB1.out)
    have hlook := (HF.out.below hI.bel).look x.k x.y x.a x.b (by
      obtain ⟨h1, h2, h3, h4⟩ := hxi
      rw [h3, h4]
      exact ⟨by unfold In64; omega, hy, by unfold In64; omega, by unfold In64; omega⟩)
    unfold cho at hlook
    obtain ⟨fx, efx⟩ : ∃ fx, fx = F x.k x.y x.a x.b := ⟨_, rfl⟩
    rw [← efx] at hlook
    have HFX := Lib.hid efx
    clear efx
    rcases fx with _ | _ | _
    · simp only [Option.getD_none, Option.isSome_none] at hlook
      have h6 := (hI.fix _ (by omega) (by omega)).trans HH1.out
      have h7 := (hI.fix _ (by omega) (by omega)).trans HH2.out
      have r6 := cells1 h6
      have r7 := cells1 h7
      have f6 := frz h6 0
      have f7 := frz h7 0
      have H6 := Lib.hid h6
      have H7 := Lib.hid h7
      have HI := Lib.hid hI
      clear hI h6 h7 hxi hr hXX
      gi_wp2
      refine ⟨(KeptX.setCell' (fun h => h.2.1 rfl)).trans (KeptX.setCell' (fun h => h.2.2 rfl)), rfl, ⟨x, by simp, HFX.out.symm⟩, (HI.out.bel.setCell (p := ⟨w.heap.size + 1, 0, none⟩) (by dsimp only; omega) _).setCell (p := ⟨w.heap.size + 1 + 1, 0, none⟩) (by dsimp only; omega) _, ?_, ?_⟩
      · rw [heap_setCell_other _ ⟨w.heap.size + 1 + 1, 0, none⟩ (w.heap.size + 1) _ (fun e => by dsimp only at e; omega)]
        exact setH1 H6.out
      · refine setH1 (x0 := .bool false) ?_
        rw [heap_setCell_other _ ⟨w.heap.size + 1, 0, none⟩ (w.heap.size + 1 + 1) _ (fun e => by dsimp only at e; omega)]
        exact H7.out
    · simp only [Option.getD_some, Option.isSome_some] at hlook
      have hget := hI.mp.get x.a (by have := hxi; omega)
      rw [amF_get] at hget
      have hle := ahN_pre (F := F) (pre := pre) (x := x.a) HINC.out (by rw [← HTOT.out]; exact List.IsPrefix.trans (List.prefix_append _ _) hlen)
      have hwr : IntKind.i64.wrap ((ahN F pre x.a : Int) + 1) = (ahN F pre x.a : Int) + 1 := IntWalk.i64_in _ (by omega)
      obtain ⟨w8, hrun, hm8, hg8⟩ := hI.mp.update x.a ((ahN F pre x.a : Int) + 1) (by have := pre_lt hlen; omega) (by have := hxi; omega) (by omega)
      have HN8 : Hid (ChI F w w7.heap.size W0 (pre ++ [x]) w8) := Lib.hid ⟨fun z hz => by
        rcases List.mem_append.1 hz with hz | hz
        · exact hI.said z hz
        · obtain rfl := List.mem_singleton.1 hz
          rw [← HFX.out]; simp, by rw [amF_snoc F pre x x.a (bhP_false HFX.out.symm), List.length_append]; exact hm8, hI.bel.grown hg8 hI.bel.size (fun k e => by injection e with e; omega), fun k h1 h2 => (hg8.block k (by have := hI.size (by omega); omega) (fun e => by injection e with e; omega)).trans (hI.fix k h1 h2)⟩
      have HK8 : Hid (KeptX w.heap.size (fun k => k ≠ w7.heap.size ∧ k ≠ w.heap.size + 1 ∧ k ≠ w.heap.size + 1 + 1) Wx w8) := Lib.hid (KeptX.grown hg8 fun k e hk => by injection e with e; exact absurd e.symm hk.1)
      clear hI hm8 hg8 hle hxi hr hXX
      generalize ahN F pre x.a = an at *
      gi_wp2
      exact ⟨HK8.out, HN8.out⟩
    · simp only [Option.getD_some, Option.isSome_some] at hlook
      have hget := hI.mp.get x.b (by have := hxi; omega)
      rw [amF_get] at hget
      have hle := ahN_pre (F := F) (pre := pre) (x := x.b) HINC.out (by rw [← HTOT.out]; exact List.IsPrefix.trans (List.prefix_append _ _) hlen)
      have hwr : IntKind.i64.wrap ((ahN F pre x.b : Int) + 1) = (ahN F pre x.b : Int) + 1 := IntWalk.i64_in _ (by omega)
      obtain ⟨w8, hrun, hm8, hg8⟩ := hI.mp.update x.b ((ahN F pre x.b : Int) + 1) (by have := pre_lt hlen; omega) (by have := hxi; omega) (by omega)
      have HN8 : Hid (ChI F w w7.heap.size W0 (pre ++ [x]) w8) := Lib.hid ⟨fun z hz => by
        rcases List.mem_append.1 hz with hz | hz
        · exact hI.said z hz
        · obtain rfl := List.mem_singleton.1 hz
          rw [← HFX.out]; simp, by rw [amF_snoc F pre x x.b (bhP_true HFX.out.symm), List.length_append]; exact hm8, hI.bel.grown hg8 hI.bel.size (fun k e => by injection e with e; omega), fun k h1 h2 => (hg8.block k (by have := hI.size (by omega); omega) (fun e => by injection e with e; omega)).trans (hI.fix k h1 h2)⟩
      have HK8 : Hid (KeptX w.heap.size (fun k => k ≠ w7.heap.size ∧ k ≠ w.heap.size + 1 ∧ k ≠ w.heap.size + 1 + 1) Wx w8) := Lib.hid (KeptX.grown hg8 fun k e hk => by injection e with e; exact absurd e.symm hk.1)
      clear hI hm8 hg8 hle hxi hr hXX
      generalize ahN F pre x.b = an at *
      gi_wp2
      exact ⟨HK8.out, HN8.out⟩
  case done =>
    rintro D xs Wx hD hxs hI hopen
    rw [show xs = tot from hxs] at hI
    have hsz := hI.size (by omega)
    have HSD := Lib.hid hI.said
    have HM := Lib.hid hI.mp
    have HBX := Lib.hid hI.bel
    have HA := Lib.hid ((hI.fix _ (by omega) (by omega)).trans HB1.out)
    have H6 := Lib.hid ((hI.fix _ (by omega) (by omega)).trans HH1.out)
    have H7 := Lib.hid ((hI.fix _ (by omega) (by omega)).trans HH2.out)
    have HLX : Hid (IntsS (fun k => k < W0.heap.size ∧ k ≠ w7.heap.size) Wx sv l) := Lib.hid fun h0 => by
      obtain ⟨g, cs, ty, e, hx, ho, hc⟩ := HIS.out h0
      have hgl := (Array.getElem?_eq_some_iff.1 ho).1
      refine ⟨g, cs, ty, e, ⟨hgl, hx.1.1⟩, (hI.fix g hgl hx.1.1).trans ho, fun i hi => ?_⟩
      have h1 := hc i hi
      unfold World.cell? at h1 ⊢
      rw [hI.fix g hgl hx.1.1]
      exact h1
    have HO := Lib.hid hopen
    have hDl : D < Wx.heap.size := (Array.getElem?_eq_some_iff.1 hopen).1
    have HREP : Hid (∀ (b : Nat) (W : World), W.cell? ⟨b, 0, none⟩ = some (.int .i64 (-1)) → Calls Try.prog 64 #[.slice (some ⟨b, 0, none⟩) 1 1, .int .i64 (l.length : Int)] W (fun e w' => ∃ g, e = .returned (.slice (some ⟨g, 0, none⟩) l.length l.length) ∧ w'.heap[g]? = some (.cells (rowR l.length l.length).toArray 3 (0, 0)) ∧ W.heap.size ≤ g ∧ Below W.heap.size W w')) := Lib.hid fun b W hc => by
      rcases Nat.eq_zero_or_pos l.length with h0 | h0
      · rw [h0]; exact rep0_any b W hc
      · exact rep_any b l.length W h0 (by omega) hc
    clear hI hopen
    gi_wp2_with (first | (refine ⟨trivial, ?_⟩; gi_at_call 64; refine (callsIn_wide.2 (HREP.out _ _ (cells1 (World.alloc_heap_new _ _)))).mono ?_; rintro e w8 ⟨g, rfl, hg8, hgl8, hb8⟩))
    have hal : Below Wx.heap.size Wx (Wx.alloc (.cells #[.int .i64 (-1)] 3)) := (Below.refl _ _).alloc (Nat.le_refl _) _
    have hB8 : Below Wx.heap.size Wx w8 := hal.trans (hb8.mono hal.size)
    have hgx : Wx.heap.size ≤ g := by have := hal.size; omega
    have HF8 : Hid (w8.heap[g]? = some (.cells (((List.replicate l.length (-1)).map (Value.int .i64)).toArray) 3 (0, 0))) := Lib.hid (by rw [hg8]; unfold rowR; simp)
    have HB8 := Lib.hid hB8
    clear hal hb8 hg8 hB8 hgl8
    obtain ⟨ah, eah⟩ : ∃ ah, ah = ahN F tot := ⟨_, rfl⟩
    have HAH := Lib.hid eah
    have HGT : Hid (∀ x, (amF F tot x).getD 0 = (ah x : Int)) := Lib.hid fun x => by rw [eah]; exact amF_get F tot x
    have HLT : Hid (∀ i, i < l.length → ah (l.getD i 0) < l.length) := Lib.hid fun i hi => by
      rw [eah, HTOT.out]
      refine ahN_lt HINC.out ?_
      rw [List.getD_eq_getElem?_getD, List.getElem?_eq_getElem hi]
      exact List.getElem_mem _
    clear eah
    gi_loopw [15, 57] (fun _ x wr => ∃ t : Nat, t ≤ l.length ∧ x = .int .i64 (t : Int) ∧ Hid (∃ C, Fil l ah t C ∧ wr.heap[g]? = some (.cells ((C.map (Value.int .i64)).toArray) 3 (0, 0)) ∧ Below Wx.heap.size Wx wr)) (fun _ x _ => l.length - (intOf x).toNat)
    case atStart => exact ⟨0, Nat.zero_le _, rfl, Lib.hid ⟨_, Fil.start l ah, HF8.out, HB8.out⟩⟩
    case round =>
      obtain ⟨t, ht, rfl, HT⟩ := hrel
      obtain ⟨C, hC⟩ := HT.out
      have HC := Lib.hid hC
      clear hC HT HF8 HB8
      by_cases hlt : t < l.length
      · have hlt' : (t : Int) < (l.length : Int) := by omega
        obtain ⟨gl, cs, ty, rfl, hgx2, hgo, hgc⟩ := HLX.out (by omega)
        have hxl := hgc t hlt
        have hglt : gl < Wx.heap.size := (Array.getElem?_eq_some_iff.1 hgo).1
        have hpl := HLT.out t hlt
        have hxr := HPOS.out (l.getD t 0) (by rw [List.getD_eq_getElem?_getD, List.getElem?_eq_getElem hlt]; exact List.getElem_mem _)
        obtain ⟨xv, ex⟩ : ∃ xv, xv = l.getD t 0 := ⟨_, rfl⟩
        rw [← ex] at hxl hpl hxr
        have y0 := (HC.out.2.2.cell (p := ⟨gl, t, none⟩) hglt).trans hxl
        have y1 := cells1 ((HC.out.2.2.block _ (by omega)).trans HA.out)
        have y2 := (HM.out.kept (HC.out.2.2.block _ HM.out.lt)).get xv (by omega)
        rw [HGT.out] at y2
        obtain ⟨p, ep⟩ : ∃ p, p = ah xv := ⟨_, rfl⟩
        rw [← ep] at y2 hpl
        obtain ⟨cv', ecv⟩ : ∃ cv', cv' = C.getD p 0 := ⟨_, rfl⟩
        have hCl := HC.out.1.len
        have y3 : wr.cell? ⟨g, p, none⟩ = some (.int .i64 cv') := by
          rw [cell_of_row _ _ _ _ _ _ HC.out.2.1, ecv]
          simp [List.getD_eq_getElem?_getD, List.getElem?_eq_getElem (show p < C.length by omega)]
        have y4 := frz HC.out.2.1 p
        have hpl' : (p : Int) < (l.length : Int) := by omega
        have HEX := Lib.hid ex
        have HEP := Lib.hid ep
        have HEC := Lib.hid ecv
        clear ex ep ecv hxl hgc hgo
        by_cases hneg : cv' < 0
        · have hneg' : decide (0 ≤ cv') = false := by simp; omega
          have hneg2 : ¬ (0 ≤ cv') := by omega
          have HN : Hid (Fil l ah (t + 1) (C.set p xv)) := Lib.hid (by rw [HEP.out, HEX.out]; exact HC.out.1.next hlt (fun x hx => (HPOS.out x hx).1) (HLT.out t hlt) (by rw [← HEX.out, ← HEP.out, ← HEC.out]; exact hneg))
          have HW : Hid ((wr.setCell ⟨g, p, none⟩ (.int .i64 xv)).heap[g]? = some (.cells (((C.set p xv).map (Value.int .i64)).toArray) 3 (0, 0)) ∧ Below Wx.heap.size Wx (wr.setCell ⟨g, p, none⟩ (.int .i64 xv))) := Lib.hid ⟨by
            rw [heap_setCell_same wr g p _ 3 _ HC.out.2.1, List.map_set, List.setIfInBounds_toArray], HC.out.2.2.setCell (p := ⟨g, p, none⟩) hgx _⟩
          gi_wp2
          go_roundw
          case rel => exact ⟨t + 1, by omega, by go_num, Lib.hid ⟨_, HN.out, HW.out⟩⟩
          case measure => simp [intOf]; omega
        · have hneg' : decide (0 ≤ cv') = true := by simp; omega
          have hneg2 : 0 ≤ cv' := by omega
          have h6 := (HC.out.2.2.block _ (by omega)).trans H6.out
          have h7 := (HC.out.2.2.block _ (by omega)).trans H7.out
          have r6 := cells1 h6
          have r7 := cells1 h7
          have f6 := frz h6 0
          have f7 := frz h7 0
          have HR6 := Lib.hid h6
          have HR7 := Lib.hid h7
          clear h6 h7
          have hoz := (HC.out.2.2.block D hDl).trans HO.out
          gi_wp2
          obtain ⟨Wz, ez⟩ : ∃ Wz, Wz = ((wr.setCell ⟨w.heap.size + 1, 0, none⟩ (.slice none 0 0)).setCell ⟨w.heap.size + 1 + 1, 0, none⟩ (.bool false)) := ⟨_, rfl⟩
          have oth : Wz.heap[D]? = wr.heap[D]? := by
            rw [ez, heap_setCell_other _ ⟨w.heap.size + 1 + 1, 0, none⟩ D _ (fun e => by dsimp only at e; omega), heap_setCell_other _ ⟨w.heap.size + 1, 0, none⟩ D _ (fun e => by dsimp only at e; omega)]
          have ooz := oth.trans hoz
          have hz1 : Wz.heap[w.heap.size + 1]? = some (.cells #[.slice none 0 0] 41 (0, 0)) := by
            rw [ez, heap_setCell_other _ ⟨w.heap.size + 1 + 1, 0, none⟩ (w.heap.size + 1) _ (fun e => by dsimp only at e; omega)]
            exact setH1 HR6.out
          have hz2 : Wz.heap[w.heap.size + 1 + 1]? = some (.cells #[.bool false] 4 (0, 0)) := by
            rw [ez]
            refine setH1 (x0 := .bool false) ?_
            rw [heap_setCell_other _ ⟨w.heap.size + 1, 0, none⟩ (w.heap.size + 1 + 1) _ (fun e => by dsimp only at e; omega)]
            exact HR7.out
          have hbz : Below w.heap.size w Wz := by
            rw [ez]
            exact ((HBX.out.trans (HC.out.2.2.mono HBX.out.size)).setCell (p := ⟨w.heap.size + 1, 0, none⟩) (by dsimp only; omega) _).setCell (p := ⟨w.heap.size + 1 + 1, 0, none⟩) (by dsimp only; omega) _
          rw [← ez]
          clear ez
          have p0 := cells1 ((World.putObj_heap_other (w := Wz) (r := D) (o := .deferred none) (k := w.heap.size + 1) (by omega)).trans hz1)
          have pb := cells1 ((World.putObj_heap_other (w := Wz) (r := D) (o := .deferred none) (k := w.heap.size + 1 + 1) (by omega)).trans hz2)
          refine ⟨by simp, .inl ⟨_, _, rfl, run_takeDeferred ooz, ?_⟩⟩
          refine ⟨.tuple #[.slice none 0 0, .bool false], by simp [results, Try.results33, go_sem, p0, pb], [], none, 0, false, rfl, fun h => absurd h (Nat.lt_irrefl _), hbz.trans (belowK_b (w := w) (Nat.le_refl _) Wz D _ _ (by omega) ooz rfl rfl), fun h => Bool.noConfusion h, fun _ => ⟨rfl, .inr ?_⟩⟩
          rcases HC.out.1.is p hpl with h | ⟨i, hi, h1, h2⟩
          · rw [← HEC.out] at h
            omega
          · refine ⟨i, t, hi, hlt, ?_⟩
            rw [← HTOT.out, ← HAH.out, h2, HEP.out, HEX.out]
      · obtain rfl : t = l.length := by omega
        have h6 := (HC.out.2.2.block _ (by omega)).trans H6.out
        have h7 := (HC.out.2.2.block _ (by omega)).trans H7.out
        have r6 := cells1 h6
        have r7 := cells1 h7
        have f6 := frz h6 0
        have f7 := frz h7 0
        have HR6 := Lib.hid h6
        have HR7 := Lib.hid h7
        clear h6 h7
        have hoz := (HC.out.2.2.block D hDl).trans HO.out
        gi_wp2
        obtain ⟨Wz, ez⟩ : ∃ Wz, Wz = ((wr.setCell ⟨w.heap.size + 1, 0, none⟩ (.slice (some ⟨g, 0, none⟩) l.length l.length)).setCell ⟨w.heap.size + 1 + 1, 0, none⟩ (.bool true)) := ⟨_, rfl⟩
        have oth : ∀ k, k ≠ w.heap.size + 1 → k ≠ w.heap.size + 1 + 1 → Wz.heap[k]? = wr.heap[k]? := fun k h1 h2 => by
          rw [ez, heap_setCell_other _ ⟨w.heap.size + 1 + 1, 0, none⟩ k _ (fun e => by dsimp only at e; omega), heap_setCell_other _ ⟨w.heap.size + 1, 0, none⟩ k _ (fun e => by dsimp only at e; omega)]
        have ooz := (oth D (by omega) (by omega)).trans hoz
        have hz1 : Wz.heap[w.heap.size + 1]? = some (.cells #[.slice (some ⟨g, 0, none⟩) l.length l.length] 41 (0, 0)) := by
          rw [ez, heap_setCell_other _ ⟨w.heap.size + 1 + 1, 0, none⟩ (w.heap.size + 1) _ (fun e => by dsimp only at e; omega)]
          exact setH1 HR6.out
        have hz2 : Wz.heap[w.heap.size + 1 + 1]? = some (.cells #[.bool true] 4 (0, 0)) := by
          rw [ez]
          refine setH1 (x0 := .bool false) ?_
          rw [heap_setCell_other _ ⟨w.heap.size + 1, 0, none⟩ (w.heap.size + 1 + 1) _ (fun e => by dsimp only at e; omega)]
          exact HR7.out
        have hbz : Below w.heap.size w Wz := by
          rw [ez]
          exact ((HBX.out.trans (HC.out.2.2.mono HBX.out.size)).setCell (p := ⟨w.heap.size + 1, 0, none⟩) (by dsimp only; omega) _).setCell (p := ⟨w.heap.size + 1 + 1, 0, none⟩) (by dsimp only; omega) _
        have hzg : Wz.heap[g]? = some (.cells ((C.map (Value.int .i64)).toArray) 3 (0, 0)) := (oth g (by omega) (by omega)).trans HC.out.2.1
        rw [← ez]
        clear ez oth
        have p0 := cells1 ((World.putObj_heap_other (w := Wz) (r := D) (o := .deferred none) (k := w.heap.size + 1) (by omega)).trans hz1)
        have pb := cells1 ((World.putObj_heap_other (w := Wz) (r := D) (o := .deferred none) (k := w.heap.size + 1 + 1) (by omega)).trans hz2)
        have hgg : (Wz.putObj D (.deferred none)).heap[g]? = some (.cells ((C.map (Value.int .i64)).toArray) 3 (0, 0)) := (World.putObj_heap_other (w := Wz) (r := D) (o := .deferred none) (k := g) (by omega)).trans hzg
        refine ⟨by simp, .inl ⟨_, _, rfl, run_takeDeferred ooz, ?_⟩⟩
        have hCl := HC.out.1.len
        refine ⟨.tuple #[.slice (some ⟨g, 0, none⟩) C.length l.length, .bool true], by simp [results, Try.results33, go_sem, p0, pb, hCl], C, some ⟨g, 0, none⟩, l.length, true, rfl, fun h => ⟨g, 0, rfl, (Array.getElem?_eq_some_iff.1 hgg).1, fun i hi => ?_⟩, hbz.trans (belowK_b (w := w) (Nat.le_refl _) Wz D _ _ (by omega) ooz rfl rfl), fun _ => ⟨?_, ?_⟩, fun h => Bool.noConfusion h⟩
        · rw [Nat.zero_add, cell_of_row _ _ _ _ _ _ hgg]
          simp [List.getD_eq_getElem?_getD, List.getElem?_eq_getElem hi]
        · rw [← HTOT.out]
          exact HSD.out
        · rw [← HTOT.out, ← HAH.out]
          exact HC.out.1
  case stop =>
    rintro D c pre Wx hD hSp ⟨rfl, hX⟩ hopen
    have HX := Lib.hid hX
    have HO := Lib.hid hopen
    have HSP := Lib.hid hSp
    clear hX hopen hSp
    gi_wp2
    have p0 := cells1 ((World.putObj_heap_other (w := Wx) (r := D) (o := .deferred none) (k := w.heap.size + 1) (by omega)).trans HX.out.r6)
    have pb := cells1 ((World.putObj_heap_other (w := Wx) (r := D) (o := .deferred none) (k := w.heap.size + 1 + 1) (by omega)).trans HX.out.r7)
    refine ⟨by simp, .inl ⟨_, _, rfl, run_takeDeferred HO.out, ?_⟩⟩
    refine ⟨.tuple #[.slice none 0 0, .bool false], by simp [results, Try.results33, go_sem, p0, pb], [], none, 0, false, rfl, fun h => absurd h (Nat.lt_irrefl _), HX.out.bel.trans (belowK_b (w := w) (Nat.le_refl _) Wx D _ _ (by omega) HO.out rfl rfl), fun h => Bool.noConfusion h, fun _ => ⟨rfl, .inl ?_⟩⟩
    obtain ⟨x, hx, hn⟩ := HX.out.hit
    exact ⟨x, by rw [← HTOT.out]; exact HSP.out.subset hx, hn⟩
end Go.Proofs.Yteobndfkkpfnlaa

