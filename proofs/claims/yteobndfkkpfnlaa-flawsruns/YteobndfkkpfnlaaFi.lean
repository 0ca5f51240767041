/-
  The laws' head: the document's example.
-/
import Derived.Test.YteobndfkkpfnlaaFh
import Derived.Test.YteobndfkkpfnlaaHXb
import Derived.Test.YteobndfkkpfnlaaHQ
namespace Go.Proofs.Yteobndfkkpfnlaa
open Go.ChangeShapes Go.WideShapes Go.ChangeAt Go.RowKit Go.Maps
set_option linter.unusedVariables false

/-- one that writes, one that reads it -/
def Tp (st : Int) (i : Nat) : Tx := if i = 0 then ⟨1, st, 1, fun _ => ⟨2, 0, 5⟩⟩ else ⟨2, 1, 1, fun _ => ⟨1, 0, 5⟩⟩
theorem tp_ok (st : Int) : TOk 2 (Tp st) := by
  refine ⟨by omega, fun j hj => ?_, fun j hj x hx => ?_, fun j hj x hx => ?_⟩
  · unfold Tp; split <;> simp
  · unfold Tp; split <;> simp
  · unfold Tp In64; split <;> simp
theorem fl_tp : flL (Tp 2) 2 = [⟨1, 0, 2⟩] := by rfl
theorem su_tp0 : suL (Tp 0) 2 0 = true := by rfl
theorem su_tp1 : suL (Tp 0) 2 1 = true := by rfl
def PairP (st : Int) (w : World) (e : Ending) (w' : World) : Prop :=
  ∃ a cp, e = .returned (.slice a 2 cp) ∧ TxS w' a 2 (Tp st) ∧ Below w.heap.size w w'

theorem tp_mem (st : Int) (w : World) : PairP st w (.returned (.slice (some ⟨w.heap.size + 1 + 1, 0, none⟩) 2 2)) (((w.alloc (.cells #[.int .i64 2, .int .i64 0, .int .i64 5] 44)).alloc (.cells #[.int .i64 1, .int .i64 0, .int .i64 5] 44)).alloc (.cells #[.int .i64 1, .int .i64 st, .slice (some ⟨w.heap.size, 0, none⟩) 1 1, .int .i64 2, .int .i64 1, .slice (some ⟨w.heap.size + 1, 0, none⟩) 1 1] 47)) := by
  obtain ⟨w1, e1⟩ : ∃ w1, w1 = w.alloc (.cells #[.int .i64 2, .int .i64 0, .int .i64 5] 44) := ⟨_, rfl⟩
  obtain ⟨w2, e2⟩ : ∃ w2, w2 = w1.alloc (.cells #[.int .i64 1, .int .i64 0, .int .i64 5] 44) := ⟨_, rfl⟩
  obtain ⟨w3, e3⟩ : ∃ w3, w3 = w2.alloc (.cells #[.int .i64 1, .int .i64 st, .slice (some ⟨w.heap.size, 0, none⟩) 1 1, .int .i64 2, .int .i64 1, .slice (some ⟨w.heap.size + 1, 0, none⟩) 1 1] 47) := ⟨_, rfl⟩
  rw [← e1, ← e2, ← e3]
  have s1 : w1.heap.size = w.heap.size + 1 := by rw [e1]; simp
  have s2 : w2.heap.size = w.heap.size + 1 + 1 := by rw [e2]; simp [s1]
  have s3 : w3.heap.size = w.heap.size + 1 + 1 + 1 := by rw [e3]; simp [s2]
  have h1 : w1.heap[w.heap.size]? = some (.cells #[.int .i64 2, .int .i64 0, .int .i64 5] 44 (0, 0)) := by rw [e1]; exact heap_alloc_new w _
  have h2 : w2.heap[w.heap.size + 1]? = some (.cells #[.int .i64 1, .int .i64 0, .int .i64 5] 44 (0, 0)) := by rw [e2, ← s1]; exact heap_alloc_new w1 _
  have h3 : w3.heap[w.heap.size + 1 + 1]? = some (.cells #[.int .i64 1, .int .i64 st, .slice (some ⟨w.heap.size, 0, none⟩) 1 1, .int .i64 2, .int .i64 1, .slice (some ⟨w.heap.size + 1, 0, none⟩) 1 1] 47 (0, 0)) := by rw [e3, ← s2]; exact heap_alloc_new w2 _
  have b1 : Below w1.heap.size w1 w2 := by rw [e2]; exact (Below.refl _ _).alloc (Nat.le_refl _) _
  have b2 : Below w2.heap.size w2 w3 := by rw [e3]; exact (Below.refl _ _).alloc (Nat.le_refl _) _
  have b0 : Below w.heap.size w w1 := by rw [e1]; exact (Below.refl _ _).alloc (Nat.le_refl _) _
  have k1 := (b2.block _ (by omega : w.heap.size < w2.heap.size)).trans ((b1.block _ (by omega)).trans h1)
  have k2 := (b2.block _ (by omega : w.heap.size + 1 < w2.heap.size)).trans h2
  refine ⟨_, _, rfl, fun _ => ⟨_, 0, rfl, by omega, fun j hj => ?_⟩, (b0.trans (b1.mono (by omega))).trans (b2.mono (by omega))⟩
  have c3 : ∀ i, w3.cell? ⟨w.heap.size + 1 + 1, i, none⟩ = #[Value.int .i64 1, .int .i64 st, .slice (some ⟨w.heap.size, 0, none⟩) 1 1, .int .i64 2, .int .i64 1, .slice (some ⟨w.heap.size + 1, 0, none⟩) 1 1][i]? := fun i => cell_of_row _ _ _ _ _ _ h3
  rcases (show j = 0 ∨ j = 1 by omega) with rfl | rfl
  · refine ⟨some ⟨w.heap.size, 0, none⟩, 1, by rw [c3]; rfl, by rw [c3]; rfl, by rw [c3]; rfl, fun _ => ⟨_, 0, rfl, by omega, fun i hi => ?_⟩⟩
    obtain rfl : i = 0 := by have : i < 1 := hi; omega
    exact (cells3 k1).1
  · refine ⟨some ⟨w.heap.size + 1, 0, none⟩, 1, by rw [c3]; rfl, by rw [c3]; rfl, by rw [c3]; rfl, fun _ => ⟨_, 0, rfl, by omega, fun i hi => ?_⟩⟩
    obtain rfl : i = 0 := by have : i < 1 := hi; omega
    exact (cells3 k2).1

set_option maxRecDepth 100000 in
set_option maxHeartbeats 4000000 in
theorem pair_any (st : Int) (w : World) : Calls Try.prog 39 #[.int .i64 st] w (PairP st w) := by
  have HP := Lib.hid (tp_mem st w)
  go_enter Try.func39, Try.ntmps39
  go_wp2
  go_ret
  exact HP.out
set_option maxRecDepth 100000 in
theorem str33 : Try.prog.underlying 33 = some (.struct (Try.prog.fieldsOf 33)) := by kernel_rfl
set_option maxRecDepth 100000 in
theorem held33 : Try.prog.stoodInHeld 33 = false := by kernel_rfl
set_option maxRecDepth 100000 in
theorem eqF (k key v k' key' v' : Int) (w : World) : (Op.equalIn 10000 33 (.agg #[.int .i64 k, .int .i64 key, .int .i64 v]) (.agg #[.int .i64 k', .int .i64 key', .int .i64 v'])).run Try.prog w = .ok (k == k' && (key == key' && v == v')) w := by
  refine (run_equalIn_struct (P := Try.prog) w 9999 33 _ _ str33 held33).trans ?_
  have hfs := TypeDesc.struct.inj (Option.some.inj (str33.symm.trans Try.underlying33))
  rw [hfs]
  have e : ∀ (a b : Int) (w : World), (Op.equalIn 9999 3 (.int .i64 a) (.int .i64 b)).run Try.prog w = .ok (a == b) w := fun a b w => run_equalIn_int w 9998 3 .i64 .i64 _ _ Try.underlying3
  have q0 : ∀ (a b c : Int) (w : World), (part 3 #[.int .i64 a, .int .i64 b, .int .i64 c] 0).run Try.prog w = .ok (.int .i64 a) w := fun a b c w => by simp [part, go_sem]
  have q1 : ∀ (a b c : Int) (w : World), (part 3 #[.int .i64 a, .int .i64 b, .int .i64 c] 1).run Try.prog w = .ok (.int .i64 b) w := fun a b c w => by simp [part, go_sem]
  have q2 : ∀ (a b c : Int) (w : World), (part 3 #[.int .i64 a, .int .i64 b, .int .i64 c] 2).run Try.prog w = .ok (.int .i64 c) w := fun a b c w => by simp [part, go_sem]
  by_cases h0 : k = k' <;> by_cases h1 : key = key' <;> by_cases h2 : v = v' <;> simp [Op.eqFields, q0, q1, q2, e, h0, h1, h2]
set_option maxRecDepth 100000 in
theorem eqlF (k key v k' key' v' : Int) (u : World) : (binOp .eql 33 (.agg #[.int .i64 k, .int .i64 key, .int .i64 v]) (.agg #[.int .i64 k', .int .i64 key', .int .i64 v'])).run Try.prog u = .ok (.bool (k == k' && (key == key' && v == v'))) u := by
  rw [run_eql_struct, eqF]; rfl
set_option maxRecDepth 100000 in
theorem guardF (u : World) (x y : Operand) (xs ys : Array Value) : (eqGuard .eql 33 x y (.agg xs) (.agg ys)).run Try.prog u = .ok () u := run_eqGuard_agg u .eql 33 x y xs ys (by kernel_rfl)
theorem own33_ops {w : World} {base n cap : Nat} {sp : Option Addr} {o : Nat → O3} (h : w.ownsRow base 33 3 (.slice sp n cap) n (rowO o n)) : OpS w sp n o := by
  intro hn
  obtain ⟨g, cap', e, _, hl⟩ := h.form hn
  injection e with e1 e2 e3
  subst e1
  refine ⟨g, 0, rfl, hl, fun i hi => ?_⟩
  obtain ⟨g0, g1, g2⟩ := rowO_get o n i hi
  have h0 := (h.cellAt (i * 3) (by omega)).trans g0
  have h1 := (h.cellAt (i * 3 + 1) (by omega)).trans g1
  have h2 := (h.cellAt (i * 3 + 2) (by omega)).trans g2
  simp only [Nat.zero_add]
  exact ⟨h0, h1, h2⟩

set_option maxRecDepth 100000 in
set_option maxHeartbeats 4000000 in
theorem head_any (w : World) : Calls Try.prog 13 #[] w (fun e w' => e = .returned (.bool true) ∧ Below w.heap.size w w') := by
  have HP := Lib.hid (pair_any 2 w)
  have hgu := @guardF
  have heq := @eqlF
  go_enter Try.func13, Try.ntmps13
  go_wp2_with fail
  refine HP.out.mono ?_
  rintro e w1 ⟨a, cp, rfl, ht, hb⟩
  have HB := Lib.hid hb
  have HA := Lib.hid (all_any a 2 cp (Tp 2) w1 ht (tp_ok 2))
  clear ht hb HP
  go_wp2_with fail
  refine HA.out.mono ?_
  rintro e w2 ⟨sp, cpf, rfl, ho, hb⟩
  rw [fl_tp] at ho ⊢
  have HB2 := Lib.hid (HB.out.trans (hb.mono HB.out.size))
  obtain ⟨bf, off, rfl, hbf, hcf⟩ := (own33_ops ho) (by decide)
  obtain ⟨c0, c1, c2⟩ := hcf 0 (by decide)
  have C0 := Lib.hid c0
  have C1 := Lib.hid c1
  have C2 := Lib.hid c2
  have HP2 := Lib.hid (pair_any 0 w2)
  clear ho hb HA HB c0 c1 c2 hcf
  go_wp2_with fail
  refine HP2.out.mono ?_
  rintro e w3 ⟨a3, cp3, rfl, ht, hb⟩
  have HB3 := Lib.hid (HB2.out.trans (hb.mono HB2.out.size))
  have HX3 := Lib.hid hb
  have HA2 := Lib.hid (sure_any a3 2 cp3 (Tp 0) w3 ht (tp_ok 0))
  clear ht hb HP2
  go_wp2_with fail
  refine HA2.out.mono ?_
  rintro e w4 ⟨g, rfl, hm, hb⟩
  have HB4 := Lib.hid (HB3.out.trans (hb.mono HB3.out.size))
  have hx := HX3.out.trans (hb.mono HX3.out.size)
  have m0 := hm.cell (i := 0) (by omega)
  have m1 := hm.cell (i := 1) (by omega)
  rw [su_tp0] at m0
  rw [su_tp1] at m1
  have d0 := (hx.cell (p := ⟨bf, off + 0 * 3, none⟩) hbf).trans C0.out
  have d1 := (hx.cell (p := ⟨bf, off + 0 * 3 + 1, none⟩) hbf).trans C1.out
  have d2 := (hx.cell (p := ⟨bf, off + 0 * 3 + 2, none⟩) hbf).trans C2.out
  simp only [Nat.zero_mul, Nat.add_zero] at d0 d1 d2
  clear hx hm hb HA2
  go_wp2
  go_ret
  exact ⟨rfl, HB4.out⟩
end Go.Proofs.Yteobndfkkpfnlaa
