/-
  Contracts of the methods of package bits' Reader that ask, and that stop it.
-/
import Derived.Test.YtaddmegghikhpaaBA
import Derived.Laws.BitsAllLaws
namespace Go.Proofs.Ytaddmegghikhpaa
open Go.ChangeShapes Go.WideShapes Go.ChangeAt Go.RowKit

theorem RD.drewN {w : World} {g rb n : Nat} {f : Nat → Nat} {a : Nat} (h : RD w g rb n f a) (q : Nat) : RD (w.drewN q) g rb n f a :=
  ⟨h.c0, h.c1, h.c2, h.c3, h.fz, h.cb, h.hf, h.hat, h.hn, h.lt, h.glt, h.ne⟩
theorem RS.drewN {w : World} {rb : Nat} {e : Int} (h : RS w rb e) (q : Nat) : RS (w.drewN q) rb e := ⟨h.c0, h.c1, h.c2, h.c3, h.fz, h.lt⟩

theorem grown_cell {w w' : World} {rb : Nat} (h : w.grownBy w' (some rb)) {a : Addr} (ha : a.block < w.heap.size) (hne : a.block ≠ rb) : w'.cell? a = w.cell? a :=
  World.cell?_of_block (h.block a.block ha (fun e => hne (Option.some.inj e)))
theorem grown_frozen {w w' : World} {rb : Nat} (h : w.grownBy w' (some rb)) {a : Addr} (ha : a.block < w.heap.size) (hne : a.block ≠ rb) : w'.frozen? a = w.frozen? a :=
  World.frozen?_of_block (h.block a.block ha (fun e => hne (Option.some.inj e)))
theorem grown_trans {w w1 w2 : World} {r : Option Nat} (h : w.grownBy w1 r) (k : w1.grownBy w2 r) : w.grownBy w2 r :=
  ⟨k.os.trans h.os, k.tape.trans h.tape, k.output.trans h.output, Nat.le_trans h.size k.size, fun q hq hne => (k.block q (Nat.lt_of_lt_of_le hq h.size) hne).trans (h.block q hq hne)⟩
theorem grown_refl (w : World) (r : Option Nat) : w.grownBy w r := ⟨rfl, rfl, rfl, Nat.le_refl _, fun _ _ _ => rfl⟩
theorem grown_drewN {w w1 : World} {r : Option Nat} (h : w.grownBy w1 r) (q : Nat) : w.grownBy (w1.drewN q) r := ⟨h.os, h.tape, h.output, h.size, h.block⟩
theorem grown_setCell {w w1 : World} {rb : Nat} (h : w.grownBy w1 (some rb)) (j : Nat) (v : Value) : w.grownBy (w1.setCell ⟨rb, j, none⟩ v) (some rb) :=
  ⟨h.os, h.tape, h.output, by have := h.size; simpa using this, fun q hq hne => (Below.heap_setCell w1 _ v q (fun e => hne (by rw [e]))).trans (h.block q hq hne)⟩
theorem bel_grown {W w w' : World} {rb : Nat} (h : Below W.heap.size W w) (k : w.grownBy w' (some rb)) (hrb : W.heap.size ≤ rb) : Below W.heap.size W w' :=
  h.grown k h.size (fun q hq => by injection hq with hq; omega)
theorem bel_drewN {B : Nat} {w w' : World} (h : Below B w w') (n : Nat) : Below B w (w'.drewN n) := ⟨h.os, h.tape, h.output, h.size, h.block⟩

theorem RD.kept {w w' : World} {g rb n a q : Nat} {f : Nat → Nat} (h : RD w g rb n f a) (k : w.grownBy w' (some q)) (h1 : rb ≠ q) (h2 : g ≠ q) : RD w' g rb n f a where
  c0 := (grown_cell k h.lt h1).trans h.c0
  c1 := (grown_cell k h.lt h1).trans h.c1
  c2 := (grown_cell k h.lt h1).trans h.c2
  c3 := (grown_cell k h.lt h1).trans h.c3
  fz := fun j => (grown_frozen k (a := ⟨rb, j, none⟩) h.lt h1).trans (h.fz j)
  cb := fun j hj => (grown_cell k (a := ⟨g, j, none⟩) h.glt h2).trans (h.cb j hj)
  hf := h.hf
  hat := h.hat
  hn := h.hn
  lt := Nat.lt_of_lt_of_le h.lt k.size
  glt := Nat.lt_of_lt_of_le h.glt k.size
  ne := h.ne

theorem RD.below {w w' : World} {g rb n a : Nat} {f : Nat → Nat} (h : RD w g rb n f a) (k : Below w.heap.size w w') : RD w' g rb n f a where
  c0 := (k.cell h.lt).trans h.c0
  c1 := (k.cell h.lt).trans h.c1
  c2 := (k.cell h.lt).trans h.c2
  c3 := (k.cell h.lt).trans h.c3
  fz := fun j => (k.frozen (p := ⟨rb, j, none⟩) h.lt).trans (h.fz j)
  cb := fun j hj => (k.cell (p := ⟨g, j, none⟩) h.glt).trans (h.cb j hj)
  hf := h.hf
  hat := h.hat
  hn := h.hn
  lt := Nat.lt_of_lt_of_le h.lt k.size
  glt := Nat.lt_of_lt_of_le h.glt k.size
  ne := h.ne

/-- Left: how many bits are left -/
theorem left_any (w : World) (g rb n a : Nat) (f : Nat → Nat) (h : RD w g rb n f a) :
    Calls Try.prog 39 #[.pointer (some ⟨rb, 0, none⟩)] w fun e w' => e = .returned (.int .i64 ((8 * n - a : Nat) : Int)) ∧ ∃ q, w.drewN q = w' := by
  have c0 := h.c0
  have c1 := h.c1
  have h1 := h.hat
  have h2 := h.hn
  clear h
  go_enter Try.func39, Try.ntmps39
  go_wp2
  go_quiet (fail)
  go_wp2
  go_ret
  exact ⟨ret_int (by omega), _, rfl⟩

theorem left_stop (w : World) (rb : Nat) (e : Int) (h : RS w rb e) :
    Calls Try.prog 39 #[.pointer (some ⟨rb, 0, none⟩)] w fun e w' => e = .returned (.int .i64 0) ∧ ∃ q, w.drewN q = w' := by
  have c0 := h.c0
  have c1 := h.c1
  clear h
  go_enter Try.func39, Try.ntmps39
  go_wp2
  go_quiet (fail)
  go_wp2
  go_ret
  exact ⟨rfl, _, rfl⟩

theorem err_any (w : World) (rb : Nat) (e : Int) (h : w.cell? ⟨rb, 2, none⟩ = some (.int .i64 e)) :
    Calls Try.prog 27 #[.pointer (some ⟨rb, 0, none⟩)] w fun r w' => r = .returned (.int .i64 e) ∧ w = w' := by
  go_enter Try.func27, Try.ntmps27
  go_wp2
  go_ret
  exact ⟨rfl, rfl⟩

/-- Fail stops a reader that goes on -/
theorem fail_any (w : World) (g rb n a : Nat) (f : Nat → Nat) (x : Int) (h : RD w g rb n f a) :
    Calls Try.prog 26 #[.pointer (some ⟨rb, 0, none⟩), .int .i64 x] w fun e w' => e = .returned (.tuple #[]) ∧ RS w' rb x ∧ w.grownBy w' (some rb) := by
  have c0 := h.c0
  have c1 := h.c1
  have c2 := h.c2
  have c3 := h.c3
  have f0 := h.fz 0
  have f1 := h.fz 1
  have f2 := h.fz 2
  have f3 := h.fz 3
  have HD := Lib.hid h
  clear h
  go_enter Try.func26, Try.ntmps26
  go_wp2
  go_end0
  refine ⟨rfl, ?_, grown_setCell (grown_setCell (grown_setCell (grown_setCell (grown_refl _ _) _ _) _ _) _ _) _ _⟩
  exact { c0 := by go_simp, c1 := by go_simp, c2 := by go_simp, c3 := by go_simp, fz := fun j => by have := HD.out.fz j; go_simp, lt := by have := HD.out.lt; simpa using this }

theorem fail_stop (w : World) (rb : Nat) (e x : Int) (h : RS w rb e) :
    Calls Try.prog 26 #[.pointer (some ⟨rb, 0, none⟩), .int .i64 x] w fun r w' => r = .returned (.tuple #[]) ∧ w = w' := by
  have c3 := h.c3
  clear h
  go_enter Try.func26, Try.ntmps26
  go_wp2
  exact bodyPost_ret (results_none rfl _ _ _) rfl ⟨rfl, rfl⟩

/-- where a bit stands in its byte -/
theorem place_any (a : Nat) (w : World) (ha : a ≤ 1000000) :
    Calls Try.prog 49 #[.int .i64 (a : Int)] w fun e w' => e = .returned (.int .u64 ((7 - a % 8 : Nat) : Int)) ∧ w' = w := by
  go_enter Try.func49, Try.ntmps49
  go_wp2
  go_ret
  exact ⟨ret_int (by omega), rfl⟩

theorem low_bit (y k : Nat) (hy : y < 256) : bits .and .u8 ((y : Int) / 2 ^ k) 1 = ((y / 2 ^ k % 2 : Nat) : Int) := by
  have e : ((y : Int) / 2 ^ k) = ((y / 2 ^ k : Nat) : Int) := by rw [Int.natCast_ediv, Int.natCast_pow]; rfl
  rw [e]
  have h := u8_and_nat (y / 2 ^ k) 1 (Nat.lt_of_le_of_lt (Nat.div_le_self _ _) hy) (by decide)
  rw [nat_mask1] at h
  exact h

/-- the i-th bit of bytes -/
def bitAt (f : Nat → Nat) (i : Nat) : Nat := f (i / 8) / 2 ^ (7 - i % 8) % 2

theorem RD.step {w : World} {g rb n a : Nat} {f : Nat → Nat} (h : RD w g rb n f a) (ha : a < 8 * n) : RD (w.setCell ⟨rb, 1, none⟩ (.int .i64 ((a + 1 : Nat) : Int))) g rb n f (a + 1) where
  c0 := by have := h.c0; go_simp
  c1 := by have := h.c1; go_simp
  c2 := by have := h.c2; go_simp
  c3 := by have := h.c3; go_simp
  fz := fun j => by have := h.fz j; go_simp
  cb := fun j hj => by rw [World.cell?_setCell_other _ _ _ _ (by intro e; injection e with e; exact h.ne e.symm)]; exact h.cb j hj
  hf := h.hf
  hat := by omega
  hn := h.hn
  lt := by have := h.lt; simpa using this
  glt := by have := h.glt; simpa using this
  ne := h.ne

set_option maxHeartbeats 1000000 in
theorem bit_any (w : World) (g rb n a : Nat) (f : Nat → Nat) (h : RD w g rb n f a) (ha : a < 8 * n) :
    Calls Try.prog 40 #[.pointer (some ⟨rb, 0, none⟩)] w fun e w' => e = .returned (.int .u8 ((bitAt f a : Nat) : Int)) ∧ RD w' g rb n f (a + 1) ∧ w.grownBy w' (some rb) := by
  have HD := Lib.hid h
  have c0 := h.c0
  have c1 := h.c1
  have f1 := h.fz 1
  have h2 := h.hn
  have cb := h.cb (a / 8) (by omega)
  have hb := h.hf (a / 8)
  have hi : a / 8 < n := by omega
  clear h
  obtain ⟨y, ey⟩ : ∃ y, y = f (a / 8) := ⟨_, rfl⟩
  rw [← ey] at cb hb
  have HY := Lib.hid ey
  clear ey
  go_enter Try.func40, Try.ntmps40
  go_wp2
  go_quiet ((go_at_call 49; exact Calls.quiet_of_same (place_any _ _ (by omega))))
  go_wp2
  go_ret
  refine ⟨ret_int ?_, (HD.out.drewN _).step ha, grown_setCell (grown_drewN (grown_refl _ _) _) _ _⟩
  rw [low_bit y (7 - a % 8) hb, HY.out]; rfl

end Go.Proofs.Ytaddmegghikhpaa
