/-
  Contracts of package bits' functions copied and Read; what memory holds of a reader, going and stopped.
  Contracts of the methods of package bits' Reader that ask, and that stop it.
  Contracts of package bits' function within and of the Reader's method Get.
  Contracts of the Reader's methods Num, Int and End where it has stopped, and of the laws' head took.
  Contracts of the Reader's methods behind and Num: a number, or why there is none.
  Contract of the Reader's methods Num and Int: every way in which a number is there or isn't.
  Plain facts on bytes that are filled from the highest bit down, and what memory holds of a writer.
  Contract of the Writer's method bit: one bit more.
  Contract of the Writer's method Put: the lowest bits of a number, the highest of them first.
  Contracts of the Writer's methods Len and Bytes, of the reference's Same, and of the laws' head wrote.
  Two writers side by side; bytes that hold the same bits are the same.
  Contract of math/bits.Len64: how many bits a number has.
  Contracts of package bits' function noughts and of the Writer's method Num.
  Contract of the Writer's method Num: as many noughts as the number has bits less one, then its bits.
  What was written is read as it was: contracts of Num and Int, of a writer and of a reader that meets its bits; and of End at the end.
-/
import Derived.Test.YtccpfoimedjdgaaRows
import Derived.WalkKit
import Derived.ProofKit
import Derived.OpenShut
import Derived.Laws.Bits64
import Derived.Laws.Bits64b
import Derived.Laws.CopyOwn
import Derived.Laws.OwnMore
import Derived.Deep.OwnRows
import Derived.Deep.AppendLies
import Derived.Deep.QuietTactic
import Derived.BigQuiet
import Derived.OwnWalk
import Derived.Lib.Hide
import Derived.LoopTactic
import Derived.Handy
import Derived.Laws.BitsAllLaws
import Derived.Deep.RegionWith
import Derived.StillTailTactics
import Derived.Laws.BytesArg
import Derived.Lib.BitFns
import Derived.WalkLawsBesides
import Derived.Laws.DeepNot64

namespace Go.Proofs.Ytccpfoimedjdgaa
open Go.ChangeShapes Go.WideShapes Go.ChangeAt Go.RowKit

set_option maxRecDepth 100000 in
theorem ret_int {k : IntKind} {a b : Int} (h : a = b) : Ending.returned (.int k a) = .returned (.int k b) := by rw [h]

set_option maxRecDepth 100000 in
theorem val_int {k : IntKind} {a b : Int} (h : a = b) : Value.int k a = .int k b := by rw [h]

set_option maxRecDepth 100000 in
theorem ret_bool {b : Bool} (h : b = true) : Ending.returned (.bool b) = .returned (.bool true) := by rw [h]

set_option maxRecDepth 100000 in
theorem info5 : (Try.prog.info? 5).map (fun i => (i.zero, i.size, i.bytes)) = some (some (.int .u8 0), 1, 1) := by kernel_rfl

set_option maxRecDepth 100000 in
theorem size5 : (Try.prog.info? 5).map (·.size) = some 1 := by kernel_rfl

/-- bytes, as cells -/
def rowB (f : Nat → Nat) (n : Nat) : List Value := (List.range n).map fun j => .int .u8 ((f j : Nat) : Int)

set_option maxRecDepth 100000 in
theorem rowB_length (f : Nat → Nat) (n : Nat) : (rowB f n).length = n := by simp [rowB]

set_option maxRecDepth 100000 in
theorem rowB_get (f : Nat → Nat) (n j : Nat) (h : j < n) : (rowB f n)[j]? = some (.int .u8 ((f j : Nat) : Int)) := by simp [rowB, h]

set_option maxRecDepth 100000 in
theorem rowB_one (f : Nat → Nat) (n : Nat) : ∀ u ∈ rowB f n, u.oneCell' = true := by
  intro u hu; simp [rowB] at hu; obtain ⟨j, _, rfl⟩ := hu; rfl

set_option maxRecDepth 100000 in
theorem makeB (n : Nat) (cur : List Value) (hcur : cur = List.replicate n (.int .u8 0)) (hn : n ≤ 1000000) (w : World) :
    (Instr.makeSlice 23 (.int .i64 (n : Int)) (.int .i64 (n : Int))).run Try.prog w = .ok (.slice (some ⟨w.heap.size, 0, none⟩) n n) (w.alloc (.cells cur.toArray 5)) := by
  have h := run_make_row' (P := Try.prog) 23 5 (.int .u8 0) 1 Try.underlying23 info5 rfl .i64 .i64 n (by omega) (by omega) w
  have e : madeCells #[Value.int .u8 0] n = cur.toArray := by
    rw [hcur, ← toList_madeCells_one]
  rw [e] at h; exact h

set_option maxRecDepth 100000 in
theorem splice_all {α : Type} (L cs : List α) (h : cs.length = L.length) : splice L 0 cs = cs := by
  simp [splice, h]

/-- where a slice of bytes lies: nothing is said of an empty one -/
def Src (w : World) (sp : Option Addr) (n : Nat) (f : Nat → Nat) : Prop :=
  0 < n → ∃ ad, sp = some ad ∧ ad.block < w.heap.size ∧ ∀ j, j < n → w.cell? (ad.add j) = some (.int .u8 ((f j : Nat) : Int))

set_option maxRecDepth 100000 in
theorem block_add (a : Addr) (n : Nat) : (a.add n).block = a.block := by unfold Addr.add; split <;> rfl

set_option maxRecDepth 100000 in
theorem Src.below {w w' : World} {sp : Option Addr} {n : Nat} {f : Nat → Nat} (h : Src w sp n f) (hb : Below w.heap.size w w') : Src w' sp n f := by
  intro hn
  obtain ⟨ad, e, hlt, hc⟩ := h hn
  exact ⟨ad, e, Nat.lt_of_lt_of_le hlt hb.size, fun j hj => (hb.cell (by rw [block_add]; exact hlt)).trans (hc j hj)⟩

/-- what copied answers: a new row of the same bytes -/
def CopyPost (w : World) (n : Nat) (f : Nat → Nat) (e : Ending) (w' : World) : Prop :=
  e = .returned (.slice (some ⟨w.heap.size, 0, none⟩) n n) ∧ w'.heap[w.heap.size]? = some (.cells (rowB f n).toArray 5 (0, 0)) ∧ w.heap.size < w'.heap.size ∧ Below w.heap.size w w'

set_option maxRecDepth 100000 in
set_option maxHeartbeats 1000000 in
theorem copied_any (sp : Option Addr) (n cap : Nat) (f : Nat → Nat) (w : World) (hn : n ≤ 1000000) (hs : Src w sp n f) :
    Calls Try.prog 43 #[.slice sp n cap] w (CopyPost w n f) := by
  obtain ⟨cur, hcur⟩ : ∃ cur, cur = List.replicate n (Value.int .u8 0) := ⟨_, rfl⟩
  have hmk := makeB n cur hcur hn
  have HCL : Hid (cur.length = n) := Lib.hid (by rw [hcur]; simp)
  have HS := Lib.hid hs
  clear hcur hs
  obtain ⟨cs, hcs⟩ : ∃ cs, cs = rowB f n := ⟨_, rfl⟩
  have HCS := Lib.hid hcs
  have HL : Hid (cs.length = n) := Lib.hid (by rw [hcs, rowB_length])
  clear hcs
  go_enter Try.func43, Try.ntmps43
  go_wp2_with (with_reducible refine wpList_copy_splice rfl (.tmp 7) (.tmp 8) 23 23 rfl 5 Try.underlying23 size5 _ _ _ _ _ _ rfl rfl w.heap.size 0 cur 5 ?c1 cs ?c2 ?c3 ?c4 ?c5 w.heap.size w ?c6 ?c7 ?_)
  case c1 => exact heap_alloc_new w _
  case c2 => rw [HL.out]; exact (Nat.min_self n).symm
  case c3 =>
    intro hpos
    rw [HL.out] at hpos
    obtain ⟨ad, e, hlt, hc⟩ := HS.out hpos
    refine ⟨ad, e, fun j v hj => ?_⟩
    have hjn : j < n := by
      rcases Nat.lt_or_ge j n with h' | h'
      · exact h'
      · rw [List.getElem?_eq_none (by rw [HL.out]; exact h')] at hj; cases hj
    rw [HCS.out, rowB_get f n j hjn] at hj
    injection hj with hj
    rw [World.cell?_alloc_lt _ _ _ (by rw [block_add]; exact hlt), ← hj]
    exact hc j hjn
  case c4 => rw [HL.out, HCL.out]; omega
  case c5 => rw [HCS.out]; exact rowB_one f n
  case c6 => exact (Below.refl _ _).alloc (Nat.le_refl _) _
  case c7 => exact Nat.le_refl _
  intro w' HG hB
  have HB := Lib.hid hB
  clear hB
  have HG2 : Hid (w'.heap[w.heap.size]? = some (.cells (rowB f n).toArray 5 (0, 0))) := by
    have := HG.out
    rw [splice_all cur cs (by rw [HL.out, HCL.out]), HCS.out] at this
    exact Lib.hid this
  go_wp2
  go_ret
  refine ⟨rfl, HG2.out, ?_, HB.out⟩
  rcases Nat.lt_or_ge w.heap.size w'.heap.size with h' | h'
  · exact h'
  · have := HG2.out; rw [Array.getElem?_eq_none h'] at this; cases this

/-- a reader that goes on: its bytes f, n of them, and how many bits were taken -/
structure RD (w : World) (g rb n : Nat) (f : Nat → Nat) (at_ : Nat) : Prop where
  c0 : w.cell? ⟨rb, 0, none⟩ = some (.slice (some ⟨g, 0, none⟩) n n)
  c1 : w.cell? ⟨rb, 1, none⟩ = some (.int .i64 (at_ : Int))
  c2 : w.cell? ⟨rb, 2, none⟩ = some (.int .i64 0)
  c3 : w.cell? ⟨rb, 3, none⟩ = some (.bool false)
  fz : ∀ j, w.frozen? ⟨rb, j, none⟩ = false
  cb : ∀ j, j < n → w.cell? ⟨g, j, none⟩ = some (.int .u8 ((f j : Nat) : Int))
  hf : ∀ j, f j < 256
  hat : at_ ≤ 8 * n
  hn : n ≤ 1000000
  lt : rb < w.heap.size
  glt : g < w.heap.size
  ne : g ≠ rb

/-- a reader that has stopped -/
structure RS (w : World) (rb : Nat) (e : Int) : Prop where
  c0 : w.cell? ⟨rb, 0, none⟩ = some (.slice none 0 0)
  c1 : w.cell? ⟨rb, 1, none⟩ = some (.int .i64 0)
  c2 : w.cell? ⟨rb, 2, none⟩ = some (.int .i64 e)
  c3 : w.cell? ⟨rb, 3, none⟩ = some (.bool true)
  fz : ∀ j, w.frozen? ⟨rb, j, none⟩ = false
  lt : rb < w.heap.size

/-- what Read answers: a reader in new memory -/
def ReadPost (w : World) (n : Nat) (f : Nat → Nat) (e : Ending) (w' : World) : Prop :=
  ∃ g rb, e = .returned (.pointer (some ⟨rb, 0, none⟩)) ∧ RD w' g rb n f 0 ∧ w.heap.size ≤ g ∧ w.heap.size ≤ rb ∧ Below w.heap.size w w'

set_option maxRecDepth 100000 in
theorem read_any (sp : Option Addr) (n cap : Nat) (f : Nat → Nat) (w : World) (hn : n ≤ 1000000) (hf : ∀ j, f j < 256) (hs : Src w sp n f) :
    Calls Try.prog 27 #[.slice sp n cap] w (ReadPost w n f) := by
  have HS := Lib.hid hs
  have HF := Lib.hid hf
  clear hs hf
  go_enter Try.func27, Try.ntmps27
  go_wp2_with fail
  refine (copied_any sp n cap f w hn HS.out).mono ?_
  rintro e w1 ⟨rfl, hrow, hlt, hb⟩
  have HR := Lib.hid hrow
  have HB := Lib.hid hb
  clear hrow hb
  go_wp2
  go_ret
  refine ⟨w.heap.size, w1.heap.size, rfl, ?_, Nat.le_refl _, HB.out.size, HB.out.alloc HB.out.size _⟩
  exact { c0 := by go_simp, c1 := by go_simp, c2 := by go_simp, c3 := by go_simp, fz := fun j => by go_simp,
          cb := fun j hj => by rw [World.cell?_alloc_lt _ _ _ (by exact hlt), cell_of_row w1 w.heap.size j _ 5 (0, 0) HR.out]; simpa using rowB_get f n j hj
          hf := HF.out, hat := Nat.zero_le _, hn := hn, lt := by simp, glt := by simp; omega, ne := by omega }

end Go.Proofs.Ytccpfoimedjdgaa

namespace Go.Proofs.Ytccpfoimedjdgaa
open Go.ChangeShapes Go.WideShapes Go.ChangeAt Go.RowKit

set_option maxRecDepth 100000 in
theorem RD.drewN {w : World} {g rb n : Nat} {f : Nat → Nat} {a : Nat} (h : RD w g rb n f a) (q : Nat) : RD (w.drewN q) g rb n f a :=
  ⟨h.c0, h.c1, h.c2, h.c3, h.fz, h.cb, h.hf, h.hat, h.hn, h.lt, h.glt, h.ne⟩

set_option maxRecDepth 100000 in
theorem RS.drewN {w : World} {rb : Nat} {e : Int} (h : RS w rb e) (q : Nat) : RS (w.drewN q) rb e := ⟨h.c0, h.c1, h.c2, h.c3, h.fz, h.lt⟩

set_option maxRecDepth 100000 in
theorem grown_cell {w w' : World} {rb : Nat} (h : w.grownBy w' (some rb)) {a : Addr} (ha : a.block < w.heap.size) (hne : a.block ≠ rb) : w'.cell? a = w.cell? a :=
  World.cell?_of_block (h.block a.block ha (fun e => hne (Option.some.inj e)))

set_option maxRecDepth 100000 in
theorem grown_frozen {w w' : World} {rb : Nat} (h : w.grownBy w' (some rb)) {a : Addr} (ha : a.block < w.heap.size) (hne : a.block ≠ rb) : w'.frozen? a = w.frozen? a :=
  World.frozen?_of_block (h.block a.block ha (fun e => hne (Option.some.inj e)))

set_option maxRecDepth 100000 in
theorem grown_trans {w w1 w2 : World} {r : Option Nat} (h : w.grownBy w1 r) (k : w1.grownBy w2 r) : w.grownBy w2 r :=
  ⟨k.os.trans h.os, k.tape.trans h.tape, k.output.trans h.output, Nat.le_trans h.size k.size, fun q hq hne => (k.block q (Nat.lt_of_lt_of_le hq h.size) hne).trans (h.block q hq hne)⟩

set_option maxRecDepth 100000 in
theorem grown_refl (w : World) (r : Option Nat) : w.grownBy w r := ⟨rfl, rfl, rfl, Nat.le_refl _, fun _ _ _ => rfl⟩

set_option maxRecDepth 100000 in
theorem grown_drewN {w w1 : World} {r : Option Nat} (h : w.grownBy w1 r) (q : Nat) : w.grownBy (w1.drewN q) r := ⟨h.os, h.tape, h.output, h.size, h.block⟩

set_option maxRecDepth 100000 in
theorem grown_setCell {w w1 : World} {rb : Nat} (h : w.grownBy w1 (some rb)) (j : Nat) (v : Value) : w.grownBy (w1.setCell ⟨rb, j, none⟩ v) (some rb) :=
  ⟨h.os, h.tape, h.output, by have := h.size; simpa using this, fun q hq hne => (Below.heap_setCell w1 _ v q (fun e => hne (by rw [e]))).trans (h.block q hq hne)⟩

set_option maxRecDepth 100000 in
theorem RD.kept {w w' : World} {g rb n a q : Nat} {f : Nat → Nat} (h : RD w g rb n f a) (k : w.grownBy w' (some q)) (h1 : rb ≠ q) (h2 : g ≠ q) : RD w' g rb n f a where
  c0 := (grown_cell k h.lt h1).trans h.c0
  c1 := (grown_cell k h.lt h1).trans h.c1
  c2 := (grown_cell k h.lt h1).trans h.c2
  c3 := (grown_cell k h.lt h1).trans h.c3
  fz := fun j => (grown_frozen k (a := ⟨rb, j, none⟩) h.lt h1).trans (h.fz j)
  cb := fun j hj => (grown_cell k (a := ⟨g, j, none⟩) h.glt h2).trans (h.cb j hj)
  hf := h.hf
  hat := h.hat
  hn := h.hn
  lt := Nat.lt_of_lt_of_le h.lt k.size
  glt := Nat.lt_of_lt_of_le h.glt k.size
  ne := h.ne

set_option maxRecDepth 100000 in
theorem RD.below {w w' : World} {g rb n a : Nat} {f : Nat → Nat} (h : RD w g rb n f a) (k : Below w.heap.size w w') : RD w' g rb n f a where
  c0 := (k.cell h.lt).trans h.c0
  c1 := (k.cell h.lt).trans h.c1
  c2 := (k.cell h.lt).trans h.c2
  c3 := (k.cell h.lt).trans h.c3
  fz := fun j => (k.frozen (p := ⟨rb, j, none⟩) h.lt).trans (h.fz j)
  cb := fun j hj => (k.cell (p := ⟨g, j, none⟩) h.glt).trans (h.cb j hj)
  hf := h.hf
  hat := h.hat
  hn := h.hn
  lt := Nat.lt_of_lt_of_le h.lt k.size
  glt := Nat.lt_of_lt_of_le h.glt k.size
  ne := h.ne

set_option maxRecDepth 100000 in
/-- Left: how many bits are left -/
theorem left_any (w : World) (g rb n a : Nat) (f : Nat → Nat) (h : RD w g rb n f a) :
    Calls Try.prog 47 #[.pointer (some ⟨rb, 0, none⟩)] w fun e w' => e = .returned (.int .i64 ((8 * n - a : Nat) : Int)) ∧ ∃ q, w.drewN q = w' := by
  have c0 := h.c0
  have c1 := h.c1
  have h1 := h.hat
  have h2 := h.hn
  clear h
  go_enter Try.func47, Try.ntmps47
  go_wp2
  go_quiet (fail)
  go_wp2
  go_ret
  exact ⟨ret_int (by omega), _, rfl⟩

set_option maxRecDepth 100000 in
theorem left_stop (w : World) (rb : Nat) (e : Int) (h : RS w rb e) :
    Calls Try.prog 47 #[.pointer (some ⟨rb, 0, none⟩)] w fun e w' => e = .returned (.int .i64 0) ∧ ∃ q, w.drewN q = w' := by
  have c0 := h.c0
  have c1 := h.c1
  clear h
  go_enter Try.func47, Try.ntmps47
  go_wp2
  go_quiet (fail)
  go_wp2
  go_ret
  exact ⟨rfl, _, rfl⟩

set_option maxRecDepth 100000 in
theorem err_any (w : World) (rb : Nat) (e : Int) (h : w.cell? ⟨rb, 2, none⟩ = some (.int .i64 e)) :
    Calls Try.prog 46 #[.pointer (some ⟨rb, 0, none⟩)] w fun r w' => r = .returned (.int .i64 e) ∧ w = w' := by
  go_enter Try.func46, Try.ntmps46
  go_wp2
  go_ret
  exact ⟨rfl, rfl⟩

set_option maxRecDepth 100000 in
/-- Fail stops a reader that goes on -/
theorem fail_any (w : World) (g rb n a : Nat) (f : Nat → Nat) (x : Int) (h : RD w g rb n f a) :
    Calls Try.prog 54 #[.pointer (some ⟨rb, 0, none⟩), .int .i64 x] w fun e w' => e = .returned (.tuple #[]) ∧ RS w' rb x ∧ w.grownBy w' (some rb) := by
  have c0 := h.c0
  have c1 := h.c1
  have c2 := h.c2
  have c3 := h.c3
  have f0 := h.fz 0
  have f1 := h.fz 1
  have f2 := h.fz 2
  have f3 := h.fz 3
  have HD := Lib.hid h
  clear h
  go_enter Try.func54, Try.ntmps54
  go_wp2
  go_end0
  refine ⟨rfl, ?_, grown_setCell (grown_setCell (grown_setCell (grown_setCell (grown_refl _ _) _ _) _ _) _ _) _ _⟩
  exact { c0 := by go_simp, c1 := by go_simp, c2 := by go_simp, c3 := by go_simp, fz := fun j => by have := HD.out.fz j; go_simp, lt := by have := HD.out.lt; simpa using this }

set_option maxRecDepth 100000 in
theorem fail_stop (w : World) (rb : Nat) (e x : Int) (h : RS w rb e) :
    Calls Try.prog 54 #[.pointer (some ⟨rb, 0, none⟩), .int .i64 x] w fun r w' => r = .returned (.tuple #[]) ∧ w = w' := by
  have c3 := h.c3
  clear h
  go_enter Try.func54, Try.ntmps54
  go_wp2
  exact bodyPost_ret (results_none rfl _ _ _) rfl ⟨rfl, rfl⟩

set_option maxRecDepth 100000 in
/-- where a bit stands in its byte -/
theorem place_any (a : Nat) (w : World) (ha : a ≤ 10000000) :
    Calls Try.prog 62 #[.int .i64 (a : Int)] w fun e w' => e = .returned (.int .u64 ((7 - a % 8 : Nat) : Int)) ∧ w' = w := by
  go_enter Try.func62, Try.ntmps62
  go_wp2
  go_ret
  exact ⟨ret_int (by omega), rfl⟩

set_option maxRecDepth 100000 in
theorem low_bit (y k : Nat) (hy : y < 256) : bits .and .u8 ((y : Int) / 2 ^ k) 1 = ((y / 2 ^ k % 2 : Nat) : Int) := by
  have e : ((y : Int) / 2 ^ k) = ((y / 2 ^ k : Nat) : Int) := by rw [Int.natCast_ediv, Int.natCast_pow]; rfl
  rw [e]
  have h := u8_and_nat (y / 2 ^ k) 1 (Nat.lt_of_le_of_lt (Nat.div_le_self _ _) hy) (by decide)
  rw [nat_mask1] at h
  exact h

/-- the i-th bit of bytes -/
def bitAt (f : Nat → Nat) (i : Nat) : Nat := f (i / 8) / 2 ^ (7 - i % 8) % 2

set_option maxRecDepth 100000 in
theorem RD.step {w : World} {g rb n a : Nat} {f : Nat → Nat} (h : RD w g rb n f a) (ha : a < 8 * n) : RD (w.setCell ⟨rb, 1, none⟩ (.int .i64 ((a + 1 : Nat) : Int))) g rb n f (a + 1) where
  c0 := by have := h.c0; go_simp
  c1 := by have := h.c1; go_simp
  c2 := by have := h.c2; go_simp
  c3 := by have := h.c3; go_simp
  fz := fun j => by have := h.fz j; go_simp
  cb := fun j hj => by rw [World.cell?_setCell_other _ _ _ _ (by intro e; injection e with e; exact h.ne e.symm)]; exact h.cb j hj
  hf := h.hf
  hat := by omega
  hn := h.hn
  lt := by have := h.lt; simpa using this
  glt := by have := h.glt; simpa using this
  ne := h.ne

set_option maxRecDepth 100000 in
set_option maxHeartbeats 1000000 in
theorem bit_any (w : World) (g rb n a : Nat) (f : Nat → Nat) (h : RD w g rb n f a) (ha : a < 8 * n) :
    Calls Try.prog 60 #[.pointer (some ⟨rb, 0, none⟩)] w fun e w' => e = .returned (.int .u8 ((bitAt f a : Nat) : Int)) ∧ RD w' g rb n f (a + 1) ∧ w.grownBy w' (some rb) := by
  have HD := Lib.hid h
  have c0 := h.c0
  have c1 := h.c1
  have f1 := h.fz 1
  have h2 := h.hn
  have cb := h.cb (a / 8) (by omega)
  have hb := h.hf (a / 8)
  have hi : a / 8 < n := by omega
  clear h
  obtain ⟨y, ey⟩ : ∃ y, y = f (a / 8) := ⟨_, rfl⟩
  rw [← ey] at cb hb
  have HY := Lib.hid ey
  clear ey
  go_enter Try.func60, Try.ntmps60
  go_wp2
  go_quiet ((go_at_call 62; exact Calls.quiet_of_same (place_any _ _ (by omega))))
  go_wp2
  go_ret
  refine ⟨ret_int ?_, (HD.out.drewN _).step ha, grown_setCell (grown_drewN (grown_refl _ _) _) _ _⟩
  rw [low_bit y (7 - a % 8) hb, HY.out]; rfl

end Go.Proofs.Ytccpfoimedjdgaa

namespace Go.Proofs.Ytccpfoimedjdgaa
open Go.ChangeShapes Go.WideShapes Go.ChangeAt Go.RowKit

/-- how many bits at once -/
def wn (z : Int) : Nat := if z < 0 then 0 else if 64 < z then 64 else z.toNat

set_option maxRecDepth 100000 in
theorem wn_le (z : Int) : wn z ≤ 64 := by unfold wn; split <;> (try split) <;> omega

set_option maxRecDepth 100000 in
theorem wn_neg (z : Int) (h : z < 0) : wn z = 0 := by unfold wn; rw [if_pos h]

set_option maxRecDepth 100000 in
theorem wn_mid (z : Int) (h : 0 ≤ z) (h' : z ≤ 64) : ((wn z : Nat) : Int) = z := by unfold wn; rw [if_neg (by omega), if_neg (by omega)]; omega

set_option maxRecDepth 100000 in
theorem wn_top (z : Int) (h : 64 < z) : wn z = 64 := by unfold wn; rw [if_neg (by omega), if_pos h]

set_option maxRecDepth 100000 in
theorem within_any (z : Int) (w : World) :
    Calls Try.prog 57 #[.int .i64 z] w fun e w' => e = .returned (.int .i64 ((wn z : Nat) : Int)) ∧ w = w' := by
  by_cases h1 : z < 0
  · rw [wn_neg z h1]
    go_enter Try.func57, Try.ntmps57
    go_wp2
    go_ret
    exact ⟨rfl, rfl⟩
  · by_cases h2 : 64 < z
    · rw [wn_top z h2]
      go_enter Try.func57, Try.ntmps57
      go_wp2
      go_ret
      exact ⟨rfl, rfl⟩
    · rw [wn_mid z (by omega) (by omega)]
      go_enter Try.func57, Try.ntmps57
      go_wp2
      go_ret
      exact ⟨rfl, rfl⟩

/-- the number of the k bits from place a on -/
def gv (f : Nat → Nat) (a : Nat) : Nat → Nat
  | 0 => 0
  | k + 1 => 2 * gv f a k + bitAt f (a + k)

set_option maxRecDepth 100000 in
theorem bitAt_lt (f : Nat → Nat) (i : Nat) : bitAt f i < 2 := Nat.mod_lt _ (by decide)

set_option maxRecDepth 100000 in
theorem gv_lt (f : Nat → Nat) (a k : Nat) : gv f a k < 2 ^ k := by
  induction k with
  | zero => exact Nat.zero_lt_one
  | succ k ih => have := bitAt_lt f (a + k); unfold gv; rw [Nat.pow_succ]; omega

set_option maxRecDepth 100000 in
theorem gv_step (f : Nat → Nat) (a k b : Nat) (hk : k < 64) (hb : b = bitAt f (a + k)) :
    bits .or .u64 (IntKind.u64.wrap (((gv f a k : Nat) : Int) * 2)) (b : Int) = ((gv f a (k + 1) : Nat) : Int) := by
  have h1 := gv_lt f a k
  have h2 := bitAt_lt f (a + k)
  have h3 : 2 ^ k ≤ 2 ^ 63 := Nat.pow_le_pow_right (by decide) (by omega)
  have e1 : IntKind.u64.wrap (((gv f a k : Nat) : Int) * 2) = ((2 * gv f a k : Nat) : Int) := by rw [IntKind.wrap_u64]; omega
  rw [e1, u64_or_nat _ _ (by omega) (by omega), nat_join 1 _ _ (by omega) (by omega), hb]; rfl

set_option maxRecDepth 100000 in
set_option maxHeartbeats 1000000 in
theorem get_ok (w : World) (g rb n a : Nat) (f : Nat → Nat) (z : Int) (m : Nat) (hm : wn z = m) (h : RD w g rb n f a) (hz : a + m ≤ 8 * n) :
    Calls Try.prog 55 #[.pointer (some ⟨rb, 0, none⟩), .int .i64 z] w fun e w' => e = .returned (.int .u64 ((gv f a m : Nat) : Int)) ∧ RD w' g rb n f (a + m) ∧ w.grownBy w' (some rb) := by
  have HD := Lib.hid h
  have hat := h.hat
  have hn := h.hn
  have hw := wn_le z
  rw [hm] at hw
  have HM := Lib.hid hm
  clear hm
  clear h
  go_enter Try.func55, Try.ntmps55
  go_wp2_with fail
  refine (within_any z _).mono ?_
  rw [HM.out]
  rintro e w' ⟨rfl, rfl⟩
  go_wp2_with fail
  refine (left_any w g rb n a f HD.out).mono ?_
  rintro e w1 ⟨rfl, q, rfl⟩
  have ht : ¬ 8 * n - a < m := by omega
  have ht' : ¬ ((8 * n - a : Nat) : Int) < (m : Int) := by omega
  go_wp2
  go_loopw [5, 15] (fun x i wr => ∃ k : Nat, k ≤ m ∧ i = .int .i64 (k : Int) ∧ x = .int .u64 ((gv f a k : Nat) : Int) ∧ Hid (RD wr g rb n f (a + k) ∧ w.grownBy wr (some rb))) (fun _ i _ => m - (intOf i).toNat)
  case atStart => exact ⟨0, Nat.zero_le _, rfl, rfl, Lib.hid ⟨HD.out.drewN q, grown_drewN (grown_refl _ _) q⟩⟩
  case round =>
    obtain ⟨k, hk, rfl, rfl, HA⟩ := hrel
    by_cases hlt : k < m
    · go_wp2_with fail
      refine (bit_any wr g rb n (a + k) f HA.out.1 (by omega)).mono ?_
      rintro e w2 ⟨rfl, hrd, hgr⟩
      have HA2 : Hid (RD w2 g rb n f (a + (k + 1)) ∧ w.grownBy w2 (some rb)) := Lib.hid ⟨hrd, grown_trans HA.out.2 hgr⟩
      clear hrd hgr
      obtain ⟨b, hb⟩ : ∃ b, b = bitAt f (a + k) := ⟨_, rfl⟩
      have hb2 : b < 2 := by rw [hb]; exact bitAt_lt _ _
      rw [← hb]
      have HBB := Lib.hid hb
      clear hb
      go_wp2
      go_roundw
      case rel => exact ⟨k + 1, by omega, by go_num, val_int (gv_step f a k b (by omega) HBB.out), HA2⟩
      case measure => simp [intOf]; omega
    · obtain rfl : k = m := by omega
      go_wp2
      go_ret
      exact ⟨rfl, HA.out.1, HA.out.2⟩

set_option maxRecDepth 100000 in
set_option maxHeartbeats 1000000 in
theorem get_short (w : World) (g rb n a : Nat) (f : Nat → Nat) (z : Int) (m : Nat) (hm : wn z = m) (h : RD w g rb n f a) (hz : 8 * n < a + m) :
    Calls Try.prog 55 #[.pointer (some ⟨rb, 0, none⟩), .int .i64 z] w fun e w' => e = .returned (.int .u64 0) ∧ RS w' rb 10 ∧ w.grownBy w' (some rb) := by
  have HD := Lib.hid h
  have hat := h.hat
  have hn := h.hn
  have hw := wn_le z
  rw [hm] at hw
  have HM := Lib.hid hm
  clear hm
  clear h
  go_enter Try.func55, Try.ntmps55
  go_wp2_with fail
  refine (within_any z _).mono ?_
  rw [HM.out]
  rintro e w' ⟨rfl, rfl⟩
  go_wp2_with fail
  refine (left_any w g rb n a f HD.out).mono ?_
  rintro e w1 ⟨rfl, q, rfl⟩
  have ht : 8 * n - a < m := by omega
  have ht' : ((8 * n - a : Nat) : Int) < (m : Int) := by omega
  go_wp2_with fail
  refine (fail_any _ g rb n a f 10 (HD.out.drewN q)).mono ?_
  rintro e w2 ⟨rfl, hrs, hgr⟩
  have HA2 : Hid (RS w2 rb 10 ∧ w.grownBy w2 (some rb)) := Lib.hid ⟨hrs, grown_trans (grown_drewN (grown_refl _ _) q) hgr⟩
  clear hrs hgr
  go_wp2
  go_ret
  exact ⟨rfl, HA2.out.1, HA2.out.2⟩

set_option maxRecDepth 100000 in
set_option maxHeartbeats 1000000 in
theorem get_stop (w : World) (rb : Nat) (e z : Int) (h : RS w rb e) :
    Calls Try.prog 55 #[.pointer (some ⟨rb, 0, none⟩), .int .i64 z] w fun r w' => r = .returned (.int .u64 0) ∧ RS w' rb e ∧ w.grownBy w' (some rb) := by
  have HD := Lib.hid h
  have hw := wn_le z
  clear h
  go_enter Try.func55, Try.ntmps55
  go_wp2_with fail
  refine (within_any z _).mono ?_
  rintro r w' ⟨rfl, rfl⟩
  generalize wn z = m at *
  go_wp2_with fail
  refine (left_stop w rb e HD.out).mono ?_
  rintro r w1 ⟨rfl, q, rfl⟩
  by_cases hm : 0 < m
  · have ht : (0 : Int) < (m : Int) := by omega
    go_wp2_with fail
    refine (fail_stop _ rb e 10 (HD.out.drewN q)).mono ?_
    rintro r w2 ⟨rfl, rfl⟩
    go_wp2
    go_ret
    exact ⟨rfl, HD.out.drewN q, grown_drewN (grown_refl _ _) q⟩
  · obtain rfl : m = 0 := by omega
    go_wp2
    refine wp_loop_rounds 1 ?_
    rw [rounds_succ]
    go_wp2
    go_ret
    exact ⟨rfl, HD.out.drewN q, grown_drewN (grown_refl _ _) q⟩

end Go.Proofs.Ytccpfoimedjdgaa

namespace Go.Proofs.Ytccpfoimedjdgaa
open Go.ChangeShapes Go.WideShapes Go.ChangeAt Go.RowKit

set_option maxRecDepth 100000 in
theorem num_stop (w : World) (rb : Nat) (e : Int) (h : RS w rb e) :
    Calls Try.prog 53 #[.pointer (some ⟨rb, 0, none⟩)] w fun r w' => r = .returned (.int .u64 0) ∧ RS w' rb e ∧ w.grownBy w' (some rb) := by
  have HD := Lib.hid h
  clear h
  go_enter Try.func53, Try.ntmps53
  go_wp2
  refine wp_loop_rounds 1 ?_
  rw [rounds_succ]
  go_wp2_with fail
  refine (left_stop w rb e HD.out).mono ?_
  rintro r w1 ⟨rfl, q, rfl⟩
  go_wp2_with fail
  refine (fail_stop _ rb e 10 (HD.out.drewN q)).mono ?_
  rintro r w2 ⟨rfl, rfl⟩
  go_wp2
  go_ret
  exact ⟨rfl, HD.out.drewN q, grown_drewN (grown_refl _ _) q⟩

set_option maxRecDepth 100000 in
theorem end_stop (w : World) (rb : Nat) (e : Int) (h : RS w rb e) :
    Calls Try.prog 29 #[.pointer (some ⟨rb, 0, none⟩)] w fun r w' => r = .returned (.int .i64 e) ∧ w = w' := by
  have HD := Lib.hid h
  have c3 := h.c3
  clear h
  go_enter Try.func29, Try.ntmps29
  go_wp2_with fail
  refine (err_any w rb e HD.out.c2).mono ?_
  rintro r w1 ⟨rfl, rfl⟩
  go_wp2
  go_ret
  exact ⟨rfl, rfl⟩

end Go.Proofs.Ytccpfoimedjdgaa

namespace Go.Proofs.Ytccpfoimedjdgaa

open Go.ChangeShapes Go.WideShapes Go.ChangeAt Go.RowKit

set_option maxRecDepth 100000 in
theorem cell_lt {w : World} {a : Addr} {v : Value} (h : w.cell? a = some v) : a.block < w.heap.size := by
  rcases Nat.lt_or_ge a.block w.heap.size with h' | h'
  · exact h'
  · simp [World.cell?, Array.getElem?_eq_none h'] at h

set_option maxRecDepth 100000 in
theorem u8_bounds {z : Int} (h : (Lit.int .u8 z).wf = true) : 0 ≤ z ∧ z ≤ 255 := by
  simpa [Lit.wf, IntKind.min, IntKind.max, IntKind.signed, IntKind.bits] using h

set_option maxRecDepth 100000 in
theorem i64_bounds {z : Int} (h : (Lit.int .i64 z).wf = true) : -9223372036854775808 ≤ z ∧ z ≤ 9223372036854775807 := by
  simpa [Lit.wf, IntKind.min, IntKind.max, IntKind.signed, IntKind.bits] using h

set_option maxRecDepth 100000 in
theorem u64_nat {a0 : Int} (w0 : (Lit.int .u64 a0).wf = true) : ∃ x : Nat, a0 = (x : Int) ∧ x < 18446744073709551616 := by
  have hx : 0 ≤ a0 ∧ a0 ≤ 18446744073709551615 := by simpa [Lit.wf, IntKind.min, IntKind.max, IntKind.signed, IntKind.bits] using w0
  exact ⟨a0.toNat, by omega, by omega⟩

set_option maxRecDepth 100000 in
/-- bytes that came in, as a function of their places -/
theorem src_of {w : World} {a : Option Addr} {len cap : Nat} {zs : List Int}
    (h : (a = none ∧ len = 0 ∧ cap = 0 ∧ zs = []) ∨ ∃ x, a = some x ∧ len ≤ cap ∧ cap ≤ maxLen ∧ zs.length = cap ∧ (∀ i, i < zs.length → w.cell? (x.add i) = some (.int .u8 (zs.getD i 0))) ∧ ∀ n ∈ zs, (Lit.int .u8 n).wf = true) :
    len ≤ 9223372036854775807 ∧ ∃ f : Nat → Nat, (∀ j, f j < 256) ∧ Src w a len f := by
  rcases h with ⟨rfl, rfl, rfl, rfl⟩ | ⟨x, rfl, hl, hm, hz, hc, hwf⟩
  · exact ⟨by omega, fun _ => 0, fun _ => Nat.zero_lt_succ 255, fun h => by omega⟩
  · refine ⟨by unfold maxLen at hm; omega, fun j => (zs.getD j 0).toNat, fun j => ?_, fun hn => ?_⟩
    · show (zs.getD j 0).toNat < 256
      by_cases hj : j < zs.length
      · have hmem : zs.getD j 0 ∈ zs := by rw [List.getD_eq_getElem?_getD, List.getElem?_eq_getElem hj]; exact List.getElem_mem _
        have := u8_bounds (hwf _ hmem); omega
      · rw [List.getD_eq_getElem?_getD, List.getElem?_eq_none (by omega)]; decide
    · refine ⟨x, rfl, ?_, fun j hj => ?_⟩
      · have := cell_lt (hc 0 (by omega)); rwa [block_add] at this
      · have hmem : zs.getD j 0 ∈ zs := by rw [List.getD_eq_getElem?_getD, List.getElem?_eq_getElem (by omega)]; exact List.getElem_mem _
        have hb := u8_bounds (hwf _ hmem)
        rw [hc j (by omega)]
        show some (Value.int .u8 (zs.getD j 0)) = some (Value.int .u8 (((zs.getD j 0).toNat : Nat) : Int))
        rw [Int.toNat_of_nonneg hb.1]

end Go.Proofs.Ytccpfoimedjdgaa

namespace Go.Proofs.Ytccpfoimedjdgaa
open Go.ChangeShapes Go.WideShapes Go.ChangeAt Go.RowKit

set_option maxRecDepth 100000 in
theorem pow_wrap (z r : Nat) (hz : z ≤ 64) (hr : r < 2 ^ z) (h64 : z = 64 → r = 0) :
    IntKind.u64.wrap (IntKind.u64.wrap (IntKind.u64.wrap (2 ^ z) + (r : Int)) - 1) = ((2 ^ z + r - 1 : Nat) : Int) := by
  have e : ((2 : Int) ^ z) = ((2 ^ z : Nat) : Int) := by rw [Int.natCast_pow]; rfl
  rw [e]
  have hp := Nat.two_pow_pos z
  simp only [IntKind.wrap_u64]
  by_cases h : z = 64
  · have := h64 h; subst this; subst h; decide
  · have : 2 ^ z ≤ 2 ^ 63 := Nat.pow_le_pow_right (by decide) (by omega)
    generalize 2 ^ z = p at *
    omega

set_option maxRecDepth 100000 in
theorem wn_nat' (m : Nat) (h : m ≤ 64) : wn (m : Int) = m := by have := wn_mid (m : Int) (by omega) (by omega); omega

set_option maxRecDepth 100000 in
set_option maxHeartbeats 1000000 in
theorem behind_ok (w : World) (g rb n b z : Nat) (f : Nat → Nat) (h : RD w g rb n f b) (hz : z ≤ 64) (hl : b + z ≤ 8 * n) (h64 : z = 64 → gv f b z = 0) :
    Calls Try.prog 61 #[.pointer (some ⟨rb, 0, none⟩), .int .i64 (z : Int)] w fun e w' => e = .returned (.int .u64 ((2 ^ z + gv f b z - 1 : Nat) : Int)) ∧ RD w' g rb n f (b + z) ∧ w.grownBy w' (some rb) := by
  have HD := Lib.hid h
  have H64 := Lib.hid h64
  have HW := Lib.hid (pow_wrap z (gv f b z) hz (gv_lt f b z) h64)
  clear h h64
  go_enter Try.func61, Try.ntmps61
  go_wp2_with fail
  refine (get_ok w g rb n b f _ z (wn_nat' z hz) HD.out hl).mono ?_
  rintro e w1 ⟨rfl, hrd, hgr⟩
  have H1 := Lib.hid (⟨hrd, hgr⟩ : _ ∧ _)
  have c3 := hrd.c3
  clear hrd hgr
  by_cases hz64 : z = 64
  · have e0 := H64.out hz64
    have b1 : ((z : Int) == 64) = true := by rw [hz64]; rfl
    have b2 : (((gv f b z : Nat) : Int) != 0) = false := by rw [e0]; rfl
    have HZ := Lib.hid hz64
    clear hz64 e0
    go_wp2
    go_ret
    exact ⟨ret_int HW.out, H1.out.1, H1.out.2⟩
  · have b1 : ((z : Int) == 64) = false := by rw [beq_eq_false_iff_ne]; omega
    go_wp2
    go_ret
    exact ⟨ret_int HW.out, H1.out.1, H1.out.2⟩

set_option maxRecDepth 100000 in
set_option maxHeartbeats 1000000 in
theorem behind_short (w : World) (g rb n b z : Nat) (f : Nat → Nat) (h : RD w g rb n f b) (hz : z ≤ 64) (hl : 8 * n < b + z) :
    Calls Try.prog 61 #[.pointer (some ⟨rb, 0, none⟩), .int .i64 (z : Int)] w fun e w' => e = .returned (.int .u64 0) ∧ RS w' rb 10 ∧ w.grownBy w' (some rb) := by
  have HD := Lib.hid h
  clear h
  go_enter Try.func61, Try.ntmps61
  go_wp2_with fail
  refine (get_short w g rb n b f _ z (wn_nat' z hz) HD.out hl).mono ?_
  rintro e w1 ⟨rfl, hrs, hgr⟩
  have H1 := Lib.hid (⟨hrs, hgr⟩ : _ ∧ _)
  have c3 := hrs.c3
  clear hrs hgr
  go_wp2
  go_ret
  exact ⟨rfl, H1.out.1, H1.out.2⟩

set_option maxRecDepth 100000 in
set_option maxHeartbeats 1000000 in
theorem behind_form (w : World) (g rb n b : Nat) (f : Nat → Nat) (h : RD w g rb n f b) (hl : b + 64 ≤ 8 * n) (hr : ¬ gv f b 64 = 0) :
    Calls Try.prog 61 #[.pointer (some ⟨rb, 0, none⟩), .int .i64 64] w fun e w' => e = .returned (.int .u64 0) ∧ RS w' rb 11 ∧ w.grownBy w' (some rb) := by
  have HD := Lib.hid h
  have b2 : (((gv f b 64 : Nat) : Int) != 0) = true := by simp; omega
  clear h
  go_enter Try.func61, Try.ntmps61
  go_wp2_with fail
  refine (get_ok w g rb n b f 64 64 (by decide) HD.out hl).mono ?_
  rintro e w1 ⟨rfl, hrd, hgr⟩
  have H1 := Lib.hid (⟨hrd, hgr⟩ : _ ∧ _)
  have c3 := hrd.c3
  clear hrd hgr
  go_wp2_with fail
  refine (fail_any w1 g rb n (b + 64) f 11 H1.out.1).mono ?_
  rintro e w2 ⟨rfl, hrs, hgr⟩
  have H2 := Lib.hid (⟨hrs, grown_trans H1.out.2 hgr⟩ : _ ∧ _)
  clear hrs hgr
  go_wp2
  go_ret
  exact ⟨rfl, H2.out.1, H2.out.2⟩

end Go.Proofs.Ytccpfoimedjdgaa

namespace Go.Proofs.Ytccpfoimedjdgaa
open Go.ChangeShapes Go.WideShapes Go.ChangeAt Go.RowKit

/-- z noughts and a 1 stand from place a on -/
def Lead (f : Nat → Nat) (n a z : Nat) : Prop := z ≤ 64 ∧ (∀ i, i < z → bitAt f (a + i) = 0) ∧ a + z < 8 * n ∧ bitAt f (a + z) = 1

def IsNum (f : Nat → Nat) (n a z : Nat) : Prop := Lead f n a z ∧ a + (2 * z + 1) ≤ 8 * n ∧ (z = 64 → gv f (a + z + 1) z = 0)

def IsShort (f : Nat → Nat) (n a : Nat) : Prop := (8 * n ≤ a + 64 ∧ ∀ i, a + i < 8 * n → bitAt f (a + i) = 0) ∨ ∃ z, Lead f n a z ∧ 8 * n < a + (2 * z + 1)

def IsForm (f : Nat → Nat) (n a : Nat) : Prop := (a + 65 ≤ 8 * n ∧ ∀ i, i < 65 → bitAt f (a + i) = 0) ∨ (Lead f n a 64 ∧ a + 129 ≤ 8 * n ∧ ¬ gv f (a + 65) 64 = 0)

/-- what a reader's Num answers -/
def NumPost (w : World) (g rb n : Nat) (f : Nat → Nat) (a : Nat) (e : Ending) (w' : World) : Prop :=
  w.grownBy w' (some rb) ∧
  ((∃ z, IsNum f n a z ∧ e = .returned (.int .u64 ((2 ^ z + gv f (a + z + 1) z - 1 : Nat) : Int)) ∧ RD w' g rb n f (a + (2 * z + 1))) ∨
   (IsShort f n a ∧ e = .returned (.int .u64 0) ∧ RS w' rb 10) ∨ (IsForm f n a ∧ e = .returned (.int .u64 0) ∧ RS w' rb 11))

set_option maxRecDepth 100000 in
set_option maxHeartbeats 2000000 in
theorem num_any (w : World) (g rb n a : Nat) (f : Nat → Nat) (h : RD w g rb n f a) :
    Calls Try.prog 53 #[.pointer (some ⟨rb, 0, none⟩)] w (NumPost w g rb n f a) := by
  have HD := Lib.hid h
  have hat := h.hat
  have hn := h.hn
  clear h
  go_enter Try.func53, Try.ntmps53
  go_wp2
  go_loopw [3, 4] (fun _ i wr => ∃ k : Nat, k ≤ 65 ∧ i = .int .i64 (k : Int) ∧ a + k ≤ 8 * n ∧ Hid (RD wr g rb n f (a + k) ∧ w.grownBy wr (some rb) ∧ ∀ i, i < k → bitAt f (a + i) = 0)) (fun _ i _ => 65 - (intOf i).toNat)
  case atStart => exact ⟨0, by omega, rfl, by omega, Lib.hid ⟨HD.out, grown_refl _ _, fun i hi => by omega⟩⟩
  case round =>
    obtain ⟨k, hk, rfl, hak, HA⟩ := hrel
    by_cases hlt : k < 65
    · go_wp2_with fail
      refine (left_any wr g rb n (a + k) f HA.out.1).mono ?_
      rintro e w1 ⟨rfl, q, rfl⟩
      by_cases hend : a + k = 8 * n
      · have b1 : (((8 * n - (a + k) : Nat) : Int) == 0) = true := by rw [beq_iff_eq]; omega
        have HEnd := Lib.hid hend
        clear hend
        go_wp2_with fail
        refine (fail_any _ g rb n (a + k) f 10 (HA.out.1.drewN q)).mono ?_
        rintro e w2 ⟨rfl, hrs, hgr⟩
        have H2 : Hid (NumPost w g rb n f a (.returned (.int .u64 0)) w2) := Lib.hid ⟨grown_trans (grown_drewN HA.out.2.1 q) hgr, .inr (.inl ⟨.inl ⟨by have := HEnd.out; omega, fun i hi => HA.out.2.2 i (by have := HEnd.out; omega)⟩, rfl, hrs⟩)⟩
        clear hrs hgr
        go_wp2
        go_ret
        exact H2.out
      · have b1 : (((8 * n - (a + k) : Nat) : Int) == 0) = false := by rw [beq_eq_false_iff_ne]; omega
        go_wp2_with fail
        refine (bit_any _ g rb n (a + k) f (HA.out.1.drewN q) (by omega)).mono ?_
        rintro e w2 ⟨rfl, hrd, hgr⟩
        have H2 := Lib.hid (⟨hrd, grown_trans (grown_drewN HA.out.2.1 q) hgr⟩ : _ ∧ _)
        clear hrd hgr
        have hb := bitAt_lt f (a + k)
        obtain ⟨b, eb⟩ : ∃ b, b = bitAt f (a + k) := ⟨_, rfl⟩
        rw [← eb] at hb ⊢
        have HE := Lib.hid eb
        clear eb
        by_cases hb1 : b = 1
        · have b2 : ((b : Int) == 1) = true := by rw [hb1]; rfl
          have HL : Hid (k ≤ 64 → Lead f n a k) := Lib.hid (fun hk4 => ⟨hk4, HA.out.2.2, by omega, by rw [← HE.out]; exact hb1⟩)
          clear hb1
          by_cases h1 : a + k + 1 + k ≤ 8 * n
          · by_cases hf : k = 64 ∧ ¬ gv f (a + k + 1) k = 0
            · obtain ⟨rfl, hf⟩ := hf
              have HF := Lib.hid hf
              clear hf
              go_wp2_with fail
              refine (behind_form w2 g rb n (a + 64 + 1) f H2.out.1 (by omega) HF.out).mono ?_
              rintro e w3 ⟨rfl, hrs, hgr⟩
              have H3 : Hid (NumPost w g rb n f a (.returned (.int .u64 0)) w3) := Lib.hid ⟨grown_trans H2.out.2 hgr, .inr (.inr ⟨.inr ⟨HL.out (by omega), by omega, HF.out⟩, rfl, hrs⟩)⟩
              clear hrs hgr
              go_wp2
              go_ret
              exact H3.out
            · have HF : Hid (k = 64 → gv f (a + k + 1) k = 0) := Lib.hid (fun e => Classical.byContradiction fun c => hf ⟨e, c⟩)
              clear hf
              go_wp2_with fail
              refine (behind_ok w2 g rb n (a + k + 1) k f H2.out.1 (by omega) h1 HF.out).mono ?_
              rintro e w3 ⟨rfl, hrd, hgr⟩
              have H3 : Hid (NumPost w g rb n f a (.returned (.int .u64 ((2 ^ k + gv f (a + k + 1) k - 1 : Nat) : Int))) w3) := by
                rw [show a + k + 1 + k = a + (2 * k + 1) from by omega] at hrd
                exact Lib.hid ⟨grown_trans H2.out.2 hgr, .inl ⟨k, ⟨HL.out (by omega), by omega, HF.out⟩, rfl, hrd⟩⟩
              clear hrd hgr
              go_wp2
              go_ret
              exact H3.out
          · go_wp2_with fail
            refine (behind_short w2 g rb n (a + k + 1) k f H2.out.1 (by omega) (by omega)).mono ?_
            rintro e w3 ⟨rfl, hrs, hgr⟩
            have H3 : Hid (NumPost w g rb n f a (.returned (.int .u64 0)) w3) := Lib.hid ⟨grown_trans H2.out.2 hgr, .inr (.inl ⟨.inr ⟨k, HL.out (by omega), by omega⟩, rfl, hrs⟩)⟩
            clear hrs hgr
            go_wp2
            go_ret
            exact H3.out
        · have b2 : ((b : Int) == 1) = false := by rw [beq_eq_false_iff_ne]; omega
          have H3 : Hid (RD w2 g rb n f (a + (k + 1)) ∧ w.grownBy w2 (some rb) ∧ ∀ i, i < k + 1 → bitAt f (a + i) = 0) := Lib.hid ⟨H2.out.1, H2.out.2, fun i hi => by
            by_cases e : i = k
            · subst e; rw [← HE.out]; omega
            · exact HA.out.2.2 i (by omega)⟩
          clear hb1
          go_wp2
          go_roundw
          case rel => exact ⟨k + 1, by omega, by go_num, by omega, H3⟩
          case measure => simp [intOf]; omega
    · obtain rfl : k = 65 := by omega
      go_wp2_with fail
      refine (fail_any _ g rb n (a + 65) f 11 HA.out.1).mono ?_
      rintro e w2 ⟨rfl, hrs, hgr⟩
      have H2 : Hid (NumPost w g rb n f a (.returned (.int .u64 0)) w2) := Lib.hid ⟨grown_trans HA.out.2.1 hgr, .inr (.inr ⟨.inl ⟨by omega, HA.out.2.2⟩, rfl, hrs⟩)⟩
      clear hrs hgr
      go_wp2
      go_ret
      exact H2.out

end Go.Proofs.Ytccpfoimedjdgaa

namespace Go.Proofs.Ytccpfoimedjdgaa
open Go.ChangeShapes Go.WideShapes Go.ChangeAt Go.RowKit

set_option maxRecDepth 100000 in
theorem lt8 (r : Nat) (h : r < 8) : r = 0 ∨ r = 1 ∨ r = 2 ∨ r = 3 ∨ r = 4 ∨ r = 5 ∨ r = 6 ∨ r = 7 := by omega

set_option maxRecDepth 100000 in
/-- a byte with one bit more -/
theorem byte_step (y b r : Nat) (hy : y < 256) (hb : b < 2) (hr : r < 8) (hz : y % 2 ^ (8 - r) = 0) :
    y + b * 2 ^ (7 - r) < 256 ∧ (y + b * 2 ^ (7 - r)) % 2 ^ (7 - r) = 0 ∧ (y + b * 2 ^ (7 - r)) / 2 ^ (7 - r) % 2 = b ∧ b * 2 ^ (7 - r) < 2 ^ (8 - r) ∧ b * 2 ^ (7 - r) < 256 := by
  rcases lt8 r hr with rfl | rfl | rfl | rfl | rfl | rfl | rfl | rfl <;> simp only [Nat.reducePow, Nat.reduceSub] at hz ⊢ <;> refine ⟨?_, ?_, ?_, ?_, ?_⟩ <;> omega

set_option maxRecDepth 100000 in
theorem byte_keeps (y b r j : Nat) (hb : b < 2) (hr : r < 8) (hj : j < r) (hz : y % 2 ^ (8 - r) = 0) :
    (y + b * 2 ^ (7 - r)) / 2 ^ (7 - j) % 2 = y / 2 ^ (7 - j) % 2 := by
  have h1 : 2 ^ (7 - j) = 2 ^ (8 - r) * 2 ^ (r - 1 - j) := by rw [← Nat.pow_add]; congr 1; omega
  have h2 : b * 2 ^ (7 - r) < 2 ^ (8 - r) := by
    rw [show 8 - r = (7 - r) + 1 from by omega, Nat.pow_succ]
    have := Nat.two_pow_pos (7 - r)
    rcases (show b = 0 ∨ b = 1 from by omega) with rfl | rfl <;> omega
  rw [h1, ← Nat.div_div_eq_div_mul, ← Nat.div_div_eq_div_mul]
  congr 2
  obtain ⟨t, ht⟩ := Nat.dvd_of_mod_eq_zero hz
  rw [ht, Nat.mul_add_div (Nat.two_pow_pos _), Nat.mul_div_cancel_left _ (Nat.two_pow_pos _), Nat.div_eq_of_lt h2, Nat.add_zero]

set_option maxRecDepth 100000 in
theorem or_step (y b r : Nat) (hy : y < 256) (hb : b < 2) (hr : r < 8) (hz : y % 2 ^ (8 - r) = 0) :
    bits .or .u8 (y : Int) (IntKind.u8.wrap ((b : Int) * 2 ^ (7 - r))) = ((y + b * 2 ^ (7 - r) : Nat) : Int) := by
  obtain ⟨h1, h2, h3, h4, h5⟩ := byte_step y b r hy hb hr hz
  have e1 : ((b : Int) * 2 ^ (7 - r)) = ((b * 2 ^ (7 - r) : Nat) : Int) := by rw [Int.natCast_mul, Int.natCast_pow]; rfl
  have e2 : IntKind.u8.wrap ((b * 2 ^ (7 - r) : Nat) : Int) = ((b * 2 ^ (7 - r) : Nat) : Int) := by rw [IntKind.wrap_u8']; omega
  rw [e1, e2, u8_or_nat _ _ hy h5, nat_join (8 - r) _ _ hz h4]

def updB (F : Nat → Nat) (i v : Nat) : Nat → Nat := fun j => if j = i then v else F j

set_option maxRecDepth 100000 in
theorem updB_same (F : Nat → Nat) (i v : Nat) : updB F i v i = v := by simp [updB]

set_option maxRecDepth 100000 in
theorem updB_other (F : Nat → Nat) (i v j : Nat) (h : ¬ j = i) : updB F i v j = F j := by unfold updB; rw [if_neg h]

/-- the bytes with one bit more, behind c bits -/
def putB (F : Nat → Nat) (c b : Nat) : Nat → Nat := updB F (c / 8) ((if c % 8 = 0 then 0 else F (c / 8)) + b * 2 ^ (7 - c % 8))

/-- the last byte ends in noughts -/
def Ends (F : Nat → Nat) (c : Nat) : Prop := (∀ j, F j < 256) ∧ (¬ c % 8 = 0 → F (c / 8) % 2 ^ (8 - c % 8) = 0)

set_option maxRecDepth 100000 in
theorem Ends.byte {F : Nat → Nat} {c : Nat} (h : Ends F c) : (if c % 8 = 0 then 0 else F (c / 8)) < 256 ∧ (if c % 8 = 0 then 0 else F (c / 8)) % 2 ^ (8 - c % 8) = 0 := by
  by_cases e : c % 8 = 0
  · rw [if_pos e]; exact ⟨by omega, Nat.zero_mod _⟩
  · rw [if_neg e]; exact ⟨h.1 _, h.2 e⟩

set_option maxRecDepth 100000 in
theorem putB_spec (F : Nat → Nat) (c b : Nat) (h : Ends F c) (hb : b < 2) :
    Ends (putB F c b) (c + 1) ∧ (∀ i, i < c → bitAt (putB F c b) i = bitAt F i) ∧ bitAt (putB F c b) c = b := by
  obtain ⟨y1, y2⟩ := h.byte
  obtain ⟨h1, h2, h3, _, _⟩ := byte_step _ b (c % 8) y1 hb (Nat.mod_lt _ (by decide)) y2
  refine ⟨⟨fun j => ?_, fun e => ?_⟩, fun i hi => ?_, ?_⟩
  · unfold putB updB
    by_cases e : j = c / 8
    · rw [if_pos e]; exact h1
    · rw [if_neg e]; exact h.1 j
  · have e1 : (c + 1) / 8 = c / 8 := by omega
    have e2 : (c + 1) % 8 = c % 8 + 1 := by omega
    rw [e1, e2]
    unfold putB
    rw [updB_same, show 8 - (c % 8 + 1) = 7 - c % 8 from by omega]
    exact h2
  · unfold bitAt putB
    by_cases e : i / 8 = c / 8
    · rw [e, updB_same]
      have e0 : ¬ c % 8 = 0 := by omega
      rw [if_neg e0] at y2 ⊢
      exact byte_keeps _ b (c % 8) (i % 8) hb (Nat.mod_lt _ (by decide)) (by omega) y2
    · rw [updB_other _ _ _ _ e]
  · unfold bitAt putB
    rw [updB_same]; exact h3

/-- a writer: the slice of its bytes, the bytes, and how many bits were written -/
structure WR (w : World) (base wb : Nat) (v : Value) (F : Nat → Nat) (c : Nat) : Prop where
  c0 : w.cell? ⟨wb, 0, none⟩ = some v
  c1 : w.cell? ⟨wb, 1, none⟩ = some (.int .i64 (c : Int))
  fz : ∀ j, w.frozen? ⟨wb, j, none⟩ = false
  own : w.ownsRow base 5 1 v ((c + 7) / 8) (rowB F ((c + 7) / 8))
  ends : Ends F c
  lt : wb < w.heap.size
  ne : v.ownBlock ≠ some wb
  hb : base ≤ w.heap.size

/-- what an operation on a writer leaves alone: all but its own cell and its row -/
structure WStep (wb : Nat) (w : World) (o : Option Nat) (w' : World) (o' : Option Nat) : Prop where
  os : w'.os = w.os
  tape : w'.tape = w.tape
  output : w'.output = w.output
  size : w.heap.size ≤ w'.heap.size
  block : ∀ k, k < w.heap.size → k ≠ wb → some k ≠ o → w'.heap[k]? = w.heap[k]?
  row : o' = o ∨ ∃ g, o' = some g ∧ w.heap.size ≤ g

set_option maxRecDepth 100000 in
theorem WStep.refl (wb : Nat) (w : World) (o : Option Nat) : WStep wb w o w o := ⟨rfl, rfl, rfl, Nat.le_refl _, fun _ _ _ _ => rfl, .inl rfl⟩

set_option maxRecDepth 100000 in
theorem WStep.trans {wb : Nat} {w w1 w2 : World} {o o1 o2 : Option Nat} (h : WStep wb w o w1 o1) (k : WStep wb w1 o1 w2 o2) : WStep wb w o w2 o2 where
  os := k.os.trans h.os
  tape := k.tape.trans h.tape
  output := k.output.trans h.output
  size := Nat.le_trans h.size k.size
  block := fun q hq h1 h2 => by
    refine (k.block q (Nat.lt_of_lt_of_le hq h.size) h1 ?_).trans (h.block q hq h1 h2)
    rcases h.row with e | ⟨g, e, hg⟩
    · rw [e]; exact h2
    · rw [e]; intro e'; injection e' with e'; omega
  row := by
    rcases k.row with e | ⟨g, e, hg⟩
    · rw [e]; exact h.row
    · exact .inr ⟨g, e, Nat.le_trans h.size hg⟩

set_option maxRecDepth 100000 in
theorem rowB_set (F : Nat → Nat) (M i v : Nat) : (rowB F M).set i (.int .u8 ((v : Nat) : Int)) = rowB (updB F i v) M := by
  apply List.ext_getElem?
  intro j
  by_cases hj : j < M
  · rw [rowB_get _ _ _ hj]
    by_cases e : j = i
    · subst e; rw [List.getElem?_set_self (by rw [rowB_length]; exact hj), updB_same]
    · rw [List.getElem?_set_ne (fun h => e h.symm), rowB_get _ _ _ hj, updB_other _ _ _ _ e]
  · rw [List.getElem?_eq_none (by simp [rowB_length]; omega), List.getElem?_eq_none (by rw [rowB_length]; omega)]

set_option maxRecDepth 100000 in
theorem updB_updB (F : Nat → Nat) (i u v : Nat) : updB (updB F i u) i v = updB F i v := by
  funext j; unfold updB; split <;> rfl

/-- the byte that a bit goes into -/
def lastB (F : Nat → Nat) (c : Nat) : Nat := if c % 8 = 0 then 0 else F (c / 8)

set_option maxRecDepth 100000 in
/-- behind the bit's store and the count's -/
theorem WR.fin {w : World} {base wb g M cap c b : Nat} {F : Nat → Nat} (hM : M = c / 8 + 1) (own : w.ownsRow base 5 1 (.slice (some ⟨g, 0, none⟩) M cap) M (rowB (updB F (c / 8) (lastB F c)) M))
    (c0 : w.cell? ⟨wb, 0, none⟩ = some (.slice (some ⟨g, 0, none⟩) M cap)) (c1 : w.cell? ⟨wb, 1, none⟩ = some (.int .i64 (c : Int))) (fz : ∀ j, w.frozen? ⟨wb, j, none⟩ = false)
    (ends : Ends F c) (lt : wb < w.heap.size) (ne : g ≠ wb) (hb : base ≤ w.heap.size) (hb2 : b < 2) :
    WR (((w.setCell ⟨g, c / 8, none⟩ (.int .u8 ((lastB F c + b * 2 ^ (7 - c % 8) : Nat) : Int))).setCell ⟨wb, 1, none⟩ (.int .i64 ((c : Int) + 1))).drew) base wb (.slice (some ⟨g, 0, none⟩) M cap) (putB F c b) (c + 1) where
  c0 := by
    show ((w.setCell _ _).setCell _ _).cell? _ = _
    rw [World.cell?_setCell_other _ _ _ _ (by simp), World.cell?_setCell_other _ _ _ _ (by intro h; injection h with h; exact ne h)]; exact c0
  c1 := by
    show ((w.setCell _ _).setCell _ _).cell? _ = _
    have h1 : (w.setCell ⟨g, c / 8, none⟩ (.int .u8 ((lastB F c + b * 2 ^ (7 - c % 8) : Nat) : Int))).cell? ⟨wb, 1, none⟩ = some (.int .i64 (c : Int)) := by
      rw [World.cell?_setCell_other _ _ _ _ (by intro h; injection h with h; exact ne h)]; exact c1
    rw [World.cell?_setCell_same _ _ _ h1]; rfl
  fz := fun j => by have := fz j; show ((w.setCell _ _).setCell _ _).frozen? _ = _; go_simp
  own := by
    have e1 : (c + 1 + 7) / 8 = M := by omega
    rw [e1]
    have h1 := (own.stored (c / 8) (.int .u8 ((lastB F c + b * 2 ^ (7 - c % 8) : Nat) : Int))).1
    rw [rowB_set, updB_updB] at h1
    have h2 : (w.setCell ⟨g, c / 8, none⟩ (.int .u8 ((lastB F c + b * 2 ^ (7 - c % 8) : Nat) : Int))).grownBy ((w.setCell ⟨g, c / 8, none⟩ (.int .u8 ((lastB F c + b * 2 ^ (7 - c % 8) : Nat) : Int))).setCell ⟨wb, 1, none⟩ (.int .i64 ((c : Int) + 1))) (some wb) :=
      grown_setCell (grown_refl _ _) 1 _
    exact (h1.kept h2 (.inr (by intro h; injection h with h; exact ne h))).drew
  ends := (putB_spec F c b ends hb2).1
  lt := by show wb < ((w.setCell _ _).setCell _ _).heap.size; simpa using lt
  ne := by intro h; injection h with h; exact ne h
  hb := by show base ≤ ((w.setCell _ _).setCell _ _).heap.size; simpa using hb

set_option maxRecDepth 100000 in
theorem rowB_last (F : Nat → Nat) (c M : Nat) (h : ¬ c % 8 = 0) : rowB (updB F (c / 8) (lastB F c)) M = rowB F M := by
  have e : updB F (c / 8) (lastB F c) = F := by
    funext j; unfold updB lastB; rw [if_neg h]; split
    · rename_i h'; rw [h']
    · rfl
  rw [e]

set_option maxRecDepth 100000 in
/-- two stores: into the row, and into the writer's own block -/
theorem wstep_two {w : World} {g wb i : Nat} (u v : Value) : WStep wb w (some g) (((w.setCell ⟨g, i, none⟩ u).setCell ⟨wb, 1, none⟩ v).drew) (some g) where
  os := rfl
  tape := rfl
  output := rfl
  size := by show w.heap.size ≤ ((w.setCell _ _).setCell _ _).heap.size; simp
  block := fun k _ h1 h2 => by
    show ((w.setCell _ _).setCell _ _).heap[k]? = _
    rw [Below.heap_setCell _ _ _ _ h1, Below.heap_setCell _ _ _ _ (fun e => h2 (by rw [e]))]
  row := .inl rfl

end Go.Proofs.Ytccpfoimedjdgaa

namespace Go.Proofs.Ytccpfoimedjdgaa
open Go.ChangeShapes Go.WideShapes Go.ChangeAt Go.RowKit

set_option maxRecDepth 100000 in
set_option maxHeartbeats 1000000 in
theorem wbit_in (w : World) (base wb : Nat) (v : Value) (F : Nat → Nat) (c b : Nat) (h : WR w base wb v F c) (hb : b < 2) (hc : c ≤ 10000000) (hr : ¬ c % 8 = 0) :
    Calls Try.prog 58 #[.pointer (some ⟨wb, 0, none⟩), .int .u8 (b : Int)] w fun e w' => e = .returned (.tuple #[]) ∧ WR w' base wb v (putB F c b) (c + 1) ∧ WStep wb w v.ownBlock w' v.ownBlock := by
  have HD := Lib.hid h
  obtain ⟨g, cap, rfl, hg1, hg2⟩ := h.own.form (by omega)
  have c0 := h.c0
  have c1 := h.c1
  have f1 := h.fz 1
  have hm : c / 8 < (c + 7) / 8 := by omega
  have cb : w.cell? ⟨g, c / 8, none⟩ = some (.int .u8 ((F (c / 8) : Nat) : Int)) := by rw [h.own.cellAt (c / 8) (by omega), rowB_get _ _ _ hm]
  have fb := h.own.frozenAt (c / 8)
  have hy := h.ends.1 (c / 8)
  have hz := h.ends.2 hr
  have hne : ¬ g = wb := fun e => h.ne (by rw [e]; rfl)
  have ht : (((c : Int) % 8) == 0) = false := by rw [beq_eq_false_iff_ne]; omega
  obtain ⟨y, ey⟩ : ∃ y, y = F (c / 8) := ⟨_, rfl⟩
  rw [← ey] at cb hy hz
  have HY := Lib.hid ey
  have HZ := Lib.hid hz
  obtain ⟨m, em⟩ : ∃ m, m = (c + 7) / 8 := ⟨_, rfl⟩
  rw [← em] at c0 hm
  have HM := Lib.hid em
  clear h ey hz em
  have i1 : (c : Int) / 8 < (m : Int) := by omega
  have i2 : 0 ≤ (c : Int) / 8 := by omega
  have i3 : ((c : Int) / 8).toNat = c / 8 := by omega
  have i5 : IntKind.i64.wrap ((c : Int) / 8) = (c : Int) / 8 := by rw [IntKind.wrap_i64]; omega
  go_enter Try.func58, Try.ntmps58
  go_wp2
  go_still_tail 20, (by kernel_rfl)
  still_call (place_any _ _ (by omega))
  repeat still_step
  refine wpStill_nil ?_
  go_wp2
  have e1 := or_step y b (c % 8) hy hb (Nat.mod_lt _ (by decide)) HZ.out
  rw [IntKind.wrap_u8'] at e1
  rw [e1]
  go_end0
  have ey : y = lastB F c := by unfold lastB; rw [if_neg hr]; exact HY.out
  have hM : m = c / 8 + 1 := by rw [HM.out]; omega
  rw [← HM.out, ey]
  refine ⟨rfl, ?_, wstep_two _ _⟩
  have own := HD.out.own
  rw [← HM.out] at own
  exact WR.fin hM (by rw [rowB_last F c m hr]; exact own) c0 c1 HD.out.fz HD.out.ends HD.out.lt hne HD.out.hb hb

set_option maxRecDepth 100000 in
theorem rowB_new (F : Nat → Nat) (c : Nat) (h : c % 8 = 0) : rowB F (c / 8) ++ [Value.int .u8 0] = rowB (updB F (c / 8) (lastB F c)) (c / 8 + 1) := by
  apply List.ext_getElem?
  intro j
  by_cases h1 : j < c / 8
  · rw [List.getElem?_append_left (by rw [rowB_length]; exact h1), rowB_get _ _ _ h1, rowB_get _ _ _ (by omega), updB_other _ _ _ _ (by omega)]
  · by_cases h2 : j = c / 8
    · subst h2
      rw [List.getElem?_append_right (by rw [rowB_length]; omega), rowB_length, rowB_get _ _ _ (by omega), updB_same]
      unfold lastB; rw [if_pos h]; simp
    · rw [List.getElem?_eq_none (by simp [rowB_length]; omega), List.getElem?_eq_none (by rw [rowB_length]; omega)]

set_option maxRecDepth 100000 in
set_option maxHeartbeats 1000000 in
theorem wbit_new (w : World) (base wb : Nat) (v : Value) (F : Nat → Nat) (c b : Nat) (h : WR w base wb v F c) (hb : b < 2) (hc : c ≤ 10000000) (hr : c % 8 = 0) :
    Calls Try.prog 58 #[.pointer (some ⟨wb, 0, none⟩), .int .u8 (b : Int)] w fun e w' => e = .returned (.tuple #[]) ∧ ∃ v', WR w' base wb v' (putB F c b) (c + 1) ∧ WStep wb w v.ownBlock w' v'.ownBlock := by
  have HD := Lib.hid h
  have c0 := h.c0
  have c1 := h.c1
  have f0 := h.fz 0
  have f1 := h.fz 1
  have hlt := h.lt
  have ht : (((c : Int) % 8) == 0) = true := by rw [beq_iff_eq]; omega
  have e8 : (c + 7) / 8 = c / 8 := by omega
  have own := h.own
  rw [e8] at own
  have HO := Lib.hid own
  have HR := Lib.hid hr
  clear h own e8 hr
  obtain ⟨i0, hi, hz0, hz1, hz2⟩ := info_parts info5
  go_enter Try.func58, Try.ntmps58
  go_wp2_with (at_builtin; refine wpList_append_lies _ rfl _ _ 23 rfl base 5 i0 (.int .u8 0) 1 1 Try.underlying23 hi hz0 hz1 hz2 rfl (by decide) _ _ _ rfl (HO.out.alloc _) ⟨w.heap.size, 0, none⟩ 1 1 [.int .u8 0] rfl rfl ?c1 ?c2 ?c3 ?c4 ?c5 ?c6 (w.heap.size + 1) ?c7 ?_)
  case c1 =>
    intro j u hj
    match j, hj with
    | 0, hj => simp at hj; subst hj; simp [Addr.add]
  case c2 => intro u hu; simp at hu; subst hu; rfl
  case c3 => decide
  case c4 => unfold maxLen; omega
  case c5 => omega
  case c6 => have := HD.out.hb; simp; omega
  case c7 => simp
  intro g cap w5 hown5 hgrow5 hlies hglt
  have hne : ¬ g = wb := by
    rcases hlies with e | e
    · intro e'; rw [e'] at e; exact HD.out.ne e
    · omega
  have hwb5 : w5.heap[wb]? = w.heap[wb]? := by
    rw [hgrow5.block wb (by simp; omega) (fun e => HD.out.ne e.symm)]
    exact Below.heap_alloc w _ wb hlt
  have c0' : w5.cell? ⟨wb, 0, none⟩ = some v := (World.cell?_of_block hwb5).trans c0
  have c1' : w5.cell? ⟨wb, 1, none⟩ = some (.int .i64 (c : Int)) := (World.cell?_of_block hwb5).trans c1
  have fz' : ∀ j, w5.frozen? ⟨wb, j, none⟩ = false := fun j => (World.frozen?_of_block (a := ⟨wb, j, none⟩) hwb5).trans (HD.out.fz j)
  have f0' := fz' 0
  have f1' := fz' 1
  have FZ := Lib.hid fz'
  have hlt5 : wb < w5.heap.size := by have := hgrow5.size; simp at this; omega
  rw [rowB_new F c HR.out] at hown5
  have HO5 := Lib.hid hown5
  have HG5 := Lib.hid hgrow5
  have HL5 := Lib.hid hlies
  clear c0 c1 f0 f1 hwb5 fz' hown5 hgrow5 hlies
  have HST : Hid (WStep wb w v.ownBlock (w5.setCell ⟨wb, 0, none⟩ (.slice (some ⟨g, 0, none⟩) (c / 8 + 1) cap)) (some g)) := Lib.hid
    { os := HG5.out.os, tape := HG5.out.tape, output := HG5.out.output
      size := by have := HG5.out.size; simp at this ⊢; omega
      block := fun k hk h1 h2 => by
        rw [Below.heap_setCell _ _ _ _ h1, HG5.out.block k (by simp; omega) h2]
        exact Below.heap_alloc w _ k hk
      row := by
        rcases HL5.out with e | e
        · exact .inl e.symm
        · exact .inr ⟨g, rfl, by omega⟩ }
  have HO6 : Hid ((w5.setCell ⟨wb, 0, none⟩ (.slice (some ⟨g, 0, none⟩) (c / 8 + 1) cap)).ownsRow base 5 1 (.slice (some ⟨g, 0, none⟩) (c / 8 + 1) cap) (c / 8 + 1) (rowB (updB F (c / 8) (lastB F c)) (c / 8 + 1))) :=
    Lib.hid (HO5.out.kept (grown_setCell (grown_refl w5 (some wb)) 0 _) (.inr (by intro e; injection e with e; exact hne e)))
  have HFZ6 : Hid (∀ j, (w5.setCell ⟨wb, 0, none⟩ (.slice (some ⟨g, 0, none⟩) (c / 8 + 1) cap)).frozen? ⟨wb, j, none⟩ = false) := Lib.hid (fun j => by have := FZ.out j; go_simp)
  have d0 : (w5.setCell ⟨wb, 0, none⟩ (.slice (some ⟨g, 0, none⟩) (c / 8 + 1) cap)).cell? ⟨wb, 0, none⟩ = some (.slice (some ⟨g, 0, none⟩) (c / 8 + 1) cap) := World.cell?_setCell_same _ _ _ c0'
  have d1 : (w5.setCell ⟨wb, 0, none⟩ (.slice (some ⟨g, 0, none⟩) (c / 8 + 1) cap)).cell? ⟨wb, 1, none⟩ = some (.int .i64 (c : Int)) := by
    rw [World.cell?_setCell_other _ _ _ _ (by simp)]; exact c1'
  have hlt6 : wb < (w5.setCell ⟨wb, 0, none⟩ (.slice (some ⟨g, 0, none⟩) (c / 8 + 1) cap)).heap.size := by simpa using hlt5
  have hbs6 : base ≤ (w5.setCell ⟨wb, 0, none⟩ (.slice (some ⟨g, 0, none⟩) (c / 8 + 1) cap)).heap.size := by have := HD.out.hb; have := HG5.out.size; simp at this ⊢; omega
  go_wp2
  clear c0' c1' f0' f1'
  generalize (w5.setCell ⟨wb, 0, none⟩ (.slice (some ⟨g, 0, none⟩) (c / 8 + 1) cap)) = w6 at HST HO6 HFZ6 d0 d1 hlt6 hbs6 ⊢
  have f1 := HFZ6.out 1
  have cb : w6.cell? ⟨g, c / 8, none⟩ = some (.int .u8 ((lastB F c : Nat) : Int)) := by rw [HO6.out.cellAt (c / 8) (by omega), rowB_get _ _ _ (by omega), updB_same]
  have fb := HO6.out.frozenAt (c / 8)
  obtain ⟨hy, hz⟩ : lastB F c < 256 ∧ lastB F c % 2 ^ (8 - c % 8) = 0 := HD.out.ends.byte
  have HZ := Lib.hid hz
  clear hz
  generalize hly : lastB F c = y at cb hy HZ
  have HY := Lib.hid hly
  clear hly
  have i1 : (c : Int) / 8 < ((c / 8 + 1 : Nat) : Int) := by omega
  have i2 : 0 ≤ (c : Int) / 8 := by omega
  have i3 : ((c : Int) / 8).toNat = c / 8 := by omega
  have i5 : IntKind.i64.wrap ((c : Int) / 8) = (c : Int) / 8 := by rw [IntKind.wrap_i64]; omega
  obtain ⟨m, em⟩ : ∃ m, m = c / 8 + 1 := ⟨_, rfl⟩
  rw [← em] at d0 i1 ⊢
  have i4 : c / 8 < m := by omega
  have HM := Lib.hid em
  clear em
  go_still_tail 20, (by kernel_rfl)
  still_call (place_any _ _ (by omega))
  repeat still_step
  refine wpStill_nil ?_
  go_wp2
  have e1 := or_step y b (c % 8) hy hb (Nat.mod_lt _ (by decide)) HZ.out
  rw [IntKind.wrap_u8'] at e1
  rw [e1]
  go_end0
  have own := HO6.out
  rw [← HM.out] at own
  rw [← HY.out]
  refine ⟨rfl, _, WR.fin HM.out own d0 d1 HFZ6.out HD.out.ends hlt6 hne hbs6 hb, HST.out.trans (wstep_two _ _)⟩

set_option maxRecDepth 100000 in
/-- one bit more, wherever it goes -/
theorem wbit_any (w : World) (base wb : Nat) (v : Value) (F : Nat → Nat) (c b : Nat) (h : WR w base wb v F c) (hb : b < 2) (hc : c ≤ 10000000) :
    Calls Try.prog 58 #[.pointer (some ⟨wb, 0, none⟩), .int .u8 (b : Int)] w fun e w' => e = .returned (.tuple #[]) ∧ ∃ v', WR w' base wb v' (putB F c b) (c + 1) ∧ WStep wb w v.ownBlock w' v'.ownBlock := by
  by_cases hr : c % 8 = 0
  · exact wbit_new w base wb v F c b h hb hc hr
  · exact (wbit_in w base wb v F c b h hb hc hr).mono fun e w' ⟨h1, h2, h3⟩ => ⟨h1, v, h2, h3⟩

end Go.Proofs.Ytccpfoimedjdgaa

namespace Go.Proofs.Ytccpfoimedjdgaa
open Go.ChangeShapes Go.WideShapes Go.ChangeAt Go.RowKit

/-- what a writer has behind m bits more: those before, then those of B -/
def Wrote (w : World) (base wb : Nat) (v : Value) (F : Nat → Nat) (c m : Nat) (B : Nat → Nat) (w' : World) : Prop :=
  ∃ v' F', WR w' base wb v' F' (c + m) ∧ (∀ i, i < c → bitAt F' i = bitAt F i) ∧ (∀ i, i < m → bitAt F' (c + i) = B i) ∧ WStep wb w v.ownBlock w' v'.ownBlock

set_option maxRecDepth 100000 in
theorem shift_bit (x k : Nat) : bits .and .u8 ((x : Int) / 2 ^ k % 256) 1 = ((x / 2 ^ k % 2 : Nat) : Int) := by
  have e : ((x : Int) / 2 ^ k % 256) = ((x / 2 ^ k % 256 : Nat) : Int) := by rw [Int.natCast_emod, Int.natCast_ediv, Int.natCast_pow]; rfl
  rw [e]
  have h := u8_and_nat (x / 2 ^ k % 256) 1 (Nat.mod_lt _ (by decide)) (by decide)
  rw [nat_mask1] at h
  rw [show (x / 2 ^ k % 2) = x / 2 ^ k % 256 % 2 from by omega]
  exact h

set_option maxRecDepth 100000 in
theorem Wrote.bit {w w1 w2 : World} {base wb c k b : Nat} {v v1 v2 : Value} {F F1 : Nat → Nat} {B : Nat → Nat} (h1 : WR w1 base wb v1 F1 (c + k)) (a1 : ∀ i, i < c → bitAt F1 i = bitAt F i) (a2 : ∀ i, i < k → bitAt F1 (c + i) = B i)
    (s1 : WStep wb w v.ownBlock w1 v1.ownBlock) (hb : b < 2) (eb : b = B k) (h2 : WR w2 base wb v2 (putB F1 (c + k) b) (c + k + 1)) (s2 : WStep wb w1 v1.ownBlock w2 v2.ownBlock) : Wrote w base wb v F c (k + 1) B w2 := by
  obtain ⟨_, p2, p3⟩ := putB_spec F1 (c + k) b h1.ends hb
  refine ⟨v2, _, h2, fun i hi => by rw [p2 i (by omega), a1 i hi], fun i hi => ?_, s1.trans s2⟩
  by_cases e : i = k
  · subst e; rw [p3, eb]
  · rw [p2 _ (by omega), a2 i (by omega)]

set_option maxRecDepth 100000 in
set_option maxHeartbeats 1000000 in
theorem put_any (w : World) (base wb : Nat) (v : Value) (F : Nat → Nat) (c x : Nat) (z : Int) (m : Nat) (hm : wn z = m) (h : WR w base wb v F c) (hx : x < 18446744073709551616) (hc : c ≤ 9000000) :
    Calls Try.prog 51 #[.pointer (some ⟨wb, 0, none⟩), .int .u64 (x : Int), .int .i64 z] w fun e w' => e = .returned (.tuple #[]) ∧ Wrote w base wb v F c m (fun i => x / 2 ^ (m - 1 - i) % 2) w' := by
  have HD := Lib.hid h
  have HM := Lib.hid hm
  have HX := Lib.hid hx
  have hw := wn_le z
  rw [hm] at hw
  clear h hm hx
  go_enter Try.func51, Try.ntmps51
  go_wp2_with fail
  refine (within_any z _).mono ?_
  rw [HM.out]
  rintro e w' ⟨rfl, rfl⟩
  go_wp2
  go_loopw [12] (fun i wr => ∃ k : Nat, k ≤ m ∧ i = .int .i64 (k : Int) ∧ Hid (Wrote w base wb v F c k (fun i => x / 2 ^ (m - 1 - i) % 2) wr)) (fun i _ => m - (intOf i).toNat)
  case atStart => exact ⟨0, Nat.zero_le _, rfl, Lib.hid ⟨v, F, HD.out, fun _ _ => rfl, fun i hi => by omega, WStep.refl _ _ _⟩⟩
  case round =>
    obtain ⟨k, hk, rfl, HA⟩ := hrel
    by_cases hlt : k < m
    · obtain ⟨v1, F1, h1, a1, a2, s1⟩ := HA.out
      have H1 := Lib.hid h1
      have H2 := Lib.hid (⟨a1, a2, s1⟩ : _ ∧ _ ∧ _)
      clear h1 a1 a2 s1
      obtain ⟨b, eb⟩ : ∃ b, b = x / 2 ^ (m - 1 - k) % 2 := ⟨_, rfl⟩
      have hb2 : b < 2 := by omega
      have HE := Lib.hid eb
      clear eb
      go_wp2_with fail
      rw [shift_bit x (m - 1 - k), ← HE.out]
      refine (wbit_any wr base wb v1 F1 (c + k) b H1.out hb2 (by omega)).mono ?_
      rintro e w2 ⟨rfl, v2, hw2, st2⟩
      have HW2 : Hid (Wrote w base wb v F c (k + 1) (fun i => x / 2 ^ (m - 1 - i) % 2) w2) := Lib.hid (Wrote.bit H1.out H2.out.1 H2.out.2.1 H2.out.2.2 hb2 HE.out hw2 st2)
      clear hw2 st2
      go_wp2
      go_roundw
      case rel => exact ⟨k + 1, by omega, by go_num, HW2⟩
      case measure => simp [intOf]; omega
    · obtain rfl : k = m := by omega
      go_wp2
      go_end0
      exact ⟨rfl, HA.out⟩

end Go.Proofs.Ytccpfoimedjdgaa

namespace Go.Proofs.Ytccpfoimedjdgaa
open Go.ChangeShapes Go.WideShapes Go.ChangeAt Go.RowKit

set_option maxRecDepth 100000 in
theorem own_src {w : World} {base n cap : Nat} {sp : Option Addr} {F : Nat → Nat} (h : w.ownsRow base 5 1 (.slice sp n cap) n (rowB F n)) : Src w sp n F := by
  intro hn
  obtain ⟨g, cap', e, _, hlt⟩ := h.form hn
  injection e with e1 e2 e3
  subst e1
  refine ⟨_, rfl, hlt, fun j hj => ?_⟩
  have := h.cells (g := g) rfl j _ (rowB_get F n j hj)
  exact this

set_option maxRecDepth 100000 in
theorem bytes_any (w : World) (base wb : Nat) (v : Value) (F : Nat → Nat) (c n : Nat) (hn : (c + 7) / 8 = n) (h : WR w base wb v F c) (hc : c ≤ 7000000) :
    Calls Try.prog 36 #[.pointer (some ⟨wb, 0, none⟩)] w (CopyPost w n F) := by
  have own := h.own
  rw [hn] at own
  obtain ⟨sp, cap, rfl⟩ : ∃ sp cap, v = .slice sp n cap := by
    rcases own.2 with ⟨e, e0⟩ | ⟨g, cap, _, e, _⟩
    · subst e0; exact ⟨none, 0, e⟩
    · exact ⟨_, cap, e⟩
  have c0 := h.c0
  have HS := Lib.hid (own_src own)
  have hn' : n ≤ 1000000 := by omega
  clear h own hn
  go_enter Try.func36, Try.ntmps36
  go_wp2_with fail
  refine (copied_any sp n cap F w hn' HS.out).mono ?_
  rintro e w1 ⟨rfl, h1, h2, h3⟩
  have HH := Lib.hid (⟨h1, h2, h3⟩ : _ ∧ _ ∧ _)
  clear h1 h2 h3
  go_wp2
  go_ret
  exact ⟨rfl, HH.out.1, HH.out.2.1, HH.out.2.2⟩

set_option maxRecDepth 100000 in
/-- a row that is known whole is a source -/
theorem row_src {w : World} {g n : Nat} {F : Nat → Nat} (h : w.heap[g]? = some (.cells (rowB F n).toArray 5 (0, 0))) : Src w (some ⟨g, 0, none⟩) n F := by
  intro hn
  have hlt : g < w.heap.size := by
    rcases Nat.lt_or_ge g w.heap.size with h' | h'
    · exact h'
    · rw [Array.getElem?_eq_none h'] at h; cases h
  refine ⟨_, rfl, hlt, fun j hj => ?_⟩
  rw [Go.WideShapes.add_plain, cell_of_row w g _ _ 5 (0, 0) h]
  simpa using rowB_get F n j hj

def numsOf (f : Nat → Nat) (n : Nat) : List Int := (List.range n).map fun j => ((f j : Nat) : Int)

set_option maxRecDepth 100000 in
theorem conv_any (w : World) (sp : Option Addr) (n cap : Nat) (f : Nat → Nat) (h : Src w sp n f) :
    (convert 23 9 (.slice sp n cap)).run Try.prog w = .ok (.string (strOfNums (numsOf f n))) w := by
  by_cases hn : n = 0
  · subst hn
    rcases sp with _ | a
    · exact run_convert_bytes_nil w 23 5 Try.underlying23 Try.underlying5 0 cap 9 Try.underlying9
    · rw [run_convert_bytes_string w 23 9 5 _ 0 cap Try.underlying23 Try.underlying5 Try.underlying9]
      exact run_bytesToString w a 0 cap [] (by simp [loadCells, loadCellsFrom])
  · obtain ⟨ad, rfl, hlt, hc⟩ := h (by omega)
    obtain ⟨b, off, spot⟩ := ad
    have h0 := hc 0 (by omega)
    have hspot : spot = none := by simpa [Addr.add] using World.cell?_spot h0
    subst hspot
    refine run_convert_bytes_arg w 23 5 Try.underlying23 Try.underlying5 b off n cap (numsOf f n) (by simp [numsOf]) (fun i hi => ?_) 9 Try.underlying9
    have := hc i hi
    rw [Go.WideShapes.add_plain] at this
    rw [this]
    simp [numsOf, hi]

set_option maxRecDepth 100000 in
/-- a writer in new memory -/
theorem WR.new (w : World) (base : Nat) (hb : base ≤ w.heap.size) : WR (w.alloc (.cells #[.slice none 0 0, .int .i64 0] 70)) base w.heap.size (.slice none 0 0) (fun _ => 0) 0 where
  c0 := by go_simp
  c1 := by go_simp
  fz := fun j => by go_simp
  own := World.ownsRow_nil _ _ _ _
  ends := ⟨fun _ => Nat.zero_lt_succ 255, fun h => absurd rfl h⟩
  lt := by simp
  ne := by simp [Value.ownBlock]
  hb := by simp; omega

set_option maxRecDepth 100000 in
theorem WStep.below {wb : Nat} {w w' : World} {o o' : Option Nat} (h : WStep wb w o w' o') {B : Nat} (hB : B ≤ wb) (hs : B ≤ w.heap.size) (ho : ∀ k, o = some k → B ≤ k) : Below B w w' :=
  ⟨h.os, h.tape, h.output, h.size, fun k hk => h.block k (by omega) (by omega) (fun e => by have := ho k e.symm; omega)⟩

end Go.Proofs.Ytccpfoimedjdgaa

namespace Go.Proofs.Ytccpfoimedjdgaa
open Go.ChangeShapes Go.WideShapes Go.ChangeAt Go.RowKit

set_option maxRecDepth 100000 in
theorem WR.kept {w w' : World} {base wb q c : Nat} {v : Value} {F : Nat → Nat} {o o' : Option Nat} (h : WR w base wb v F c) (s : WStep q w o w' o') (h1 : wb ≠ q) (h2 : some wb ≠ o) (h3 : ∀ k, v.ownBlock = some k → k ≠ q ∧ some k ≠ o) : WR w' base wb v F c := by
  have hw : w'.heap[wb]? = w.heap[wb]? := s.block wb h.lt h1 h2
  refine ⟨(World.cell?_of_block hw).trans h.c0, (World.cell?_of_block hw).trans h.c1, fun j => (World.frozen?_of_block (a := ⟨wb, j, none⟩) hw).trans (h.fz j), ⟨h.own.1, ?_⟩, h.ends, Nat.lt_of_lt_of_le h.lt s.size, h.ne, Nat.le_trans h.hb s.size⟩
  rcases h.own.2 with h0 | ⟨g, cap, cur, hv, hg, hh, hrest⟩
  · exact .inl h0
  · have hlt : g < w.heap.size := by
      rcases Nat.lt_or_ge g w.heap.size with h' | h'
      · exact h'
      · rw [Array.getElem?_eq_none h'] at hh; cases hh
    have := h3 g (by rw [hv]; rfl)
    exact .inr ⟨g, cap, cur, hv, hg, (s.block g hlt this.1 this.2).trans hh, hrest⟩

set_option maxRecDepth 100000 in
theorem WR.below {w w' : World} {base wb c : Nat} {v : Value} {F : Nat → Nat} (h : WR w base wb v F c) (s : Below w.heap.size w w') : WR w' base wb v F c := by
  have hw : w'.heap[wb]? = w.heap[wb]? := s.block wb h.lt
  refine ⟨(World.cell?_of_block hw).trans h.c0, (World.cell?_of_block hw).trans h.c1, fun j => (World.frozen?_of_block (a := ⟨wb, j, none⟩) hw).trans (h.fz j), ⟨h.own.1, ?_⟩, h.ends, Nat.lt_of_lt_of_le h.lt s.size, h.ne, Nat.le_trans h.hb s.size⟩
  rcases h.own.2 with h0 | ⟨g, cap, cur, hv, hg, hh, hrest⟩
  · exact .inl h0
  · have hlt : g < w.heap.size := by
      rcases Nat.lt_or_ge g w.heap.size with h' | h'
      · exact h'
      · rw [Array.getElem?_eq_none h'] at hh; cases hh
    exact .inr ⟨g, cap, cur, hv, hg, (s.block g hlt).trans hh, hrest⟩

set_option maxRecDepth 100000 in
theorem low_noughts (y r t : Nat) (hr : 0 < r) (hr' : r < 8) (ht : r ≤ t) (ht' : t < 8) (h : y % 2 ^ (8 - r) = 0) : y / 2 ^ (7 - t) % 2 = 0 := by
  obtain ⟨k, hk⟩ := Nat.dvd_of_mod_eq_zero h
  have e : 2 ^ (8 - r) = 2 ^ (7 - t) * (2 * 2 ^ (t - r)) := by
    rw [← Nat.pow_succ', ← Nat.pow_add]; congr 1; omega
  rw [hk, e, Nat.mul_assoc, Nat.mul_div_cancel_left _ (Nat.two_pow_pos _), Nat.mul_assoc, Nat.mul_mod_right]

set_option maxRecDepth 100000 in
theorem byte_eq (y z : Nat) (hy : y < 256) (hz : z < 256) (h : ∀ t, t < 8 → y / 2 ^ (7 - t) % 2 = z / 2 ^ (7 - t) % 2) : y = z := by
  have h0 := h 0 (by decide); have h1 := h 1 (by decide); have h2 := h 2 (by decide); have h3 := h 3 (by decide)
  have h4 := h 4 (by decide); have h5 := h 5 (by decide); have h6 := h 6 (by decide); have h7 := h 7 (by decide)
  simp only [Nat.reducePow, Nat.reduceSub] at h0 h1 h2 h3 h4 h5 h6 h7
  omega

set_option maxRecDepth 100000 in
theorem Ends.nought {F : Nat → Nat} {c : Nat} (h : Ends F c) (i : Nat) (h1 : c ≤ i) (h2 : i < 8 * ((c + 7) / 8)) : bitAt F i = 0 := by
  have hr : ¬ c % 8 = 0 := by omega
  unfold bitAt
  have e : i / 8 = c / 8 := by omega
  rw [e]
  exact low_noughts _ (c % 8) (i % 8) (by omega) (by omega) (by omega) (by omega) (h.2 hr)

set_option maxRecDepth 100000 in
/-- bytes that hold the same bits -/
theorem bytes_eq {F G : Nat → Nat} {c : Nat} (hF : Ends F c) (hG : Ends G c) (h : ∀ i, i < c → bitAt F i = bitAt G i) (j : Nat) (hj : j < (c + 7) / 8) : F j = G j := by
  refine byte_eq _ _ (hF.1 j) (hG.1 j) (fun t ht => ?_)
  have key : bitAt F (8 * j + t) = bitAt G (8 * j + t) := by
    by_cases hi : 8 * j + t < c
    · exact h _ hi
    · rw [hF.nought _ (by omega) (by omega), hG.nought _ (by omega) (by omega)]
  unfold bitAt at key
  rw [show (8 * j + t) / 8 = j from by omega, show (8 * j + t) % 8 = t from by omega] at key
  exact key

set_option maxRecDepth 100000 in
theorem wn_nat (m : Nat) (h : m ≤ 64) : wn (m : Int) = m := by have := wn_mid (m : Int) (by omega) (by omega); omega

end Go.Proofs.Ytccpfoimedjdgaa

namespace Go.Proofs.Ytccpfoimedjdgaa
open Go.ChangeShapes Go.WideShapes Go.ChangeAt Go.RowKit

set_option maxRecDepth 100000 in
theorem tab_size : Lib.len8tab.size = 256 := by decide +kernel

set_option maxRecDepth 100000 in
theorem tab_get (i : Nat) (h : i < Lib.len8tab.size) : (Lib.len8tab[i]'h).toNat = Lib.bitLen i := by
  have all : ∀ j : Fin 256, (Lib.len8tab[j.val]'(by rw [tab_size]; exact j.isLt)).toNat = Lib.bitLen j.val := by decide +kernel
  exact all ⟨i, by rw [← tab_size]; exact h⟩

set_option maxRecDepth 100000 in
/-- one way through Len64: k bits were cut off -/
theorem len_way (n m k v : Nat) (hv : v = Lib.bitLen m) (hn : n < 2 ^ 64) (e : m = n / 2 ^ k) (h2 : 2 ^ k ≤ n) (hk : k ≤ 56) (hm : m < 256) (K : Int) (hK : K = (k : Int)) :
    wrap64 (K + wrap64 (v : Int)) = ((Lib.bitLen n : Nat) : Int) := by
  have l : Lib.bitLen m ≤ 8 := Lib.bitLen_le m 8 (by decide) hm
  have s : Lib.bitLen n = k + Lib.bitLen m := by rw [e]; exact Lib.bitLen_shift k n h2 hn
  rw [s, ← hv]
  rw [← hv] at l
  unfold wrap64; omega

set_option maxRecDepth 100000 in
theorem len_way0 (m v : Nat) (hv : v = Lib.bitLen m) (hm : m < 256) : wrap64 (wrap64 (v : Int)) = ((Lib.bitLen m : Nat) : Int) := by
  have l : Lib.bitLen m ≤ 8 := Lib.bitLen_le m 8 (by decide) hm
  rw [← hv] at l ⊢
  unfold wrap64; omega

set_option maxRecDepth 1000000 in
set_option maxHeartbeats 1000000 in
theorem len64_int (x : Int) (w : World) (h0 : 0 ≤ x) (h1 : x ≤ 18446744073709551615) :
    Calls Try.prog 56 #[.int .u64 x] w fun e w' => e = .returned (.int .i64 ((Lib.bitLen x.toNat : Nat) : Int)) ∧ w = w' := by
  have hs := tab_size
  go_enter Try.func56, Try.ntmps56
  go_wp2
  all_goals go_ret
  all_goals refine ⟨ret_int ?_, rfl⟩
  · exact len_way x.toNat _ 56 _ (tab_get _ _) (by omega) (by omega) (by omega) (by omega) (by omega) _ rfl
  · exact len_way x.toNat _ 48 _ (tab_get _ _) (by omega) (by omega) (by omega) (by omega) (by omega) _ rfl
  · exact len_way x.toNat _ 40 _ (tab_get _ _) (by omega) (by omega) (by omega) (by omega) (by omega) _ rfl
  · exact len_way x.toNat _ 32 _ (tab_get _ _) (by omega) (by omega) (by omega) (by omega) (by omega) _ rfl
  · exact len_way x.toNat _ 24 _ (tab_get _ _) (by omega) (by omega) (by omega) (by omega) (by omega) _ rfl
  · exact len_way x.toNat _ 16 _ (tab_get _ _) (by omega) (by omega) (by omega) (by omega) (by omega) _ rfl
  · exact len_way x.toNat _ 8 _ (tab_get _ _) (by omega) (by omega) (by omega) (by omega) (by omega) _ rfl
  · exact len_way0 x.toNat _ (tab_get _ _) (by omega)

end Go.Proofs.Ytccpfoimedjdgaa

namespace Go.Proofs.Ytccpfoimedjdgaa
open Go.ChangeShapes Go.WideShapes Go.ChangeAt Go.RowKit

/-- how many noughts stand ahead of a number -/
def nz (x : Nat) : Nat := Nat.log2 (x + 1)

set_option maxRecDepth 100000 in
theorem nz_spec (x : Nat) : 2 ^ nz x ≤ x + 1 ∧ x + 1 < 2 ^ (nz x + 1) := ⟨Nat.log2_self_le (by omega), Nat.lt_log2_self⟩

set_option maxRecDepth 100000 in
theorem nz_le (x : Nat) (h : x < 18446744073709551616) : nz x ≤ 64 := by
  have h1 := (nz_spec x).1
  rcases Nat.lt_or_ge 64 (nz x) with h2 | h2
  · have : 2 ^ 65 ≤ 2 ^ nz x := Nat.pow_le_pow_right (by decide) h2
    omega
  · exact h2

set_option maxRecDepth 100000 in
theorem bitLen_nz (x : Nat) (h : x + 1 < 18446744073709551616) : Lib.bitLen (x + 1) = nz x + 1 := by
  obtain ⟨h1, h2⟩ := nz_spec x
  rw [Lib.bitLen_shift (nz x) (x + 1) h1 h]
  have e : (x + 1) / 2 ^ nz x = 1 := by
    rw [Nat.pow_succ] at h2
    have hp := Nat.two_pow_pos (nz x)
    exact (Nat.div_eq_iff hp).2 ⟨by omega, by omega⟩
  rw [e]; rfl

set_option maxRecDepth 100000 in
theorem inc_wrap (x : Nat) : IntKind.u64.wrap ((x : Int) + 1) = (((x + 1) % 18446744073709551616 : Nat) : Int) := by rw [IntKind.wrap_u64]; omega

set_option maxRecDepth 100000 in
theorem noughts_any (x : Nat) (w : World) (hx : x < 18446744073709551616) :
    Calls Try.prog 50 #[.int .u64 (x : Int)] w fun e w' => e = .returned (.int .i64 ((nz x : Nat) : Int)) ∧ w = w' := by
  by_cases h : x = 18446744073709551615
  · have e : IntKind.u64.wrap ((x : Int) + 1) = 0 := by rw [inc_wrap, h]; rfl
    have ez : nz x = 64 := by
      have h1 := nz_spec x
      have h2 := nz_le x hx
      rcases Nat.lt_or_ge (nz x) 64 with h3 | h3
      · have : 2 ^ (nz x + 1) ≤ 2 ^ 64 := Nat.pow_le_pow_right (by decide) h3
        omega
      · omega
    rw [ez]
    have E := Lib.hid e
    clear e ez h hx
    generalize hX : (x : Int) = X at E
    clear hX
    have e := E.out
    go_enter Try.func50, Try.ntmps50
    go_wp2
    go_ret
    exact ⟨rfl, rfl⟩
  · have hle : x + 1 < 18446744073709551616 := by omega
    have e : IntKind.u64.wrap ((x : Int) + 1) = ((x + 1 : Nat) : Int) := by rw [inc_wrap, Nat.mod_eq_of_lt hle]
    have b1 : (((x + 1 : Nat) : Int) == 0) = false := by rw [beq_eq_false_iff_ne]; omega
    have hl := len64_int ((x + 1 : Nat) : Int) w (by omega) (by omega)
    rw [Int.toNat_natCast, bitLen_nz x hle] at hl
    have HL := Lib.hid hl
    have hz := nz_le x hx
    generalize hX : ((x + 1 : Nat) : Int) = X at e b1 HL
    generalize hY : (x : Int) = Y at e
    clear hX hY hl h hle hx
    go_enter Try.func50, Try.ntmps50
    go_wp2_with fail
    refine HL.out.mono ?_
    rintro r w' ⟨rfl, rfl⟩
    go_wp2
    go_ret
    exact ⟨ret_int (by omega), rfl⟩

end Go.Proofs.Ytccpfoimedjdgaa

namespace Go.Proofs.Ytccpfoimedjdgaa
open Go.ChangeShapes Go.WideShapes Go.ChangeAt Go.RowKit

set_option maxRecDepth 100000 in
theorem Wrote.same {w w' : World} {base wb c m m' : Nat} {v : Value} {F B B' : Nat → Nat} (h : Wrote w base wb v F c m B w') (hm : m = m') (hB : ∀ i, i < m → B i = B' i) : Wrote w base wb v F c m' B' w' := by
  subst hm
  obtain ⟨v', F', h1, h2, h3, h4⟩ := h
  exact ⟨v', F', h1, h2, fun i hi => (h3 i hi).trans (hB i hi), h4⟩

set_option maxRecDepth 100000 in
theorem put_lit (w : World) (base wb : Nat) (v : Value) (F : Nat → Nat) (c x : Nat) (X z : Int) (hX : X = (x : Int)) (m : Nat) (hm : wn z = m) (h : WR w base wb v F c) (hx : x < 18446744073709551616) (hc : c ≤ 9000000) :
    Calls Try.prog 51 #[.pointer (some ⟨wb, 0, none⟩), .int .u64 X, .int .i64 z] w fun e w' => e = .returned (.tuple #[]) ∧ Wrote w base wb v F c m (fun i => x / 2 ^ (m - 1 - i) % 2) w' := by
  subst hX; exact put_any w base wb v F c x z m hm h hx hc

/-- the bits of a number -/
def numBits (x i : Nat) : Nat := if i < nz x then 0 else (x + 1) / 2 ^ (2 * nz x - i) % 2

set_option maxRecDepth 100000 in
theorem Wrote.trans {w w1 w2 : World} {base wb c m1 m2 : Nat} {v v1 : Value} {F F1 B1 B2 : Nat → Nat} (_h1 : WR w1 base wb v1 F1 (c + m1)) (a1 : ∀ i, i < c → bitAt F1 i = bitAt F i) (a2 : ∀ i, i < m1 → bitAt F1 (c + i) = B1 i)
    (s1 : WStep wb w v.ownBlock w1 v1.ownBlock) (h2 : Wrote w1 base wb v1 F1 (c + m1) m2 B2 w2) : Wrote w base wb v F c (m1 + m2) (fun i => if i < m1 then B1 i else B2 (i - m1)) w2 := by
  obtain ⟨v2, F2, g1, g2, g3, g4⟩ := h2
  refine ⟨v2, F2, by rw [← Nat.add_assoc]; exact g1, fun i hi => by rw [g2 i (by omega), a1 i hi], fun i hi => ?_, s1.trans g4⟩
  by_cases e : i < m1
  · simp only [e, if_true]; rw [g2 _ (by omega), a2 i e]
  · simp only [e, if_false]
    have := g3 (i - m1) (by omega)
    rw [show c + m1 + (i - m1) = c + i from by omega] at this
    exact this

set_option maxRecDepth 100000 in
theorem numBits_parts (x : Nat) (hx : x < 18446744073709551616) (i : Nat) (hi : i < nz x + (1 + nz x)) :
    (if i < nz x then 0 / 2 ^ (nz x - 1 - i) % 2 else (if i - nz x < 1 then 1 / 2 ^ (1 - 1 - (i - nz x)) % 2 else (x + 1) % 18446744073709551616 / 2 ^ (nz x - 1 - (i - nz x - 1)) % 2)) = numBits x i := by
  obtain ⟨h1, h2⟩ := nz_spec x
  unfold numBits
  by_cases e1 : i < nz x
  · rw [if_pos e1, if_pos e1, Nat.zero_div]
  · rw [if_neg e1, if_neg e1]
    by_cases e2 : i - nz x < 1
    · rw [if_pos e2, show 1 - 1 - (i - nz x) = 0 from by omega, show 2 * nz x - i = nz x from by omega]
      rw [Nat.pow_succ] at h2
      have hp := Nat.two_pow_pos (nz x)
      have ed : (x + 1) / 2 ^ nz x = 1 := (Nat.div_eq_iff hp).2 ⟨by omega, by omega⟩
      rw [ed]
    · rw [if_neg e2, show nz x - 1 - (i - nz x - 1) = 2 * nz x - i from by omega]
      by_cases e3 : x + 1 < 18446744073709551616
      · rw [Nat.mod_eq_of_lt e3]
      · have e4 : x + 1 = 2 ^ 64 := by omega
        have e5 : nz x = 64 := by unfold nz; rw [e4]; decide
        rw [e5, e4]
        have e6 : 2 * 64 - i ≤ 63 := by omega
        rw [show 2 ^ 64 % 18446744073709551616 = 0 from by decide, Nat.zero_div]
        have e7 : 2 ^ 64 = 2 ^ (2 * 64 - i) * (2 * 2 ^ (63 - (2 * 64 - i))) := by
          rw [← Nat.pow_succ', ← Nat.pow_add]; congr 1; omega
        rw [e7, Nat.mul_div_cancel_left _ (Nat.two_pow_pos _), Nat.mul_mod_right]

set_option maxRecDepth 100000 in
set_option maxHeartbeats 1000000 in
theorem wnum_any (w : World) (base wb : Nat) (v : Value) (F : Nat → Nat) (c x : Nat) (h : WR w base wb v F c) (hx : x < 18446744073709551616) (hc : c ≤ 8000000) :
    Calls Try.prog 33 #[.pointer (some ⟨wb, 0, none⟩), .int .u64 (x : Int)] w fun e w' => e = .returned (.tuple #[]) ∧ Wrote w base wb v F c (2 * nz x + 1) (numBits x) w' := by
  have HD := Lib.hid h
  have HX := Lib.hid hx
  have hz := nz_le x hx
  have HI := Lib.hid (inc_wrap x)
  have HP := Lib.hid (numBits_parts x hx)
  clear h hx
  go_enter Try.func33, Try.ntmps33
  go_wp2_with fail
  refine (noughts_any x _ HX.out).mono ?_
  rintro e w' ⟨rfl, rfl⟩
  go_wp2_with fail
  refine (put_lit w base wb v F c 0 0 _ rfl (nz x) (wn_nat _ hz) HD.out (by decide) (by omega)).mono ?_
  rintro e w1 ⟨rfl, v1, F1, h1, a1, a2, s1⟩
  have H1 := Lib.hid h1
  have A1 := Lib.hid (⟨a1, a2, s1⟩ : _ ∧ _ ∧ _)
  clear h1 a1 a2 s1
  go_wp2_with fail
  refine (put_lit w1 base wb v1 F1 (c + nz x) 1 1 1 rfl 1 (by decide) H1.out (by decide) (by omega)).mono ?_
  rintro e w2 ⟨rfl, v2, F2, h2, b1, b2, s2⟩
  have H2 := Lib.hid h2
  have A2 := Lib.hid (⟨b1, b2, s2⟩ : _ ∧ _ ∧ _)
  clear h2 b1 b2 s2
  go_wp2_with fail
  rw [HI.out]
  refine (put_any w2 base wb v2 F2 (c + nz x + 1) ((x + 1) % 18446744073709551616) _ (nz x) (wn_nat _ hz) H2.out (Nat.mod_lt _ (by decide)) (by omega)).mono ?_
  rintro e w3 ⟨rfl, h3⟩
  have H3 : Hid (Wrote w base wb v F c (2 * nz x + 1) (numBits x) w3) := by
    have t1 := Wrote.trans H2.out A2.out.1 A2.out.2.1 A2.out.2.2 h3
    have t2 := Wrote.trans H1.out A1.out.1 A1.out.2.1 A1.out.2.2 t1
    exact Lib.hid (t2.same (by omega) (fun i hi => HP.out i hi))
  clear h3
  go_wp2
  go_end0
  exact ⟨rfl, H3.out⟩

set_option maxRecDepth 100000 in
theorem numBits_lead (x : Nat) : numBits x (nz x) = 1 := by
  obtain ⟨h1, h2⟩ := nz_spec x
  unfold numBits
  rw [if_neg (by omega), show 2 * nz x - nz x = nz x from by omega]
  rw [Nat.pow_succ] at h2
  have hp := Nat.two_pow_pos (nz x)
  have ed : (x + 1) / 2 ^ nz x = 1 := (Nat.div_eq_iff hp).2 ⟨by omega, by omega⟩
  rw [ed]

set_option maxRecDepth 100000 in
theorem numBits_low (x i : Nat) (h : i < nz x) : numBits x i = 0 := by unfold numBits; rw [if_pos h]

end Go.Proofs.Ytccpfoimedjdgaa

namespace Go.Proofs.Ytccpfoimedjdgaa
open Go.ChangeShapes Go.WideShapes Go.ChangeAt Go.RowKit

set_option maxRecDepth 100000 in
theorem gv_of (f : Nat → Nat) (b y k m : Nat) (hm : m ≤ k) (h : ∀ t, t < m → bitAt f (b + t) = y / 2 ^ (k - 1 - t) % 2) : gv f b m = y / 2 ^ (k - m) % 2 ^ m := by
  induction m with
  | zero => rw [Nat.pow_zero, Nat.mod_one]; rfl
  | succ m ih =>
    show 2 * gv f b m + bitAt f (b + m) = _
    rw [ih (by omega) (fun t ht => h t (by omega)), h m (by omega)]
    have e1 : y / 2 ^ (k - m) = y / 2 ^ (k - (m + 1)) / 2 := by
      rw [Nat.div_div_eq_div_mul, ← Nat.pow_succ]; congr 2; omega
    rw [e1, show k - 1 - m = k - (m + 1) from by omega]
    generalize y / 2 ^ (k - (m + 1)) = u
    rw [Nat.pow_succ', Nat.mod_mul]; omega

set_option maxRecDepth 100000 in
theorem filled_no (w : World) (g rb n a : Nat) (f : Nat → Nat) (h : RD w g rb n f a) (hl : 8 * n < a + 8) (he : ¬ a % 8 = 0 → f (a / 8) % 2 ^ (8 - a % 8) = 0) :
    Calls Try.prog 48 #[.pointer (some ⟨rb, 0, none⟩)] w fun e w' => e = .returned (.bool false) ∧ ∃ q, w' = w.drewN q := by
  have c0 := h.c0
  have c1 := h.c1
  have hat := h.hat
  have hn := h.hn
  by_cases hr : a % 8 = 0
  · have b1 : ((a : Int) % 8 != 0) = false := by simp; omega
    clear h
    go_enter Try.func48, Try.ntmps48
    go_wp2
    go_quiet (fail)
    go_wp2
    go_ret
    exact ⟨rfl, _, rfl⟩
  · have b1 : ((a : Int) % 8 != 0) = true := by simp; omega
    have hi : a / 8 < n := by omega
    have cb := h.cb (a / 8) hi
    have hb := h.hf (a / 8)
    have hz := he hr
    have ez : ((f (a / 8) : Nat) : Int) * 2 ^ (a % 8) % 256 = 0 := by
      obtain ⟨t, ht⟩ := Nat.dvd_of_mod_eq_zero hz
      have e2 : f (a / 8) * 2 ^ (a % 8) = 256 * t := by
        rw [ht, Nat.mul_assoc, Nat.mul_comm t, ← Nat.mul_assoc, ← Nat.pow_add, show 8 - a % 8 + a % 8 = 8 from by omega]
      have e3 : (((f (a / 8) : Nat) : Int) * 2 ^ (a % 8)) = ((f (a / 8) * 2 ^ (a % 8) : Nat) : Int) := by rw [Int.natCast_mul, Int.natCast_pow]; rfl
      rw [e3, e2]; omega
    generalize f (a / 8) = y at cb hb ez
    clear h hz he
    go_enter Try.func48, Try.ntmps48
    go_wp2
    go_quiet (fail)
    go_wp2
    go_ret
    exact ⟨rfl, _, rfl⟩

set_option maxRecDepth 100000 in
/-- End at the end: only noughts are left, fewer than 8 -/
theorem end_ok (w : World) (g rb n a : Nat) (f : Nat → Nat) (h : RD w g rb n f a) (hl : 8 * n < a + 8) (he : ¬ a % 8 = 0 → f (a / 8) % 2 ^ (8 - a % 8) = 0) :
    Calls Try.prog 29 #[.pointer (some ⟨rb, 0, none⟩)] w fun e w' => e = .returned (.int .i64 0) ∧ ∃ q, w.drewN q = w' := by
  have HD := Lib.hid h
  have HE := Lib.hid he
  have c3 := h.c3
  have hat := h.hat
  have hn := h.hn
  clear h he
  go_enter Try.func29, Try.ntmps29
  go_wp2_with fail
  refine (left_any w g rb n a f HD.out).mono ?_
  rintro e w1 ⟨rfl, q, rfl⟩
  have b1 : ¬ (8 : Int) ≤ ((8 * n - a : Nat) : Int) := by omega
  have b2 : ¬ 8 ≤ 8 * n - a := by omega
  go_wp2_with fail
  refine (filled_no _ g rb n a f (HD.out.drewN q) hl HE.out).mono ?_
  rintro e w2 ⟨rfl, q2, rfl⟩
  go_wp2
  go_ret
  exact ⟨rfl, _, rfl⟩

end Go.Proofs.Ytccpfoimedjdgaa

