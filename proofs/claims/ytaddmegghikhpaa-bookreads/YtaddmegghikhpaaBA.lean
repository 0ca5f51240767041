/-
  Contracts of package bits' functions copied and Read; what memory holds of a reader, going and stopped.
-/
import Derived.Test.YtaddmegghikhpaaRows
import Derived.WalkKit
import Derived.ProofKit
import Derived.OpenShut
import Derived.Laws.Bits64
import Derived.Laws.Bits64b
import Derived.Laws.CopyOwn
import Derived.Laws.OwnMore
import Derived.Deep.OwnRows
import Derived.Deep.AppendLies
import Derived.Deep.QuietTactic
import Derived.BigQuiet
import Derived.OwnWalk
import Derived.Lib.Hide
import Derived.LoopTactic
import Derived.Handy
namespace Go.Proofs.Ytaddmegghikhpaa
open Go.ChangeShapes Go.WideShapes Go.ChangeAt Go.RowKit

theorem ret_int {k : IntKind} {a b : Int} (h : a = b) : Ending.returned (.int k a) = .returned (.int k b) := by rw [h]
theorem val_int {k : IntKind} {a b : Int} (h : a = b) : Value.int k a = .int k b := by rw [h]
theorem ret_bool {b : Bool} (h : b = true) : Ending.returned (.bool b) = .returned (.bool true) := by rw [h]

theorem info5 : (Try.prog.info? 5).map (fun i => (i.zero, i.size, i.bytes)) = some (some (.int .u8 0), 1, 1) := by kernel_rfl
theorem size5 : (Try.prog.info? 5).map (·.size) = some 1 := by kernel_rfl

/-- bytes, as cells -/
def rowB (f : Nat → Nat) (n : Nat) : List Value := (List.range n).map fun j => .int .u8 ((f j : Nat) : Int)
theorem rowB_length (f : Nat → Nat) (n : Nat) : (rowB f n).length = n := by simp [rowB]
theorem rowB_get (f : Nat → Nat) (n j : Nat) (h : j < n) : (rowB f n)[j]? = some (.int .u8 ((f j : Nat) : Int)) := by simp [rowB, h]
theorem rowB_one (f : Nat → Nat) (n : Nat) : ∀ u ∈ rowB f n, u.oneCell' = true := by
  intro u hu; simp [rowB] at hu; obtain ⟨j, _, rfl⟩ := hu; rfl

theorem makeB (n : Nat) (cur : List Value) (hcur : cur = List.replicate n (.int .u8 0)) (hn : n ≤ 100000) (w : World) :
    (Instr.makeSlice 26 (.int .i64 (n : Int)) (.int .i64 (n : Int))).run Try.prog w = .ok (.slice (some ⟨w.heap.size, 0, none⟩) n n) (w.alloc (.cells cur.toArray 5)) := by
  have h := run_make_row' (P := Try.prog) 26 5 (.int .u8 0) 1 Try.underlying26 info5 rfl .i64 .i64 n (by omega) (by omega) w
  have e : madeCells #[Value.int .u8 0] n = cur.toArray := by
    rw [hcur, ← toList_madeCells_one]
  rw [e] at h; exact h

theorem splice_all {α : Type} (L cs : List α) (h : cs.length = L.length) : splice L 0 cs = cs := by
  simp [splice, h]

/-- where a slice of bytes lies: nothing is said of an empty one -/
def Src (w : World) (sp : Option Addr) (n : Nat) (f : Nat → Nat) : Prop :=
  0 < n → ∃ ad, sp = some ad ∧ ad.block < w.heap.size ∧ ∀ j, j < n → w.cell? (ad.add j) = some (.int .u8 ((f j : Nat) : Int))

theorem block_add (a : Addr) (n : Nat) : (a.add n).block = a.block := by unfold Addr.add; split <;> rfl

theorem Src.below {w w' : World} {sp : Option Addr} {n : Nat} {f : Nat → Nat} (h : Src w sp n f) (hb : Below w.heap.size w w') : Src w' sp n f := by
  intro hn
  obtain ⟨ad, e, hlt, hc⟩ := h hn
  exact ⟨ad, e, Nat.lt_of_lt_of_le hlt hb.size, fun j hj => (hb.cell (by rw [block_add]; exact hlt)).trans (hc j hj)⟩

/-- what copied answers: a new row of the same bytes -/
def CopyPost (w : World) (n : Nat) (f : Nat → Nat) (e : Ending) (w' : World) : Prop :=
  e = .returned (.slice (some ⟨w.heap.size, 0, none⟩) n n) ∧ w'.heap[w.heap.size]? = some (.cells (rowB f n).toArray 5 (0, 0)) ∧ w.heap.size < w'.heap.size ∧ Below w.heap.size w w'

set_option maxHeartbeats 1000000 in
theorem copied_any (sp : Option Addr) (n cap : Nat) (f : Nat → Nat) (w : World) (hn : n ≤ 100000) (hs : Src w sp n f) :
    Calls Try.prog 36 #[.slice sp n cap] w (CopyPost w n f) := by
  obtain ⟨cur, hcur⟩ : ∃ cur, cur = List.replicate n (Value.int .u8 0) := ⟨_, rfl⟩
  have hmk := makeB n cur hcur hn
  have HCL : Hid (cur.length = n) := Lib.hid (by rw [hcur]; simp)
  have HS := Lib.hid hs
  clear hcur hs
  obtain ⟨cs, hcs⟩ : ∃ cs, cs = rowB f n := ⟨_, rfl⟩
  have HCS := Lib.hid hcs
  have HL : Hid (cs.length = n) := Lib.hid (by rw [hcs, rowB_length])
  clear hcs
  go_enter Try.func36, Try.ntmps36
  go_wp2_with (with_reducible refine wpList_copy_splice rfl (.tmp 7) (.tmp 8) 26 26 rfl 5 Try.underlying26 size5 _ _ _ _ _ _ rfl rfl w.heap.size 0 cur 5 ?c1 cs ?c2 ?c3 ?c4 ?c5 w.heap.size w ?c6 ?c7 ?_)
  case c1 => exact heap_alloc_new w _
  case c2 => rw [HL.out]; exact (Nat.min_self n).symm
  case c3 =>
    intro hpos
    rw [HL.out] at hpos
    obtain ⟨ad, e, hlt, hc⟩ := HS.out hpos
    refine ⟨ad, e, fun j v hj => ?_⟩
    have hjn : j < n := by
      rcases Nat.lt_or_ge j n with h' | h'
      · exact h'
      · rw [List.getElem?_eq_none (by rw [HL.out]; exact h')] at hj; cases hj
    rw [HCS.out, rowB_get f n j hjn] at hj
    injection hj with hj
    rw [World.cell?_alloc_lt _ _ _ (by rw [block_add]; exact hlt), ← hj]
    exact hc j hjn
  case c4 => rw [HL.out, HCL.out]; omega
  case c5 => rw [HCS.out]; exact rowB_one f n
  case c6 => exact (Below.refl _ _).alloc (Nat.le_refl _) _
  case c7 => exact Nat.le_refl _
  intro w' HG hB
  have HB := Lib.hid hB
  clear hB
  have HG2 : Hid (w'.heap[w.heap.size]? = some (.cells (rowB f n).toArray 5 (0, 0))) := by
    have := HG.out
    rw [splice_all cur cs (by rw [HL.out, HCL.out]), HCS.out] at this
    exact Lib.hid this
  go_wp2
  go_ret
  refine ⟨rfl, HG2.out, ?_, HB.out⟩
  rcases Nat.lt_or_ge w.heap.size w'.heap.size with h' | h'
  · exact h'
  · have := HG2.out; rw [Array.getElem?_eq_none h'] at this; cases this

/-- a reader that goes on: its bytes f, n of them, and how many bits were taken -/
structure RD (w : World) (g rb n : Nat) (f : Nat → Nat) (at_ : Nat) : Prop where
  c0 : w.cell? ⟨rb, 0, none⟩ = some (.slice (some ⟨g, 0, none⟩) n n)
  c1 : w.cell? ⟨rb, 1, none⟩ = some (.int .i64 (at_ : Int))
  c2 : w.cell? ⟨rb, 2, none⟩ = some (.int .i64 0)
  c3 : w.cell? ⟨rb, 3, none⟩ = some (.bool false)
  fz : ∀ j, w.frozen? ⟨rb, j, none⟩ = false
  cb : ∀ j, j < n → w.cell? ⟨g, j, none⟩ = some (.int .u8 ((f j : Nat) : Int))
  hf : ∀ j, f j < 256
  hat : at_ ≤ 8 * n
  hn : n ≤ 100000
  lt : rb < w.heap.size
  glt : g < w.heap.size
  ne : g ≠ rb

/-- a reader that has stopped -/
structure RS (w : World) (rb : Nat) (e : Int) : Prop where
  c0 : w.cell? ⟨rb, 0, none⟩ = some (.slice none 0 0)
  c1 : w.cell? ⟨rb, 1, none⟩ = some (.int .i64 0)
  c2 : w.cell? ⟨rb, 2, none⟩ = some (.int .i64 e)
  c3 : w.cell? ⟨rb, 3, none⟩ = some (.bool true)
  fz : ∀ j, w.frozen? ⟨rb, j, none⟩ = false
  lt : rb < w.heap.size

/-- what Read answers: a reader in new memory -/
def ReadPost (w : World) (n : Nat) (f : Nat → Nat) (e : Ending) (w' : World) : Prop :=
  ∃ g rb, e = .returned (.pointer (some ⟨rb, 0, none⟩)) ∧ RD w' g rb n f 0 ∧ w.heap.size ≤ g ∧ w.heap.size ≤ rb ∧ Below w.heap.size w w'

theorem read_any (sp : Option Addr) (n cap : Nat) (f : Nat → Nat) (w : World) (hn : n ≤ 100000) (hf : ∀ j, f j < 256) (hs : Src w sp n f) :
    Calls Try.prog 24 #[.slice sp n cap] w (ReadPost w n f) := by
  have HS := Lib.hid hs
  have HF := Lib.hid hf
  clear hs hf
  go_enter Try.func24, Try.ntmps24
  go_wp2_with fail
  refine (copied_any sp n cap f w hn HS.out).mono ?_
  rintro e w1 ⟨rfl, hrow, hlt, hb⟩
  have HR := Lib.hid hrow
  have HB := Lib.hid hb
  clear hrow hb
  go_wp2
  go_ret
  refine ⟨w.heap.size, w1.heap.size, rfl, ?_, Nat.le_refl _, HB.out.size, HB.out.alloc HB.out.size _⟩
  exact { c0 := by go_simp, c1 := by go_simp, c2 := by go_simp, c3 := by go_simp, fz := fun j => by go_simp,
          cb := fun j hj => by rw [World.cell?_alloc_lt _ _ _ (by exact hlt), cell_of_row w1 w.heap.size j _ 5 (0, 0) HR.out]; simpa using rowB_get f n j hj
          hf := HF.out, hat := Nat.zero_le _, hn := hn, lt := by simp, glt := by simp; omega, ne := by omega }
end Go.Proofs.Ytaddmegghikhpaa
