/-
  Contracts of package frame's functions four, front, number, whole and fits; arrays of four bytes.
-/
import Derived.Test.YtgplannipnceeaaB
import Derived.ChangeKeysEq
import Derived.Deep.RegionHeld3
import Derived.Laws.IdiomArrays
namespace Go.Proofs.Ytgplannipnceeaa
open Go.ChangeShapes Go.WideShapes Go.ChangeAt Go.RowKit

def zero4 : Array Value := #[.int .u8 0, .int .u8 0, .int .u8 0, .int .u8 0]
/-- an array of four bytes, as cells -/
def cells4 (o : Nat → Nat) : Array Value := #[.int .u8 ((o 0 : Nat) : Int), .int .u8 ((o 1 : Nat) : Int), .int .u8 ((o 2 : Nat) : Int), .int .u8 ((o 3 : Nat) : Int)]

theorem cells5 : Try.prog.cellsOf 5 = 1 := by kernel_rfl
theorem eq4 (o p : Nat → Nat) (b : Bool) (hb : b = true ↔ ∀ j, j < 4 → o j = p j) (w : World) : (Op.equalIn 10000 50 (.agg (cells4 o)) (.agg (cells4 p))).run Try.prog w = .ok b w := by
  obtain ⟨i0, hi, _, _, _⟩ := info_parts info5
  have hh := run_equalIn_array (P := Try.prog) w 9999 (cells4 o) (cells4 p) Try.underlying50 hi
  refine hh.trans ?_
  rw [cells5]
  have hr : List.range 4 = [0, 1, 2, 3] := rfl
  rw [hr]
  have q : ∀ (f : Nat → Nat) (j : Nat), j < 4 → ∀ w : World, (part 5 (cells4 f) j).run Try.prog w = .ok (.int .u8 ((f j : Nat) : Int)) w := by
    intro f j hj w
    have hj' : j = 0 ∨ j = 1 ∨ j = 2 ∨ j = 3 := by omega
    rcases hj' with rfl | rfl | rfl | rfl <;> simp [part, cells4, go_sem]
  have e : ∀ (a b : Int) (w : World), (Op.equalIn 9999 5 (.int .u8 a) (.int .u8 b)).run Try.prog w = .ok (a == b) w := fun a b w => run_equalIn_int w 9998 5 .u8 .u8 _ _ Try.underlying5
  have hd : b = (decide (o 0 = p 0) && decide (o 1 = p 1) && decide (o 2 = p 2) && decide (o 3 = p 3)) := by
    rw [Bool.eq_iff_iff, hb]
    simp
    constructor
    · intro h; exact ⟨⟨⟨h 0 (by decide), h 1 (by decide)⟩, h 2 (by decide)⟩, h 3 (by decide)⟩
    · rintro ⟨⟨⟨h0, h1⟩, h2⟩, h3⟩ j hj
      have hj' : j = 0 ∨ j = 1 ∨ j = 2 ∨ j = 3 := by omega
      rcases hj' with rfl | rfl | rfl | rfl <;> assumption
  rw [hd]
  by_cases h0 : o 0 = p 0 <;> by_cases h1 : o 1 = p 1 <;> by_cases h2 : o 2 = p 2 <;> by_cases h3 : o 3 = p 3 <;> simp [Op.eqItems, q o 0 (by decide), q o 1 (by decide), q o 2 (by decide), q o 3 (by decide), q p 0 (by decide), q p 1 (by decide), q p 2 (by decide), q p 3 (by decide), e, h0, h1, h2, h3] <;> omega

theorem rowB_four (o : Nat → Nat) : rowB o 4 = (cells4 o).toList := rfl

theorem Src.heap {w W : World} {sp : Option Addr} {n : Nat} {f : Nat → Nat} (h : Src w sp n f) (e : W.heap = w.heap) : Src W sp n f := by
  intro hn
  obtain ⟨ad, e', hl, hc⟩ := h hn
  exact ⟨ad, e', by rw [e]; exact hl, fun j hj => (World.cell?_of_block (by rw [e])).trans (hc j hj)⟩

/-- an array of four bytes that lies in a block of its own -/
def A4 (w : World) (b : Nat) (o : Nat → Nat) : Prop := w.heap[b]? = some (.cells (cells4 o) 50 (0, 0))
theorem A4.lt {w : World} {b : Nat} {o : Nat → Nat} (h : A4 w b o) : b < w.heap.size := by
  rcases Nat.lt_or_ge b w.heap.size with h' | h'
  · exact h'
  · unfold A4 at h; rw [Array.getElem?_eq_none h'] at h; cases h
theorem A4.below {w w' : World} {b B : Nat} {o : Nat → Nat} (h : A4 w b o) (hb : Below B w w') (hB : b < B) : A4 w' b o := (hb.block b hB).trans h
theorem A4.cell {w : World} {b : Nat} {o : Nat → Nat} (h : A4 w b o) (j : Nat) {v : Value} (hv : (cells4 o)[j]? = some v) : w.cell? ⟨b, j, none⟩ = some v := by
  rw [cell_of_row w b _ _ 50 (0, 0) h]; exact hv
theorem A4.all {w : World} {b : Nat} {o : Nat → Nat} (h : A4 w b o) : (w.cell? ⟨b, 0, none⟩ = some (.int .u8 ((o 0 : Nat) : Int)) ∧ w.cell? ⟨b, 1, none⟩ = some (.int .u8 ((o 1 : Nat) : Int)) ∧ w.cell? ⟨b, 2, none⟩ = some (.int .u8 ((o 2 : Nat) : Int)) ∧ w.cell? ⟨b, 3, none⟩ = some (.int .u8 ((o 3 : Nat) : Int))) ∧ ∀ j, w.frozen? ⟨b, j, none⟩ = false :=
  ⟨⟨h.cell 0 rfl, h.cell 1 rfl, h.cell 2 rfl, h.cell 3 rfl⟩, fun j => frozen_of_row w _ j _ 50 h⟩
theorem A4.news {w : World} {b : Nat} {o : Nat → Nat} (h : A4 w b o) : ∀ j u, (rowB o 4)[j]? = some u → w.cell? ((⟨b, 0, none⟩ : Addr).add j) = some u := by
  intro j u hj
  rw [Go.WideShapes.add_plain, cell_of_row w b _ _ 50 (0, 0) h]
  rw [rowB_four] at hj
  simpa using hj
theorem A4.src {w : World} {b : Nat} {o : Nat → Nat} (h : A4 w b o) : Src w (some ⟨b, 0, none⟩) 4 o := by
  intro _
  refine ⟨_, rfl, h.lt, fun j hj => h.news j _ (rowB_get o 4 j hj)⟩

/-- a number's bytes, the highest first -/
def big (x j : Nat) : Nat := x / 256 ^ (3 - j) % 256
theorem big_lt (x j : Nat) : big x j < 256 := Nat.mod_lt _ (by decide)
theorem big_int (x : Nat) : ((big x 0 : Nat) : Int) = (x : Int) / 16777216 % 256 ∧ ((big x 1 : Nat) : Int) = (x : Int) / 65536 % 256 ∧ ((big x 2 : Nat) : Int) = (x : Int) / 256 % 256 ∧ ((big x 3 : Nat) : Int) = (x : Int) % 256 := by
  refine ⟨?_, ?_, ?_, ?_⟩ <;> unfold big <;> simp

set_option maxHeartbeats 1000000 in
theorem four_any (x : Nat) (w : World) (hx : x < 4294967296) :
    Calls Try.prog 21 #[.int .u32 (x : Int)] w fun e w' => e = .returned (.agg (cells4 (big x))) ∧ Below w.heap.size w w' := by
  have HX := Lib.hid hx
  clear hx
  obtain ⟨b0, b1, b2, b3⟩ := big_int x
  have H0 := Lib.hid b0
  have H1 := Lib.hid b1
  have H2 := Lib.hid b2
  have H3 := Lib.hid b3
  clear b0 b1 b2 b3
  go_enter Try.func21, Try.ntmps21
  go_wp2
  go_loopw [4, 5] (fun _ i wr => ∃ k : Nat, k ≤ 4 ∧ i = .int .i64 (k : Int) ∧ wr = (w.alloc (.cells #[.int .u8 0, .int .u8 0, .int .u8 0, .int .u8 0] 50)).alloc (.cells (cells4 fun j => if j < k then big x j else 0) 50)) (fun _ i _ => 4 - (intOf i).toNat)
  case atStart => exact ⟨0, Nat.zero_le _, rfl, rfl⟩
  case round =>
    obtain ⟨k, hk, rfl, rfl⟩ := hrel
    have hx := HX.out
    have hk' : k = 0 ∨ k = 1 ∨ k = 2 ∨ k = 3 ∨ k = 4 := by omega
    rcases hk' with rfl | rfl | rfl | rfl | rfl
    · unfold cells4
      go_wp2
      go_roundw
      case rel => exact ⟨1, by omega, by go_num, by rw [show (x : Int) / 16777216 = (x : Int) / 16777216 % 256 by omega, ← H0.out]; rfl⟩
      case measure => simp [intOf]
    · unfold cells4
      go_wp2
      go_roundw
      case rel => exact ⟨2, by omega, by go_num, by rw [← H1.out]; rfl⟩
      case measure => simp [intOf]
    · unfold cells4
      go_wp2
      go_roundw
      case rel => exact ⟨3, by omega, by go_num, by rw [← H2.out]; rfl⟩
      case measure => simp [intOf]
    · unfold cells4
      go_wp2
      go_roundw
      case rel => exact ⟨4, by omega, by go_num, by rw [← H3.out]; rfl⟩
      case measure => simp [intOf]
    · unfold cells4
      go_wp2
      exact bodyPost_ret (v := .agg (cells4 (big x))) (by simp [results, Try.results21, go_sem, cells4]) rfl ⟨rfl, ((Below.refl _ _).alloc (Nat.le_refl _) _).alloc (by simp) _⟩

set_option maxHeartbeats 1000000 in
theorem front_any (sp : Option Addr) (n cap : Nat) (f : Nat → Nat) (w : World) (hn : 4 ≤ n) (hs : Src w sp n f) :
    Calls Try.prog 20 #[.slice sp n cap] w fun e w' => e = .returned (.agg (cells4 f)) ∧ Below w.heap.size w w' := by
  have HS := Lib.hid hs
  clear hs
  have HW : Hid (Below (w.heap.size + 1) (w.alloc (.cells zero4 50)) ((w.alloc (.cells zero4 50)).alloc (.cells zero4 50))) := Lib.hid ((Below.refl _ _).alloc (by simp) _)
  have HWW : Hid (Below w.heap.size w (w.alloc (.cells zero4 50))) := Lib.hid ((Below.refl _ _).alloc (Nat.le_refl _) _)
  have HG : Hid (((w.alloc (.cells zero4 50)).alloc (.cells zero4 50)).heap[w.heap.size + 1]? = some (.cells [Value.int .u8 0, .int .u8 0, .int .u8 0, .int .u8 0].toArray 50 (0, 0))) := Lib.hid (by have := heap_alloc_new (w.alloc (.cells zero4 50)) (.cells zero4 50); rwa [show (w.alloc (.cells zero4 50)).heap.size = w.heap.size + 1 by simp] at this)
  have HS2 := Lib.hid (HS.out.below (HWW.out.trans (HW.out.mono (by omega))))
  have HZ : Hid (A4 (w.alloc (.cells zero4 50)) w.heap.size (fun _ => 0)) := Lib.hid (heap_alloc_new w _)
  go_enter Try.func20, Try.ntmps20
  go_wp2_with (with_reducible refine wpList_copy_splice rfl (.tmp 4) (.tmp 5) 22 22 rfl 5 Try.underlying22 size5 _ _ _ _ _ _ rfl rfl (w.heap.size + 1) 0 [Value.int .u8 0, .int .u8 0, .int .u8 0, .int .u8 0] 50 ?c1 (rowB f 4) ?c2 ?c3 ?c4 ?c5 (w.heap.size + 1) (w.alloc (.cells zero4 50)) ?c6 ?c7 ?_)
  case c1 => exact HG.out
  case c2 => rw [rowB_length]; show 4 = Nat.min n 4; exact (Nat.min_eq_right hn).symm
  case c3 =>
    intro _
    obtain ⟨ad, e, hlt, hc⟩ := HS2.out (by omega)
    refine ⟨ad, e, fun j v hj => ?_⟩
    have hj4 : j < 4 := by
      rcases Nat.lt_or_ge j 4 with h' | h'
      · exact h'
      · rw [List.getElem?_eq_none (by rw [rowB_length]; exact h')] at hj; cases hj
    rw [rowB_get f 4 j hj4] at hj
    injection hj with hj
    rw [← hj]
    exact hc j (by omega)
  case c4 => rw [rowB_length]; decide
  case c5 => exact rowB_one f 4
  case c6 => exact HW.out
  case c7 => exact Nat.le_refl _
  intro w' HN hB
  have HA : Hid (A4 w' (w.heap.size + 1) f) := HN
  have HR : Hid (A4 w' w.heap.size (fun _ => 0)) := Lib.hid (HZ.out.below hB (by omega))
  have HB := Lib.hid (HWW.out.trans (hB.mono (by omega)))
  obtain ⟨⟨c0, c1, c2, c3⟩, fc⟩ := HA.out.all
  obtain ⟨⟨r0, r1, r2, r3⟩, fr⟩ := HR.out.all
  clear hB HN
  go_wp2
  exact bodyPost_ret (v := .agg (cells4 f)) (by simp [results, Try.results20, go_sem, cells4, r0, r1, r2, r3]) rfl ⟨rfl, (((HB.out.setCell (Nat.le_refl _) _).setCell (Nat.le_refl _) _).setCell (Nat.le_refl _) _).setCell (Nat.le_refl _) _⟩

set_option maxHeartbeats 1000000 in
theorem whole_any (sp1 : Option Addr) (cap1 : Nat) (f : Nat → Nat) (sp2 : Option Addr) (n cap2 : Nat) (d : Nat → Nat) (w : World) (hn : n ≤ 1000000) (hf : ∀ j, f j < 256) (hd : ∀ j, d j < 256) (h1 : Src w sp1 8 f) (h2 : Src w sp2 n d) :
    Calls Try.prog 24 #[.slice sp1 8 cap1, .slice sp2 n cap2] w fun e w' => e = .returned (.agg (cells4 (big (CrcMath.more (CrcMath.more 0 f 8) d n)))) ∧ Below w.heap.size w w' := by
  have H1 := Lib.hid h1
  have H2 := Lib.hid h2
  have HF := Lib.hid hf
  have HD := Lib.hid hd
  clear h1 h2 hf hd
  go_enter Try.func24, Try.ntmps24
  go_wp2_with fail
  have HB1 : Hid (Below w.heap.size w (w.alloc (.cells #[.int .u8 0, .int .u8 0, .int .u8 0, .int .u8 0] 50))) := Lib.hid ((Below.refl _ _).alloc (Nat.le_refl _) _)
  refine (sum_any sp1 8 cap1 f _ (by omega) (fun j _ => HF.out j) (H1.out.below HB1.out)).mono ?_
  rintro e w' ⟨rfl, rfl⟩
  have HL := Lib.hid (CrcMath.more_lt 0 f 8 (by decide) fun j _ => HF.out j)
  obtain ⟨s, hs⟩ : ∃ s, s = CrcMath.more 0 f 8 := ⟨_, rfl⟩
  rw [← hs] at HL ⊢
  have HSS := Lib.hid hs
  clear hs
  go_wp2_with fail
  refine (more_any s sp2 n cap2 d _ HL.out hn (fun j _ => HD.out j) (H2.out.below HB1.out)).mono ?_
  rintro e w' ⟨rfl, rfl⟩
  have HL2 := Lib.hid (CrcMath.more_lt s d n HL.out fun j _ => HD.out j)
  obtain ⟨t, ht⟩ : ∃ t, t = CrcMath.more s d n := ⟨_, rfl⟩
  rw [← ht] at HL2 ⊢
  have HT := Lib.hid ht
  clear ht
  go_wp2_with fail
  refine (four_any t _ HL2.out).mono ?_
  rintro e w' ⟨rfl, hb⟩
  have HR : Hid (A4 w' w.heap.size (fun _ => 0)) := Lib.hid (A4.below (w := w.alloc (.cells zero4 50)) (heap_alloc_new w _) hb (by simp))
  have HB := Lib.hid (HB1.out.trans (hb.mono (by simp)))
  obtain ⟨⟨r0, r1, r2, r3⟩, fr⟩ := HR.out.all
  clear hb
  unfold cells4
  go_wp2
  exact bodyPost_ret (v := .agg (cells4 (big t))) (by simp [results, Try.results24, go_sem, cells4, r0, r1, r2, r3]) rfl ⟨by rw [HT.out, HSS.out], (((HB.out.setCell (Nat.le_refl _) _).setCell (Nat.le_refl _) _).setCell (Nat.le_refl _) _).setCell (Nat.le_refl _) _⟩

/-- the number that has these bytes, the highest first -/
def nval (f : Nat → Nat) : Nat → Nat
  | 0 => 0
  | k + 1 => nval f k * 256 + f k
theorem nval_lt (f : Nat → Nat) (hf : ∀ j, f j < 256) (k : Nat) : nval f k < 256 ^ k := by
  induction k with
  | zero => exact Nat.one_pos
  | succ k ih => have := hf k; rw [Nat.pow_succ]; show nval f k * 256 + f k < _; omega
theorem or_byte (x c : Nat) (hx : x < 16777216) (hc : c < 256) : bits .or .u32 ((x : Int) * 256) ((c : Int) % 4294967296) = ((x * 256 + c : Nat) : Int) := by
  rw [show (x : Int) * 256 = ((x * 256 : Nat) : Int) by omega, show (c : Int) % 4294967296 = (c : Int) by omega]
  refine (u32_or_nat _ c (by omega) (by omega)).trans ?_
  have := Nat.two_pow_add_eq_or_of_lt (i := 8) (b := c) hc x
  rw [show x * 256 = 2 ^ 8 * x by omega, ← this]

set_option maxHeartbeats 1000000 in
theorem number_any (f : Nat → Nat) (w : World) (hf : ∀ j, f j < 256) :
    Calls Try.prog 23 #[.agg (cells4 f)] w fun e w' => e = .returned (.int .u32 ((nval f 4 : Nat) : Int)) ∧ Below w.heap.size w w' := by
  have HF := Lib.hid hf
  clear hf
  unfold cells4
  have i0 : ∀ w : World, (Instr.index 50 (.agg #[.int .u8 ((f 0 : Nat) : Int), .int .u8 ((f 1 : Nat) : Int), .int .u8 ((f 2 : Nat) : Int), .int .u8 ((f 3 : Nat) : Int)]) (.int .i64 0)).run Try.prog w = .ok (.int .u8 ((f 0 : Nat) : Int)) w := fun _ => by kernel_rfl
  have i1 : ∀ w : World, (Instr.index 50 (.agg #[.int .u8 ((f 0 : Nat) : Int), .int .u8 ((f 1 : Nat) : Int), .int .u8 ((f 2 : Nat) : Int), .int .u8 ((f 3 : Nat) : Int)]) (.int .i64 1)).run Try.prog w = .ok (.int .u8 ((f 1 : Nat) : Int)) w := fun _ => by kernel_rfl
  have i2 : ∀ w : World, (Instr.index 50 (.agg #[.int .u8 ((f 0 : Nat) : Int), .int .u8 ((f 1 : Nat) : Int), .int .u8 ((f 2 : Nat) : Int), .int .u8 ((f 3 : Nat) : Int)]) (.int .i64 2)).run Try.prog w = .ok (.int .u8 ((f 2 : Nat) : Int)) w := fun _ => by kernel_rfl
  have i3 : ∀ w : World, (Instr.index 50 (.agg #[.int .u8 ((f 0 : Nat) : Int), .int .u8 ((f 1 : Nat) : Int), .int .u8 ((f 2 : Nat) : Int), .int .u8 ((f 3 : Nat) : Int)]) (.int .i64 3)).run Try.prog w = .ok (.int .u8 ((f 3 : Nat) : Int)) w := fun _ => by kernel_rfl
  go_enter Try.func23, Try.ntmps23
  go_wp2
  go_loopw [3, 5, 7] (fun x _ i wr => ∃ k : Nat, k ≤ 4 ∧ i = .int .i64 (k : Int) ∧ x = .int .u32 ((nval f k : Nat) : Int) ∧ wr = w.alloc (.cells #[.int .u8 ((f 0 : Nat) : Int), .int .u8 ((f 1 : Nat) : Int), .int .u8 ((f 2 : Nat) : Int), .int .u8 ((f 3 : Nat) : Int)] 50)) (fun _ _ i _ => 4 - (intOf i).toNat)
  case atStart => exact ⟨0, Nat.zero_le _, rfl, rfl, rfl⟩
  case round =>
    obtain ⟨k, hk, rfl, rfl, rfl⟩ := hrel
    have hk' : k = 4 ∨ k = 0 ∨ k = 1 ∨ k = 2 ∨ k = 3 := by omega
    rcases hk' with rfl | hk'
    · go_wp2
      go_ret
      exact ⟨rfl, (Below.refl _ _).alloc (Nat.le_refl _) _⟩
    · have hl : nval f k < 16777216 := Nat.lt_of_lt_of_le (nval_lt f HF.out k) (Nat.pow_le_pow_right (by decide) (by omega : k ≤ 3))
      have HE := Lib.hid (or_byte _ _ hl (HF.out k))
      have HN : Hid (nval f k * 256 + f k = nval f (k + 1)) := Lib.hid rfl
      generalize nval f k = x at *
      rcases hk' with rfl | rfl | rfl | rfl
      · go_wp2
        go_roundw
        case rel => exact ⟨1, by omega, by go_num, val_int (by rw [← HN.out]; exact HE.out), by first | rfl | trivial⟩
        case measure => simp [intOf]
      · go_wp2
        go_roundw
        case rel => exact ⟨2, by omega, by go_num, val_int (by rw [← HN.out]; exact HE.out), by first | rfl | trivial⟩
        case measure => simp [intOf]
      · go_wp2
        go_roundw
        case rel => exact ⟨3, by omega, by go_num, val_int (by rw [← HN.out]; exact HE.out), by first | rfl | trivial⟩
        case measure => simp [intOf]
      · go_wp2
        go_roundw
        case rel => exact ⟨4, by omega, by go_num, val_int (by rw [← HN.out]; exact HE.out), by first | rfl | trivial⟩
        case measure => simp [intOf]

/-- why a frame has no bytes -/
def fitsOf (k : Int) (n : Nat) : Int := if k < 0 ∨ 255 < k then 14 else if 65536 < n then 3 else 0
theorem fits_any (k : Int) (v : Option Addr) (n cap : Nat) (w : World) (hn : n ≤ 9223372036854775807) :
    Calls Try.prog 18 #[.agg #[.int .i64 k, .slice v n cap]] w fun e w' => e = .returned (.int .i64 (fitsOf k n)) ∧ Below w.heap.size w w' := by
  by_cases h1 : k < 0
  · have HE : Hid (fitsOf k n = 14) := Lib.hid (by unfold fitsOf; rw [if_pos (.inl h1)])
    go_enter Try.func18, Try.ntmps18
    go_wp2
    go_ret
    exact ⟨ret_int HE.out.symm, (Below.refl _ _).alloc (Nat.le_refl _) _⟩
  · by_cases h2 : 255 < k
    · have HE : Hid (fitsOf k n = 14) := Lib.hid (by unfold fitsOf; rw [if_pos (.inr h2)])
      go_enter Try.func18, Try.ntmps18
      go_wp2
      go_ret
      exact ⟨ret_int HE.out.symm, (Below.refl _ _).alloc (Nat.le_refl _) _⟩
    · by_cases h3 : 65536 < n
      · have HE : Hid (fitsOf k n = 3) := Lib.hid (by unfold fitsOf; rw [if_neg (by omega), if_pos h3])
        have h3' : (65536 : Int) < (n : Int) := by omega
        go_enter Try.func18, Try.ntmps18
        go_wp2
        go_ret
        exact ⟨ret_int HE.out.symm, (Below.refl _ _).alloc (Nat.le_refl _) _⟩
      · have HE : Hid (fitsOf k n = 0) := Lib.hid (by unfold fitsOf; rw [if_neg (by omega), if_neg h3])
        have h3' : ¬ (65536 : Int) < (n : Int) := by omega
        go_enter Try.func18, Try.ntmps18
        go_wp2
        go_ret
        exact ⟨ret_int HE.out.symm, (Below.refl _ _).alloc (Nat.le_refl _) _⟩
end Go.Proofs.Ytgplannipnceeaa
