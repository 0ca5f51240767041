/-
  Contract of Encode; the head of each law.
-/
import Derived.Test.YtgplannipnceeaaD
import Derived.Laws.MakeOwn
namespace Go.Proofs.Ytgplannipnceeaa
open Go.ChangeShapes Go.WideShapes Go.ChangeAt Go.RowKit

/-- make([]byte, 0, c) -/
theorem make0 (c : Nat) (hc : c ≤ 10000000) : ∃ cur : Array Value, cur.size = c ∧ ∀ w : World, (Instr.makeSlice 22 (.int .i64 0) (.int .i64 (c : Int))).run Try.prog w = .ok (.slice (some ⟨w.heap.size, 0, none⟩) 0 c) (w.alloc (.cells cur 5)) := by
  obtain ⟨i0, hi, hz0, hz1, hz2⟩ := info_parts info5
  refine ⟨madeCells (Value.int .u8 0).cells (c * i0.size), by rw [size_madeCells, hz1, Nat.mul_one], fun w => ?_⟩
  have h := run_make (P := Try.prog) w 22 5 i0 (.int .u8 0) Try.underlying22 hi hz0 .i64 .i64 0 (c : Int) (Int.le_refl _) (by omega) (by rw [hz2]; omega) (by omega)
  simpa using h

theorem own_mono {w : World} {b b' n : Nat} {v : Value} {xs : List Value} (h : w.ownsRow b 5 1 v n xs) (hb : b' ≤ b) : w.ownsRow b' 5 1 v n xs := by
  refine ⟨h.1, ?_⟩
  rcases h.2 with h0 | ⟨g, cap, cur, hv, hg, hrest⟩
  · exact .inl h0
  · exact .inr ⟨g, cap, cur, hv, Nat.le_trans hb hg, hrest⟩

theorem src_blk {w : World} {sp : Option Addr} {n : Nat} {f : Nat → Nat} (h : Src w sp n f) : 0 < n → ∀ ad, sp = some ad → ad.block < w.heap.size := by
  intro hn ad e
  obtain ⟨ad', e', hl, _⟩ := h hn
  rw [e] at e'; injection e' with e'; rw [e']; exact hl

theorem encode_no (k : Int) (sp : Option Addr) (n cap : Nat) (w : World) (hn : n ≤ 9223372036854775807) (h : ¬ fitsOf k n = 0) :
    Calls Try.prog 10 #[.agg #[.int .i64 k, .slice sp n cap]] w fun e w' => e = .returned (.tuple #[.slice none 0 0, .int .i64 (fitsOf k n)]) ∧ Below w.heap.size w w' := by
  go_enter Try.func10, Try.ntmps10
  go_wp2_with fail
  refine (fits_any k sp n cap _ hn).mono ?_
  rintro e w1 ⟨rfl, hb⟩
  have HB := Lib.hid (((Below.refl w.heap.size w).alloc (Nat.le_refl _) _).trans (hb.mono (by simp)))
  clear hb
  obtain ⟨q, eq⟩ : ∃ q, q = fitsOf k n := ⟨_, rfl⟩
  rw [← eq] at h ⊢
  have HQ := Lib.hid eq
  clear eq
  have hq : (q == 0) = false := by rw [beq_eq_false_iff_ne]; exact h
  go_wp2
  go_ret2
  exact ⟨by rw [← HQ.out]; rfl, HB.out⟩

set_option maxHeartbeats 1000000 in
theorem encode_ok (k : Nat) (sp : Option Addr) (n cap : Nat) (d : Nat → Nat) (w : World) (hk : k < 256) (hn : n ≤ 65536) (hd : ∀ j, d j < 256) (hs : Src w sp n d) (hsp : sp = none → n = 0 ∧ cap = 0) :
    Calls Try.prog 10 #[.agg #[.int .i64 (k : Int), .slice sp n cap]] w fun e w' => ∃ g cp, e = .returned (.tuple #[.slice (some ⟨g, 0, none⟩) (12 + n) cp, .int .i64 0]) ∧ w'.ownsRow w.heap.size 5 1 (.slice (some ⟨g, 0, none⟩) (12 + n) cp) (12 + n) (rowB (frm k n d) (12 + n)) ∧ Below w.heap.size w w' := by
  have HD := Lib.hid hd
  have HS := Lib.hid hs
  have HP := Lib.hid hsp
  clear hd hs hsp
  obtain ⟨cur, hcur, hmk⟩ := make0 (12 + n) (by omega)
  have HCU := Lib.hid hcur
  clear hcur
  rw [show (((12 + n : Nat)) : Int) = 12 + (n : Int) by omega] at hmk
  have hf0 : fitsOf (k : Int) n = 0 := by unfold fitsOf; rw [if_neg (by omega), if_neg (by omega)]
  have hw : IntKind.i64.wrap (12 + (n : Int)) = 12 + (n : Int) := by rw [IntKind.wrap_i64]; omega
  go_enter Try.func10, Try.ntmps10
  go_wp2_with fail
  refine (fits_any (k : Int) sp n cap _ (by omega)).mono ?_
  rintro e w1 ⟨rfl, hb⟩
  rw [hf0]
  have HBX : Hid (w1.heap[w.heap.size]? = some (.cells #[.int .i64 (k : Int), .slice sp n cap] 24 (0, 0))) := Lib.hid ((hb.block _ (by simp)).trans (heap_alloc_new w _))
  have HB := Lib.hid (((Below.refl w.heap.size w).alloc (Nat.le_refl _) _).trans (hb.mono (by simp)))
  clear hb
  have hl1 : w.heap.size < w1.heap.size := by
    rcases Nat.lt_or_ge w.heap.size w1.heap.size with h' | h'
    · exact h'
    · have := HBX.out; rw [Array.getElem?_eq_none h'] at this; cases this
  have HK : Hid (∀ W, Below w1.heap.size w1 W → W.cell? ⟨w.heap.size, 0, none⟩ = some (.int .i64 (k : Int)) ∧ W.cell? ⟨w.heap.size, 1, none⟩ = some (.slice sp n cap)) := Lib.hid fun W hbw => by
    have hbx := (hbw.block _ hl1).trans HBX.out
    exact ⟨by rw [cell_of_row W w.heap.size 0 _ 24 (0, 0) hbx]; rfl, by rw [cell_of_row W w.heap.size 1 _ 24 (0, 0) hbx]; rfl⟩
  have HLAID : Hid (Calls Try.prog 19 #[.slice (some ⟨w1.heap.size, 0, none⟩) 0 (12 + n), .agg #[.int .i64 (k : Int), .slice sp n cap]] (w1.drew.alloc (.cells cur 5)) fun e w' =>
      ∃ g' cp', e = .returned (.slice (some ⟨g', 0, none⟩) (12 + n) cp') ∧ w'.ownsRow w1.heap.size 5 1 (.slice (some ⟨g', 0, none⟩) (12 + n) cp') (12 + n) (rowB (frm k n d) (12 + n)) ∧ Below w1.heap.size (w1.drew.alloc (.cells cur 5)) w') := Lib.hid (by
    have hbw : Below w1.heap.size w1 (w1.drew.alloc (.cells cur 5)) := ((Below.refl _ _).drew).alloc (Nat.le_refl _) _
    have hs1 := HS.out.below HB.out
    have h := laid_any w1.heap.size w1.heap.size 0 (12 + n) (fun _ => 0) k sp n cap d (w1.drew.alloc (.cells cur 5)) hk hn (by omega) HD.out (hs1.below hbw) HP.out
      (World.ownsRow_made w1.drew cur (12 + n) (Nat.le_refl _) (by unfold maxLen; omega) (by rw [HCU.out, Nat.mul_one])) (by simp) (src_blk hs1)
    refine h.mono ?_
    rintro e w' ⟨g', cp', rfl, ho, hb'⟩
    refine ⟨g', cp', by rw [Nat.zero_add], ?_, hb'⟩
    rw [Nat.zero_add] at ho
    rw [rowB_congr (frm k n d) (cat (fun _ => 0) (frm k n d) 0) (12 + n) (fun j _ => by have := cat_hi (f := fun _ => 0) (o := frm k n d) 0 j; rw [Nat.zero_add] at this; exact this.symm)]
    exact ho)
  go_wp2
  go_region_held3 (fun W => W.cell? ⟨w.heap.size, 0, none⟩ = some (.int .i64 (k : Int)) ∧ W.cell? ⟨w.heap.size, 1, none⟩ = some (.slice sp n cap))
    (first
      | exact HK.out _ ((Below.refl _ _).drew)
      | exact HK.out _ (Below.refl _ _)
      | exact HK.out _ (((Below.refl _ _).drew).alloc (Nat.le_refl _) _)
      | exact HK.out _ ((((Below.refl _ _).drew).alloc (Nat.le_refl _) _).trans hb7))
    (first
      | (go_at_call 19; refine HLAID.out.mono ?_; rintro e w7 ⟨g7, cp7, rfl, hown7, hb7⟩))
  have HO7 := Lib.hid (own_mono hown7 (Nat.le_of_lt hl1))
  have HB7 := Lib.hid (HB.out.trans (((((Below.refl _ _).drew).alloc (Nat.le_refl _) _).trans hb7).mono HB.out.size))
  clear hown7 hb7
  go_wp2
  go_ret2
  exact ⟨g7, cp7, rfl, HO7.out, HB7.out⟩

/-- the head of each law: the document's example -/
theorem head_any (w : World) : Calls Try.prog 8 #[] w fun e w' => e = .returned (.bool true) ∧ Below w.heap.size w w' := by
  have hn : ∀ sp, Src w sp 0 (fun _ => 0) := fun sp h => absurd h (by decide)
  have e0 : frm 1 0 (fun _ => 0) 0 = 1 := by decide
  have e3 : frm 1 0 (fun _ => 0) 3 = 0 := by decide
  go_enter Try.func8, Try.ntmps8
  go_wp2_with fail
  refine (encode_ok 1 none 0 0 (fun _ => 0) w (by decide) (by decide) (fun _ => by decide) (hn none) (fun _ => ⟨rfl, rfl⟩)).mono ?_
  rintro e w1 ⟨g, cp, rfl, hown, hb⟩
  have HB := Lib.hid hb
  have c0 := (hown.cellAt 0 (by decide)).trans (rowB_get _ 12 0 (by decide))
  have c3 := (hown.cellAt 3 (by decide)).trans (rowB_get _ 12 3 (by decide))
  rw [e0] at c0
  rw [e3] at c3
  clear hb hown hn e0 e3
  go_wp2
  go_ret
  exact ⟨rfl, HB.out⟩
end Go.Proofs.Ytgplannipnceeaa
