/-
  Contract of laid: a frame's bytes behind a row of our own.
-/
import Derived.Test.YtgplannipnceeaaC
import Derived.Laws.AppendOwnNone
namespace Go.Proofs.Ytgplannipnceeaa
open Go.ChangeShapes Go.WideShapes Go.ChangeAt Go.RowKit

/-- some bytes behind others -/
def cat (f o : Nat → Nat) (n : Nat) (j : Nat) : Nat := if j < n then f j else o (j - n)
theorem rowB_cat (f o : Nat → Nat) (n m : Nat) : rowB f n ++ rowB o m = rowB (cat f o n) (n + m) :=
  rowB_app f o n m _ (fun j hj => by unfold cat; rw [if_pos hj]) (fun j _ => by unfold cat; rw [if_neg (by omega), Nat.add_sub_cancel_left])
theorem cat_lt {f o : Nat → Nat} (hf : ∀ j, f j < 256) (ho : ∀ j, o j < 256) (n j : Nat) : cat f o n j < 256 := by
  unfold cat; split
  · exact hf j
  · exact ho _
theorem cat_lo {f o : Nat → Nat} {n j : Nat} (h : j < n) : cat f o n j = f j := by unfold cat; rw [if_pos h]
theorem cat_hi {f o : Nat → Nat} (n j : Nat) : cat f o n (n + j) = o j := by unfold cat; rw [if_neg (by omega), Nat.add_sub_cancel_left]

/-- the first four bytes, the first eight, and all of a frame -/
def h4 (k n : Nat) : Nat → Nat := big (k * 16777216 + n)
def h8 (k n : Nat) : Nat → Nat := cat (h4 k n) (big (CrcMath.more 0 (h4 k n) 4)) 4
def s3 (k n : Nat) (d : Nat → Nat) : Nat := CrcMath.more (CrcMath.more 0 (h8 k n) 8) d n
def h12 (k n : Nat) (d : Nat → Nat) : Nat → Nat := cat (h8 k n) (big (s3 k n d)) 8
def frm (k n : Nat) (d : Nat → Nat) : Nat → Nat := cat (h12 k n d) d 12
theorem h4_lt (k n j : Nat) : h4 k n j < 256 := big_lt _ _
theorem h8_lt (k n j : Nat) : h8 k n j < 256 := cat_lt (h4_lt k n) (big_lt _) 4 j
theorem h12_lt (k n : Nat) (d : Nat → Nat) (j : Nat) : h12 k n d j < 256 := cat_lt (h8_lt k n) (big_lt _) 8 j
theorem frm_lt (k n : Nat) (d : Nat → Nat) (hd : ∀ j, d j < 256) (j : Nat) : frm k n d j < 256 := cat_lt (h12_lt k n d) hd 12 j

theorem front_int (k n : Nat) (hk : k < 256) (hn : n ≤ 65536) : bits .or .u32 ((k : Int) * 16777216) (n : Int) = ((k * 16777216 + n : Nat) : Int) := by
  rw [show (k : Int) * 16777216 = ((k * 16777216 : Nat) : Int) by omega]
  refine (u32_or_nat _ n (by omega) (by omega)).trans ?_
  have := Nat.two_pow_add_eq_or_of_lt (i := 24) (b := n) (by omega) k
  rw [show k * 16777216 = 2 ^ 24 * k by omega, ← this]

theorem frame_row (F d : Nat → Nat) (m k n x s2 s3v : Nat) (hx : x = k * 16777216 + n) (h2 : s2 = CrcMath.more 0 (big x) 4) (h3 : s3v = CrcMath.more (CrcMath.more 0 (cat (big x) (big s2) 4) 8) d n) :
    rowB (cat F (cat (big x) (big s2) 4) m) (m + 8) ++ rowB (big s3v) 4 ++ rowB d n = rowB (cat F (frm k n d) m) (m + (12 + n)) := by
  subst hx
  subst h2
  subst h3
  have e1 : rowB (cat F (frm k n d) m) (m + (12 + n)) = rowB F m ++ (rowB (h12 k n d) 12 ++ rowB d n) := by rw [← rowB_cat F (frm k n d) m (12 + n)]; congr 1; exact (rowB_cat (h12 k n d) d 12 n).symm
  have e2 : rowB (h12 k n d) 12 = rowB (h8 k n) 8 ++ rowB (big (s3 k n d)) 4 := (rowB_cat _ _ 8 4).symm
  rw [e1, e2, ← rowB_cat F _ m 8, List.append_assoc, List.append_assoc, List.append_assoc]
  rfl

theorem A4.set4 {W : World} {P : Nat} {o q : Nat → Nat} (h : A4 W P o) : A4 ((((W.setCell ⟨P, 0, none⟩ (.int .u8 ((q 0 : Nat) : Int))).setCell ⟨P, 1, none⟩ (.int .u8 ((q 1 : Nat) : Int))).setCell ⟨P, 2, none⟩ (.int .u8 ((q 2 : Nat) : Int))).setCell ⟨P, 3, none⟩ (.int .u8 ((q 3 : Nat) : Int))) P q :=
  heap_setCell_same _ P 3 _ 50 _ (heap_setCell_same _ P 2 _ 50 _ (heap_setCell_same _ P 1 _ 50 _ (heap_setCell_same _ P 0 _ 50 _ h)))

/-- a block of another type stays, whatever is appended to a row of bytes -/
theorem blk_grown {W W' : World} {base g n c b t : Nat} {xs : List Value} {C : Array Value} (hgr : W.grownBy W' (some g)) (hown : W.ownsRow base 5 1 (.slice (some ⟨g, 0, none⟩) n c) n xs) (hb : W.heap[b]? = some (.cells C t (0, 0))) (ht : t ≠ 5) : W'.heap[b]? = some (.cells C t (0, 0)) := by
  have hlt : b < W.heap.size := by
    rcases Nat.lt_or_ge b W.heap.size with h' | h'
    · exact h'
    · rw [Array.getElem?_eq_none h'] at hb; cases hb
  refine (hgr.block b hlt ?_).trans hb
  intro e
  injection e with e
  rcases hown.2 with ⟨h', _⟩ | ⟨g', c', cur, h', _, hh, _⟩
  · cases h'
  · injection h' with h1 h2 h3
    injection h1 with h1
    injection h1 with h1
    rw [← h1, ← e, hb] at hh
    injection hh with hh
    injection hh with _ hh _
    exact ht hh
theorem Src.kept {w w' : World} {sp : Option Addr} {n B : Nat} {f : Nat → Nat} (h : Src w sp n f) (hB : 0 < n → ∀ ad, sp = some ad → ad.block < B) (hb : Below B w w') : Src w' sp n f := by
  intro hn
  obtain ⟨ad, e, hlt, hc⟩ := h hn
  exact ⟨ad, e, Nat.lt_of_lt_of_le hlt hb.size, fun j hj => (hb.cell (by rw [block_add]; exact hB hn ad e)).trans (hc j hj)⟩
theorem own_cap {w : World} {base g n c : Nat} {xs : List Value} (h : w.ownsRow base 5 1 (.slice (some ⟨g, 0, none⟩) n c) n xs) : n ≤ c ∧ c ≤ maxLen ∧ base ≤ g ∧ g < w.heap.size := by
  have hl := h.lt g rfl
  rcases h.2 with ⟨h', _⟩ | ⟨g', c', cur, h', _, _, h1, h2, _⟩
  · cases h'
  · injection h' with _ _ h3
    rw [h3]
    exact ⟨h1, h2, hl⟩
theorem below_own {w w' : World} {base B : Nat} {v : Value} {n : Nat} {xs : List Value} (h : w.ownsRow base 5 1 v n xs) (hb : Below B w w') (hB : w.heap.size ≤ B) : w'.ownsRow base 5 1 v n xs := own_below h (hb.mono hB)

set_option maxHeartbeats 2000000 in
theorem laid_any (base g m cp : Nat) (F : Nat → Nat) (k : Nat) (sp : Option Addr) (n cap : Nat) (d : Nat → Nat) (w : World) (hk : k < 256) (hn : n ≤ 65536) (hm : m ≤ 1000000) (hd : ∀ j, d j < 256) (hs : Src w sp n d) (hsp : sp = none → n = 0 ∧ cap = 0)
    (hown : w.ownsRow base 5 1 (.slice (some ⟨g, 0, none⟩) m cp) m (rowB F m)) (hb : base ≤ w.heap.size) (hsd : 0 < n → ∀ ad, sp = some ad → ad.block < base) :
    Calls Try.prog 19 #[.slice (some ⟨g, 0, none⟩) m cp, .agg #[.int .i64 (k : Int), .slice sp n cap]] w fun e w' =>
      ∃ g' cp', e = .returned (.slice (some ⟨g', 0, none⟩) (m + (12 + n)) cp') ∧ w'.ownsRow base 5 1 (.slice (some ⟨g', 0, none⟩) (m + (12 + n)) cp') (m + (12 + n)) (rowB (cat F (frm k n d) m) (m + (12 + n))) ∧ Below base w w' := by
  obtain ⟨i0, hi, hz0, hz1, hz2⟩ := info_parts info5
  have HD := Lib.hid hd
  have HS := Lib.hid hs
  have HP := Lib.hid hsp
  have HSD := Lib.hid hsd
  have HO := Lib.hid hown
  clear hd hs hsp hsd hown
  have hk1 : IntKind.u32.wrap (k : Int) = (k : Int) := by rw [IntKind.wrap_u32']; omega
  have hn1 : IntKind.u32.wrap (n : Int) = (n : Int) := by rw [IntKind.wrap_u32']; omega
  have hx := front_int k n hk hn
  have HX : Hid (k * 16777216 + n < 4294967296) := Lib.hid (by omega)
  obtain ⟨x, ex⟩ : ∃ x, x = k * 16777216 + n := ⟨_, rfl⟩
  rw [← ex] at hx HX
  have HEX := Lib.hid ex
  clear ex
  go_enter Try.func19, Try.ntmps19
  go_wp2_with fail
  refine (four_any x _ HX.out).mono ?_
  rintro e w1 ⟨rfl, hb1⟩
  have HBX1 : Hid (w1.heap[w.heap.size]? = some (.cells #[.int .i64 (k : Int), .slice sp n cap] 24 (0, 0))) := Lib.hid ((hb1.block _ (by simp)).trans (heap_alloc_new w _))
  have HB1 : Hid (Below w.heap.size w w1) := Lib.hid (((Below.refl _ _).alloc (Nat.le_refl _) _).trans (hb1.mono (by simp)))
  clear hb1
  have HA1 : Hid (A4 (w1.alloc (.cells (cells4 (big x)) 50)) w1.heap.size (big x)) := Lib.hid (heap_alloc_new w1 _)
  have HB2 : Hid (Below w1.heap.size w1 (w1.alloc (.cells (cells4 (big x)) 50))) := Lib.hid ((Below.refl _ _).alloc (Nat.le_refl _) _)
  have hp1 : w1.heap.size < (w1.alloc (.cells (cells4 (big x)) 50)).heap.size := by simp
  have hl1 : w.heap.size < w1.heap.size := by
    rcases Nat.lt_or_ge w.heap.size w1.heap.size with h' | h'
    · exact h'
    · have := HBX1.out; rw [Array.getElem?_eq_none h'] at this; cases this
  unfold cells4 at HA1 HB2 hp1 ⊢
  go_wp2_with fail
  generalize (w1.alloc (.cells #[.int .u8 ((big x 0 : Nat) : Int), .int .u8 ((big x 1 : Nat) : Int), .int .u8 ((big x 2 : Nat) : Int), .int .u8 ((big x 3 : Nat) : Int)] 50)) = w2 at *
  have HBX2 : Hid (w2.heap[w.heap.size]? = some (.cells #[.int .i64 (k : Int), .slice sp n cap] 24 (0, 0))) := Lib.hid ((HB2.out.block _ hl1).trans HBX1.out)
  have HBB2 : Hid (Below w.heap.size w w2) := Lib.hid (HB1.out.trans (HB2.out.mono HB1.out.size))
  generalize w1.heap.size = P1 at *
  clear HB1 HBX1 HB2
  refine (sum_any (some ⟨P1, 0, none⟩) 4 4 (big x) w2 (by omega) (fun j _ => big_lt x j) HA1.out.src).mono ?_
  rintro e w' ⟨rfl, rfl⟩
  have HL2 := Lib.hid (CrcMath.more_lt 0 (big x) 4 (by decide) fun j _ => big_lt x j)
  obtain ⟨s2, es2⟩ : ∃ s2, s2 = CrcMath.more 0 (big x) 4 := ⟨_, rfl⟩
  rw [← es2] at HL2 ⊢
  have HS2 := Lib.hid es2
  clear es2
  go_wp2_with fail
  refine (four_any s2 _ HL2.out).mono ?_
  rintro e w3 ⟨rfl, hb3⟩
  have HBX3 : Hid (w3.heap[w.heap.size]? = some (.cells #[.int .i64 (k : Int), .slice sp n cap] 24 (0, 0))) := Lib.hid ((hb3.block _ (by omega)).trans HBX2.out)
  have HA13 := Lib.hid (HA1.out.below hb3 HA1.out.lt)
  have HB3 : Hid (Below w.heap.size w w3) := Lib.hid (HBB2.out.trans (hb3.mono HBB2.out.size))
  have hl3 : w2.heap.size ≤ w3.heap.size := hb3.size
  clear hb3 HBB2 HA1 HBX2
  have HA2 : Hid (A4 (w3.alloc (.cells (cells4 (big s2)) 50)) w3.heap.size (big s2)) := Lib.hid (heap_alloc_new w3 _)
  have HB4' : Hid (Below w3.heap.size w3 (w3.alloc (.cells (cells4 (big s2)) 50))) := Lib.hid ((Below.refl _ _).alloc (Nat.le_refl _) _)
  have hp2 : w3.heap.size < (w3.alloc (.cells (cells4 (big s2)) 50)).heap.size := by simp
  unfold cells4 at HA2 HB4' hp2 ⊢
  have HBX4 : Hid ((w3.alloc (.cells #[.int .u8 ((big s2 0 : Nat) : Int), .int .u8 ((big s2 1 : Nat) : Int), .int .u8 ((big s2 2 : Nat) : Int), .int .u8 ((big s2 3 : Nat) : Int)] 50)).heap[w.heap.size]? = some (.cells #[.int .i64 (k : Int), .slice sp n cap] 24 (0, 0))) := Lib.hid ((HB4'.out.block _ (by omega)).trans HBX3.out)
  have HA14 : Hid (A4 (w3.alloc (.cells #[.int .u8 ((big s2 0 : Nat) : Int), .int .u8 ((big s2 1 : Nat) : Int), .int .u8 ((big s2 2 : Nat) : Int), .int .u8 ((big s2 3 : Nat) : Int)] 50)) P1 (big x)) := Lib.hid (HA13.out.below HB4'.out HA13.out.lt)
  have HB4 : Hid (Below w.heap.size w (w3.alloc (.cells #[.int .u8 ((big s2 0 : Nat) : Int), .int .u8 ((big s2 1 : Nat) : Int), .int .u8 ((big s2 2 : Nat) : Int), .int .u8 ((big s2 3 : Nat) : Int)] 50))) := Lib.hid (HB3.out.trans (HB4'.out.mono HB3.out.size))
  have HO4 := Lib.hid (own_below HO.out HB4.out)
  clear HBX3 HA13 HB3 HB4'
  go_wp2_with (at_builtin; refine wpList_append_own _ rfl _ _ 22 rfl base 5 i0 (.int .u8 0) 1 1 Try.underlying22 hi hz0 hz1 hz2 rfl (by decide) _ m (rowB F m) rfl ?a0 ⟨P1, 0, none⟩ 4 4 (rowB (big x) 4) rfl ?a1 ?a2 ?a3 ?a4 ?a5 ?a6 ?_)
  case a0 => exact HO4.out
  case a1 => rfl
  case a2 => exact HA14.out.news
  case a3 => exact rowB_one _ _
  case a4 => unfold maxLen; omega
  case a5 => omega
  case a6 => exact Nat.le_trans hb HB4.out.size
  intro v5 w5 hown5 hgrow5 _
  rw [rowB_cat] at hown5
  have HBX5 := Lib.hid (blk_grown hgrow5 HO4.out HBX4.out (by decide))
  have HA25 : Hid (A4 w5 w3.heap.size (big s2)) := Lib.hid (blk_grown hgrow5 HO4.out HA2.out (by decide))
  have HB5 : Hid (Below base w w5) := Lib.hid ((HB4.out.mono hb).grown hgrow5 (Nat.le_trans hb HB4.out.size) (fun q hq => (HO4.out.lt q hq).1))
  obtain ⟨g5, cp5, rfl, hg5, hg5'⟩ := hown5.form (by omega)
  have HO5 := Lib.hid hown5
  have hs5 : base ≤ w5.heap.size := by omega
  clear hown5 hgrow5 HBX4 HA14 HB4 HO4 HA2
  generalize w3.heap.size = P2 at *
  go_wp2_with (at_builtin; refine wpList_append_own _ rfl _ _ 22 rfl base 5 i0 (.int .u8 0) 1 1 Try.underlying22 hi hz0 hz1 hz2 rfl (by decide) _ (m + 4) (rowB (cat F (big x) m) (m + 4)) rfl ?a0 ⟨P2, 0, none⟩ 4 4 (rowB (big s2) 4) rfl ?a1 ?a2 ?a3 ?a4 ?a5 ?a6 ?_)
  case a0 => exact HO5.out
  case a1 => rfl
  case a2 => exact HA25.out.news
  case a3 => exact rowB_one _ _
  case a4 => unfold maxLen; omega
  case a5 => omega
  case a6 => exact hs5
  intro v6 w6 hown6 hgrow6 _
  have HBX6 := Lib.hid (blk_grown hgrow6 HO5.out HBX5.out (by decide))
  have HB6 : Hid (Below base w w6) := Lib.hid (HB5.out.grown hgrow6 hs5 (fun q hq => (HO5.out.lt q hq).1))
  rw [← rowB_cat F (big x) m 4, List.append_assoc, rowB_cat, rowB_cat, show m + 4 + 4 = m + 8 by omega] at hown6
  obtain ⟨g6, cp6, rfl, hg6, hg6'⟩ := hown6.form (by omega)
  have HO6 := Lib.hid hown6
  have hs6 : base ≤ w6.heap.size := by omega
  clear hown6 hgrow6 HBX5 HA25 HB5 HO5
  have hc6 := (own_cap HO6.out).1
  have hc6' := (own_cap HO6.out).2.1
  unfold maxLen at hc6'
  have hsz : w.heap.size + 1 ≤ w6.heap.size := by
    rcases Nat.lt_or_ge w.heap.size w6.heap.size with h' | h'
    · exact h'
    · have := HBX6.out; rw [Array.getElem?_eq_none h'] at this; cases this
  have HK : Hid (∀ W, Below (w.heap.size + 1) w6 W → W.cell? ⟨w.heap.size, 1, none⟩ = some (.slice sp n cap)) := Lib.hid fun W hbw => by
    rw [cell_of_row W w.heap.size 1 _ 24 (0, 0) ((hbw.block _ (by omega)).trans HBX6.out)]; rfl
  have HS6 := Lib.hid (HS.out.kept HSD.out HB6.out)
  have HSR : Hid (Src w6 (some ⟨g6, m, none⟩) 8 (cat (big x) (big s2) 4)) := Lib.hid (by
    have h := (own_src HO6.out).part m 8 (by omega)
    rw [Nat.zero_add] at h
    intro h0
    obtain ⟨ad, e, hl, hc⟩ := h h0
    refine ⟨ad, e, hl, fun j hj => ?_⟩
    rw [hc j hj]
    show some (Value.int .u8 ((cat F (cat (big x) (big s2) 4) m (m + j) : Nat) : Int)) = _
    rw [cat_hi])
  have HL8 : Hid (∀ j, cat (big x) (big s2) 4 j < 256) := Lib.hid (cat_lt (big_lt x) (big_lt s2) 4)
  have HWH : Hid (∀ (W : World) c1, Below w6.heap.size w6 W → Calls Try.prog 24 #[.slice (some ⟨g6, m, none⟩) 8 c1, .slice sp n cap] W fun e w' => e = .returned (.agg (cells4 (big (CrcMath.more (CrcMath.more 0 (cat (big x) (big s2) 4) 8) d n)))) ∧ Below W.heap.size W w') :=
    Lib.hid fun W c1 hbw => whole_any _ c1 _ sp n cap d W (by omega) HL8.out HD.out (HSR.out.below hbw) (HS6.out.below hbw)
  obtain ⟨s3v, es3⟩ : ∃ s3v, s3v = CrcMath.more (CrcMath.more 0 (cat (big x) (big s2) 4) 8) d n := ⟨_, rfl⟩
  rw [← es3] at HWH
  have HS3 := Lib.hid es3
  clear es3
  unfold cells4 at HWH
  have hsl1 : (0 : Int) ≤ (m : Int) := by omega
  have hsl2 : (m : Int) ≤ (m : Int) + 8 := by omega
  have hsl3 : (m : Int) + 8 ≤ (cp6 : Int) := by omega
  have hsl4 : ¬ m = cp6 := by omega
  have hsl5 : ¬ cp6 = m := by omega
  have hsz1 : w.heap.size + 1 ≤ (w6.drew.alloc (.cells #[.int .u8 0, .int .u8 0, .int .u8 0, .int .u8 0] 50)).heap.size := Nat.le_trans hsz (by simp)
  have HZ7 : Hid (∀ W, Below (w6.drew.alloc (.cells #[.int .u8 0, .int .u8 0, .int .u8 0, .int .u8 0] 50)).heap.size (w6.drew.alloc (.cells #[.int .u8 0, .int .u8 0, .int .u8 0, .int .u8 0] 50)) W → A4 W w6.heap.size (fun _ => 0)) := Lib.hid fun W hbw => A4.below (w := w6.drew.alloc (.cells #[.int .u8 0, .int .u8 0, .int .u8 0, .int .u8 0] 50)) (heap_alloc_new w6.drew _) hbw (by simp)
  go_wp2
  go_region_held3 (fun W => W.cell? ⟨w.heap.size, 1, none⟩ = some (.slice sp n cap))
    (first
      | exact HK.out _ ((Below.refl _ _).drew)
      | exact HK.out _ (Below.refl _ _)
      | exact HK.out _ (((Below.refl _ _).drew).alloc hsz _)
      | exact HK.out _ (((Below.refl _ _).drew).trans (hb7.mono hsz))
      | exact HK.out _ ((((Below.refl _ _).drew).trans (hb7.mono hsz)).alloc (Nat.le_trans hsz hb7.size) _)
      | exact HK.out _ ((((Below.refl _ _).drew).alloc hsz _).trans (hb7.mono hsz1))
      | exact HK.out _ ((((((((Below.refl _ _).drew).alloc hsz _).trans (hb7.mono hsz1)).setCell hsz _).setCell hsz _).setCell hsz _).setCell hsz _))
    (first
      | (go_at_call 24; refine (HWH.out _ _ ((Below.refl _ _).drew)).mono ?_; rintro e w7 ⟨rfl, hb7⟩)
      | (go_at_call 24; refine (HWH.out _ _ (((Below.refl _ _).drew).alloc (Nat.le_refl _) _)).mono ?_; rintro e w7 ⟨rfl, hb7⟩; obtain ⟨⟨q0, q1, q2, q3⟩, fq⟩ := (HZ7.out _ hb7).all))
  · have HB86 : Hid (Below w6.heap.size w6 (w7.alloc (.cells #[.int .u8 ((big s3v 0 : Nat) : Int), .int .u8 ((big s3v 1 : Nat) : Int), .int .u8 ((big s3v 2 : Nat) : Int), .int .u8 ((big s3v 3 : Nat) : Int)] 50))) := Lib.hid ((((Below.refl _ _).drew).trans hb7).alloc hb7.size _)
    have HA3 : Hid (A4 (w7.alloc (.cells #[.int .u8 ((big s3v 0 : Nat) : Int), .int .u8 ((big s3v 1 : Nat) : Int), .int .u8 ((big s3v 2 : Nat) : Int), .int .u8 ((big s3v 3 : Nat) : Int)] 50)) w7.heap.size (big s3v)) := Lib.hid (heap_alloc_new w7 _)
    clear hb7
    generalize (w7.alloc (.cells #[.int .u8 ((big s3v 0 : Nat) : Int), .int .u8 ((big s3v 1 : Nat) : Int), .int .u8 ((big s3v 2 : Nat) : Int), .int .u8 ((big s3v 3 : Nat) : Int)] 50)) = w8 at *
    generalize w7.heap.size = P3 at *
    have HBX8 := Lib.hid ((HB86.out.block _ (by omega)).trans HBX6.out)
    have HO8 := Lib.hid (own_below HO6.out HB86.out)
    have HB8 : Hid (Below base w w8) := Lib.hid (HB6.out.trans (HB86.out.mono hs6))
    have hs8 : base ≤ w8.heap.size := Nat.le_trans hs6 HB86.out.size
    clear HK HZ7 HWH HSR HS6 HBX6 HO6 HB6 HB86 hsl1 hsl2 hsl3 hsl4 hsl5 hsz1
    go_wp2_with (at_builtin; refine wpList_append_own _ rfl _ _ 22 rfl base 5 i0 (.int .u8 0) 1 1 Try.underlying22 hi hz0 hz1 hz2 rfl (by decide) _ (m + 8) (rowB (cat F (cat (big x) (big s2) 4) m) (m + 8)) rfl ?a0 ⟨P3, 0, none⟩ 4 4 (rowB (big s3v) 4) rfl ?a1 ?a2 ?a3 ?a4 ?a5 ?a6 ?_)
    case a0 => exact HO8.out
    case a1 => rfl
    case a2 => exact HA3.out.news
    case a3 => exact rowB_one _ _
    case a4 => unfold maxLen; omega
    case a5 => omega
    case a6 => exact hs8
    intro v9 w9 hown9 hgrow9 _
    have hbx9 := blk_grown hgrow9 HO8.out HBX8.out (by decide)
    have c9 : w9.cell? ⟨w.heap.size, 1, none⟩ = some (.slice sp n cap) := by rw [cell_of_row w9 w.heap.size 1 _ 24 (0, 0) hbx9]; rfl
    have HB9 : Hid (Below base w w9) := Lib.hid (HB8.out.grown hgrow9 hs8 (fun q hq => (HO8.out.lt q hq).1))
    obtain ⟨g9, cp9, rfl, hg9, hg9'⟩ := hown9.form (by omega)
    have HO9 := Lib.hid hown9
    have hs9 : base ≤ w9.heap.size := by omega
    have HS9 := Lib.hid (HS.out.kept HSD.out HB9.out)
    have HROW := Lib.hid (frame_row F d m k n x s2 s3v HEX.out HS2.out HS3.out)
    clear hown9 hgrow9 HBX8 HO8 HB8 hbx9 HA3
    rcases sp with _ | ad
    · obtain ⟨rfl, rfl⟩ := HP.out rfl
      go_wp2_with (at_builtin; refine wpList_append_own_none rfl _ _ 22 rfl base 5 i0 1 Try.underlying22 hi _ (m + 8 + 4) (rowB (cat F (cat (big x) (big s2) 4) m) (m + 8) ++ rowB (big s3v) 4) rfl HO9.out rfl ?_)
      go_wp2
      go_ret
      refine ⟨g9, cp9, by first | rfl | (rw [show m + (12 + 0) = m + 8 + 4 by omega]), ?_, HB9.out⟩
      have h := HROW.out
      rw [show rowB d 0 = [] from rfl, List.append_nil] at h
      rw [← h, show m + (12 + 0) = m + 8 + 4 by omega]
      exact HO9.out
    · go_wp2_with (at_builtin; refine wpList_append_own _ rfl _ _ 22 rfl base 5 i0 (.int .u8 0) 1 1 Try.underlying22 hi hz0 hz1 hz2 rfl (by decide) _ (m + 8 + 4) (rowB (cat F (cat (big x) (big s2) 4) m) (m + 8) ++ rowB (big s3v) 4) rfl ?a0 ad n cap (rowB d n) rfl ?a1 ?a2 ?a3 ?a4 ?a5 ?a6 ?_)
      case a0 => exact HO9.out
      case a1 => rw [rowB_length]; omega
      case a2 =>
        intro j u hj
        have hjn : j < n := by
          rcases Nat.lt_or_ge j n with h' | h'
          · exact h'
          · rw [List.getElem?_eq_none (by rw [rowB_length]; exact h')] at hj; cases hj
        rw [rowB_get d n j hjn] at hj
        injection hj with hj
        obtain ⟨ad', e', hlt, hcc⟩ := HS9.out (by omega)
        injection e' with e'
        subst e'
        rw [← hj]
        exact hcc j hjn
      case a3 => exact rowB_one _ _
      case a4 => unfold maxLen; omega
      case a5 => omega
      case a6 => exact hs9
      intro v10 w10 hown10 hgrow10 _
      have HB10 : Hid (Below base w w10) := Lib.hid (HB9.out.grown hgrow10 hs9 (fun q hq => (HO9.out.lt q hq).1))
      rw [← List.append_assoc, HROW.out, show m + 8 + 4 + n = m + (12 + n) by omega] at hown10
      obtain ⟨g10, cp10, rfl, hg10, hg10'⟩ := hown10.form (by omega)
      have HO10 := Lib.hid hown10
      clear hown10 hgrow10
      go_wp2
      go_ret
      exact ⟨g10, cp10, rfl, HO10.out, HB10.out⟩
  · have HB86 : Hid (Below w6.heap.size w6 ((((w7.setCell ⟨w6.heap.size, 0, none⟩ (.int .u8 ((big s3v 0 : Nat) : Int))).setCell ⟨w6.heap.size, 1, none⟩ (.int .u8 ((big s3v 1 : Nat) : Int))).setCell ⟨w6.heap.size, 2, none⟩ (.int .u8 ((big s3v 2 : Nat) : Int))).setCell ⟨w6.heap.size, 3, none⟩ (.int .u8 ((big s3v 3 : Nat) : Int)))) := Lib.hid ((((((((Below.refl _ _).drew).alloc (Nat.le_refl _) _).trans (hb7.mono (by simp))).setCell (Nat.le_refl _) _).setCell (Nat.le_refl _) _).setCell (Nat.le_refl _) _).setCell (Nat.le_refl _) _)
    have HA3 : Hid (A4 ((((w7.setCell ⟨w6.heap.size, 0, none⟩ (.int .u8 ((big s3v 0 : Nat) : Int))).setCell ⟨w6.heap.size, 1, none⟩ (.int .u8 ((big s3v 1 : Nat) : Int))).setCell ⟨w6.heap.size, 2, none⟩ (.int .u8 ((big s3v 2 : Nat) : Int))).setCell ⟨w6.heap.size, 3, none⟩ (.int .u8 ((big s3v 3 : Nat) : Int))) w6.heap.size (big s3v)) := Lib.hid (HZ7.out _ hb7).set4
    clear hb7 q0 q1 q2 q3 fq
    generalize ((((w7.setCell ⟨w6.heap.size, 0, none⟩ (.int .u8 ((big s3v 0 : Nat) : Int))).setCell ⟨w6.heap.size, 1, none⟩ (.int .u8 ((big s3v 1 : Nat) : Int))).setCell ⟨w6.heap.size, 2, none⟩ (.int .u8 ((big s3v 2 : Nat) : Int))).setCell ⟨w6.heap.size, 3, none⟩ (.int .u8 ((big s3v 3 : Nat) : Int))) = w8 at *
    obtain ⟨P3, eP3⟩ : ∃ P3, P3 = w6.heap.size := ⟨_, rfl⟩
    rw [← eP3] at HA3 ⊢
    clear eP3
    have HBX8 := Lib.hid ((HB86.out.block _ (by omega)).trans HBX6.out)
    have HO8 := Lib.hid (own_below HO6.out HB86.out)
    have HB8 : Hid (Below base w w8) := Lib.hid (HB6.out.trans (HB86.out.mono hs6))
    have hs8 : base ≤ w8.heap.size := Nat.le_trans hs6 HB86.out.size
    clear HK HZ7 HWH HSR HS6 HBX6 HO6 HB6 HB86 hsl1 hsl2 hsl3 hsl4 hsl5 hsz1
    go_wp2_with (at_builtin; refine wpList_append_own _ rfl _ _ 22 rfl base 5 i0 (.int .u8 0) 1 1 Try.underlying22 hi hz0 hz1 hz2 rfl (by decide) _ (m + 8) (rowB (cat F (cat (big x) (big s2) 4) m) (m + 8)) rfl ?a0 ⟨P3, 0, none⟩ 4 4 (rowB (big s3v) 4) rfl ?a1 ?a2 ?a3 ?a4 ?a5 ?a6 ?_)
    case a0 => exact HO8.out
    case a1 => rfl
    case a2 => exact HA3.out.news
    case a3 => exact rowB_one _ _
    case a4 => unfold maxLen; omega
    case a5 => omega
    case a6 => exact hs8
    intro v9 w9 hown9 hgrow9 _
    have hbx9 := blk_grown hgrow9 HO8.out HBX8.out (by decide)
    have c9 : w9.cell? ⟨w.heap.size, 1, none⟩ = some (.slice sp n cap) := by rw [cell_of_row w9 w.heap.size 1 _ 24 (0, 0) hbx9]; rfl
    have HB9 : Hid (Below base w w9) := Lib.hid (HB8.out.grown hgrow9 hs8 (fun q hq => (HO8.out.lt q hq).1))
    obtain ⟨g9, cp9, rfl, hg9, hg9'⟩ := hown9.form (by omega)
    have HO9 := Lib.hid hown9
    have hs9 : base ≤ w9.heap.size := by omega
    have HS9 := Lib.hid (HS.out.kept HSD.out HB9.out)
    have HROW := Lib.hid (frame_row F d m k n x s2 s3v HEX.out HS2.out HS3.out)
    clear hown9 hgrow9 HBX8 HO8 HB8 hbx9 HA3
    rcases sp with _ | ad
    · obtain ⟨rfl, rfl⟩ := HP.out rfl
      go_wp2_with (at_builtin; refine wpList_append_own_none rfl _ _ 22 rfl base 5 i0 1 Try.underlying22 hi _ (m + 8 + 4) (rowB (cat F (cat (big x) (big s2) 4) m) (m + 8) ++ rowB (big s3v) 4) rfl HO9.out rfl ?_)
      go_wp2
      go_ret
      refine ⟨g9, cp9, by first | rfl | (rw [show m + (12 + 0) = m + 8 + 4 by omega]), ?_, HB9.out⟩
      have h := HROW.out
      rw [show rowB d 0 = [] from rfl, List.append_nil] at h
      rw [← h, show m + (12 + 0) = m + 8 + 4 by omega]
      exact HO9.out
    · go_wp2_with (at_builtin; refine wpList_append_own _ rfl _ _ 22 rfl base 5 i0 (.int .u8 0) 1 1 Try.underlying22 hi hz0 hz1 hz2 rfl (by decide) _ (m + 8 + 4) (rowB (cat F (cat (big x) (big s2) 4) m) (m + 8) ++ rowB (big s3v) 4) rfl ?a0 ad n cap (rowB d n) rfl ?a1 ?a2 ?a3 ?a4 ?a5 ?a6 ?_)
      case a0 => exact HO9.out
      case a1 => rw [rowB_length]; omega
      case a2 =>
        intro j u hj
        have hjn : j < n := by
          rcases Nat.lt_or_ge j n with h' | h'
          · exact h'
          · rw [List.getElem?_eq_none (by rw [rowB_length]; exact h')] at hj; cases hj
        rw [rowB_get d n j hjn] at hj
        injection hj with hj
        obtain ⟨ad', e', hlt, hcc⟩ := HS9.out (by omega)
        injection e' with e'
        subst e'
        rw [← hj]
        exact hcc j hjn
      case a3 => exact rowB_one _ _
      case a4 => unfold maxLen; omega
      case a5 => omega
      case a6 => exact hs9
      intro v10 w10 hown10 hgrow10 _
      have HB10 : Hid (Below base w w10) := Lib.hid (HB9.out.grown hgrow10 hs9 (fun q hq => (HO9.out.lt q hq).1))
      rw [← List.append_assoc, HROW.out, show m + 8 + 4 + n = m + (12 + n) by omega] at hown10
      obtain ⟨g10, cp10, rfl, hg10, hg10'⟩ := hown10.form (by omega)
      have HO10 := Lib.hid hown10
      clear hown10 hgrow10
      go_wp2
      go_ret
      exact ⟨g10, cp10, rfl, HO10.out, HB10.out⟩
end Go.Proofs.Ytgplannipnceeaa
