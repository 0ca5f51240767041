/-
  CrcPatches' walk: four bytes behind a text, and no other four.
-/
import Derived.Test.YtaefmncngcogkaaE
import Derived.ChangeKeysEq
namespace Go.Proofs.Ytaefmncngcogkaa
open Go.ChangeShapes Go.WideShapes Go.ChangeAt Go.RowKit

/-- Copy: a row of its own, that is there even if it is empty -/
def CopySome (n : Nat) (f : Nat → Nat) (w : World) (e : Ending) (w' : World) : Prop :=
  ∃ g cap', e = .returned (.slice (some ⟨g, 0, none⟩) n cap') ∧ w.heap.size ≤ g ∧ w'.ownsRow w.heap.size 5 1 (.slice (some ⟨g, 0, none⟩) n cap') n (rowB f n) ∧ Below w.heap.size w w'

theorem rcopy_some (sp : Option Addr) (n cap : Nat) (f : Nat → Nat) (w : World) (hn : n ≤ 1000000) (hs : Src w sp n f) (hsp : sp = none → n = 0 ∧ cap = 0) :
    Calls Try.prog 10 #[.slice sp n cap] w (CopySome n f w) := by
  obtain ⟨i0, hi, hz0, hz1, hz2⟩ := info_parts info5
  cases sp with
  | none =>
    obtain ⟨rfl, rfl⟩ := hsp rfl
    clear hsp hs
    go_enter Try.func10, Try.ntmps10
    go_wp2
    go_ret
    exact ⟨_, _, rfl, Nat.le_refl _, World.ownsRow_lit w #[] 0 (Nat.le_refl _) (Nat.zero_le _) rfl, (Below.refl _ _).alloc (Nat.le_refl _) _⟩
  | some ad =>
    have HS := Lib.hid hs
    clear hs hsp
    go_enter Try.func10, Try.ntmps10
    go_wp2_with (at_builtin; refine wpList_append_own _ rfl _ _ 22 rfl w.heap.size 5 i0 (.int .u8 0) 1 1 Try.underlying22 hi hz0 hz1 hz2 rfl (by decide) _ 0 [] rfl ?c0 ad n cap (rowB f n) rfl ?cl ?c1 ?c2 ?c3 ?c4 ?c5 ?_)
    case c0 => exact World.ownsRow_lit w #[] 0 (Nat.le_refl _) (Nat.zero_le _) rfl
    case cl => rw [rowB_length]; omega
    case c1 =>
      intro j u hj
      have hjn : j < n := by
        rcases Nat.lt_or_ge j n with h' | h'
        · exact h'
        · rw [List.getElem?_eq_none (by rw [rowB_length]; exact h')] at hj; cases hj
      rw [rowB_get f n j hjn] at hj
      injection hj with hj
      obtain ⟨ad', e', hlt, hc⟩ := HS.out (by omega)
      injection e' with e'
      subst e'
      rw [World.cell?_alloc_lt _ _ _ (by rw [block_add]; exact hlt), ← hj]
      exact hc j hjn
    case c2 => exact rowB_one _ _
    case c3 => unfold maxLen; omega
    case c4 => omega
    case c5 => simp
    intro v5 w5 hown5 hgrow5 hne5
    have HB5 : Hid (Below w.heap.size w w5) := Lib.hid (((Below.refl _ _).alloc (Nat.le_refl _) _).grown hgrow5 (by simp) (fun q hq => by simp [Value.ownBlock] at hq; omega))
    obtain ⟨g5, cap', rfl, hg5⟩ : ∃ g cap', v5 = .slice (some ⟨g, 0, none⟩) n cap' ∧ w.heap.size ≤ g := by
      rcases hown5.2 with ⟨e, _⟩ | ⟨g, cp, cur, e, hg, _⟩
      · exact absurd e (by simpa using hne5)
      · exact ⟨g, cp, e, hg⟩
    have HO := Lib.hid hown5
    clear hown5 hgrow5 hne5
    go_wp2
    go_ret
    exact ⟨g5, cap', rfl, hg5, HO.out, HB5.out⟩


/-- an array of four bytes, as cells -/
def cells4 (o : Nat → Nat) : Array Value := #[.int .u8 ((o 0 : Nat) : Int), .int .u8 ((o 1 : Nat) : Int), .int .u8 ((o 2 : Nat) : Int), .int .u8 ((o 3 : Nat) : Int)]

theorem cells5 : Try.prog.cellsOf 5 = 1 := by kernel_rfl
theorem eq4 (o p : Nat → Nat) (b : Bool) (hb : b = true ↔ ∀ j, j < 4 → o j = p j) (w : World) : (Op.equalIn 10000 32 (.agg (cells4 o)) (.agg (cells4 p))).run Try.prog w = .ok b w := by
  obtain ⟨i0, hi, _, _, _⟩ := info_parts info5
  have hh := run_equalIn_array (P := Try.prog) w 9999 (cells4 o) (cells4 p) Try.underlying32 hi
  refine hh.trans ?_
  rw [cells5]
  have hr : List.range 4 = [0, 1, 2, 3] := rfl
  rw [hr]
  have q : ∀ (f : Nat → Nat) (j : Nat), j < 4 → ∀ w : World, (part 5 (cells4 f) j).run Try.prog w = .ok (.int .u8 ((f j : Nat) : Int)) w := by
    intro f j hj w
    have hj' : j = 0 ∨ j = 1 ∨ j = 2 ∨ j = 3 := by omega
    rcases hj' with rfl | rfl | rfl | rfl <;> simp [part, cells4, go_sem]
  have e : ∀ (a b : Int) (w : World), (Op.equalIn 9999 5 (.int .u8 a) (.int .u8 b)).run Try.prog w = .ok (a == b) w := fun a b w => run_equalIn_int w 9998 5 .u8 .u8 _ _ Try.underlying5
  have hd : b = (decide (o 0 = p 0) && decide (o 1 = p 1) && decide (o 2 = p 2) && decide (o 3 = p 3)) := by
    rw [Bool.eq_iff_iff, hb]
    simp
    constructor
    · intro h; exact ⟨⟨⟨h 0 (by decide), h 1 (by decide)⟩, h 2 (by decide)⟩, h 3 (by decide)⟩
    · rintro ⟨⟨⟨h0, h1⟩, h2⟩, h3⟩ j hj
      have hj' : j = 0 ∨ j = 1 ∨ j = 2 ∨ j = 3 := by omega
      rcases hj' with rfl | rfl | rfl | rfl <;> assumption
  rw [hd]
  by_cases h0 : o 0 = p 0 <;> by_cases h1 : o 1 = p 1 <;> by_cases h2 : o 2 = p 2 <;> by_cases h3 : o 3 = p 3 <;> simp [Op.eqItems, q o 0 (by decide), q o 1 (by decide), q o 2 (by decide), q o 3 (by decide), q p 0 (by decide), q p 1 (by decide), q p 2 (by decide), q p 3 (by decide), e, h0, h1, h2, h3] <;> omega

theorem rowB_four (o : Nat → Nat) : rowB o 4 = (cells4 o).toList := rfl

theorem Src.heap {w W : World} {sp : Option Addr} {n : Nat} {f : Nat → Nat} (h : Src w sp n f) (e : W.heap = w.heap) : Src W sp n f := by
  intro hn
  obtain ⟨ad, e', hl, hc⟩ := h hn
  exact ⟨ad, e', by rw [e]; exact hl, fun j hj => (World.cell?_of_block (by rw [e])).trans (hc j hj)⟩

/-- an array of four bytes that lies in a block of its own -/
def A4 (w : World) (b : Nat) (o : Nat → Nat) : Prop := w.heap[b]? = some (.cells (cells4 o) 32 (0, 0))
theorem A4.lt {w : World} {b : Nat} {o : Nat → Nat} (h : A4 w b o) : b < w.heap.size := by
  rcases Nat.lt_or_ge b w.heap.size with h' | h'
  · exact h'
  · unfold A4 at h; rw [Array.getElem?_eq_none h'] at h; cases h
theorem A4.below {w w' : World} {b B : Nat} {o : Nat → Nat} (h : A4 w b o) (hb : Below B w w') (hB : b < B) : A4 w' b o := (hb.block b hB).trans h
theorem A4.news {w : World} {b : Nat} {o : Nat → Nat} (h : A4 w b o) : ∀ j u, (rowB o 4)[j]? = some u → w.cell? ((⟨b, 0, none⟩ : Addr).add j) = some u := by
  intro j u hj
  rw [Go.WideShapes.add_plain, cell_of_row w b _ _ 32 (0, 0) h]
  rw [rowB_four] at hj
  simpa using hj

theorem A4.cell {w : World} {b : Nat} {o : Nat → Nat} (h : A4 w b o) (j : Nat) {v : Value} (hv : (cells4 o)[j]? = some v) : w.cell? ⟨b, j, none⟩ = some v := by
  rw [cell_of_row w b _ _ 32 (0, 0) h]; exact hv

/-- four bytes behind a text -/
def cat (f o : Nat → Nat) (n : Nat) (j : Nat) : Nat := if j < n then f j else o (j - n)
theorem rowB_cat (f o : Nat → Nat) (n : Nat) : rowB f n ++ rowB o 4 = rowB (cat f o n) (n + 4) :=
  rowB_app f o n 4 _ (fun j hj => by unfold cat; rw [if_pos hj]) (fun j _ => by unfold cat; rw [if_neg (by omega), Nat.add_sub_cancel_left])
theorem more_cat (f o : Nat → Nat) (n : Nat) : CrcMath.more 0 (cat f o n) (n + 4) = CrcMath.more (CrcMath.more 0 f n) o 4 := by
  rw [CrcMath.more_add, CrcMath.more_congr 0 (cat f o n) f n (fun j hj => by unfold cat; rw [if_pos hj])]
  exact CrcMath.more_congr _ _ _ 4 (fun j _ => by show cat f o n (n + j) = _; unfold cat; rw [if_neg (by omega), Nat.add_sub_cancel_left])
theorem cat_lt {f o : Nat → Nat} (hf : ∀ j, f j < 256) (ho : ∀ j, o j < 256) (n j : Nat) : cat f o n j < 256 := by
  unfold cat; split
  · exact hf j
  · exact ho _

theorem sum_cat (f o : Nat → Nat) (n : Nat) (hn : n ≤ 3000) (hf : ∀ j, f j < 256) (ho : ∀ j, o j < 256) (base : Nat) (W : World) (g c : Nat) (h : W.ownsRow base 5 1 (.slice (some ⟨g, 0, none⟩) (n + 4) c) (n + 4) (rowB f n ++ rowB o 4)) :
    Calls Try.prog 11 #[.slice (some ⟨g, 0, none⟩) (n + 4) c] W fun e w' => e = .returned (.int .u32 ((CrcMath.more (CrcMath.more 0 f n) o 4 : Nat) : Int)) ∧ W = w' := by
  rw [rowB_cat] at h
  have := sum_any (some ⟨g, 0, none⟩) (n + 4) c (cat f o n) W (by omega) (fun j _ => cat_lt hf ho n j) (own_src h)
  rw [more_cat] at this
  exact this

set_option maxHeartbeats 1000000 in
theorem patches_main (a0 : Option Addr) (n cap x : Nat) (f o : Nat → Nat) (w : World) (hn : n ≤ 3000) (hx : x < 4294967296) (hf : ∀ j, f j < 256) (ho : ∀ j, o j < 256) (hs : Src w a0 n f) (hsp : a0 = none → n = 0 ∧ cap = 0) :
    Calls Try.prog 5 #[.slice a0 n cap, .int .u32 (x : Int), .agg (cells4 o)] w fun e w' => e = .returned (.bool true) ∧ Below w.heap.size w w' := by
  obtain ⟨i0, hi, hz0, hz1, hz2⟩ := info_parts info5
  have HF := Lib.hid hf
  have HO := Lib.hid ho
  have HS := Lib.hid hs
  have HX := Lib.hid hx
  have HP := Lib.hid hsp
  clear hf ho hs hx hsp
  have h1 : ¬ (3000 : Int) < (n : Int) := by omega
  unfold cells4
  go_enter Try.func5, Try.ntmps5
  go_wp2_with fail
  refine (head_any _).mono ?_
  rintro e w1 ⟨rfl, hb⟩
  have HA1 : Hid (A4 w1 w.heap.size o) := Lib.hid (A4.below (w := w.alloc (.cells (cells4 o) 32)) (heap_alloc_new w _) hb (by simp))
  have HB := Lib.hid (((Below.refl w.heap.size w).alloc (Nat.le_refl _) (.cells (cells4 o) 32)).trans (hb.mono (by simp)))
  have HS1 := Lib.hid (HS.out.below HB.out)
  clear hb
  go_wp2_with fail
  refine (sum_any a0 n cap f w1 (by omega) (fun j _ => HF.out j) HS1.out).mono ?_
  rintro e w' ⟨rfl, rfl⟩
  have HSL := Lib.hid (CrcMath.more_lt 0 f n (by decide) fun j _ => HF.out j)
  obtain ⟨s, es⟩ : ∃ s, s = CrcMath.more 0 f n := ⟨_, rfl⟩
  rw [← es] at HSL ⊢
  have ES := Lib.hid es
  clear es
  go_wp2_with fail
  refine (patch_any s x w1 HSL.out HX.out).mono ?_
  rintro e w2 ⟨rfl, hb2⟩
  have HPA := Lib.hid (CrcMath.more_patch s x HSL.out HX.out)
  have HPO := Lib.hid (CrcMath.patch_only s x HSL.out HX.out o (fun j _ => HO.out j))
  have HPL : Hid (∀ j, CrcMath.four (CrcMath.patch s x) j < 256) := Lib.hid fun j => Nat.mod_lt _ (by decide)
  rw [show fourA (CrcMath.patch s x) = .agg (cells4 (CrcMath.four (CrcMath.patch s x))) from rfl]
  generalize CrcMath.four (CrcMath.patch s x) = p at *
  have HB2 := Lib.hid (HB.out.trans (hb2.mono HB.out.size))
  have HA2 := Lib.hid (HA1.out.below hb2 HA1.out.lt)
  have HAP : Hid (A4 (w2.alloc (.cells (cells4 p) 32)) w2.heap.size p) := Lib.hid (heap_alloc_new w2 _)
  have HA3 : Hid (A4 (w2.alloc (.cells (cells4 p) 32)) w.heap.size o) := Lib.hid (HA2.out.below ((Below.refl w2.heap.size w2).alloc (Nat.le_refl _) _) HA2.out.lt)
  have HB3 : Hid (Below w.heap.size w (w2.alloc (.cells (cells4 p) 32))) := Lib.hid (HB2.out.alloc HB2.out.size _)
  have HS3 := Lib.hid (HS.out.below HB3.out)
  have HSUM := Lib.hid (sum_cat f p n (by omega) HF.out HPL.out)
  rw [← ES.out, HPA.out] at HSUM
  have HSUMO := Lib.hid (sum_cat f o n (by omega) HF.out HO.out)
  rw [← ES.out] at HSUMO
  clear hb2
  unfold cells4 at HAP HA3 HB3 HS3 ⊢
  go_wp2
  have hPl : w2.heap.size < (w2.alloc (.cells #[.int .u8 ((p 0 : Nat) : Int), .int .u8 ((p 1 : Nat) : Int), .int .u8 ((p 2 : Nat) : Int), .int .u8 ((p 3 : Nat) : Int)] 32)).heap.size := by simp
  generalize (w2.alloc (.cells #[.int .u8 ((p 0 : Nat) : Int), .int .u8 ((p 1 : Nat) : Int), .int .u8 ((p 2 : Nat) : Int), .int .u8 ((p 3 : Nat) : Int)] 32)) = w3 at *
  generalize w2.heap.size = P at *
  clear HA1 HB HS1 HB2 HA2
  have HCOPY : Hid (∀ W : World, W.heap = w3.heap → Calls Try.prog 10 #[.slice a0 n cap] W (CopySome n f W)) :=
    Lib.hid fun W e => rcopy_some a0 n cap f W (by omega) (HS3.out.heap e) HP.out
  have HNEW : Hid (∀ W0 W, W0.heap = w3.heap → Below w3.heap.size W0 W → ∀ j u, (rowB p 4)[j]? = some u → W.cell? ((⟨P, 0, none⟩ : Addr).add j) = some u) := Lib.hid fun W0 W e hb => (A4.below (w := W0) (by unfold A4; rw [e]; exact HAP.out) hb hPl).news
  go_region_held3 (fun _ => True) (trivial)
    (first
      | (go_at_call 10; refine (HCOPY.out _ (by rfl)).mono ?_; rintro e w4 ⟨g4, cap4, rfl, hg4, hown, hb4⟩)
      | (refine step_append_lies _ (by rfl) _ _ 22 (by rfl) w3.heap.size 5 i0 (.int .u8 0) 1 1 Try.underlying22 hi hz0 hz1 hz2 rfl (by decide) _ n (rowB f n) (by rfl) hown ⟨P, 0, none⟩ 4 4 (rowB p 4) (by rfl) (by rfl) (HNEW.out _ _ (by rfl) hb4) (rowB_one _ _) (by omega) (by unfold maxLen; omega) (by omega) hb4.size _ rfl ?_; intro g5 cap5 w5 hown5 hgrow5 hat5 hlt5)
      | (go_at_call 11; refine (HSUM.out _ _ g5 cap5 hown5).mono ?_; rintro e w6 ⟨rfl, rfl⟩))
  have hb5 : Below w3.heap.size w3.drew w5 := hb4.grown hgrow5 hb4.size (fun q hq => by have := (hown.lt q hq).1; exact this)
  have HB5 : Hid (Below w.heap.size w w5) := Lib.hid (HB3.out.drew.trans (hb5.mono HB3.out.size))
  have HP5 : Hid (A4 w5 P p) := Lib.hid (A4.below (w := w3.drew) HAP.out hb5 hPl)
  have HO5 : Hid (A4 w5 w.heap.size o) := Lib.hid (A4.below (w := w3.drew) HA3.out hb5 HA3.out.lt)
  have HS5 := Lib.hid (HS.out.below HB5.out)
  clear hb5 hown5 hgrow5 hat5 hown hb4 HNEW HCOPY HAP HA3 HB3 HS3 HSUM
  go_wp2
  have HC5 : Hid (∀ W : World, A4 W w.heap.size o → A4 W P p → W.cell? ⟨w.heap.size, 0, none⟩ = some (.int .u8 ((o 0 : Nat) : Int)) ∧ W.cell? ⟨w.heap.size, 1, none⟩ = some (.int .u8 ((o 1 : Nat) : Int)) ∧ W.cell? ⟨w.heap.size, 2, none⟩ = some (.int .u8 ((o 2 : Nat) : Int)) ∧ W.cell? ⟨w.heap.size, 3, none⟩ = some (.int .u8 ((o 3 : Nat) : Int)) ∧ W.cell? ⟨P, 0, none⟩ = some (.int .u8 ((p 0 : Nat) : Int)) ∧ W.cell? ⟨P, 1, none⟩ = some (.int .u8 ((p 1 : Nat) : Int)) ∧ W.cell? ⟨P, 2, none⟩ = some (.int .u8 ((p 2 : Nat) : Int)) ∧ W.cell? ⟨P, 3, none⟩ = some (.int .u8 ((p 3 : Nat) : Int))) := Lib.hid fun W h1 h2 => ⟨h1.cell 0 rfl, h1.cell 1 rfl, h1.cell 2 rfl, h1.cell 3 rfl, h2.cell 0 rfl, h2.cell 1 rfl, h2.cell 2 rfl, h2.cell 3 rfl⟩
  have HCA : Hid (∀ W : World, W.heap = w5.heap → W.cell? ⟨w.heap.size, 0, none⟩ = some (.int .u8 ((o 0 : Nat) : Int)) ∧ W.cell? ⟨w.heap.size, 1, none⟩ = some (.int .u8 ((o 1 : Nat) : Int)) ∧ W.cell? ⟨w.heap.size, 2, none⟩ = some (.int .u8 ((o 2 : Nat) : Int)) ∧ W.cell? ⟨w.heap.size, 3, none⟩ = some (.int .u8 ((o 3 : Nat) : Int)) ∧ W.cell? ⟨P, 0, none⟩ = some (.int .u8 ((p 0 : Nat) : Int)) ∧ W.cell? ⟨P, 1, none⟩ = some (.int .u8 ((p 1 : Nat) : Int)) ∧ W.cell? ⟨P, 2, none⟩ = some (.int .u8 ((p 2 : Nat) : Int)) ∧ W.cell? ⟨P, 3, none⟩ = some (.int .u8 ((p 3 : Nat) : Int))) := Lib.hid fun W e => HC5.out W (by unfold A4; rw [e]; exact HO5.out) (by unfold A4; rw [e]; exact HP5.out)
  have HCB : Hid (∀ W0 W : World, W0.heap = w5.heap → Below w5.heap.size W0 W → W.cell? ⟨w.heap.size, 0, none⟩ = some (.int .u8 ((o 0 : Nat) : Int)) ∧ W.cell? ⟨w.heap.size, 1, none⟩ = some (.int .u8 ((o 1 : Nat) : Int)) ∧ W.cell? ⟨w.heap.size, 2, none⟩ = some (.int .u8 ((o 2 : Nat) : Int)) ∧ W.cell? ⟨w.heap.size, 3, none⟩ = some (.int .u8 ((o 3 : Nat) : Int)) ∧ W.cell? ⟨P, 0, none⟩ = some (.int .u8 ((p 0 : Nat) : Int)) ∧ W.cell? ⟨P, 1, none⟩ = some (.int .u8 ((p 1 : Nat) : Int)) ∧ W.cell? ⟨P, 2, none⟩ = some (.int .u8 ((p 2 : Nat) : Int)) ∧ W.cell? ⟨P, 3, none⟩ = some (.int .u8 ((p 3 : Nat) : Int))) := Lib.hid fun W0 W e hb => HC5.out W ((hb.block _ HO5.out.lt).trans (by rw [e]; exact HO5.out)) ((hb.block _ HP5.out.lt).trans (by rw [e]; exact HP5.out))
  have HCC : Hid (∀ (W0 W W' : World) (v : Value) (xs : List Value), W0.heap = w5.heap → Below w5.heap.size W0 W → W.ownsRow w5.heap.size 5 1 v n xs → W.grownBy W' v.ownBlock → W'.cell? ⟨w.heap.size, 0, none⟩ = some (.int .u8 ((o 0 : Nat) : Int)) ∧ W'.cell? ⟨w.heap.size, 1, none⟩ = some (.int .u8 ((o 1 : Nat) : Int)) ∧ W'.cell? ⟨w.heap.size, 2, none⟩ = some (.int .u8 ((o 2 : Nat) : Int)) ∧ W'.cell? ⟨w.heap.size, 3, none⟩ = some (.int .u8 ((o 3 : Nat) : Int)) ∧ W'.cell? ⟨P, 0, none⟩ = some (.int .u8 ((p 0 : Nat) : Int)) ∧ W'.cell? ⟨P, 1, none⟩ = some (.int .u8 ((p 1 : Nat) : Int)) ∧ W'.cell? ⟨P, 2, none⟩ = some (.int .u8 ((p 2 : Nat) : Int)) ∧ W'.cell? ⟨P, 3, none⟩ = some (.int .u8 ((p 3 : Nat) : Int))) := Lib.hid fun W0 W W' v xs e hb ho hg => HCB.out W0 W' e (hb.grown hg (by have := hb.size; rw [e] at this; exact this) (fun q hq => (ho.lt q hq).1))
  have HCOPY : Hid (∀ W : World, W.heap = w5.heap → Calls Try.prog 10 #[.slice a0 n cap] W (CopySome n f W)) :=
    Lib.hid fun W e => rcopy_some a0 n cap f W (by omega) (HS5.out.heap e) HP.out
  have HNEW : Hid (∀ W0 W, W0.heap = w5.heap → Below w5.heap.size W0 W → ∀ j u, (rowB o 4)[j]? = some u → W.cell? ((⟨w.heap.size, 0, none⟩ : Addr).add j) = some u) := Lib.hid fun W0 W e hb => (A4.below (w := W0) (by unfold A4; rw [e]; exact HO5.out) hb HO5.out.lt).news
  have HFIN : Hid (∀ (W0 W W' : World) (v : Value) (xs : List Value), W0.heap = w5.heap → Below w5.heap.size W0 W → W.ownsRow w5.heap.size 5 1 v n xs → W.grownBy W' v.ownBlock → Below w.heap.size w W0 → Below w.heap.size w W') := Lib.hid fun W0 W W' v xs e hb ho hg hA => hA.trans ((hb.grown hg (by have := hb.size; rw [e] at this; exact this) (fun q hq => (ho.lt q hq).1)).mono HB5.out.size)
  by_cases hE : ∀ j, j < 4 → o j = p j
  · have heq : ∀ W : World, (Op.equalIn 10000 32 (.agg #[.int .u8 ((o 0 : Nat) : Int), .int .u8 ((o 1 : Nat) : Int), .int .u8 ((o 2 : Nat) : Int), .int .u8 ((o 3 : Nat) : Int)]) (.agg #[.int .u8 ((p 0 : Nat) : Int), .int .u8 ((p 1 : Nat) : Int), .int .u8 ((p 2 : Nat) : Int), .int .u8 ((p 3 : Nat) : Int)])).run Try.prog W = .ok true W := eq4 o p true ⟨fun _ => hE, fun _ => rfl⟩
    have hy : CrcMath.more s o 4 = x := by rw [CrcMath.more_congr s o p 4 hE]; exact HPA.out
    rw [hy] at HSUMO
    clear hy hE
    go_region_held3 (fun W => W.cell? ⟨w.heap.size, 0, none⟩ = some (.int .u8 ((o 0 : Nat) : Int)) ∧ W.cell? ⟨w.heap.size, 1, none⟩ = some (.int .u8 ((o 1 : Nat) : Int)) ∧ W.cell? ⟨w.heap.size, 2, none⟩ = some (.int .u8 ((o 2 : Nat) : Int)) ∧ W.cell? ⟨w.heap.size, 3, none⟩ = some (.int .u8 ((o 3 : Nat) : Int)) ∧ W.cell? ⟨P, 0, none⟩ = some (.int .u8 ((p 0 : Nat) : Int)) ∧ W.cell? ⟨P, 1, none⟩ = some (.int .u8 ((p 1 : Nat) : Int)) ∧ W.cell? ⟨P, 2, none⟩ = some (.int .u8 ((p 2 : Nat) : Int)) ∧ W.cell? ⟨P, 3, none⟩ = some (.int .u8 ((p 3 : Nat) : Int)))
      (first | exact HCA.out _ (by rfl) | exact HCB.out _ _ (by rfl) hb6 | exact HCC.out _ _ _ _ _ (by rfl) hb6 hown6 hgrow7)
      (first
        | (go_at_call 10; refine (HCOPY.out _ (by rfl)).mono ?_; rintro e w6 ⟨g6, cap6, rfl, hg6, hown6, hb6⟩)
        | (refine step_append_lies _ (by rfl) _ _ 22 (by rfl) w5.heap.size 5 i0 (.int .u8 0) 1 1 Try.underlying22 hi hz0 hz1 hz2 rfl (by decide) _ n (rowB f n) (by rfl) hown6 ⟨w.heap.size, 0, none⟩ 4 4 (rowB o 4) (by rfl) (by rfl) (HNEW.out _ _ (by rfl) hb6) (rowB_one _ _) (by omega) (by unfold maxLen; omega) (by omega) hb6.size _ rfl ?_; intro g7 cap7 w7 hown7 hgrow7 hat7 hlt7)
        | (go_at_call 11; refine (HSUMO.out _ _ g7 cap7 hown7).mono ?_; rintro e w8 ⟨rfl, rfl⟩))
    go_wp2
    go_ret
    exact ⟨rfl, HFIN.out _ _ _ _ _ (by rfl) hb6 hown6 hgrow7 HB5.out.drew⟩
  · have heq : ∀ W : World, (Op.equalIn 10000 32 (.agg #[.int .u8 ((o 0 : Nat) : Int), .int .u8 ((o 1 : Nat) : Int), .int .u8 ((o 2 : Nat) : Int), .int .u8 ((o 3 : Nat) : Int)]) (.agg #[.int .u8 ((p 0 : Nat) : Int), .int .u8 ((p 1 : Nat) : Int), .int .u8 ((p 2 : Nat) : Int), .int .u8 ((p 3 : Nat) : Int)])).run Try.prog W = .ok false W := eq4 o p false ⟨fun h => absurd h (by decide), fun h => absurd h hE⟩
    have hy : ¬ CrcMath.more s o 4 = x := fun h => hE (HPO.out h)
    generalize CrcMath.more s o 4 = y at *
    have hyx : ((y : Int) == (x : Int)) = false := by rw [beq_eq_false_iff_ne]; omega
    clear hy hE
    go_region_held3 (fun W => W.cell? ⟨w.heap.size, 0, none⟩ = some (.int .u8 ((o 0 : Nat) : Int)) ∧ W.cell? ⟨w.heap.size, 1, none⟩ = some (.int .u8 ((o 1 : Nat) : Int)) ∧ W.cell? ⟨w.heap.size, 2, none⟩ = some (.int .u8 ((o 2 : Nat) : Int)) ∧ W.cell? ⟨w.heap.size, 3, none⟩ = some (.int .u8 ((o 3 : Nat) : Int)) ∧ W.cell? ⟨P, 0, none⟩ = some (.int .u8 ((p 0 : Nat) : Int)) ∧ W.cell? ⟨P, 1, none⟩ = some (.int .u8 ((p 1 : Nat) : Int)) ∧ W.cell? ⟨P, 2, none⟩ = some (.int .u8 ((p 2 : Nat) : Int)) ∧ W.cell? ⟨P, 3, none⟩ = some (.int .u8 ((p 3 : Nat) : Int)))
      (first | exact HCA.out _ (by rfl) | exact HCB.out _ _ (by rfl) hb6 | exact HCC.out _ _ _ _ _ (by rfl) hb6 hown6 hgrow7)
      (first
        | (go_at_call 10; refine (HCOPY.out _ (by rfl)).mono ?_; rintro e w6 ⟨g6, cap6, rfl, hg6, hown6, hb6⟩)
        | (refine step_append_lies _ (by rfl) _ _ 22 (by rfl) w5.heap.size 5 i0 (.int .u8 0) 1 1 Try.underlying22 hi hz0 hz1 hz2 rfl (by decide) _ n (rowB f n) (by rfl) hown6 ⟨w.heap.size, 0, none⟩ 4 4 (rowB o 4) (by rfl) (by rfl) (HNEW.out _ _ (by rfl) hb6) (rowB_one _ _) (by omega) (by unfold maxLen; omega) (by omega) hb6.size _ rfl ?_; intro g7 cap7 w7 hown7 hgrow7 hat7 hlt7)
        | (go_at_call 11; refine (HSUMO.out _ _ g7 cap7 hown7).mono ?_; rintro e w8 ⟨rfl, rfl⟩))
    go_wp2
    go_ret
    exact ⟨rfl, HFIN.out _ _ _ _ _ (by rfl) hb6 hown6 hgrow7 HB5.out.drew⟩
end Go.Proofs.Ytaefmncngcogkaa
