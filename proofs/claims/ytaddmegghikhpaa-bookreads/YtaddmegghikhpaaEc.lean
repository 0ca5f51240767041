/-
  Encode: a history's bytes.
-/
import Derived.Test.YtaddmegghikhpaaEb
namespace Go.Proofs.Ytaddmegghikhpaa
open Go.ChangeShapes Go.WideShapes Go.ChangeAt Go.RowKit

def evsL (E : Nat → Ev) : Nat → List Nat
  | 0 => []
  | i + 1 => evsL E i ++ evL (E i)
def BL (E : Nat → Ev) (len : Nat) : List Nat := numL len ++ evsL E len
theorem evsL_le (E : Nat → Ev) : ∀ n, (∀ i, i < n → Fit (E i)) → (evsL E n).length ≤ 1618 * n := by
  intro n
  induction n with
  | zero => intro _; exact Nat.le_refl _
  | succ n ih =>
    intro h
    have h1 := ih fun i hi => h i (by omega)
    have h2 := evL_le (h n (by omega))
    show (evsL E n ++ evL (E n)).length ≤ _
    rw [List.length_append]; omega
theorem numL_le (x : Nat) (h : x < 18446744073709551616) : (numL x).length ≤ 129 := by rw [numL_length]; have := nz_le x h; omega

/-- the bytes that Encode answers -/
def EncB (L : List Nat) (w w' : World) (g n : Nat) (F : Nat → Nat) : Prop :=
  w'.heap[g]? = some (.cells (rowB F n).toArray 5 (0, 0)) ∧ w.heap.size ≤ g ∧ n = (L.length + 7) / 8 ∧ Ends F L.length ∧ Sp F 0 L
def EncP (E : Nat → Ev) (len : Nat) (w : World) (e : Ending) (w' : World) : Prop :=
  Below w.heap.size w w' ∧ ((400 < len ∧ e = .returned (.tuple #[.slice none 0 0, .int .i64 4])) ∨
    (len ≤ 400 ∧ (((∃ i, i < len ∧ ¬ Fit (E i)) ∧ e = .returned (.tuple #[.slice none 0 0, .int .i64 20])) ∨
      ((∀ i, i < len → Fit (E i)) ∧ ∃ g n F, e = .returned (.tuple #[.slice (some ⟨g, 0, none⟩) n n, .int .i64 0]) ∧ EncB (BL E len) w w' g n F))))

set_option maxRecDepth 100000 in
set_option maxHeartbeats 4000000 in
theorem encode_any (a : Option Addr) (len cap : Nat) (E : Nat → Ev) (w : World) (hs : EvS w a len E) : Calls Try.prog 10 #[.slice a len cap] w (EncP E len w) := by
  have HS := Lib.hid hs
  clear hs
  by_cases h4 : 400 < len
  · have h4' : (400 : Int) < (len : Int) := by omega
    have H4 := Lib.hid h4
    clear h4
    go_enter Try.func10, Try.ntmps10
    go_wp2
    go_ret2
    exact ⟨Below.refl _ _, .inl ⟨H4.out, rfl⟩⟩
  · have h4' : ¬ (400 : Int) < (len : Int) := by omega
    have hl4 : len ≤ 400 := by omega
    clear h4
    obtain ⟨wi, ewi⟩ : ∃ wi, wi = w.alloc (.cells #[.slice none 0 0, .int .i64 0] 46) := ⟨_, rfl⟩
    have hW0 : WSt wi w.heap.size w.heap.size [] (.slice none 0 0) := ⟨fun _ => 0, by rw [ewi]; exact WR.new w w.heap.size (Nat.le_refl _), fun i hi => absurd hi (Nat.not_lt_zero _)⟩
    have hB0 : Below w.heap.size w wi := by rw [ewi]; exact (Below.refl _ _).alloc (Nat.le_refl _) _
    obtain ⟨B, eB⟩ : ∃ B, B = w.heap.size := ⟨_, rfl⟩
    rw [← eB] at hW0 hB0
    have HW0 := Lib.hid hW0
    have HB0 := Lib.hid hB0
    have HNL := Lib.hid (numL_le len (by omega))
    clear hW0 hB0
    go_enter Try.func10, Try.ntmps10
    go_wp2_with fail
    rw [← ewi, ← eB]
    have HEB := Lib.hid eB
    clear ewi eB
    refine (num_L wi B B [] (.slice none 0 0) len HW0.out (by omega) (by simp)).mono ?_
    rintro e w1 ⟨rfl, v1, hw1, hs1⟩
    have HW1 := Lib.hid hw1
    have HB1 := Lib.hid (HB0.out.trans (HW0.out.belowB hs1 (Nat.le_refl _)))
    clear hw1 hs1
    go_wp2
    go_loopw [6, 19] (fun _ x wr => ∃ (i : Nat) (v : Value), i ≤ len ∧ x = .int .i64 (i : Int) ∧ Hid (WSt wr B B (numL len ++ evsL E i) v ∧ Below B w wr ∧ ∀ j, j < i → Fit (E j))) (fun _ x _ => len - (intOf x).toNat)
    case atStart => exact ⟨0, v1, Nat.zero_le _, rfl, Lib.hid ⟨by rw [show evsL E 0 = [] from rfl, List.append_nil]; exact HW1.out, HB1.out, fun j hj => absurd hj (Nat.not_lt_zero _)⟩⟩
    case round =>
      obtain ⟨i, v, hi, rfl, HT⟩ := hrel
      by_cases hlt : i < len
      · obtain ⟨b, off, rfl, hbl, hci⟩ := HS.out (by omega)
        obtain ⟨sp, cp, c0, c1, c2, ho, hp, hnn⟩ := hci i hlt
        have hbB : b < B := by have := HEB.out; omega
        have x0 := (HT.out.2.1.cell (p := ⟨b, off + i * 3, none⟩) hbB).trans c0
        have x1 := (HT.out.2.1.cell (p := ⟨b, off + i * 3 + 1, none⟩) hbB).trans c1
        have x2 := (HT.out.2.1.cell (p := ⟨b, off + i * 3 + 2, none⟩) hbB).trans c2
        have hlt' : (i : Int) < (len : Int) := by omega
        have HO := Lib.hid ho
        have hwr : B < wr.heap.size ∧ B ≤ wr.heap.size := by obtain ⟨F, h1, _⟩ := HT.out.1; exact ⟨h1.lt, h1.hb⟩
        have HLE := Lib.hid (evsL_le E i HT.out.2.2)
        have HNX : Hid (evsL E (i + 1) = evsL E i ++ evL (E i)) := Lib.hid rfl
        have HPR : Hid (Fit (E i) → ∀ j, j < i + 1 → Fit (E j)) := Lib.hid fun hh j hj => by
          by_cases h : j < i
          · exact HT.out.2.2 j h
          · obtain rfl : j = i := by omega
            exact hh
        have HNO : Hid (¬ Fit (E i) → ∃ i, i < len ∧ ¬ Fit (E i)) := Lib.hid fun h => ⟨i, hlt, h⟩
        have HEV : Hid (E i = ⟨(E i).k, (E i).c, (E i).n, (E i).o⟩) := Lib.hid rfl
        clear c0 c1 c2 ho hp hci
        generalize E i = ev at *
        obtain ⟨k, c, n, o⟩ := ev
        dsimp only at x0 x1 x2 hnn HO
        clear HEV
        obtain ⟨wy, ewy⟩ : ∃ wy, wy = wr.alloc (.cells #[.int .i64 k, .int .i64 c, .slice sp n cp] 43) := ⟨_, rfl⟩
        have hyb : Below wr.heap.size wr wy := by rw [ewy]; exact (Below.refl _ _).alloc (Nat.le_refl _) _
        have hyy : wy.heap[wr.heap.size]? = some (.cells #[.int .i64 k, .int .i64 c, .slice sp n cp] 43 (0, 0)) := by rw [ewy]; exact heap_alloc_new wr _
        have hyl : wr.heap.size < wy.heap.size := by rw [ewy]; simp
        have HY0 := Lib.hid (HT.out.1.below hyb)
        have HYB0 := Lib.hid (HT.out.2.1.trans (hyb.mono hwr.2))
        have hBy : B ≤ wy.heap.size := by omega
        obtain ⟨P, eP⟩ : ∃ P, P = wr.heap.size := ⟨_, rfl⟩
        rw [← eP] at hyy hyl
        have HYX0 := Lib.hid hyy
        clear hyb hyy
        go_wp2_with fail
        rw [← ewy, ← eP]
        clear ewy eP x0 x1 x2
        refine (fits_any k c sp n cp o _ (HO.out.below (by rw [← HEB.out]; exact HYB0.out))).mono ?_
        rintro e w3 ⟨bb, rfl, hiff, hb3⟩
        have HIF := Lib.hid hiff
        have HY3 := Lib.hid (HY0.out.below hb3)
        have HYX3 := Lib.hid ((hb3.block _ hyl).trans HYX0.out)
        have HYB3 := Lib.hid (HYB0.out.trans (hb3.mono hBy))
        clear hiff hb3
        cases bb
        · have HF := Lib.hid (HNO.out fun h => by have := HIF.out.2 h; cases this)
          go_wp2
          go_ret2
          exact ⟨by rw [← HEB.out]; exact HYB3.out, .inr ⟨hl4, .inl ⟨HF.out, rfl⟩⟩⟩
        · have HF : Hid (Fit ⟨k, c, n, o⟩) := Lib.hid (HIF.out.1 (by first | rfl | trivial))
          have HG := Lib.hid (HPR.out HF.out)
          obtain ⟨⟨q0, q1, q2⟩, _⟩ := cells3 HYX3.out
          have hLL : (numL len ++ evsL E i).length ≤ 700000 := by rw [List.length_append]; have h1 := HNL.out; have h2 := HLE.out; omega
          clear HIF
          go_wp2_with fail
          refine (put_ev w B B (numL len ++ evsL E i) v k c sp n cp o w3 HEB.out.symm HYB3.out (Nat.le_refl _) HO.out HF.out HY3.out hLL).mono ?_
          rintro e w4 ⟨rfl, v4, hw4, hs4⟩
          have HB4 := Lib.hid (HYB3.out.trans (HY3.out.belowB hs4 (Nat.le_refl _)))
          have HW4 : Hid (WSt w4 B B (numL len ++ evsL E (i + 1)) v4) := Lib.hid (by rw [HNX.out, ← List.append_assoc]; exact hw4)
          clear hw4 hs4 q0 q1 q2
          go_wp2
          go_roundw
          case rel => exact ⟨i + 1, v4, by omega, by go_num, Lib.hid ⟨HW4.out, HB4.out, HG.out⟩⟩
          case measure => simp [intOf]; omega
      · obtain rfl : len = i := by omega
        obtain ⟨F, hwr, hsp⟩ := HT.out.1
        have hL : (numL len ++ evsL E len).length ≤ 700000 := by rw [List.length_append]; have h1 := HNL.out; have h2 := evsL_le E len HT.out.2.2; omega
        have HWR := Lib.hid hwr
        have HSP := Lib.hid hsp
        have HBR := Lib.hid HT.out.2.1
        have HFT := Lib.hid HT.out.2.2
        have hBr : B ≤ wr.heap.size := hwr.hb
        clear hwr hsp HT
        obtain ⟨nb, enb⟩ : ∃ nb, ((numL len ++ evsL E len).length + 7) / 8 = nb := ⟨_, rfl⟩
        have HNB := Lib.hid enb
        have HLL := Lib.hid hL
        clear enb hL
        go_wp2_with fail
        refine (bytes_any wr B B v F (numL len ++ evsL E len).length nb HNB.out HWR.out HLL.out).mono ?_
        rintro e w5 ⟨rfl, hg5, hl5, hb5⟩
        have HB5 := Lib.hid (HBR.out.trans (hb5.mono hBr))
        have HG5 := Lib.hid hg5
        clear hg5 hb5
        go_wp2
        go_ret2
        exact ⟨by rw [← HEB.out]; exact HB5.out, .inr ⟨hl4, .inr ⟨HFT.out, wr.heap.size, nb, F, rfl, HG5.out, by rw [← HEB.out]; exact hBr, HNB.out.symm, HWR.out.ends, HSP.out⟩⟩⟩
end Go.Proofs.Ytaddmegghikhpaa
