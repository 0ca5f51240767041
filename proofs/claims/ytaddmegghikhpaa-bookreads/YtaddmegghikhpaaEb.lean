/-
  put: an event's bits.
-/
import Derived.Test.YtaddmegghikhpaaEa
namespace Go.Proofs.Ytaddmegghikhpaa
open Go.ChangeShapes Go.WideShapes Go.ChangeAt Go.RowKit

def opL (t : O3) : List Nat := bitsL (t.k - 1).toNat 1 ++ (bitsL t.key.toNat 4 ++ numL t.v.toNat)
def opsL (o : Nat → O3) : Nat → List Nat
  | 0 => []
  | i + 1 => opsL o i ++ opL (o i)
def evL (e : Ev) : List Nat := bitsL (e.k - 1).toNat 2 ++ (bitsL (e.c - 1).toNat 4 ++ (bitsL e.n 4 ++ opsL e.o e.n))
theorem fit_v {t : O3} (h : FitO t) : t.v.toNat < 18446744073709551616 ∧ nz t.v.toNat ≤ 64 := by
  have h1 := h.2.2.2.1
  have h2 := h.2.2.2.2
  exact ⟨by omega, nz_le _ (by omega)⟩
theorem opL_le {t : O3} (h : FitO t) : (opL t).length ≤ 134 := by
  have := (fit_v h).2
  unfold opL
  rw [List.length_append, List.length_append, bitsL_length, bitsL_length, numL_length]
  omega
theorem opsL_le (o : Nat → O3) : ∀ n, (∀ i, i < n → FitO (o i)) → (opsL o n).length ≤ 134 * n := by
  intro n
  induction n with
  | zero => intro _; exact Nat.le_refl _
  | succ n ih =>
    intro h
    have h1 := ih fun i hi => h i (by omega)
    have h2 := opL_le (h n (by omega))
    show (opsL o n ++ opL (o n)).length ≤ _
    rw [List.length_append]; omega
theorem evL_le {e : Ev} (h : Fit e) : (evL e).length ≤ 1618 := by
  have h1 := opsL_le e.o e.n h.2.2.2.2.2
  have h2 := h.2.2.2.2.1
  unfold evL
  rw [List.length_append, List.length_append, List.length_append, bitsL_length, bitsL_length, bitsL_length]
  omega

set_option maxRecDepth 100000 in
set_option maxHeartbeats 4000000 in
theorem put_ev (w0 : World) (base wb : Nat) (L : List Nat) (v : Value) (k c : Int) (sp : Option Addr) (n cap : Nat) (o : Nat → O3) (w : World) (hbase : w0.heap.size = base) (hb0 : Below base w0 w) (hwb : base ≤ wb) (hs : OpS w0 sp n o) (hf : Fit ⟨k, c, n, o⟩) (h : WSt w base wb L v) (hL : L.length ≤ 700000) :
    Calls Try.prog 19 #[.pointer (some ⟨wb, 0, none⟩), .agg #[.int .i64 k, .int .i64 c, .slice sp n cap]] w (PutP base wb L (evL ⟨k, c, n, o⟩) v w) := by
  obtain ⟨hk1, hk4, hc1, hc16, hn12, hfo⟩ := hf
  dsimp only at hk1 hk4 hc1 hc16 hn12 hfo
  have HS := Lib.hid hs
  have HFO := Lib.hid hfo
  have HB0 := Lib.hid hb0
  have HBS := Lib.hid hbase
  have hwl : wb < w.heap.size := by obtain ⟨F, h1, _⟩ := h; exact h1.lt
  have hbw : base ≤ w.heap.size := by obtain ⟨F, h1, _⟩ := h; exact h1.hb
  have HW := Lib.hid h
  obtain ⟨wx, ewx⟩ : ∃ wx, wx = w.alloc (.cells #[.int .i64 k, .int .i64 c, .slice sp n cap] 43) := ⟨_, rfl⟩
  have hxb : Below w.heap.size w wx := by rw [ewx]; exact (Below.refl _ _).alloc (Nat.le_refl _) _
  have hxx : wx.heap[w.heap.size]? = some (.cells #[.int .i64 k, .int .i64 c, .slice sp n cap] 43 (0, 0)) := by rw [ewx]; exact heap_alloc_new w _
  have HWX := Lib.hid (h.below hxb)
  have HSX : Hid (WStep wb w v.ownBlock wx v.ownBlock) := Lib.hid (by rw [ewx]; exact WStep.alloc _ _ _ _)
  have HBX := Lib.hid (hb0.trans (hxb.mono hbw))
  obtain ⟨Q, eQ⟩ : ∃ Q, Q = w.heap.size := ⟨_, rfl⟩
  have hQ : Q ≠ wb := by omega
  rw [← eQ] at hxx
  have HXX := Lib.hid hxx
  obtain ⟨⟨q0, q1, q2⟩, _⟩ := cells3 hxx
  clear hs hfo hb0 hbase h hxb hxx
  go_enter Try.func19, Try.ntmps19
  go_wp2_with fail
  rw [← ewx, ← eQ]
  clear ewx eQ
  have HS0 := HSX
  have HX0 := HXX
  have HB0' := HBX
  have HW0 := HWX
  clear HSX HXX HBX HWX HW HB0
  have HB0 := HB0'
  clear HB0'
  have hw2 : wn 2 = 2 := by decide
  have hw4 : wn 4 = 4 := by decide
  have hw1 : wn 1 = 1 := by decide
  have HN2 := Lib.hid hw2
  have HN4 := Lib.hid hw4
  have HN1 := Lib.hid hw1
  clear hw2 hw4 hw1
  refine (put_L _ base wb L v (k - 1).toNat (k - 1) 2 (by omega) 2 HN2.out HW0.out (by omega) (by omega)).mono ?_
  rintro e w1 ⟨rfl, v1, hw1, hs1⟩
  have HS1 := Lib.hid (HS0.out.trans hs1)
  have HX1 := Lib.hid (HW0.out.other hs1 HX0.out (by decide) hQ)
  have HB1 := Lib.hid (HB0.out.trans (HW0.out.belowB hs1 hwb))
  have HW1 := Lib.hid hw1
  obtain ⟨⟨q0, q1, q2⟩, _⟩ := cells3 HX1.out
  clear hw1 hs1
  clear q0 q2
  go_wp2_with fail
  refine (put_L _ base wb (L ++ bitsL (k - 1).toNat 2) v1 (c - 1).toNat (c - 1) 4 (by omega) 4 HN4.out HW1.out (by omega) (by rw [List.length_append, bitsL_length]; omega)).mono ?_
  rintro e w2 ⟨rfl, v2, hw2, hs2⟩
  have HS2 := Lib.hid (HS1.out.trans hs2)
  have HX2 := Lib.hid (HW1.out.other hs2 HX1.out (by decide) hQ)
  have HB2 := Lib.hid (HB1.out.trans (HW1.out.belowB hs2 hwb))
  have HW2 := Lib.hid hw2
  obtain ⟨⟨q0, q1, q2⟩, _⟩ := cells3 HX2.out
  clear hw2 hs2
  clear q0 q1
  go_wp2_with fail
  refine (put_L _ base wb (L ++ bitsL (k - 1).toNat 2 ++ bitsL (c - 1).toNat 4) v2 n (n : Int) 4 rfl 4 HN4.out HW2.out (by omega) (by rw [List.length_append, List.length_append, bitsL_length, bitsL_length]; omega)).mono ?_
  rintro e w3 ⟨rfl, v3, hw3, hs3⟩
  have HS3 := Lib.hid (HS2.out.trans hs3)
  have HX3 := Lib.hid (HW2.out.other hs3 HX2.out (by decide) hQ)
  have HB3 := Lib.hid (HB2.out.trans (HW2.out.belowB hs3 hwb))
  have HW3 := Lib.hid hw3
  obtain ⟨⟨q0, q1, q2⟩, _⟩ := cells3 HX3.out
  clear hw3 hs3
  clear q0 q1
  have HLL : Hid (∀ M, L ++ bitsL (k - 1).toNat 2 ++ bitsL (c - 1).toNat 4 ++ bitsL n 4 ++ M = L ++ (bitsL (k - 1).toNat 2 ++ (bitsL (c - 1).toNat 4 ++ (bitsL n 4 ++ M)))) := Lib.hid fun M => by simp only [List.append_assoc]
  have hL3 : (L ++ bitsL (k - 1).toNat 2 ++ bitsL (c - 1).toNat 4 ++ bitsL n 4).length ≤ 700010 := by
    rw [List.length_append, List.length_append, List.length_append, bitsL_length, bitsL_length, bitsL_length]; omega
  generalize L ++ bitsL (k - 1).toNat 2 ++ bitsL (c - 1).toNat 4 ++ bitsL n 4 = L3 at *
  go_wp2
  clear q2
  go_loopw [5, 27] (fun _ x wr => ∃ (t : Nat) (v' : Value), t ≤ n ∧ x = .int .i64 (t : Int) ∧ Hid (WSt wr base wb (L3 ++ opsL o t) v' ∧ WStep wb w v.ownBlock wr v'.ownBlock ∧ Below base w0 wr)) (fun _ x _ => n - (intOf x).toNat)
  case atStart => exact ⟨0, v3, Nat.zero_le _, rfl, Lib.hid ⟨by rw [show opsL o 0 = [] from rfl, List.append_nil]; exact HW3.out, HS3.out, HB3.out⟩⟩
  case round =>
    obtain ⟨t, v', ht, rfl, HT⟩ := hrel
    by_cases hlt : t < n
    · obtain ⟨b, off, rfl, hbl, hci⟩ := HS.out (by omega)
      obtain ⟨c0, c1, c2⟩ := hci t hlt
      rw [HBS.out] at hbl
      have x0 := (HT.out.2.2.cell (p := ⟨b, off + t * 3, none⟩) hbl).trans c0
      have x1 := (HT.out.2.2.cell (p := ⟨b, off + t * 3 + 1, none⟩) hbl).trans c1
      have x2 := (HT.out.2.2.cell (p := ⟨b, off + t * 3 + 2, none⟩) hbl).trans c2
      have hlt' : (t : Int) < (n : Int) := by omega
      have hfo := HFO.out t hlt
      have hov := fit_v hfo
      have hol : (opsL o t).length ≤ 134 * t := opsL_le o t fun i hi => HFO.out i (by omega)
      have HOL : Hid (opsL o (t + 1) = opsL o t ++ (bitsL ((o t).k - 1).toNat 1 ++ (bitsL (o t).key.toNat 4 ++ numL (o t).v.toNat))) := Lib.hid rfl
      clear c0 c1 c2 hci
      generalize o t = ot at *
      obtain ⟨ok, okey, ov⟩ := ot
      unfold FitO at hfo
      dsimp only at x0 x1 x2 hfo hov HOL
      obtain ⟨hf1, hf2, hf3, hf4, hf5⟩ := hfo
      have hok : 1 ≤ ok ∧ ok ≤ 2 := by omega
      clear hf1
      obtain ⟨M, eM⟩ : ∃ M, M = L3 ++ opsL o t := ⟨_, rfl⟩
      have hM : M.length ≤ 710000 := by rw [eM, List.length_append]; omega
      have HME := Lib.hid eM
      rw [← eM] at HT
      clear eM
      obtain ⟨wy, ewy⟩ : ∃ wy, wy = wr.alloc (.cells #[.int .i64 ok, .int .i64 okey, .int .i64 ov] 53) := ⟨_, rfl⟩
      have hyb : Below wr.heap.size wr wy := by rw [ewy]; exact (Below.refl _ _).alloc (Nat.le_refl _) _
      have hyy : wy.heap[wr.heap.size]? = some (.cells #[.int .i64 ok, .int .i64 okey, .int .i64 ov] 53 (0, 0)) := by rw [ewy]; exact heap_alloc_new wr _
      have hwr : wb < wr.heap.size ∧ base ≤ wr.heap.size := by obtain ⟨F, h1, _⟩ := HT.out.1; exact ⟨h1.lt, h1.hb⟩
      have HY0 := Lib.hid (HT.out.1.below hyb)
      have HYS0 : Hid (WStep wb w v.ownBlock wy v'.ownBlock) := Lib.hid (HT.out.2.1.trans (by rw [ewy]; exact WStep.alloc _ _ _ _))
      have HYB0 := Lib.hid (HT.out.2.2.trans (hyb.mono hwr.2))
      obtain ⟨P, eP⟩ : ∃ P, P = wr.heap.size := ⟨_, rfl⟩
      have hP : P ≠ wb := by omega
      rw [← eP] at hyy
      have HYX0 := Lib.hid hyy
      clear hyb hyy HT
      go_wp2_with fail
      rw [← ewy, ← eP]
      clear ewy eP x0 x1 x2
      refine (put_L _ base wb M v' (ok - 1).toNat (ok - 1) 1 (by omega) 1 HN1.out HY0.out (by omega) (by omega)).mono ?_
      rintro e y1 ⟨rfl, u1, hw1, hs1⟩
      have HYS1 := Lib.hid (HYS0.out.trans hs1)
      have HYX1 := Lib.hid (HY0.out.other hs1 HYX0.out (by decide) hP)
      have HYB1 := Lib.hid (HYB0.out.trans (HY0.out.belowB hs1 hwb))
      have HY1 := Lib.hid hw1
      obtain ⟨⟨q0, q1, q2⟩, _⟩ := cells3 HYX1.out
      clear hw1 hs1 q0 q2
      go_wp2_with fail
      refine (put_L _ base wb (M ++ bitsL (ok - 1).toNat 1) u1 okey.toNat okey 4 (by omega) 4 HN4.out HY1.out (by omega) (by rw [List.length_append, bitsL_length]; omega)).mono ?_
      rintro e y2 ⟨rfl, u2, hw2, hs2⟩
      have HYS2 := Lib.hid (HYS1.out.trans hs2)
      have HYX2 := Lib.hid (HY1.out.other hs2 HYX1.out (by decide) hP)
      have HYB2 := Lib.hid (HYB1.out.trans (HY1.out.belowB hs2 hwb))
      have HY2 := Lib.hid hw2
      obtain ⟨⟨q0, q1, q2⟩, _⟩ := cells3 HYX2.out
      clear hw2 hs2 q0 q1
      obtain ⟨xv, exv⟩ : ∃ xv : Nat, xv = ov.toNat := ⟨_, rfl⟩
      have hxv : ov = (xv : Int) := by omega
      rw [← exv] at HOL hov
      subst hxv
      clear exv
      go_wp2_with fail
      refine (num_L _ base wb (M ++ bitsL (ok - 1).toNat 1 ++ bitsL okey.toNat 4) u2 xv HY2.out hov.1 (by rw [List.length_append, List.length_append, bitsL_length, bitsL_length]; omega)).mono ?_
      rintro e y3 ⟨rfl, u3, hw3, hs3⟩
      have HYS3 := Lib.hid (HYS2.out.trans hs3)
      have HYB3 := Lib.hid (HYB2.out.trans (HY2.out.belowB hs3 hwb))
      have HY3 : Hid (WSt y3 base wb (L3 ++ opsL o (t + 1)) u3) := Lib.hid (by
        rw [HOL.out, ← List.append_assoc, ← HME.out, ← List.append_assoc, ← List.append_assoc]; exact hw3)
      clear hw3 hs3 q2
      go_wp2
      go_roundw
      case rel => exact ⟨t + 1, u3, by omega, by go_num, Lib.hid ⟨HY3.out, HYS3.out, HYB3.out⟩⟩
      case measure => simp [intOf]; omega
    · obtain rfl : n = t := by omega
      go_wp2
      go_end0
      exact ⟨rfl, v', by unfold evL; dsimp only; rw [← HLL.out]; exact HT.out.1, HT.out.2.1⟩
end Go.Proofs.Ytaddmegghikhpaa
