/-
  The reference's Decode: its state in memory, a round of each loop.
-/
import Derived.Test.YtaddmegghikhpaaFa
import Derived.Test.YtaddmegghikhpaaBR2
namespace Go.Proofs.Ytaddmegghikhpaa
open Go.ChangeShapes Go.WideShapes Go.ChangeAt Go.RowKit

theorem BS.below {w w' : World} {q o L a : Nat} {f : Nat → Nat} (h : BS w q o L a f) (k : Below w.heap.size w w') : BS w' q o L a f :=
  ⟨Nat.lt_of_lt_of_le h.lt k.size, fun j hj => (k.cell (p := ⟨q, o + j, none⟩) h.lt).trans (h.cb j hj)⟩
theorem BS.belowB {w w' : World} {q o L a B : Nat} {f : Nat → Nat} (h : BS w q o L a f) (k : Below B w w') (hq : q < B) : BS w' q o L a f :=
  ⟨Nat.lt_of_lt_of_le h.lt k.size, fun j hj => (k.cell (p := ⟨q, o + j, none⟩) hq).trans (h.cb j hj)⟩
theorem BS.none {w : World} {q o o' a a' : Nat} {f : Nat → Nat} (h : BS w q o 0 a f) : BS w q o' 0 a' f := ⟨h.lt, fun _ hj => absurd hj (Nat.not_lt_zero _)⟩
theorem gv_one (f : Nat → Nat) (a : Nat) : gv f a 1 = bitAt f a := by
  show 2 * gv f a 0 + bitAt f (a + 0) = _
  rw [Nat.add_zero]; show 2 * 0 + _ = _; omega
theorem gv_noughts (f : Nat → Nat) (a L : Nat) (h : ∀ t, t < L → bitAt f (a + t) = 0) : gv f a L = 0 := by
  induction L with
  | zero => rfl
  | succ L ih =>
    show 2 * gv f a L + bitAt f (a + L) = 0
    rw [ih fun t ht => h t (by omega), h L (by omega)]
theorem gv_some (f : Nat → Nat) (a L t : Nat) (ht : t < L) (h : ¬ bitAt f (a + t) = 0) : ¬ gv f a L = 0 := fun e => by
  have := gv_bit f a L t ht
  rw [e, Nat.zero_div] at this
  exact h this.symm
/-- an operation that was read -/
theorem op_read {f : Nat → Nat} {n a z : Nat} (hz : IsNum f n (a + 5) z) (hx : 2 ^ z + gv f (a + 5 + z + 1) z - 1 < 1099511627776) :
    FitO ⟨(bitAt f a : Int) + 1, (gv f (a + 1) 4 : Int), ((2 ^ z + gv f (a + 5 + z + 1) z - 1 : Nat) : Int)⟩ ∧ Sp f a (opL ⟨(bitAt f a : Int) + 1, (gv f (a + 1) 4 : Int), ((2 ^ z + gv f (a + 5 + z + 1) z - 1 : Nat) : Int)⟩) ∧ (opL ⟨(bitAt f a : Int) + 1, (gv f (a + 1) 4 : Int), ((2 ^ z + gv f (a + 5 + z + 1) z - 1 : Nat) : Int)⟩).length = 5 + (2 * z + 1) := by
  obtain ⟨x, ex, _, hnz, hsp⟩ := is_num hz
  rw [← ex] at hx ⊢
  have h1 := bitAt_lt f a
  have h2 := gv_lt f (a + 1) 4
  refine ⟨⟨by dsimp only; omega, by dsimp only; omega, by dsimp only; omega, by dsimp only; omega, by dsimp only; omega⟩, ?_, ?_⟩
  · unfold opL
    dsimp only
    have s1 := gv_sp f a 1
    rw [gv_one] at s1
    rw [show ((bitAt f a : Int) + 1 - 1).toNat = bitAt f a by omega, Int.toNat_natCast, Int.toNat_natCast]
    exact Sp.app.2 ⟨s1, Sp.app.2 ⟨by rw [bitsL_length]; exact gv_sp f (a + 1) 4, by rw [bitsL_length, bitsL_length]; exact hsp⟩⟩
  · rw [opL_len]; dsimp only; rw [Int.toNat_natCast, numL_length, hnz]
theorem num_read {f : Nat → Nat} {n a z : Nat} (hz : IsNum f n a z) : ∃ x, x = 2 ^ z + gv f (a + z + 1) z - 1 ∧ x < 18446744073709551616 ∧ Sp f a (numL x) ∧ (numL x).length = 2 * z + 1 ∧ a + (2 * z + 1) ≤ 8 * n := by
  obtain ⟨x, ex, hx, hnz, hsp⟩ := is_num hz
  exact ⟨x, ex, hx, hsp, by rw [numL_length, hnz], hz.2.1⟩

/-- j events of m were read; L bits are left -/
def RkS (w1 wr : World) (q n : Nat) (f : Nat → Nat) (m : Nat) (v : Value) (j L o : Nat) : Prop :=
  Below w1.heap.size w1 wr ∧ ∃ E V, Got f n m j E ∧ (numL m).length + (evsL E j).length + L = 8 * n ∧ BS wr q o L ((numL m).length + (evsL E j).length) f ∧ EvO wr w1.heap.size v j E V
/-- j operations were read of the event at A; L bits are left -/
def IkS (wE wr : World) (q n : Nat) (f : Nat → Nat) (A : Nat) (k c : Int) (j L o : Nat) : Prop :=
  Below wE.heap.size wE wr ∧ ∃ sp cap op, wr.heap[wE.heap.size]? = some (.cells #[.int .i64 k, .int .i64 c, .slice sp j cap] 43 (0, 0)) ∧ wr.ownsRow (wE.heap.size + 1) 53 3 (.slice sp j cap) j (rowO op j) ∧
    (∀ i, i < j → FitO (op i)) ∧ Sp f (A + 10) (opsL op j) ∧ A + 10 + (opsL op j).length + L = 8 * n ∧ BS wr q o L (A + 10 + (opsL op j).length) f

theorem ik_start {wE : World} {q n A L o : Nat} {f : Nat → Nat} {k c : Int} (hL : A + 10 + L = 8 * n) (hb : BS wE q o L (A + 10) f) :
    IkS wE (wE.alloc (.cells #[.int .i64 k, .int .i64 c, .slice none 0 0] 43)) q n f A k c 0 L o :=
  ⟨(Below.refl _ _).alloc (Nat.le_refl _) _, none, 0, fun _ => ⟨0, 0, 0⟩, heap_alloc_new wE _, World.ownsRow_nil _ _ _ _, fun _ hi => absurd hi (Nat.not_lt_zero _), fun _ hi => absurd hi (Nat.not_lt_zero _), hL, hb.below ((Below.refl _ _).alloc (Nat.le_refl _) _)⟩

/-- an operation appended and stored -/
theorem ik_next {wE wr w7 : World} {q n A j L o o' cap c7 g7 : Nat} {f : Nat → Nat} {k c : Int} {sp : Option Addr} {op : Nat → O3} {t : O3} {cs : Array Value}
    (hq : q < wE.heap.size) (h0 : Below wE.heap.size wE wr) (hQ : wr.heap[wE.heap.size]? = some (.cells #[.int .i64 k, .int .i64 c, .slice sp j cap] 43 (0, 0))) (how : wr.ownsRow (wE.heap.size + 1) 53 3 (.slice sp j cap) j (rowO op j))
    (hf : ∀ i, i < j → FitO (op i)) (hs : Sp f (A + 10) (opsL op j)) (hL : A + 10 + (opsL op j).length + L = 8 * n) (hb : BS wr q o L (A + 10 + (opsL op j).length) f)
    (tf : FitO t) (ts : Sp f (A + 10 + (opsL op j).length) (opL t)) (tl : (opL t).length ≤ L) (ho' : (opL t).length < L → o' = o + (opL t).length)
    {wd : World} (hd : wd.heap = wr.heap) (hdb : Below wr.heap.size wr wd)
    (ho7 : w7.ownsRow (wE.heap.size + 1) 53 3 (.slice (some ⟨g7, 0, none⟩) (j + 1) c7) (j + 1) (rowO op j ++ [.int .i64 t.k, .int .i64 t.key, .int .i64 t.v])) (hg7 : (wd.alloc (.cells cs 53)).grownBy w7 (Value.ownBlock (.slice sp j cap))) :
    IkS wE (w7.setCell ⟨wE.heap.size, 2, none⟩ (.slice (some ⟨g7, 0, none⟩) (j + 1) c7)) q n f A k c (j + 1) (L - (opL t).length) o' := by
  have hbo : ∀ q, Value.ownBlock (.slice sp j cap) = some q → wE.heap.size + 1 ≤ q := fun q e => (how.lt q e).1
  have hba : Below wE.heap.size wE (wd.alloc (.cells cs 53)) := (h0.trans (hdb.mono h0.size)).alloc (Nat.le_trans h0.size hdb.size) _
  have hb7 : Below wE.heap.size wE w7 := hba.grown hg7 hba.size (fun q hq => by have := hbo q hq; omega)
  have hQl : wE.heap.size < wr.heap.size := by
    rcases Nat.lt_or_ge wE.heap.size wr.heap.size with h' | h'
    · exact h'
    · rw [Array.getElem?_eq_none h'] at hQ; cases hQ
  have hQd : wE.heap.size < wd.heap.size := by rw [hd]; exact hQl
  have hQa : (wd.alloc (.cells cs 53)).heap[wE.heap.size]? = some (.cells #[.int .i64 k, .int .i64 c, .slice sp j cap] 43 (0, 0)) := (((Below.refl wd.heap.size wd).alloc (Nat.le_refl _) (.cells cs 53)).block wE.heap.size hQd).trans (by rw [hd]; exact hQ)
  have hQ7 : w7.heap[wE.heap.size]? = some (.cells #[.int .i64 k, .int .i64 c, .slice sp j cap] 43 (0, 0)) := (hg7.block _ (Nat.lt_of_lt_of_le hQd (by simp)) (fun e => by have := hbo _ e.symm; omega)).trans hQa
  have hs8 := heap_setCell_same w7 wE.heap.size 2 _ 43 (.slice (some ⟨g7, 0, none⟩) (j + 1) c7) hQ7
  have hb8 : Below wE.heap.size wE (w7.setCell ⟨wE.heap.size, 2, none⟩ (.slice (some ⟨g7, 0, none⟩) (j + 1) c7)) := hb7.setCell (Nat.le_refl _) _
  have hgs : w7.grownBy (w7.setCell ⟨wE.heap.size, 2, none⟩ (.slice (some ⟨g7, 0, none⟩) (j + 1) c7)) (some wE.heap.size) := grown_setCell (grown_refl _ _) 2 _
  refine ⟨hb8, some ⟨g7, 0, none⟩, c7, put1 op j t, hs8, ?_, ?_, ?_, ?_, ?_⟩
  · have hrow : rowO (put1 op j t) (j + 1) = rowO op j ++ [.int .i64 t.k, .int .i64 t.key, .int .i64 t.v] := by
      rw [rowO_succ, put1_at, ← rowO_congr op (put1 op j t) j (put1_low op j t)]
    rw [hrow]
    refine own_keep ho7 fun q e => ?_
    have := ho7.lt q e
    exact hgs.block q this.2 (fun e => by injection e with e; omega)
  · intro i hi
    by_cases hij : i = j
    · subst hij; rw [put1_at]; exact tf
    · rw [← put1_low op j t i (by omega)]; exact hf i (by omega)
  · rw [opsL_put1]; exact Sp.app.2 ⟨hs, ts⟩
  · rw [opsL_put1, List.length_append]; omega
  · rw [opsL_put1, List.length_append, ← Nat.add_assoc]
    have hbE : BS wE q o L (A + 10 + (opsL op j).length) f := ⟨hq, fun i hi => by rw [← h0.cell (p := ⟨q, o + i, none⟩) hq]; exact hb.cb i hi⟩
    have h8 := hbE.belowB hb8 hq
    by_cases hlt : (opL t).length < L
    · rw [ho' hlt]; exact h8.part _ _ (by omega)
    · rw [show L - (opL t).length = 0 by omega]; exact (h8.front 0 (by omega)).none

/-- an event appended -/
theorem rk_next {w1 wE wr w7 : World} {q n m j jj L' o' cap A : Nat} {f : Nat → Nat} {v v7 : Value} {E : Nat → Ev} {V : Nat → Value} {sp : Option Addr} {op : Nat → O3}
    (hA : (numL m).length + (evsL E j).length = A) (hq : q < w1.heap.size) (h1 : Below w1.heap.size w1 wE) (hG : Got f n m j E) (hE : EvO wE w1.heap.size v j E V)
    (hjj : jj = gv f (A + 6) 4) (h12 : jj ≤ 12)
    (h0 : Below wE.heap.size wE wr) (how : wr.ownsRow (wE.heap.size + 1) 53 3 (.slice sp jj cap) jj (rowO op jj))
    (hf : ∀ i, i < jj → FitO (op i)) (hs : Sp f (A + 10) (opsL op jj)) (hL' : A + 10 + (opsL op jj).length + L' = 8 * n) (hb : BS wr q o' L' (A + 10 + (opsL op jj).length) f)
    (ho7 : w7.ownsRow w1.heap.size 43 3 v7 (j + 1) (rowT (fun i => asT (E i)) V j ++ [.int .i64 ((gv f (A) 2 : Int) + 1), .int .i64 ((gv f (A + 2) 4 : Int) + 1), .slice sp jj cap]))
    (hg7 : (wr.alloc (.cells #[.int .i64 ((gv f (A) 2 : Int) + 1), .int .i64 ((gv f (A + 2) 4 : Int) + 1), .slice sp jj cap] 43)).grownBy w7 v.ownBlock) :
    RkS w1 w7 q n f m v7 (j + 1) L' o' := by
  subst hjj
  have hbo : ∀ q, v.ownBlock = some q → w1.heap.size ≤ q := fun q e => (hE.row.lt q e).1
  have hbr : Below w1.heap.size w1 wr := h1.trans (h0.mono h1.size)
  have hba := hbr.alloc hbr.size (.cells #[.int .i64 ((gv f A 2 : Int) + 1), .int .i64 ((gv f (A + 2) 4 : Int) + 1), .slice sp (gv f (A + 6) 4) cap] 43)
  have hb7 : Below w1.heap.size w1 w7 := hba.grown hg7 hba.size hbo
  have hfit := ev_fit (f := f) (a := A) h12 hf
  have hsp := ev_sp (f := f) (a := A) hs
  have hlen : (evL ⟨(gv f A 2 : Int) + 1, (gv f (A + 2) 4 : Int) + 1, gv f (A + 6) 4, op⟩).length = 10 + (opsL op (gv f (A + 6) 4)).length := evL_len _
  obtain ⟨s1, s2, s3, s4, s5⟩ := hG
  generalize he : (⟨(gv f A 2 : Int) + 1, (gv f (A + 2) 4 : Int) + 1, gv f (A + 6) 4, op⟩ : Ev) = e at *
  have he1 : e.n = gv f (A + 6) 4 := by rw [← he]
  have hnew : (numL m).length + (evsL (putE E j e) (j + 1)).length = A + 10 + (opsL op (gv f (A + 6) 4)).length := by rw [evsL_putE, List.length_append]; omega
  refine ⟨hb7, putE E j e, fun i => if i = j then .slice sp (gv f (A + 6) 4) cap else V i, ⟨s1, s2, ?_, by rw [hnew]; omega, ?_⟩, by rw [hnew]; exact hL', ?_, ?_⟩
  · rw [evsL_putE]; exact Sp.app.2 ⟨s3, by rw [hA]; exact hsp⟩
  · intro i hi
    by_cases hij : i = j
    · subst hij; rw [putE_at]; exact hfit
    · rw [putE_low E j _ i (by omega)]; exact s5 i (by omega)
  · rw [hnew]
    have hb1 : BS w1 q o' L' (A + 10 + (opsL op (gv f (A + 6) 4)).length) f := ⟨hq, fun i hi => by rw [← hbr.cell (p := ⟨q, o' + i, none⟩) hq]; exact hb.cb i hi⟩
    exact hb1.belowB hb7 hq
  · have hAl : Below wr.heap.size wr (wr.alloc (.cells #[.int .i64 ((gv f A 2 : Int) + 1), .int .i64 ((gv f (A + 2) 4 : Int) + 1), .slice sp (gv f (A + 6) 4) cap] 43)) := (Below.refl _ _).alloc (Nat.le_refl _) _
    have hE2 : EvO (wr.alloc (.cells #[.int .i64 ((gv f A 2 : Int) + 1), .int .i64 ((gv f (A + 2) 4 : Int) + 1), .slice sp (gv f (A + 6) 4) cap] 43)) w1.heap.size v j (putE E j e) V := ((hE.below h0).below hAl).congr (putE_low E j _)
    have hop : (wr.alloc (.cells #[.int .i64 ((gv f A 2 : Int) + 1), .int .i64 ((gv f (A + 2) 4 : Int) + 1), .slice sp (gv f (A + 6) 4) cap] 43)).ownsRow w1.heap.size 53 3 (.slice sp (gv f (A + 6) 4) cap) (gv f (A + 6) 4) (rowO op (gv f (A + 6) 4)) := own_low (how.alloc _) (by have := h1.size; omega)
    have hrow : rowT (fun i => asT (E i)) V j = rowT (fun i => asT (putE E j e i)) V j := rowT_congr _ _ _ _ j fun i hi => by rw [putE_low E j _ i hi]; exact ⟨rfl, rfl, rfl⟩
    rw [hrow] at ho7
    have hnil := own_nil' how
    subst he
    have := hE2.added (sp := sp) (cap := cap) (v' := v7) (w' := w7) (by rw [putE_at]; exact hop) (by rw [putE_at]; exact hnil) (by rw [putE_at]; show gv f (A + 6) 4 ≤ _; omega) (by rw [putE_at]; exact ho7) hg7
    rw [putE_at] at this
    exact this
theorem err_ev {f : Nat → Nat} {n m j A : Nat} {E : Nat → Ev} {er : Int} (hA : (numL m).length + (evsL E j).length = A) (hj : j < m) (hG : Got f n m j E) (he : ErrE f n A er) : ErrB f n er :=
  .inr (.inr (.inl ⟨m, j, E, hj, hG, by rw [hA]; exact he⟩))
theorem err_op {f : Nat → Nat} {n m j A N jj L : Nat} {E : Nat → Ev} {op : Nat → O3} {er : Int} (hA : (numL m).length + (evsL E j).length = A) (hj : j < m) (hG : Got f n m j E) (hN : N = gv f (A + 6) 4) (h12 : N ≤ 12) (hjj : jj < N)
    (hf : ∀ i, i < jj → FitO (op i)) (hs : Sp f (A + 10) (opsL op jj)) (hL : A + 10 + (opsL op jj).length + L = 8 * n) (he : ErrO f n (A + 10 + (opsL op jj).length) er) : ErrB f n er :=
  err_ev hA hj hG (.inr (.inr ⟨by omega, by omega, jj, op, by omega, hf, hs, by omega, he⟩))
end Go.Proofs.Ytaddmegghikhpaa
