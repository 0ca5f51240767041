/-
  The reference's Bytes at any place; its ReadNum in one form; states that stopped (mathematics).
  BookForm's walk.
  The reference's lists of bits: rows by lists, appended.
  The reference's Inside: lists of bits, texts.
-/
import Derived.Test.YtccpfoimedjdgaaJ12
import Derived.Test.YtccpfoimedjdgaaJ10
import Derived.Test.YtccpfoimedjdgaaJ11
import Derived.Test.YtccpfoimedjdgaaJ02
import Derived.IntWalk

namespace Go.Proofs.Ytccpfoimedjdgaa
open Go.ChangeShapes Go.WideShapes Go.ChangeAt Go.RowKit

set_option maxRecDepth 100000 in
set_option maxHeartbeats 2000000 in
theorem rbytes_at (q o L cp : Nat) (F : Nat → Nat) (w : World) (h : BS w q o L 0 F) (hE : Ends F L) (hL : L ≤ 8000000) :
    Calls Try.prog 22 #[.slice (some ⟨q, o, none⟩) L cp] w (ListPost F ((L + 7) / 8) w) := by
  have HB := Lib.hid h
  have HE := Lib.hid hE
  clear h hE
  obtain ⟨i0, hi, hz0, hz1, hz2⟩ := info_parts info5
  go_enter Try.func22, Try.ntmps22
  go_wp2
  go_loopw [3, 4] (fun v i wr => ∃ t g cap : Nat, t ≤ (L + 7) / 8 ∧ i = .int .i64 ((8 * t : Nat) : Int) ∧ v = .slice (some ⟨g, 0, none⟩) t cap ∧ Hid (w.heap.size ≤ g ∧ wr.ownsRow w.heap.size 5 1 (.slice (some ⟨g, 0, none⟩) t cap) t (rowB F t) ∧ Below w.heap.size w wr)) (fun _ i _ => 8 * ((L + 7) / 8) - (intOf i).toNat)
  case atStart => exact ⟨0, w.heap.size, 0, Nat.zero_le _, rfl, rfl, Lib.hid ⟨Nat.le_refl _, World.ownsRow_lit w #[] 0 (Nat.le_refl _) (Nat.zero_le _) rfl, (Below.refl _ _).alloc (Nat.le_refl _) _⟩⟩
  case round =>
    obtain ⟨t, g, cap, ht, rfl, rfl, HA⟩ := hrel
    by_cases hlt : 8 * t < L
    · have hlt' : (((8 * t : Nat) : Int)) < (L : Int) := by omega
      go_wp2
      go_loopw [5, 6] (fun c k wx => ∃ s : Nat, s ≤ 8 ∧ k = .int .i64 (s : Int) ∧ c = .int .i64 ((gv F (8 * t) s : Nat) : Int) ∧ wr = wx) (fun _ k _ => 8 - (intOf k).toNat)
      case atStart => exact ⟨0, by omega, rfl, rfl, rfl⟩
      case round =>
        obtain ⟨s, hs, rfl, rfl, rfl⟩ := hrel
        by_cases hs8 : s < 8
        · have hx : gv F (8 * t) s < 256 := Nat.lt_of_lt_of_le (gv_lt F (8 * t) s) (Nat.pow_le_pow_right (by decide) (by omega : s ≤ 8))
          have hb := bitAt_lt F (8 * t + s)
          have HG : Hid (gv F (8 * t) (s + 1) = 2 * gv F (8 * t) s + bitAt F (8 * t + s)) := Lib.hid rfl
          by_cases hin : 8 * t + s < L
          · have hin' : (((8 * t : Nat) : Int)) + (s : Int) < (L : Int) := by omega
            have c1 := (HA.out.2.2.cell (p := ⟨q, o + (8 * t + s), none⟩) HB.out.lt).trans (HB.out.cb (8 * t + s) hin)
            simp only [Nat.zero_add] at c1
            generalize gv F (8 * t) s = x at *
            generalize bitAt F (8 * t + s) = b at *
            go_wp2
            go_roundw
            case rel => exact ⟨s + 1, by omega, by go_num, val_int (by rw [HG.out]; omega), by first | rfl | trivial⟩
            case measure => simp [intOf]; omega
          · have hin' : ¬ (((8 * t : Nat) : Int)) + (s : Int) < (L : Int) := by omega
            have HN : Hid (bitAt F (8 * t + s) = 0) := Lib.hid (HE.out.nought _ (by omega) (by omega))
            generalize gv F (8 * t) s = x at *
            generalize bitAt F (8 * t + s) = b at *
            go_wp2
            go_roundw
            case rel => exact ⟨s + 1, by omega, by go_num, val_int (by rw [HG.out, HN.out]; omega), by first | rfl | trivial⟩
            case measure => simp [intOf]; omega
        · obtain rfl : s = 8 := by omega
          have hb := HE.out.1 t
          rw [gv_byte F t hb]
          have hwr : w.heap.size ≤ wr.heap.size := HA.out.2.2.size
          obtain ⟨y, ey⟩ : ∃ y, y = F t := ⟨_, rfl⟩
          have EY := Lib.hid ey
          rw [← ey] at hb ⊢
          clear ey
          go_wp2_with (at_builtin; refine wpList_append_own _ rfl _ _ 23 rfl w.heap.size 5 i0 (.int .u8 0) 1 1 Try.underlying23 hi hz0 hz1 hz2 rfl (by decide) _ t (rowB F t) rfl ?c0 ⟨wr.heap.size, 0, none⟩ 1 1 [.int .u8 (y : Int)] rfl ?cl ?c1 ?c2 ?c3 ?c4 ?c5 ?_)
          case c0 => exact HA.out.2.1.alloc _
          case cl => rfl
          case c1 =>
            intro j u hj
            rcases j with _ | j
            · simp at hj; subst hj; simp [Addr.add]
            · simp at hj
          case c2 => intro u hu; simp at hu; subst hu; rfl
          case c3 => unfold maxLen; omega
          case c4 => omega
          case c5 => simp; omega
          intro v5 w5 hown5 hgrow5 _
          have HB5 : Hid (Below w.heap.size w w5) := Lib.hid ((HA.out.2.2.alloc HA.out.2.2.size _).grown hgrow5 (by simp; omega) (fun q hq => by have := (HA.out.2.1.lt q hq).1; omega))
          rw [show [Value.int .u8 (y : Int)] = rowB (fun _ => y) 1 from rfl, rowB_app F (fun _ => y) t 1 F (fun _ _ => rfl) (fun j hj => by obtain rfl : j = 0 := by omega
                                                                                                                                            exact EY.out.symm)] at hown5
          obtain ⟨g5, cap5, rfl, hg1, hg2⟩ := hown5.form (by omega)
          have HO5 := Lib.hid (⟨hg1, hown5, HB5.out⟩ : _ ∧ _ ∧ _)
          clear hown5 hgrow5
          go_wp2
          go_roundw
          case rel => exact ⟨t + 1, g5, cap5, by omega, by go_num, rfl, HO5⟩
          case measure => simp [intOf]; omega
    · have hlt' : ¬ (((8 * t : Nat) : Int)) < (L : Int) := by omega
      obtain rfl : t = (L + 7) / 8 := by omega
      go_wp2
      go_ret
      exact ⟨g, cap, rfl, HA.out.1, HA.out.2.1, HA.out.2.2⟩


theorem gv_one (f : Nat → Nat) (a : Nat) : gv f a 1 = bitAt f a := by
  show 2 * gv f a 0 + bitAt f (a + 0) = _
  rw [Nat.add_zero]; show 2 * 0 + _ = _; omega
theorem gv_noughts (f : Nat → Nat) (a L : Nat) (h : ∀ t, t < L → bitAt f (a + t) = 0) : gv f a L = 0 := by
  induction L with
  | zero => rfl
  | succ L ih =>
    show 2 * gv f a L + bitAt f (a + L) = 0
    rw [ih fun t ht => h t (by omega), h L (by omega)]
theorem gv_some (f : Nat → Nat) (a L t : Nat) (ht : t < L) (h : ¬ bitAt f (a + t) = 0) : ¬ gv f a L = 0 := fun e => by
  have := gv_bit f a L t ht
  rw [e, Nat.zero_div] at this
  exact h this.symm

def RnS (f : Nat → Nat) (n a : Nat) (w : World) (e : Ending) (w' : World) : Prop :=
  w = w' ∧ ((∃ x, AtN f n a x ∧ e = .returned (.tuple #[.int .u64 (x : Int), .int .i64 ((numL x).length : Int), .int .i64 0])) ∨ (∃ er : Int, ErrN f n a er ∧ ¬ er = 0 ∧ e = .returned (.tuple #[.int .u64 0, .int .i64 0, .int .i64 er])))
theorem rnum_s (q o L cp n a : Nat) (f : Nat → Nat) (w : World) (h : BS w q o L a f) (hc : L ≤ cp) (hL : a + L = 8 * n) : Calls Try.prog 30 #[.slice (some ⟨q, o, none⟩) L cp] w (RnS f n a w) := by
  refine (rnum_any q o L cp n a f w h hc hL).mono ?_
  rintro e w' ⟨hw, ⟨z, hz, rfl⟩ | ⟨hs, rfl⟩ | ⟨hs, rfl⟩⟩
  · obtain ⟨x, ex, hx, hnz, hsp⟩ := is_num hz
    have hl : (numL x).length = 2 * z + 1 := by rw [numL_length, hnz]
    exact ⟨hw, .inl ⟨x, ⟨hx, hsp, by rw [hl]; exact hz.2.1⟩, by rw [ex] at hl ⊢; rw [hl]⟩⟩
  · exact ⟨hw, .inr ⟨10, .inl ⟨hs, rfl⟩, by decide, rfl⟩⟩
  · exact ⟨hw, .inr ⟨11, .inr ⟨hs, rfl⟩, by decide, rfl⟩⟩

/-! states that stopped -/
theorem uS_stop {f : Nat → Nat} {n most : Nat} {er : Int} {s : PS} (h : ¬ s.e = 0) : uS f n most er s = s := by
  obtain ⟨e1, e2⟩ := nV_stop (f := f) (n := n) h
  unfold uS
  rw [e1, if_neg (Nat.not_lt_zero _), e2]
theorem gsS_stop {n : Nat} {s : PS} (h : ¬ s.e = 0) : ∀ j, gsS n s j = s := by
  intro j
  induction j with
  | zero => rfl
  | succ j ih =>
    show gS n 8 (gsS n s j) = s
    rw [ih]
    unfold gS
    rw [if_neg h]
theorem tS_stop {f : Nat → Nat} {n : Nat} {s : PS} (h : ¬ s.e = 0) : tS f n s = s := by
  show gsS n (uS f n 4000 3 s) (uV f n 4000 s) = s
  rw [uS_stop h, gsS_stop h]
theorem nmS_stop {f : Nat → Nat} {n : Nat} {s : PS} {t : Nat} (h : ¬ (nmS f n s t).e = 0) : ∀ k, nmS f n s (t + k) = nmS f n s t := by
  intro k
  induction k with
  | zero => rfl
  | succ k ih =>
    show uS f n 1099511627776 1 (nmS f n s (t + k)) = _
    rw [ih, uS_stop h]
theorem itS_stop {f : Nat → Nat} {n : Nat} {s : PS} {t : Nat} (h : ¬ (itS f n s t).e = 0) : ∀ k, itS f n s (t + k) = itS f n s t := by
  intro k
  induction k with
  | zero => rfl
  | succ k ih =>
    show tS f n (itS f n s (t + k)) = _
    rw [ih, tS_stop h]
theorem eE_stop {f : Nat → Nat} {n : Nat} {s : PS} (h : ¬ s.e = 0) : eE f n s = s.e := by unfold eE; rw [if_neg h]
theorem itS_succ (f : Nat → Nat) (n : Nat) (s : PS) (j : Nat) : itS f n s (j + 1) = tS f n (itS f n s j) := rfl
theorem tF_it (f : Nat → Nat) (n : Nat) (s : PS) : tF f n s = itS f n (tI f n s) (tM f n s + 1) := by
  unfold tF
  generalize tM f n s = m
  rw [itS_succ]
theorem eE_it {f : Nat → Nat} {n : Nat} {s : PS} {j : Nat} (hj : j ≤ tM f n s + 1) (h : ¬ (itS f n (tI f n s) j).e = 0) : eE f n (tF f n s) = (itS f n (tI f n s) j).e := by
  obtain ⟨k, hk⟩ : ∃ k, tM f n s + 1 = j + k := ⟨tM f n s + 1 - j, by omega⟩
  rw [tF_it, hk, itS_stop h k]
  exact eE_stop h
theorem eE_nm {f : Nat → Nat} {n : Nat} {s : PS} {t : Nat} (ht : t ≤ 9) (h : ¬ (nmS f n s t).e = 0) : eE f n (tF f n s) = (nmS f n s t).e := by
  obtain ⟨k, hk⟩ : ∃ k, 9 = t + k := ⟨9 - t, by omega⟩
  have e9 : nmS f n s 9 = nmS f n s t := by rw [hk]; exact nmS_stop h k
  have eI0 : tI f n s = uS f n 2000 4 (nmS f n s 9) := rfl
  have eI : tI f n s = nmS f n s t := by
    rw [eI0, e9, uS_stop h]
  have h0 : itS f n (tI f n s) 0 = tI f n s := rfl
  have hI : ¬ (itS f n (tI f n s) 0).e = 0 := by rw [h0, eI]; exact h
  rw [eE_it (Nat.zero_le _) hI, h0, eI]
theorem uS_err {f : Nat → Nat} {n most a : Nat} {er er' : Int} (h : ErrN f n a er') : uS f n most er ⟨0, a⟩ = ⟨er', 0⟩ ∧ uV f n most ⟨0, a⟩ = 0 := by
  obtain ⟨e1, e2⟩ := nV_no (s := ⟨0, a⟩) rfl h
  refine ⟨?_, ?_⟩
  · unfold uS; rw [e1, if_neg (Nat.not_lt_zero _), e2]
  · unfold uV; rw [e1, if_neg (Nat.not_lt_zero _)]
theorem uS_big {f : Nat → Nat} {n most a x : Nat} {er : Int} (h : AtN f n a x) (hx : most < x) : uS f n most er ⟨0, a⟩ = ⟨er, 0⟩ ∧ uV f n most ⟨0, a⟩ = 0 := by
  obtain ⟨e1, e2⟩ := nV_at (s := ⟨0, a⟩) rfl h
  refine ⟨?_, ?_⟩
  · unfold uS
    rw [e1, if_pos hx, e2]
    unfold fS
    rw [if_pos rfl]
  · unfold uV; rw [e1, if_pos hx]
theorem gsS_short {n a : Nat} : ∀ j, a ≤ 8 * n → 8 * n < a + 8 * j → (gsS n ⟨0, a⟩ j).e = 10 := by
  intro j
  induction j with
  | zero => intro h1 h2; omega
  | succ j ih =>
    intro h1 h2
    by_cases hj : 8 * n < a + 8 * j
    · have := ih h1 hj
      show (gS n 8 (gsS n ⟨0, a⟩ j)).e = 10
      unfold gS
      rw [if_neg (by rw [this]; decide)]
      exact this
    · show (gS n 8 (gsS n ⟨0, a⟩ j)).e = 10
      rw [gsS_at j (by omega)]
      unfold gS
      rw [if_pos rfl, if_neg (by dsimp only; omega)]
theorem tS_err {f : Nat → Nat} {n a : Nat} {er : Int} (h : ErrN f n a er) (h0 : ¬ er = 0) : (tS f n ⟨0, a⟩).e = er := by
  obtain ⟨e1, e2⟩ := uS_err (most := 4000) (er := 3) h
  show (gsS n (uS f n 4000 3 ⟨0, a⟩) (uV f n 4000 ⟨0, a⟩)).e = er
  rw [e1, gsS_stop h0]
theorem tS_big {f : Nat → Nat} {n a x : Nat} (h : AtN f n a x) (hx : 4000 < x) : (tS f n ⟨0, a⟩).e = 3 := by
  obtain ⟨e1, e2⟩ := uS_big (er := 3) h hx
  show (gsS n (uS f n 4000 3 ⟨0, a⟩) (uV f n 4000 ⟨0, a⟩)).e = 3
  rw [e1, gsS_stop (show ¬ (3 : Int) = 0 by decide)]
theorem tS_short {f : Nat → Nat} {n a x : Nat} (h : AtN f n a x) (hx : x ≤ 4000) (hl : 8 * n < a + (numL x).length + 8 * x) : (tS f n ⟨0, a⟩).e = 10 := by
  obtain ⟨e1, e2⟩ := uS_at (er := 3) h hx
  show (gsS n (uS f n 4000 3 ⟨0, a⟩) (uV f n 4000 ⟨0, a⟩)).e = 10
  rw [e1, e2]
  exact gsS_short x h.2.2 hl
/-- bytes at a place -/
def byA (f : Nat → Nat) (a j : Nat) : Nat := gv f (a + 8 * j) 8
theorem byA_lt (f : Nat → Nat) (a j : Nat) : byA f a j < 256 := gv_lt f _ 8
theorem tS_fine {f : Nat → Nat} {n a x : Nat} (h : AtN f n a x) (hx : x ≤ 4000) (hl : a + (numL x).length + 8 * x ≤ 8 * n) : tS f n ⟨0, a⟩ = ⟨0, a + (numL x).length + 8 * x⟩ ∧ SameB ⟨x, byA f (a + (numL x).length)⟩ (tB f n ⟨0, a⟩) := by
  obtain ⟨e1, e2⟩ := uS_at (er := 3) h hx
  refine ⟨?_, e1.symm, fun j hj => ?_⟩
  · show gsS n (uS f n 4000 3 ⟨0, a⟩) (uV f n 4000 ⟨0, a⟩) = _
    rw [e1, e2, gsS_at x hl]
  · dsimp only at hj
    show _ = gV f n 8 (gsS n (uS f n 4000 3 ⟨0, a⟩) j)
    rw [e2, gsS_at j (by omega)]
    unfold gV
    rw [if_pos ⟨rfl, by dsimp only; omega⟩]
    rfl
theorem byA_bit (f : Nat → Nat) (a i : Nat) : bitAt (byA f a) i = bitAt f (a + i) := by
  have h := gv_bit f (a + 8 * (i / 8)) 8 (i % 8) (Nat.mod_lt _ (by decide))
  show gv f (a + 8 * (i / 8)) 8 / 2 ^ (7 - i % 8) % 2 = _
  rw [show 7 - i % 8 = 8 - 1 - i % 8 by omega, h]
  congr 1
  omega
end Go.Proofs.Ytccpfoimedjdgaa

namespace Go.Proofs.Ytccpfoimedjdgaa
open Go.ChangeShapes Go.WideShapes Go.ChangeAt Go.RowKit

def rowL (L : List Nat) : List Value := L.map fun b => .int .u8 ((b : Nat) : Int)

set_option maxRecDepth 100000 in
theorem rowL_length (L : List Nat) : (rowL L).length = L.length := by unfold rowL; simp

set_option maxRecDepth 100000 in
theorem rowL_app (L M : List Nat) : rowL L ++ rowL M = rowL (L ++ M) := by unfold rowL; simp

set_option maxRecDepth 100000 in
theorem rowL_one (L : List Nat) : ∀ u ∈ rowL L, u.oneCell' = true := by
  intro u hu
  unfold rowL at hu
  obtain ⟨b, _, rfl⟩ := List.mem_map.1 hu
  rfl

set_option maxRecDepth 100000 in
theorem rowB_bits (x m : Nat) : rowB (pb x m) m = rowL (bitsL x m) := by
  unfold rowB rowL bitsL pb; simp

set_option maxRecDepth 100000 in
theorem rowB_num (x : Nat) : rowB (numBits x) (2 * nz x + 1) = rowL (numL x) := by
  unfold rowB rowL numL; simp

/-- a list of our own -/
def RowS (w : World) (base : Nat) (L : List Nat) (g cap : Nat) : Prop := w.ownsRow base 5 1 (.slice (some ⟨g, 0, none⟩) L.length cap) L.length (rowL L)

def LP (L : List Nat) (w : World) (e : Ending) (w' : World) : Prop := ∃ g cap, e = .returned (.slice (some ⟨g, 0, none⟩) L.length cap) ∧ RowS w' w.heap.size L g cap ∧ Below w.heap.size w w'

set_option maxRecDepth 100000 in
theorem rput_L (x : Nat) (z : Int) (m : Nat) (w : World) (hx : x < 18446744073709551616) (hm : wn z = m) : Calls Try.prog 37 #[.int .u64 (x : Int), .int .i64 z] w (LP (bitsL x m) w) := by
  refine (rput_any x z m w hx hm).mono ?_
  rintro e w' ⟨g, cap, rfl, _, ho, hb⟩
  rw [rowB_bits] at ho
  exact ⟨g, cap, by rw [bitsL_length], by unfold RowS; rw [bitsL_length]; exact ho, hb⟩

set_option maxRecDepth 100000 in
theorem rnum_L (x : Nat) (w : World) (hx : x < 18446744073709551616) : Calls Try.prog 20 #[.int .u64 (x : Int)] w (LP (numL x) w) := by
  refine (rnumw x w hx).mono ?_
  rintro e w' ⟨g, cap, rfl, _, ho, hb⟩
  rw [rowB_num] at ho
  exact ⟨g, cap, by rw [numL_length], by unfold RowS; rw [numL_length]; exact ho, hb⟩

set_option maxRecDepth 100000 in
theorem RowS.below {w w' : World} {base g cap : Nat} {L : List Nat} (h : RowS w base L g cap) (hb : Below w.heap.size w w') : RowS w' base L g cap := own_keep h fun q e => hb.block q (h.lt q e).2

set_option maxRecDepth 100000 in
theorem wpList_append_L {w : World} {ops : Array Oper} {rest : List Oper} {o : Oper} {a : Act} {Q : Exit → Act → World → Prop} (hgd : o.guard = none) (s x : Operand)
    (ho : o.op = .call { callee := .builtin .append, args := #[s, x], argTypes := #[23, 23] }) (base base' : Nat) (L M : List Nat) (g cap g' cap' : Nat) (hs : a.eval s = .slice (some ⟨g, 0, none⟩) L.length cap) (hown : RowS w base L g cap)
    (hx : a.eval x = .slice (some ⟨g', 0, none⟩) M.length cap') (hnew : RowS w base' M g' cap') (hl : L.length ≤ 8000000) (hM : M.length ≤ 1000) (hb : base ≤ w.heap.size)
    (h : ∀ g2 c2 w', RowS w' base (L ++ M) g2 c2 → w.grownBy w' (some g) → wpList Try.prog ops Q rest (a.put o.dst (.slice (some ⟨g2, 0, none⟩) (L ++ M).length c2)) w') : wpList Try.prog ops Q (o :: rest) a w := by
  obtain ⟨i0, hi, hz0, hz1, hz2⟩ := info_parts info5
  refine wpList_append_own w hgd s x 23 ho base 5 i0 (.int .u8 0) 1 1 Try.underlying23 hi hz0 hz1 hz2 rfl (by decide) _ L.length (rowL L) hs hown ⟨g', 0, none⟩ M.length cap' (rowL M) hx (by rw [rowL_length, Nat.mul_one]) ?_ (rowL_one M) (by unfold maxLen; omega) (by omega) hb ?_
  · intro j u hj
    have hjm : j < M.length := by
      rcases Nat.lt_or_ge j M.length with h' | h'
      · exact h'
      · rw [List.getElem?_eq_none (by rw [rowL_length]; exact h')] at hj; cases hj
    rw [Go.WideShapes.add_plain, Nat.zero_add, hnew.cellAt j (by omega)]
    exact hj
  · intro v' w' ho' hg' hn'
    rw [rowL_app, ← List.length_append] at ho'
    have hne : ¬ v' = .slice none 0 0 := fun e => by
      have := (hn'.1 e).1
      cases this
    rcases ho'.2 with ⟨e, _⟩ | ⟨g2, c2, cur, e, _⟩
    · exact absurd e hne
    · subst e
      exact h g2 c2 w' ho' hg'

end Go.Proofs.Ytccpfoimedjdgaa

namespace Go.Proofs.Ytccpfoimedjdgaa
open Go.ChangeShapes Go.WideShapes Go.ChangeAt Go.RowKit

theorem wpList_append_L2 {w : World} {ops : Array Oper} {rest : List Oper} {o : Oper} {a : Act} {Q : Exit → Act → World → Prop} (hgd : o.guard = none) (s x : Operand)
    (ho : o.op = .call { callee := .builtin .append, args := #[s, x], argTypes := #[23, 23] }) (base base' : Nat) (L M : List Nat) (g cap g' cap' : Nat) (l m : Nat) (hll : l = L.length) (hmm : m = M.length) (hs : a.eval s = .slice (some ⟨g, 0, none⟩) l cap) (hown : RowS w base L g cap)
    (hx : a.eval x = .slice (some ⟨g', 0, none⟩) m cap') (hnew : RowS w base' M g' cap') (hl : L.length ≤ 8000000) (hM : M.length ≤ 1000000) (hb : base ≤ w.heap.size)
    (h : ∀ g2 c2 l2 w', l2 = (L ++ M).length → RowS w' base (L ++ M) g2 c2 → w.grownBy w' (some g) → wpList Try.prog ops Q rest (a.put o.dst (.slice (some ⟨g2, 0, none⟩) l2 c2)) w') : wpList Try.prog ops Q (o :: rest) a w := by
  subst hll hmm
  obtain ⟨i0, hi, hz0, hz1, hz2⟩ := info_parts info5
  refine wpList_append_own w hgd s x 23 ho base 5 i0 (.int .u8 0) 1 1 Try.underlying23 hi hz0 hz1 hz2 rfl (by decide) _ L.length (rowL L) hs hown ⟨g', 0, none⟩ M.length cap' (rowL M) hx (by rw [rowL_length, Nat.mul_one]) ?_ (rowL_one M) (by unfold maxLen; omega) (by omega) hb ?_
  · intro j u hj
    have hjm : j < M.length := by
      rcases Nat.lt_or_ge j M.length with h' | h'
      · exact h'
      · rw [List.getElem?_eq_none (by rw [rowL_length]; exact h')] at hj; cases hj
    rw [Go.WideShapes.add_plain, Nat.zero_add, hnew.cellAt j (by omega)]
    exact hj
  · intro v' w' ho' hg' hn'
    rw [rowL_app, ← List.length_append] at ho'
    have hne : ¬ v' = .slice none 0 0 := fun e => by
      have := (hn'.1 e).1
      cases this
    rcases ho'.2 with ⟨e, _⟩ | ⟨g2, c2, cur, e, _⟩
    · exact absurd e hne
    · subst e
      exact h g2 c2 _ w' rfl ho' hg'
theorem byt_sp (f : Nat → Nat) (hf : ∀ j, f j < 256) : ∀ n, Sp f 0 (bytL f n) := by
  intro n
  induction n with
  | zero => intro i hi; exact absurd hi (Nat.not_lt_zero _)
  | succ n ih =>
    refine Sp.app.2 ⟨ih, ?_⟩
    rw [bytL_length, Nat.zero_add]
    have h := gv_sp f (8 * n) 8
    rw [gv_byte f n (hf n)] at h
    exact h
theorem rowB_sp {F : Nat → Nat} {L : List Nat} {m : Nat} (hm : m = L.length) (h : Sp F 0 L) : rowB (bitAt F) m = rowL L := by
  subst hm
  refine List.ext_getElem? fun i => ?_
  by_cases hi : i < L.length
  · have e := h i hi
    rw [Nat.zero_add] at e
    rw [rowB_get _ _ i hi, e]
    unfold rowL
    simp [hi]
  · rw [List.getElem?_eq_none (by rw [rowB_length]; omega), List.getElem?_eq_none (by rw [rowL_length]; omega)]
theorem rbits_L (v : Value) (b : Bs) (w : World) (hn : b.n ≤ 1000000) (hs : BsS w v b) : Calls Try.prog 21 #[v] w (LP (bytL b.f b.n) w) := by
  obtain ⟨sp, cap, rfl, hs, _, _, hf⟩ := hs
  refine (rbits_any sp b.n cap b.f w hn hf hs).mono ?_
  rintro e w' ⟨g, c, rfl, _, ho, hb⟩
  rw [rowB_sp (bytL_length b.f b.n).symm (byt_sp b.f hf b.n)] at ho
  exact ⟨g, c, by rw [bytL_length], by unfold RowS; rw [bytL_length]; exact ho, hb⟩
theorem rowS_bs {w : World} {base g cap : Nat} {L : List Nat} {F : Nat → Nat} (h : RowS w base L g cap) (hF : Sp F 0 L) : BS w g 0 L.length 0 F := by
  refine ⟨(h.lt g rfl).2, fun j hj => ?_⟩
  unfold RowS at h
  simp only [Nat.zero_add]
  rw [h.cellAt j (by omega), ← rowB_sp rfl hF]
  exact rowB_get _ _ j hj
theorem idx9 (N : Nat → Int) (t : Nat) (ht : t < 9) (w : World) : (Instr.index 33 (.agg (n9 N)) (.int .i64 (t : Int))).run Try.prog w = .ok (.int .i64 (N t)) w := by
  have q0 : ∀ w : World, (Instr.index 33 (.agg #[.int .i64 (N 0), .int .i64 (N 1), .int .i64 (N 2), .int .i64 (N 3), .int .i64 (N 4), .int .i64 (N 5), .int .i64 (N 6), .int .i64 (N 7), .int .i64 (N 8)]) (.int .i64 0)).run Try.prog w = .ok (.int .i64 (N 0)) w := fun _ => by kernel_rfl
  have q1 : ∀ w : World, (Instr.index 33 (.agg #[.int .i64 (N 0), .int .i64 (N 1), .int .i64 (N 2), .int .i64 (N 3), .int .i64 (N 4), .int .i64 (N 5), .int .i64 (N 6), .int .i64 (N 7), .int .i64 (N 8)]) (.int .i64 1)).run Try.prog w = .ok (.int .i64 (N 1)) w := fun _ => by kernel_rfl
  have q2 : ∀ w : World, (Instr.index 33 (.agg #[.int .i64 (N 0), .int .i64 (N 1), .int .i64 (N 2), .int .i64 (N 3), .int .i64 (N 4), .int .i64 (N 5), .int .i64 (N 6), .int .i64 (N 7), .int .i64 (N 8)]) (.int .i64 2)).run Try.prog w = .ok (.int .i64 (N 2)) w := fun _ => by kernel_rfl
  have q3 : ∀ w : World, (Instr.index 33 (.agg #[.int .i64 (N 0), .int .i64 (N 1), .int .i64 (N 2), .int .i64 (N 3), .int .i64 (N 4), .int .i64 (N 5), .int .i64 (N 6), .int .i64 (N 7), .int .i64 (N 8)]) (.int .i64 3)).run Try.prog w = .ok (.int .i64 (N 3)) w := fun _ => by kernel_rfl
  have q4 : ∀ w : World, (Instr.index 33 (.agg #[.int .i64 (N 0), .int .i64 (N 1), .int .i64 (N 2), .int .i64 (N 3), .int .i64 (N 4), .int .i64 (N 5), .int .i64 (N 6), .int .i64 (N 7), .int .i64 (N 8)]) (.int .i64 4)).run Try.prog w = .ok (.int .i64 (N 4)) w := fun _ => by kernel_rfl
  have q5 : ∀ w : World, (Instr.index 33 (.agg #[.int .i64 (N 0), .int .i64 (N 1), .int .i64 (N 2), .int .i64 (N 3), .int .i64 (N 4), .int .i64 (N 5), .int .i64 (N 6), .int .i64 (N 7), .int .i64 (N 8)]) (.int .i64 5)).run Try.prog w = .ok (.int .i64 (N 5)) w := fun _ => by kernel_rfl
  have q6 : ∀ w : World, (Instr.index 33 (.agg #[.int .i64 (N 0), .int .i64 (N 1), .int .i64 (N 2), .int .i64 (N 3), .int .i64 (N 4), .int .i64 (N 5), .int .i64 (N 6), .int .i64 (N 7), .int .i64 (N 8)]) (.int .i64 6)).run Try.prog w = .ok (.int .i64 (N 6)) w := fun _ => by kernel_rfl
  have q7 : ∀ w : World, (Instr.index 33 (.agg #[.int .i64 (N 0), .int .i64 (N 1), .int .i64 (N 2), .int .i64 (N 3), .int .i64 (N 4), .int .i64 (N 5), .int .i64 (N 6), .int .i64 (N 7), .int .i64 (N 8)]) (.int .i64 7)).run Try.prog w = .ok (.int .i64 (N 7)) w := fun _ => by kernel_rfl
  have q8 : ∀ w : World, (Instr.index 33 (.agg #[.int .i64 (N 0), .int .i64 (N 1), .int .i64 (N 2), .int .i64 (N 3), .int .i64 (N 4), .int .i64 (N 5), .int .i64 (N 6), .int .i64 (N 7), .int .i64 (N 8)]) (.int .i64 8)).run Try.prog w = .ok (.int .i64 (N 8)) w := fun _ => by kernel_rfl
  have : t = 0 ∨ t = 1 ∨ t = 2 ∨ t = 3 ∨ t = 4 ∨ t = 5 ∨ t = 6 ∨ t = 7 ∨ t = 8 := by omega
  rcases this with rfl | rfl | rfl | rfl | rfl | rfl | rfl | rfl | rfl
  · exact q0 w
  · exact q1 w
  · exact q2 w
  · exact q3 w
  · exact q4 w
  · exact q5 w
  · exact q6 w
  · exact q7 w
  · exact q8 w

section
variable {w : World}
/-- values behind values of our own -/
theorem step_append_vs {ops : Array Oper} {o : Oper} {a : Act} {K : Act → World → Prop} {Q : Exit → Act → World → Prop} {E : Prop} (hgd : o.guard = none) (s x : Operand)
    (ho : o.op = .call { callee := .builtin .append, args := #[s, x], argTypes := #[22, 22] })
    (base : Nat) (v : Value) (n : Nat) (xs : List Value) (hs : a.eval s = v) (hown : w.ownsRow base 23 1 v n xs)
    (sp : Option Addr) (k c : Nat) (ys : List Value) (hk : ys.length = k) (hx : a.eval x = .slice sp k c) (hc : ∀ b, sp = some b → ∀ j u, ys[j]? = some u → w.cell? (b.add j) = some u) (h1 : ∀ u ∈ ys, u.oneCell' = true) (hsp : sp = none → k = 0 ∧ c = 0)
    (h63 : n + k ≤ 100000) (hbase : base ≤ w.heap.size)
    (h : ∀ v' w', w'.ownsRow base 23 1 v' (n + k) (xs ++ ys) → w.grownBy w' v.ownBlock → K (a.put o.dst v') w') :
    if Region.wanted o (yielded ops a.tmps) = true then Oper.wp Try.prog o a w K Q else E := by
  have hw : Region.wanted o (yielded ops a.tmps) = true := by simp [Region.wanted, hgd]
  rw [if_pos hw]
  obtain ⟨i0, hi, hz0, hz1, hz2⟩ := info_parts info23
  subst hk
  rcases sp with _ | ad
  · obtain ⟨hd, rfl⟩ := hsp rfl
    obtain rfl : ys = [] := List.eq_nil_of_length_eq_zero hd
    have hrun := run_append_owned_none (P := Try.prog) (w := w) base 22 o.type 23 i0 1 Try.underlying22 hi v n xs hown
    unfold Oper.wp
    simp [execOp, ho, resolve, invoke, builtin, hs, hx, hrun, Result.andThen]
    exact h v w (by rw [List.append_nil]; exact hown) ⟨rfl, rfl, rfl, Nat.le_refl _, fun _ _ _ => rfl⟩
  · refine wp_append_own w s x 22 ho base 23 i0 (.slice none 0 0) 1 24 Try.underlying22 hi hz0 hz1 hz2 rfl (by decide) v n xs hs hown ad ys.length c ys hx (by rw [Nat.mul_one]) (hc ad rfl) h1 (by unfold maxLen; omega) (by omega) hbase ?_
    intro v' w' h2 h3 _
    exact h v' w' h2 h3
end
end Go.Proofs.Ytccpfoimedjdgaa

