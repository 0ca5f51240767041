/-
  SameTxns and SameEvents of the same.
-/
import Derived.Test.YtgpnjgpbblookaaNa
namespace Go.Proofs.Ytgpnjgpbblookaa
open Go.ChangeShapes Go.WideShapes Go.ChangeAt Go.RowKit

/-- two numbers and operations each, in a slice that may be anybody's -/
def E3 (w : World) (a : Option Addr) (len : Nat) (E : Nat → Ev) : Prop :=
  0 < len → ∃ b off, a = some ⟨b, off, none⟩ ∧ b < w.heap.size ∧ ∀ j, j < len → ∃ sp cap, w.cell? ⟨b, off + j * 3, none⟩ = some (.int .i64 (E j).k) ∧ w.cell? ⟨b, off + j * 3 + 1, none⟩ = some (.int .i64 (E j).c) ∧ w.cell? ⟨b, off + j * 3 + 2, none⟩ = some (.slice sp (E j).n cap) ∧ OpS w sp (E j).n (E j).o
theorem E3.below {w w' : World} {a : Option Addr} {len : Nat} {E : Nat → Ev} (h : E3 w a len E) (hb : Below w.heap.size w w') : E3 w' a len E := by
  intro hl
  obtain ⟨b, off, e, hbl, hc⟩ := h hl
  refine ⟨b, off, e, Nat.lt_of_lt_of_le hbl hb.size, fun j hj => ?_⟩
  obtain ⟨sp, cap, c0, c1, c2, ho⟩ := hc j hj
  exact ⟨sp, cap, (hb.cell hbl).trans c0, (hb.cell hbl).trans c1, (hb.cell hbl).trans c2, ho.below hb⟩
theorem EvS.e3 {w : World} {a : Option Addr} {len : Nat} {E : Nat → Ev} (h : EvS w a len E) : E3 w a len E := by
  intro hl
  obtain ⟨b, off, e, hbl, hc⟩ := h hl
  refine ⟨b, off, e, hbl, fun j hj => ?_⟩
  obtain ⟨sp, cap, c0, c1, c2, ho, _⟩ := hc j hj
  exact ⟨sp, cap, c0, c1, c2, ho⟩
/-- a transaction's numbers, laid as an event's are -/
def asE (t : Tx) : Ev := ⟨t.c, t.st, t.n, t.o⟩
theorem row_e3 {w : World} {B m cp : Nat} {sp : Option Addr} {T T' : Nat → Tx} {V : Nat → Value} (h : w.ownsRow B 36 3 (.slice sp m cp) m (rowT T V m)) (ho : ∀ j, j < m → ∃ sp cap, V j = .slice sp (T j).n cap ∧ OpS w sp (T j).n (T j).o ∧ (T j).n ≤ 1000) (he : ∀ j, j < m → T j = T' j) :
    E3 w sp m (fun j => asE (T' j)) := by
  intro hl
  obtain ⟨g, cap', e, _, hgl⟩ := h.form hl
  injection e with e1 e2 e3
  subst e1
  refine ⟨g, 0, rfl, hgl, fun j hj => ?_⟩
  obtain ⟨sp, cap, e, ho, _⟩ := ho j hj
  obtain ⟨r0, r1, r2⟩ := rowT_get T V m j hj
  rw [e] at r2
  have c0 := (h.cellAt (j * 3) (by omega)).trans r0
  have c1 := (h.cellAt (j * 3 + 1) (by omega)).trans r1
  have c2 := (h.cellAt (j * 3 + 2) (by omega)).trans r2
  simp only [Nat.zero_add]
  rw [← he j hj]
  exact ⟨sp, cap, c0, c1, c2, ho⟩

set_option maxRecDepth 100000 in
set_option maxHeartbeats 2000000 in
theorem sameT_true (a : Option Addr) (len c : Nat) (E : Nat → Ev) (a' : Option Addr) (c' : Nat) (w : World) (hl : len ≤ 1000) (hn : ∀ j, j < len → (E j).n ≤ 1000000) (h : E3 w a len E) (h' : E3 w a' len E) :
    Calls Try.prog 15 #[.slice a len c, .slice a' len c'] w fun e w' => e = .returned (.bool true) ∧ ∃ m, w' = w.drewN m := by
  have H1 := Lib.hid h
  have H2 := Lib.hid h'
  have HN := Lib.hid hn
  clear h h' hn
  have hnn : ((len : Int) != (len : Int)) = false := by simp
  go_enter Try.func15, Try.ntmps15
  go_wp2
  go_loopw [5, 13] (fun _ x wr => ∃ t : Nat, t ≤ len ∧ x = .int .i64 (t : Int) ∧ Hid (∃ q, wr = w.drewN q)) (fun _ x _ => len - (intOf x).toNat)
  case atStart => exact ⟨0, Nat.zero_le _, rfl, Lib.hid ⟨0, rfl⟩⟩
  case round =>
    obtain ⟨t, ht, rfl, HT⟩ := hrel
    obtain ⟨q, hq⟩ := HT.out
    by_cases hlt : t < len
    · obtain ⟨b, off, rfl, hbl, hci⟩ := H1.out (by omega)
      obtain ⟨b', off', rfl, hbl', hci'⟩ := H2.out (by omega)
      obtain ⟨sp, cp, c0, c1, c2, ho⟩ := hci t hlt
      obtain ⟨sp', cp', d0, d1, d2, ho'⟩ := hci' t hlt
      have x0 : wr.cell? ⟨b, off + t * 3, none⟩ = some (.int .i64 (E t).k) := by rw [hq]; exact c0
      have x1 : wr.cell? ⟨b, off + t * 3 + 1, none⟩ = some (.int .i64 (E t).c) := by rw [hq]; exact c1
      have x2 : wr.cell? ⟨b, off + t * 3 + 2, none⟩ = some (.slice sp (E t).n cp) := by rw [hq]; exact c2
      have y0 : wr.cell? ⟨b', off' + t * 3, none⟩ = some (.int .i64 (E t).k) := by rw [hq]; exact d0
      have y1 : wr.cell? ⟨b', off' + t * 3 + 1, none⟩ = some (.int .i64 (E t).c) := by rw [hq]; exact d1
      have y2 : wr.cell? ⟨b', off' + t * 3 + 2, none⟩ = some (.slice sp' (E t).n cp') := by rw [hq]; exact d2
      have HO : Hid (OpS wr sp (E t).n (E t).o) := Lib.hid (by rw [hq]; exact ho.drewN q)
      have HO' : Hid (OpS wr sp' (E t).n (E t).o) := Lib.hid (by rw [hq]; exact ho'.drewN q)
      have hn1 := HN.out t hlt
      have hlt' : (t : Int) < (len : Int) := by omega
      have HQ := Lib.hid hq
      clear c0 c1 c2 d0 d1 d2 hci hci' hq HT ho ho'
      generalize (E t).k = ek at *
      generalize (E t).c = ec at *
      generalize (E t).n = en at *
      generalize (E t).o = eo at *
      have hkb : (ek != ek) = false := by simp
      have hcb : (ec != ec) = false := by simp
      go_wp2
      go_quiet ((go_at_call 17; refine Calls.quiet_of (same_true _ _ _ eo _ _ _ (by omega) (HO.out.drewN _) (HO'.out.drewN _))))
      go_wp2
      go_roundw
      case rel => exact ⟨t + 1, by omega, by go_num, Lib.hid ⟨q + nq, by rw [HQ.out, World.drewN_drewN]⟩⟩
      case measure => simp [intOf]; omega
    · obtain rfl : len = t := by omega
      have HQ := Lib.hid hq
      clear hq HT
      go_wp2
      go_ret
      exact ⟨rfl, q, HQ.out⟩

set_option maxRecDepth 100000 in
set_option maxHeartbeats 2000000 in
theorem sameE_true (a : Option Addr) (len c : Nat) (E : Nat → Ev) (a' : Option Addr) (c' : Nat) (w : World) (hl : len ≤ 1000) (hn : ∀ j, j < len → (E j).n ≤ 1000000) (h : E3 w a len E) (h' : E3 w a' len E) :
    Calls Try.prog 16 #[.slice a len c, .slice a' len c'] w fun e w' => e = .returned (.bool true) ∧ ∃ m, w' = w.drewN m := by
  have H1 := Lib.hid h
  have H2 := Lib.hid h'
  have HN := Lib.hid hn
  clear h h' hn
  have hnn : ((len : Int) != (len : Int)) = false := by simp
  go_enter Try.func16, Try.ntmps16
  go_wp2
  go_loopw [5, 13] (fun _ x wr => ∃ t : Nat, t ≤ len ∧ x = .int .i64 (t : Int) ∧ Hid (∃ q, wr = w.drewN q)) (fun _ x _ => len - (intOf x).toNat)
  case atStart => exact ⟨0, Nat.zero_le _, rfl, Lib.hid ⟨0, rfl⟩⟩
  case round =>
    obtain ⟨t, ht, rfl, HT⟩ := hrel
    obtain ⟨q, hq⟩ := HT.out
    by_cases hlt : t < len
    · obtain ⟨b, off, rfl, hbl, hci⟩ := H1.out (by omega)
      obtain ⟨b', off', rfl, hbl', hci'⟩ := H2.out (by omega)
      obtain ⟨sp, cp, c0, c1, c2, ho⟩ := hci t hlt
      obtain ⟨sp', cp', d0, d1, d2, ho'⟩ := hci' t hlt
      have x0 : wr.cell? ⟨b, off + t * 3, none⟩ = some (.int .i64 (E t).k) := by rw [hq]; exact c0
      have x1 : wr.cell? ⟨b, off + t * 3 + 1, none⟩ = some (.int .i64 (E t).c) := by rw [hq]; exact c1
      have x2 : wr.cell? ⟨b, off + t * 3 + 2, none⟩ = some (.slice sp (E t).n cp) := by rw [hq]; exact c2
      have y0 : wr.cell? ⟨b', off' + t * 3, none⟩ = some (.int .i64 (E t).k) := by rw [hq]; exact d0
      have y1 : wr.cell? ⟨b', off' + t * 3 + 1, none⟩ = some (.int .i64 (E t).c) := by rw [hq]; exact d1
      have y2 : wr.cell? ⟨b', off' + t * 3 + 2, none⟩ = some (.slice sp' (E t).n cp') := by rw [hq]; exact d2
      have HO : Hid (OpS wr sp (E t).n (E t).o) := Lib.hid (by rw [hq]; exact ho.drewN q)
      have HO' : Hid (OpS wr sp' (E t).n (E t).o) := Lib.hid (by rw [hq]; exact ho'.drewN q)
      have hn1 := HN.out t hlt
      have hlt' : (t : Int) < (len : Int) := by omega
      have HQ := Lib.hid hq
      clear c0 c1 c2 d0 d1 d2 hci hci' hq HT ho ho'
      generalize (E t).k = ek at *
      generalize (E t).c = ec at *
      generalize (E t).n = en at *
      generalize (E t).o = eo at *
      have hkb : (ek != ek) = false := by simp
      have hcb : (ec != ec) = false := by simp
      go_wp2
      go_quiet ((go_at_call 17; refine Calls.quiet_of (same_true _ _ _ eo _ _ _ (by omega) (HO.out.drewN _) (HO'.out.drewN _))))
      go_wp2
      go_roundw
      case rel => exact ⟨t + 1, by omega, by go_num, Lib.hid ⟨q + nq, by rw [HQ.out, World.drewN_drewN]⟩⟩
      case measure => simp [intOf]; omega
    · obtain rfl : len = t := by omega
      have HQ := Lib.hid hq
      clear hq HT
      go_wp2
      go_ret
      exact ⟨rfl, q, HQ.out⟩
end Go.Proofs.Ytgpnjgpbblookaa
