/-
  The laws' plain; the reference's Same.
-/
import Derived.Test.YtccpfoimedjdgaaJ08
import Derived.Test.YtccpfoimedjdgaaJ02
import Derived.BigQuiet
import Derived.Deep.Cut

namespace Go.Proofs.Ytccpfoimedjdgaa
open Go.ChangeShapes Go.WideShapes Go.ChangeAt Go.RowKit

abbrev n9 (N : Nat → Int) : Array Value := #[.int .i64 (N 0), .int .i64 (N 1), .int .i64 (N 2), .int .i64 (N 3), .int .i64 (N 4), .int .i64 (N 5), .int .i64 (N 6), .int .i64 (N 7), .int .i64 (N 8)]
abbrev rmL (N : Nat → Int) (la da : Value) : List Value := [.int .i64 (N 0), .int .i64 (N 1), .int .i64 (N 2), .int .i64 (N 3), .int .i64 (N 4), .int .i64 (N 5), .int .i64 (N 6), .int .i64 (N 7), .int .i64 (N 8), la, da]
abbrev rmV (N : Nat → Int) (la da : Value) : Value := .agg (rmL N la da).toArray
def RmC (w : World) (b : Nat) (N : Nat → Int) (la da : Value) : Prop := w.heap[b]? = some (.cells (rmL N la da).toArray 35 (0, 0))
theorem RmC.lt {w : World} {b : Nat} {N : Nat → Int} {la da : Value} (h : RmC w b N la da) : b < w.heap.size := by
  rcases Nat.lt_or_ge b w.heap.size with h' | h'
  · exact h'
  · unfold RmC at h; rw [Array.getElem?_eq_none h'] at h; cases h
theorem RmC.cell {w : World} {b : Nat} {N : Nat → Int} {la da : Value} (h : RmC w b N la da) (j : Nat) {v : Value} (hv : (rmL N la da)[j]? = some v) : w.cell? ⟨b, j, none⟩ = some v := by
  rw [cell_of_row w b j _ 35 (0, 0) h]; simpa using hv
theorem RmC.below {w w' : World} {b B : Nat} {N : Nat → Int} {la da : Value} (h : RmC w b N la da) (hb : Below B w w') (hB : b < B) : RmC w' b N la da := (hb.block b hB).trans h
theorem RmC.fz {w : World} {b : Nat} {N : Nat → Int} {la da : Value} (h : RmC w b N la da) (j : Nat) : w.frozen? ⟨b, j, none⟩ = false := frozen_of_row w _ j _ 35 h
theorem RmC.all {w : World} {b : Nat} {N : Nat → Int} {la da : Value} (h : RmC w b N la da) :
    w.cell? ⟨b, 0, none⟩ = some (.int .i64 (N 0)) ∧ w.cell? ⟨b, 1, none⟩ = some (.int .i64 (N 1)) ∧ w.cell? ⟨b, 2, none⟩ = some (.int .i64 (N 2)) ∧ w.cell? ⟨b, 3, none⟩ = some (.int .i64 (N 3)) ∧ w.cell? ⟨b, 4, none⟩ = some (.int .i64 (N 4)) ∧ w.cell? ⟨b, 5, none⟩ = some (.int .i64 (N 5)) ∧ w.cell? ⟨b, 6, none⟩ = some (.int .i64 (N 6)) ∧ w.cell? ⟨b, 7, none⟩ = some (.int .i64 (N 7)) ∧ w.cell? ⟨b, 8, none⟩ = some (.int .i64 (N 8)) ∧ w.cell? ⟨b, 9, none⟩ = some la ∧ w.cell? ⟨b, 10, none⟩ = some da :=
  ⟨h.cell 0 rfl, h.cell 1 rfl, h.cell 2 rfl, h.cell 3 rfl, h.cell 4 rfl, h.cell 5 rfl, h.cell 6 rfl, h.cell 7 rfl, h.cell 8 rfl, h.cell 9 rfl, h.cell 10 rfl⟩

theorem part9 (N : Nat → Int) (j : Nat) (hj : j < 9) (w : World) : (part 3 (n9 N) j).run Try.prog w = .ok (.int .i64 (N j)) w := by
  have : j = 0 ∨ j = 1 ∨ j = 2 ∨ j = 3 ∨ j = 4 ∨ j = 5 ∨ j = 6 ∨ j = 7 ∨ j = 8 := by omega
  rcases this with rfl | rfl | rfl | rfl | rfl | rfl | rfl | rfl | rfl <;> simp [part, n9, go_sem]
theorem eq9_items (N N' : Nat → Int) (w : World) : ∀ l : List Nat, (∀ j ∈ l, j < 9) → (Op.eqItems 9999 3 1 (n9 N) (n9 N') l).run Try.prog w = .ok (l.all fun j => decide (N j = N' j)) w := by
  intro l
  induction l with
  | nil => intro _; simp [Op.eqItems]
  | cons j l ih =>
    intro h
    have hj := h j (by simp)
    have hl := ih fun i hi => h i (by simp [hi])
    have e : ∀ (a b : Int) (w : World), (Op.equalIn 9999 3 (.int .i64 a) (.int .i64 b)).run Try.prog w = .ok (a == b) w := fun a b w => run_equalIn_int w 9998 3 .i64 .i64 _ _ Try.underlying3
    simp only [Op.eqItems, Sem.run_bind, Nat.mul_one, part9 N j hj, part9 N' j hj, e, Result.andThen_ok]
    by_cases hjj : N j = N' j
    · have h1 : (N j == N' j) = true := by rw [beq_iff_eq]; exact hjj
      simp [hl, hjj]
    · have h1 : (N j == N' j) = false := by rw [beq_eq_false_iff_ne]; exact hjj
      simp [h1, hjj]
theorem info3 : (Try.prog.info? 3).map (fun i => (i.zero, i.size, i.bytes)) = some (some (.int .i64 0), 1, 8) := by kernel_rfl
theorem cellsI3 : Try.prog.cellsOf 3 = 1 := by kernel_rfl
theorem eq9 (N N' : Nat → Int) (b : Bool) (hb : b = true ↔ ∀ j, j < 9 → N j = N' j) (w : World) : (Op.equalIn 10000 33 (.agg (n9 N)) (.agg (n9 N'))).run Try.prog w = .ok b w := by
  obtain ⟨i0, hi, _, _, _⟩ := info_parts info3
  refine (run_equalIn_array (P := Try.prog) w 9999 (n9 N) (n9 N') Try.underlying33 hi).trans ?_
  rw [cellsI3, eq9_items N N' w (List.range 9) (fun j hj => by simpa using hj)]
  have : b = (List.range 9).all fun j => decide (N j = N' j) := by
    rw [Bool.eq_iff_iff, hb]
    simp
  rw [this]

set_option maxRecDepth 100000 in
set_option maxHeartbeats 2000000 in
theorem plain_any (k : Int) (N : Nat → Int) (la : Option Addr) (n lc : Nat) (da : Option Addr) (dn dc : Nat) (w : World) :
    Calls Try.prog 11 #[.agg (msL k N (.slice la n lc) (.slice da dn dc)).toArray] w (fun e w' => e = .returned (rmV N (.slice la n lc) (.slice da dn dc)) ∧ Below w.heap.size w w') := by
  go_enter Try.func11, Try.ntmps11
  go_wp2
  exact bodyPost_ret (v := rmV N (.slice la n lc) (.slice da dn dc)) (by simp [results, Try.results11, go_sem]) rfl ⟨rfl, ((Below.refl _ _).alloc (Nat.le_refl _) _).alloc (by simp) _⟩
/-- the same message, as the reference has it -/
def SameM (N N' : Nat → Int) (n n' : Nat) (P P' : Nat → Bs) (D D' : Bs) : Prop := (∀ j, j < 9 → N j = N' j) ∧ n = n' ∧ SameB D D' ∧ ∀ i, i < n → SameB (P i) (P' i)
def SaP (N N' : Nat → Int) (n n' : Nat) (P P' : Nat → Bs) (D D' : Bs) (w : World) (e : Ending) (w' : World) : Prop := ∃ b : Bool, e = .returned (.bool b) ∧ (b = true ↔ SameM N N' n n' P P' D D') ∧ Below w.heap.size w w'
theorem same_b {w : World} {v v' : Value} {b b' : Bs} (h : BsS w v b) (h' : BsS w v' b') : ∃ x : Bool, (x = true ↔ SameB b b') ∧ Calls Try.prog 13 #[v, v'] w fun e w' => e = .returned (.bool x) ∧ w = w' := by
  obtain ⟨sp, cap, rfl, hs, _, _, hf⟩ := h
  obtain ⟨sp', cap', rfl, hs', _, _, hf'⟩ := h'
  rcases Classical.em (SameB b b') with hh | hh
  · exact ⟨true, ⟨fun _ => hh, fun _ => rfl⟩, sameB_any w sp sp' b.n b'.n cap cap' b.f b'.f true hf hf' hs hs' ⟨fun _ => hh, fun _ => rfl⟩⟩
  · exact ⟨false, ⟨fun h => (by cases h), fun h => absurd h hh⟩, sameB_any w sp sp' b.n b'.n cap cap' b.f b'.f false hf hf' hs hs' ⟨fun h => (by cases h), fun h => absurd h hh⟩⟩

set_option maxRecDepth 100000 in
set_option maxHeartbeats 4000000 in
theorem samem_any (N N' : Nat → Int) (la la' : Option Addr) (n n' lc lc' : Nat) (P P' : Nat → Bs) (da da' : Value) (D D' : Bs) (w : World) (hn : n ≤ 1000000) (hl : LsS w la n P) (hl' : LsS w la' n' P') (hd : BsS w da D) (hd' : BsS w da' D') :
    Calls Try.prog 15 #[rmV N (.slice la n lc) da, rmV N' (.slice la' n' lc') da'] w (SaP N N' n n' P P' D D' w) := by
  have HL := Lib.hid hl
  have HL' := Lib.hid hl'
  have HD := Lib.hid hd
  have HD' := Lib.hid hd'
  obtain ⟨dsp, dcap, eda, _⟩ := hd
  generalize D.n = dn at eda
  subst eda
  obtain ⟨dsp', dcap', eda', _⟩ := hd'
  generalize D'.n = dn' at eda'
  subst eda'
  clear hl hl'
  obtain ⟨wb, ewb⟩ : ∃ wb, wb = (w.alloc (.cells (rmL N (.slice la n lc) (.slice dsp dn dcap)).toArray 35)).alloc (.cells (rmL N' (.slice la' n' lc') (.slice dsp' dn' dcap')).toArray 35) := ⟨_, rfl⟩
  have hb0 : Below w.heap.size w wb := by rw [ewb]; exact ((Below.refl _ _).alloc (Nat.le_refl _) _).alloc (by simp) _
  have hA : RmC wb w.heap.size N (.slice la n lc) (.slice dsp dn dcap) := by rw [ewb]; exact (Below.heap_alloc _ _ _ (by simp)).trans (heap_alloc_new w _)
  have hB : RmC wb (w.heap.size + 1) N' (.slice la' n' lc') (.slice dsp' dn' dcap') := by
    rw [ewb]
    have := heap_alloc_new (w.alloc (.cells (rmL N (.slice la n lc) (.slice dsp dn dcap)).toArray 35)) (.cells (rmL N' (.slice la' n' lc') (.slice dsp' dn' dcap')).toArray 35)
    rw [show (w.alloc (.cells (rmL N (.slice la n lc) (.slice dsp dn dcap)).toArray 35)).heap.size = w.heap.size + 1 by simp] at this
    exact this
  have HB0 := Lib.hid hb0
  obtain ⟨a0, a1, a2, a3, a4, a5, a6, a7, a8, a9, a10⟩ := hA.all
  obtain ⟨b0, b1, b2, b3, b4, b5, b6, b7, b8, b9, b10⟩ := hB.all
  clear hb0
  have HRA : Hid (RmC wb w.heap.size N (.slice la n lc) (.slice dsp dn dcap) ∧ RmC wb (w.heap.size + 1) N' (.slice la' n' lc') (.slice dsp' dn' dcap')) := Lib.hid ⟨hA, hB⟩
  clear hA hB
  rcases (Classical.em (∀ j, j < 9 → N j = N' j)).symm with hN | hN
  · have heq : ∀ W : World, (Op.equalIn 10000 33 (.agg (n9 N)) (.agg (n9 N'))).run Try.prog W = .ok false W := eq9 N N' false ⟨fun h => absurd h (by decide), fun h => absurd h hN⟩
    have HNO : Hid (¬ SameM N N' n n' P P' D D') := Lib.hid fun h => hN h.1
    clear hN
    go_enter Try.func15, Try.ntmps15
    go_upto_region 1 with (fail)
    rw [← ewb]
    clear ewb
    go_wp2
    go_ret
    exact ⟨false, rfl, ⟨fun h => (by cases h), fun h => absurd h HNO.out⟩, HB0.out⟩
  · have heq : ∀ W : World, (Op.equalIn 10000 33 (.agg (n9 N)) (.agg (n9 N'))).run Try.prog W = .ok true W := eq9 N N' true ⟨fun _ => hN, fun _ => rfl⟩
    have HN := Lib.hid hN
    clear hN
    by_cases hnn : n = n'
    · subst hnn
      obtain ⟨x, hx, hcl⟩ := same_b (HD.out.below HB0.out) (HD'.out.below HB0.out)
      have HCL := Lib.hid hcl
      have HX := Lib.hid hx
      clear hcl hx
      go_enter Try.func15, Try.ntmps15
      go_upto_region 1 with (fail)
      rw [← ewb]
      clear ewb
      go_wp2_with fail
      refine HCL.out.mono ?_
      rintro e w2 ⟨rfl, rfl⟩
      rcases Bool.eq_false_or_eq_true x with hx | hx
      · subst hx
        have HDD : Hid (SameB D D') := Lib.hid (HX.out.1 rfl)
        clear HX HCL
        go_wp2
        go_loopw [5, 31] (fun _ x wr => ∃ t : Nat, t ≤ n ∧ x = .int .i64 (t : Int) ∧ Hid ((∃ q, wr = wb.drewN q) ∧ ∀ i, i < t → SameB (P i) (P' i))) (fun _ x _ => n - (intOf x).toNat)
        case atStart => exact ⟨0, Nat.zero_le _, rfl, Lib.hid ⟨⟨0, rfl⟩, fun i hi => absurd hi (Nat.not_lt_zero _)⟩⟩
        case round =>
          obtain ⟨t, ht, rfl, HT⟩ := hrel
          by_cases hlt : t < n
          · have hlt' : (t : Int) < (n : Int) := by omega
            obtain ⟨q, hq⟩ := HT.out.1
            have HBR : Hid (Below w.heap.size w wr) := Lib.hid (by rw [hq]; exact ⟨HB0.out.os, HB0.out.tape, HB0.out.output, HB0.out.size, HB0.out.block⟩)
            have hRA : RmC wr w.heap.size N (.slice la n lc) (.slice dsp dn dcap) := by rw [hq]; exact HRA.out.1
            have hRB : RmC wr (w.heap.size + 1) N' (.slice la' n lc') (.slice dsp' dn' dcap') := by rw [hq]; exact HRA.out.2
            have c9 := hRA.cell 9 rfl
            have d9 := hRB.cell 9 rfl
            obtain ⟨b, off, rfl, hbl, hci⟩ := (HL.out.below HBR.out) (by omega)
            obtain ⟨b', off', rfl, hbl', hci'⟩ := (HL'.out.below HBR.out) (by omega)
            obtain ⟨v, c0, hv⟩ := hci t hlt
            obtain ⟨v', c0', hv'⟩ := hci' t hlt
            have HCL : ∃ x : Bool, (x = true ↔ SameB (P t) (P' t)) ∧ ∀ k, Calls Try.prog 13 #[v, v'] (wr.drewN k) fun e w' => e = .returned (.bool x) ∧ w' = wr.drewN k := by
              obtain ⟨x, h1, h2⟩ := same_b hv hv'
              refine ⟨x, h1, fun k => ?_⟩
              have hb : Below wr.heap.size wr (wr.drewN k) := ⟨rfl, rfl, rfl, Nat.le_refl _, fun _ _ => rfl⟩
              obtain ⟨x', g1, g2⟩ := same_b (hv.below hb) (hv'.below hb)
              have : x' = x := by rw [Bool.eq_iff_iff, g1, h1]
              subst this
              exact g2.mono fun e w' ⟨a, b⟩ => ⟨a, b.symm⟩
            obtain ⟨x, hx, hcl⟩ := HCL
            have HCL := Lib.hid hcl
            have HX := Lib.hid hx
            have HPR : Hid (SameB (P t) (P' t) → ∀ i, i < t + 1 → SameB (P i) (P' i)) := Lib.hid fun hh j hj => by
              by_cases h : j < t
              · exact HT.out.2 j h
              · obtain rfl : j = t := by omega
                exact hh
            have HNO : Hid (¬ SameB (P t) (P' t) → ¬ SameM N N' n n P P' D D') := Lib.hid fun h h' => h (h'.2.2.2 t hlt)
            have HDR : Hid (∀ k, ∃ q, wr.drewN k = wb.drewN q) := Lib.hid fun k => ⟨q + k, by rw [hq, World.drewN_drewN]⟩
            obtain ⟨sp, cp, ev, _⟩ := hv
            obtain ⟨sp', cp', ev', _⟩ := hv'
            generalize (P t).n = pn at ev
            generalize (P' t).n = pn' at ev'
            subst ev ev'
            clear hx hcl hci hci' hRA hRB hq
            go_upto_region 6 with (fail)
            go_quiet (first | (go_at_call 13; refine Calls.quiet_of_same (HCL.out _)))
            have HBQ : Hid (∀ k, Below w.heap.size w (wr.drewN k)) := Lib.hid fun k => ⟨HBR.out.os, HBR.out.tape, HBR.out.output, HBR.out.size, HBR.out.block⟩
            rcases Bool.eq_false_or_eq_true x with hx | hx
            · subst hx
              have HSB := Lib.hid (HPR.out (HX.out.1 rfl))
              go_wp2
              go_roundw
              case rel => exact ⟨t + 1, by omega, by go_num, Lib.hid ⟨HDR.out _, HSB.out⟩⟩
              case measure => simp [intOf]; omega
            · subst hx
              have HNN := Lib.hid (HNO.out fun h => by have := HX.out.2 h; cases this)
              go_wp2
              go_ret
              exact ⟨false, rfl, ⟨fun h => (by cases h), fun h => absurd h HNN.out⟩, HBQ.out _⟩
          · obtain rfl : n = t := by omega
            obtain ⟨q, hq⟩ := HT.out.1
            have HBR : Hid (Below w.heap.size w wr) := Lib.hid (by rw [hq]; exact ⟨HB0.out.os, HB0.out.tape, HB0.out.output, HB0.out.size, HB0.out.block⟩)
            have HYE : Hid (SameM N N' n n P P' D D') := Lib.hid ⟨HN.out, rfl, HDD.out, HT.out.2⟩
            clear hq
            go_wp2
            go_ret
            exact ⟨true, rfl, ⟨fun _ => HYE.out, fun _ => rfl⟩, HBR.out⟩
      · subst hx
        have HNO : Hid (¬ SameM N N' n n P P' D D') := Lib.hid fun h => by have := HX.out.2 h.2.2.1; cases this
        clear HX HCL
        go_wp2
        go_ret
        exact ⟨false, rfl, ⟨fun h => (by cases h), fun h => absurd h HNO.out⟩, HB0.out⟩
    · have HNO : Hid (¬ SameM N N' n n' P P' D D') := Lib.hid fun h => hnn h.2.1
      have hnn' : ((n : Int) != (n' : Int)) = true := by rw [bne_iff_ne]; omega
      clear hnn
      go_enter Try.func15, Try.ntmps15
      go_upto_region 1 with (fail)
      rw [← ewb]
      clear ewb
      go_wp2
      go_ret
      exact ⟨false, rfl, ⟨fun h => (by cases h), fun h => absurd h HNO.out⟩, HB0.out⟩
end Go.Proofs.Ytccpfoimedjdgaa

