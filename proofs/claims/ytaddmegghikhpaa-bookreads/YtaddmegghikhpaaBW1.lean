/-
  Contract of the Writer's method bit: one bit more.
-/
import Derived.Test.YtaddmegghikhpaaBW0
import Derived.Deep.RegionWith
import Derived.StillTailTactics
namespace Go.Proofs.Ytaddmegghikhpaa
open Go.ChangeShapes Go.WideShapes Go.ChangeAt Go.RowKit

set_option maxHeartbeats 1000000 in
theorem wbit_in (w : World) (base wb : Nat) (v : Value) (F : Nat → Nat) (c b : Nat) (h : WR w base wb v F c) (hb : b < 2) (hc : c ≤ 1000000) (hr : ¬ c % 8 = 0) :
    Calls Try.prog 48 #[.pointer (some ⟨wb, 0, none⟩), .int .u8 (b : Int)] w fun e w' => e = .returned (.tuple #[]) ∧ WR w' base wb v (putB F c b) (c + 1) ∧ WStep wb w v.ownBlock w' v.ownBlock := by
  have HD := Lib.hid h
  obtain ⟨g, cap, rfl, hg1, hg2⟩ := h.own.form (by omega)
  have c0 := h.c0
  have c1 := h.c1
  have f1 := h.fz 1
  have hm : c / 8 < (c + 7) / 8 := by omega
  have cb : w.cell? ⟨g, c / 8, none⟩ = some (.int .u8 ((F (c / 8) : Nat) : Int)) := by rw [h.own.cellAt (c / 8) (by omega), rowB_get _ _ _ hm]
  have fb := h.own.frozenAt (c / 8)
  have hy := h.ends.1 (c / 8)
  have hz := h.ends.2 hr
  have hne : ¬ g = wb := fun e => h.ne (by rw [e]; rfl)
  have ht : (((c : Int) % 8) == 0) = false := by rw [beq_eq_false_iff_ne]; omega
  obtain ⟨y, ey⟩ : ∃ y, y = F (c / 8) := ⟨_, rfl⟩
  rw [← ey] at cb hy hz
  have HY := Lib.hid ey
  have HZ := Lib.hid hz
  obtain ⟨m, em⟩ : ∃ m, m = (c + 7) / 8 := ⟨_, rfl⟩
  rw [← em] at c0 hm
  have HM := Lib.hid em
  clear h ey hz em
  have i1 : (c : Int) / 8 < (m : Int) := by omega
  have i2 : 0 ≤ (c : Int) / 8 := by omega
  have i3 : ((c : Int) / 8).toNat = c / 8 := by omega
  have i5 : IntKind.i64.wrap ((c : Int) / 8) = (c : Int) / 8 := by rw [IntKind.wrap_i64]; omega
  go_enter Try.func48, Try.ntmps48
  go_wp2
  go_still_tail 20, (by kernel_rfl)
  still_call (place_any _ _ (by omega))
  repeat still_step
  refine wpStill_nil ?_
  go_wp2
  have e1 := or_step y b (c % 8) hy hb (Nat.mod_lt _ (by decide)) HZ.out
  rw [IntKind.wrap_u8'] at e1
  rw [e1]
  go_end0
  have ey : y = lastB F c := by unfold lastB; rw [if_neg hr]; exact HY.out
  have hM : m = c / 8 + 1 := by rw [HM.out]; omega
  rw [← HM.out, ey]
  refine ⟨rfl, ?_, wstep_two _ _⟩
  have own := HD.out.own
  rw [← HM.out] at own
  exact WR.fin hM (by rw [rowB_last F c m hr]; exact own) c0 c1 HD.out.fz HD.out.ends HD.out.lt hne HD.out.hb hb

theorem rowB_new (F : Nat → Nat) (c : Nat) (h : c % 8 = 0) : rowB F (c / 8) ++ [Value.int .u8 0] = rowB (updB F (c / 8) (lastB F c)) (c / 8 + 1) := by
  apply List.ext_getElem?
  intro j
  by_cases h1 : j < c / 8
  · rw [List.getElem?_append_left (by rw [rowB_length]; exact h1), rowB_get _ _ _ h1, rowB_get _ _ _ (by omega), updB_other _ _ _ _ (by omega)]
  · by_cases h2 : j = c / 8
    · subst h2
      rw [List.getElem?_append_right (by rw [rowB_length]; omega), rowB_length, rowB_get _ _ _ (by omega), updB_same]
      unfold lastB; rw [if_pos h]; simp
    · rw [List.getElem?_eq_none (by simp [rowB_length]; omega), List.getElem?_eq_none (by rw [rowB_length]; omega)]

set_option maxHeartbeats 1000000 in
theorem wbit_new (w : World) (base wb : Nat) (v : Value) (F : Nat → Nat) (c b : Nat) (h : WR w base wb v F c) (hb : b < 2) (hc : c ≤ 1000000) (hr : c % 8 = 0) :
    Calls Try.prog 48 #[.pointer (some ⟨wb, 0, none⟩), .int .u8 (b : Int)] w fun e w' => e = .returned (.tuple #[]) ∧ ∃ v', WR w' base wb v' (putB F c b) (c + 1) ∧ WStep wb w v.ownBlock w' v'.ownBlock := by
  have HD := Lib.hid h
  have c0 := h.c0
  have c1 := h.c1
  have f0 := h.fz 0
  have f1 := h.fz 1
  have hlt := h.lt
  have ht : (((c : Int) % 8) == 0) = true := by rw [beq_iff_eq]; omega
  have e8 : (c + 7) / 8 = c / 8 := by omega
  have own := h.own
  rw [e8] at own
  have HO := Lib.hid own
  have HR := Lib.hid hr
  clear h own e8 hr
  obtain ⟨i0, hi, hz0, hz1, hz2⟩ := info_parts info5
  go_enter Try.func48, Try.ntmps48
  go_wp2_with (at_builtin; refine wpList_append_lies _ rfl _ _ 26 rfl base 5 i0 (.int .u8 0) 1 1 Try.underlying26 hi hz0 hz1 hz2 rfl (by decide) _ _ _ rfl (HO.out.alloc _) ⟨w.heap.size, 0, none⟩ 1 1 [.int .u8 0] rfl rfl ?c1 ?c2 ?c3 ?c4 ?c5 ?c6 (w.heap.size + 1) ?c7 ?_)
  case c1 =>
    intro j u hj
    match j, hj with
    | 0, hj => simp at hj; subst hj; simp [Addr.add]
  case c2 => intro u hu; simp at hu; subst hu; rfl
  case c3 => decide
  case c4 => unfold maxLen; omega
  case c5 => omega
  case c6 => have := HD.out.hb; simp; omega
  case c7 => simp
  intro g cap w5 hown5 hgrow5 hlies hglt
  have hne : ¬ g = wb := by
    rcases hlies with e | e
    · intro e'; rw [e'] at e; exact HD.out.ne e
    · omega
  have hwb5 : w5.heap[wb]? = w.heap[wb]? := by
    rw [hgrow5.block wb (by simp; omega) (fun e => HD.out.ne e.symm)]
    exact Below.heap_alloc w _ wb hlt
  have c0' : w5.cell? ⟨wb, 0, none⟩ = some v := (World.cell?_of_block hwb5).trans c0
  have c1' : w5.cell? ⟨wb, 1, none⟩ = some (.int .i64 (c : Int)) := (World.cell?_of_block hwb5).trans c1
  have fz' : ∀ j, w5.frozen? ⟨wb, j, none⟩ = false := fun j => (World.frozen?_of_block (a := ⟨wb, j, none⟩) hwb5).trans (HD.out.fz j)
  have f0' := fz' 0
  have f1' := fz' 1
  have FZ := Lib.hid fz'
  have hlt5 : wb < w5.heap.size := by have := hgrow5.size; simp at this; omega
  rw [rowB_new F c HR.out] at hown5
  have HO5 := Lib.hid hown5
  have HG5 := Lib.hid hgrow5
  have HL5 := Lib.hid hlies
  clear c0 c1 f0 f1 hwb5 fz' hown5 hgrow5 hlies
  have HST : Hid (WStep wb w v.ownBlock (w5.setCell ⟨wb, 0, none⟩ (.slice (some ⟨g, 0, none⟩) (c / 8 + 1) cap)) (some g)) := Lib.hid
    { os := HG5.out.os, tape := HG5.out.tape, output := HG5.out.output
      size := by have := HG5.out.size; simp at this ⊢; omega
      block := fun k hk h1 h2 => by
        rw [Below.heap_setCell _ _ _ _ h1, HG5.out.block k (by simp; omega) h2]
        exact Below.heap_alloc w _ k hk
      row := by
        rcases HL5.out with e | e
        · exact .inl e.symm
        · exact .inr ⟨g, rfl, by omega⟩ }
  have HO6 : Hid ((w5.setCell ⟨wb, 0, none⟩ (.slice (some ⟨g, 0, none⟩) (c / 8 + 1) cap)).ownsRow base 5 1 (.slice (some ⟨g, 0, none⟩) (c / 8 + 1) cap) (c / 8 + 1) (rowB (updB F (c / 8) (lastB F c)) (c / 8 + 1))) :=
    Lib.hid (HO5.out.kept (grown_setCell (grown_refl w5 (some wb)) 0 _) (.inr (by intro e; injection e with e; exact hne e)))
  have HFZ6 : Hid (∀ j, (w5.setCell ⟨wb, 0, none⟩ (.slice (some ⟨g, 0, none⟩) (c / 8 + 1) cap)).frozen? ⟨wb, j, none⟩ = false) := Lib.hid (fun j => by have := FZ.out j; go_simp)
  have d0 : (w5.setCell ⟨wb, 0, none⟩ (.slice (some ⟨g, 0, none⟩) (c / 8 + 1) cap)).cell? ⟨wb, 0, none⟩ = some (.slice (some ⟨g, 0, none⟩) (c / 8 + 1) cap) := World.cell?_setCell_same _ _ _ c0'
  have d1 : (w5.setCell ⟨wb, 0, none⟩ (.slice (some ⟨g, 0, none⟩) (c / 8 + 1) cap)).cell? ⟨wb, 1, none⟩ = some (.int .i64 (c : Int)) := by
    rw [World.cell?_setCell_other _ _ _ _ (by simp)]; exact c1'
  have hlt6 : wb < (w5.setCell ⟨wb, 0, none⟩ (.slice (some ⟨g, 0, none⟩) (c / 8 + 1) cap)).heap.size := by simpa using hlt5
  have hbs6 : base ≤ (w5.setCell ⟨wb, 0, none⟩ (.slice (some ⟨g, 0, none⟩) (c / 8 + 1) cap)).heap.size := by have := HD.out.hb; have := HG5.out.size; simp at this ⊢; omega
  go_wp2
  clear c0' c1' f0' f1'
  generalize (w5.setCell ⟨wb, 0, none⟩ (.slice (some ⟨g, 0, none⟩) (c / 8 + 1) cap)) = w6 at HST HO6 HFZ6 d0 d1 hlt6 hbs6 ⊢
  have f1 := HFZ6.out 1
  have cb : w6.cell? ⟨g, c / 8, none⟩ = some (.int .u8 ((lastB F c : Nat) : Int)) := by rw [HO6.out.cellAt (c / 8) (by omega), rowB_get _ _ _ (by omega), updB_same]
  have fb := HO6.out.frozenAt (c / 8)
  obtain ⟨hy, hz⟩ : lastB F c < 256 ∧ lastB F c % 2 ^ (8 - c % 8) = 0 := HD.out.ends.byte
  have HZ := Lib.hid hz
  clear hz
  generalize hly : lastB F c = y at cb hy HZ
  have HY := Lib.hid hly
  clear hly
  have i1 : (c : Int) / 8 < ((c / 8 + 1 : Nat) : Int) := by omega
  have i2 : 0 ≤ (c : Int) / 8 := by omega
  have i3 : ((c : Int) / 8).toNat = c / 8 := by omega
  have i5 : IntKind.i64.wrap ((c : Int) / 8) = (c : Int) / 8 := by rw [IntKind.wrap_i64]; omega
  obtain ⟨m, em⟩ : ∃ m, m = c / 8 + 1 := ⟨_, rfl⟩
  rw [← em] at d0 i1 ⊢
  have i4 : c / 8 < m := by omega
  have HM := Lib.hid em
  clear em
  go_still_tail 20, (by kernel_rfl)
  still_call (place_any _ _ (by omega))
  repeat still_step
  refine wpStill_nil ?_
  go_wp2
  have e1 := or_step y b (c % 8) hy hb (Nat.mod_lt _ (by decide)) HZ.out
  rw [IntKind.wrap_u8'] at e1
  rw [e1]
  go_end0
  have own := HO6.out
  rw [← HM.out] at own
  rw [← HY.out]
  refine ⟨rfl, _, WR.fin HM.out own d0 d1 HFZ6.out HD.out.ends hlt6 hne hbs6 hb, HST.out.trans (wstep_two _ _)⟩

/-- one bit more, wherever it goes -/
theorem wbit_any (w : World) (base wb : Nat) (v : Value) (F : Nat → Nat) (c b : Nat) (h : WR w base wb v F c) (hb : b < 2) (hc : c ≤ 1000000) :
    Calls Try.prog 48 #[.pointer (some ⟨wb, 0, none⟩), .int .u8 (b : Int)] w fun e w' => e = .returned (.tuple #[]) ∧ ∃ v', WR w' base wb v' (putB F c b) (c + 1) ∧ WStep wb w v.ownBlock w' v'.ownBlock := by
  by_cases hr : c % 8 = 0
  · exact wbit_new w base wb v F c b h hb hc hr
  · exact (wbit_in w base wb v F c b h hb hc hr).mono fun e w' ⟨h1, h2, h3⟩ => ⟨h1, v, h2, h3⟩
end Go.Proofs.Ytaddmegghikhpaa
