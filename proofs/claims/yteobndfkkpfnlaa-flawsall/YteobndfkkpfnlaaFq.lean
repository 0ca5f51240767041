/-
  The reference's final.
-/
import Derived.Test.YteobndfkkpfnlaaFp
namespace Go.Proofs.Yteobndfkkpfnlaa
open Go.ChangeShapes Go.WideShapes Go.ChangeAt Go.RowKit
set_option linter.unusedVariables false

set_option maxRecDepth 100000 in
set_option maxHeartbeats 4000000 in
theorem final_any (c st : Int) (sp : Option Addr) (n cap : Nat) (o : Nat → O3) (k v : Int) (w : World) (hn : n ≤ 1000) (hs : OpS w sp n o) :
    Calls Try.prog 48 #[.agg #[.int .i64 c, .int .i64 st, .slice sp n cap], .int .i64 k, .int .i64 v] w (Tells (Fin_ ⟨c, st, n, o⟩ k v) w) := by
  obtain ⟨wx, ewx⟩ : ∃ wx, wx = w.alloc (.cells #[.int .i64 c, .int .i64 st, .slice sp n cap] 47) := ⟨_, rfl⟩
  have HBX : Hid (Below w.heap.size w wx) := Lib.hid (by rw [ewx]; exact (Below.refl _ _).alloc (Nat.le_refl _) _)
  have HC := Lib.hid (rwrites_any c st sp n cap o wx hn (hs.below HBX.out))
  have HF : Hid (Fin_ ⟨c, st, n, o⟩ k v ↔ ∃ r ∈ wrl o n 16, r.key = k ∧ r.v = v) := Lib.hid Iff.rfl
  have HEW := Lib.hid ewx
  clear hs ewx
  generalize Fin_ ⟨c, st, n, o⟩ k v = FF at *
  go_enter Try.func48, Try.ntmps48
  go_wp2_with fail
  rw [← HEW.out]
  refine HC.out.mono ?_
  rintro e w5 ⟨sp2, cp2, rfl, ho2, hb⟩
  have HB5 := Lib.hid (HBX.out.trans (hb.mono HBX.out.size))
  have HO := Lib.hid (own38_ops ho2)
  have hl16 := wrl_16 o n
  obtain ⟨Q, eQ⟩ : ∃ Q, Q = w.heap.size := ⟨_, rfl⟩
  clear ho2 hb HC HBX HEW
  generalize wrl o n 16 = l at *
  go_wp2
  rw [← eQ]
  clear eQ
  go_loopw [6, 8, 12] (fun _ _ x wr => ∃ j : Nat, j ≤ l.length ∧ x = .int .i64 (j : Int) ∧ Hid (Below w5.heap.size w5 wr ∧ ∀ i, i < j → ¬ ((lf l i).key = k ∧ (lf l i).v = v))) (fun _ _ x _ => l.length - (intOf x).toNat)
  case atStart => exact ⟨0, Nat.zero_le _, rfl, Lib.hid ⟨Below.refl _ _, fun i hi => absurd hi (Nat.not_lt_zero _)⟩⟩
  case round =>
    obtain ⟨j, hj, rfl, HJ⟩ := hrel
    by_cases hjl : j < l.length
    · obtain ⟨b3, off3, rfl, hb3, hc3⟩ := HO.out (by omega)
      obtain ⟨d0, d1, d2⟩ := hc3 j hjl
      have x0 := (HJ.out.1.cell (p := ⟨b3, off3 + j * 3, none⟩) hb3).trans d0
      have x1 := (HJ.out.1.cell (p := ⟨b3, off3 + j * 3 + 1, none⟩) hb3).trans d1
      have x2 := (HJ.out.1.cell (p := ⟨b3, off3 + j * 3 + 2, none⟩) hb3).trans d2
      have hjl' : (j : Int) < (l.length : Int) := by omega
      have HY : Hid ((lf l j).key = k → (lf l j).v = v → FF) := Lib.hid fun h1 h2 => HF.out.2 ⟨lf l j, lf_mem hjl, h1, h2⟩
      have HN : Hid (¬ ((lf l j).key = k ∧ (lf l j).v = v) → ∀ i, i < j + 1 → ¬ ((lf l i).key = k ∧ (lf l i).v = v)) := Lib.hid fun h i hi => by
        by_cases e : i < j
        · exact HJ.out.2 i e
        · obtain rfl : i = j := by omega
          exact h
      have HBA : Hid (∀ ob, Below w5.heap.size w5 (wr.alloc ob)) := Lib.hid fun ob => HJ.out.1.alloc HJ.out.1.size _
      clear d0 d1 d2 hc3 HJ
      generalize lf l j = oj at *
      obtain ⟨ok, okey, ov⟩ := oj
      dsimp only at x0 x1 x2 HY HN
      by_cases h2 : okey = k
      · have h2b : (okey == k) = true := beq_iff_eq.2 h2
        by_cases h3 : ov = v
        · have h3b : (ov == v) = true := beq_iff_eq.2 h3
          have HZ := Lib.hid (HY.out h2 h3)
          have HBZ : Hid (∀ ob, Below w.heap.size w (wr.alloc ob)) := Lib.hid fun ob => HB5.out.trans ((HBA.out ob).mono HB5.out.size)
          clear HY HN
          subst h2 h3
          go_wp2
          go_ret
          exact ⟨true, rfl, ⟨fun _ => HZ.out, fun _ => rfl⟩, HBZ.out _⟩
        · have h3b : (ov == v) = false := beq_eq_false_iff_ne.2 h3
          have HN2 := Lib.hid (HN.out fun h => h3 h.2)
          clear h3 HY HN
          subst h2
          go_wp2
          go_roundw
          case rel => exact ⟨j + 1, by omega, by go_num, Lib.hid ⟨HBA.out _, HN2.out⟩⟩
          case measure => simp [intOf]; omega
      · have h2b : (okey == k) = false := beq_eq_false_iff_ne.2 h2
        have HN2 := Lib.hid (HN.out fun h => h2 h.1)
        clear h2 HY HN
        go_wp2
        go_roundw
        case rel => exact ⟨j + 1, by omega, by go_num, Lib.hid ⟨HBA.out _, HN2.out⟩⟩
        case measure => simp [intOf]; omega
    · obtain rfl : j = l.length := by omega
      have HBE := Lib.hid (HB5.out.trans (HJ.out.1.mono HB5.out.size))
      have HNE : Hid (¬ FF) := Lib.hid fun h => by
        obtain ⟨r, hr, e⟩ := HF.out.1 h
        obtain ⟨y, hy, rfl⟩ := List.getElem_of_mem hr
        have : lf l y = l[y] := by unfold lf; rw [List.getD_eq_getElem?_getD, List.getElem?_eq_getElem hy]; rfl
        exact absurd (by rw [this]; exact e) (HJ.out.2 y hy)
      clear HJ HF
      go_wp2
      go_ret
      exact ⟨false, rfl, ⟨fun h => (by cases h), fun h => absurd h HNE.out⟩, HBE.out⟩
end Go.Proofs.Yteobndfkkpfnlaa
