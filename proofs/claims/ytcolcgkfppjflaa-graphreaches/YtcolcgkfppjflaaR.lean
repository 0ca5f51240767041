/-
  The reference's Reach.
-/
import Derived.Test.YtcolcgkfppjflaaQ
namespace Go.Proofs.Ytcolcgkfppjflaa
open Go.ChangeShapes Go.WideShapes Go.ChangeAt Go.RowKit
set_option linter.unusedVariables false

def RReP (A : Nat → Nat → Prop) (N : Nat) (w : World) (e : Ending) (w' : World) : Prop :=
  ∃ g rb cp T, e = .returned (.slice (some ⟨g, 0, none⟩) N N) ∧ TabS w' g N rb cp T ∧ (∀ i j, i < N → j < N → (T i j = true ↔ Way A N i j)) ∧ Below w.heap.size w w'

set_option maxRecDepth 100000 in
set_option maxHeartbeats 4000000 in
theorem rreach_any (g0 N : Nat) (rb0 : Nat → Nat) (T0 : Nat → Nat → Bool) (A : Nat → Nat → Prop) (w : World) (hN : N ≤ 400) (ht : TabR w g0 N rb0 T0) (hA : ∀ i j, i < N → j < N → (T0 i j = true ↔ A i j)) :
    Calls Try.prog 13 #[.slice (some ⟨g0, 0, none⟩) N N] w (RReP A N w) := by
  obtain ⟨i0, hi0, hy0, hy1, hy2⟩ := info_parts info4
  have HT := Lib.hid ht
  have HA := Lib.hid hA
  obtain ⟨mc, hmc⟩ : ∃ mc, mc = madeCells #[.slice none 0 0] N := ⟨_, rfl⟩
  have hmk := makeT N (by omega) mc hmc
  have HT0 : Hid (TabQ w (w.alloc (.cells mc 28)) w.heap.size N 0 (fun _ => 0) (fun _ => 0) (fun _ _ => false)) := Lib.hid (TabQ.start hN (Below.refl _ _) hmc)
  clear hmc ht hA
  go_enter Try.func13, Try.ntmps13
  go_wp2
  clear hmk
  obtain ⟨wc, ewc⟩ : ∃ wc, wc = w.alloc (.cells mc 28) := ⟨_, rfl⟩
  obtain ⟨g, eg⟩ : ∃ g, g = w.heap.size := ⟨_, rfl⟩
  rw [← ewc] at HT0 ⊢
  have HT1 : Hid (TabQ w wc g N 0 (fun _ => 0) (fun _ => 0) (fun _ _ => false)) := Lib.hid (by rw [eg]; exact HT0.out)
  rw [← eg]
  clear ewc eg HT0
  go_loopw [5, 15] (fun _ i wr => ∃ (t : Nat) (rb cp : Nat → Nat) (T : Nat → Nat → Bool), t ≤ N ∧ i = .int .i64 (t : Int) ∧ Hid (TabQ w wr g N t rb cp T ∧ ∀ i j, i < t → j < N → T i j = T0 i j)) (fun _ i _ => N - (intOf i).toNat)
  case atStart => exact ⟨0, _, _, _, Nat.zero_le _, rfl, Lib.hid ⟨HT1.out, fun i _ hi => absurd hi (Nat.not_lt_zero _)⟩⟩
  case round =>
    obtain ⟨t, rb, cp, T, ht, rfl, HR⟩ := hrel
    clear HT1
    by_cases hlt : t < N
    · have hlt' : (t : Int) < (N : Int) := by omega
      have hb1 : Below wr.heap.size wr (wr.alloc (.cells #[] 4)) := (Below.refl _ _).alloc (Nat.le_refl _) _
      have hR1 := HT.out.below (HR.out.1.bel.trans (hb1.mono HR.out.1.bel.size))
      have c0 := (hR1.top t hlt).1
      have HO : Hid ((wr.alloc (.cells #[] 4)).ownsRow wr.heap.size 4 1 (.slice (some ⟨wr.heap.size, 0, none⟩) 0 0) 0 []) := Lib.hid ⟨rfl, .inr ⟨wr.heap.size, 0, #[], rfl, Nat.le_refl _, heap_alloc_new _ _, Nat.le_refl _, Nat.zero_le _, rfl, rfl⟩⟩
      have HNW : Hid (∀ (j : Nat) (u : Value), (rowB (T0 t) N)[j]? = some u → (wr.alloc (.cells #[] 4)).cell? ((⟨rb0 t, 0, none⟩ : Addr).add j) = some u) := Lib.hid fun j u hu => by
        rw [Go.WideShapes.add_plain, Nat.zero_add]
        have hj : j < N := by
          have := (List.getElem?_eq_some_iff.1 hu).1
          unfold rowB at this
          rw [rowV_length] at this
          exact this
        have := rowV_get (fun i => .bool (T0 t i)) N j hj
        rw [hR1.cell t j hlt hj]
        rw [← hu, ← this]
        rfl
      have H1C : Hid (∀ u ∈ rowB (T0 t) N, u.oneCell' = true) := Lib.hid fun u hu => by
        unfold rowB rowV at hu
        obtain ⟨x, _, rfl⟩ := List.mem_map.1 hu
        rfl
      have HLR : Hid ((rowB (T0 t) N).length = N * 1) := Lib.hid (by unfold rowB; rw [rowV_length]; omega)
      have HB1 := Lib.hid hb1
      clear hR1 hb1
      go_wp2_with (at_builtin; refine wpList_append_lies _ rfl _ _ 28 rfl wr.heap.size 4 i0 (.bool false) 1 1 Try.underlying28 hi0 hy0 hy1 hy2 rfl (by decide) _ 0 [] rfl HO.out ⟨rb0 t, 0, none⟩ N N (rowB (T0 t) N) (by simp [Act.eval]) HLR.out HNW.out H1C.out (by omega) (by unfold maxLen; omega) (by omega) HB1.out.size _ rfl ?_)
      intro g7 c7 w7 ho7 hg7 hat7 hl7
      have hB7 : Below wr.heap.size wr w7 := HB1.out.grown hg7 HB1.out.size (fun q e => by have e2 : wr.heap.size = q := Option.some.inj e; omega)
      have HPU := Lib.hid (HR.out.1.put hlt hB7 (c := c7) (gm := g7) (M := T0 t) ho7)
      have h1 := HR.out.1.below hB7
      obtain ⟨c1, f1⟩ : (∃ v, w7.cell? ⟨g, t, none⟩ = some v) ∧ w7.frozen? ⟨g, t, none⟩ = false := ⟨⟨_, (h1.top.cellAt t (by omega)).trans (rowV_get _ _ _ hlt)⟩, h1.top.frozenAt t⟩
      obtain ⟨v1, c1⟩ := c1
      have HSA : Hid (∀ i j, i < t + 1 → j < N → (if i = t then T0 t else T i) j = T0 i j) := Lib.hid fun i j hi hj => by
        by_cases h : i = t
        · rw [if_pos h, h]
        · rw [if_neg h]; exact HR.out.2 i j (by omega) hj
      clear ho7 hg7 hat7 hl7 hB7 h1 c0 HO HNW H1C HLR HB1
      go_wp2
      go_roundw
      case rel => exact ⟨t + 1, _, _, _, by omega, by go_num, Lib.hid ⟨HPU.out, HSA.out⟩⟩
      case measure => simp [intOf]; omega
    · obtain rfl : t = N := by omega
      have HP0 : Hid (TabQ w wr g t t rb cp T ∧ Ph A t 0 0 0 T) := Lib.hid ⟨HR.out.1, Ph.start (fun i j hi hj => by rw [HR.out.2 i j hi hj]; exact HA.out i j hi hj)⟩
      clear HR
      go_wp2
      obtain ⟨wE, rfl⟩ : ∃ wE, wE = wr := ⟨_, rfl⟩
      go_loopw [6, 7, 8] (fun sk _ _ wr => ∃ (k : Nat) (T : Nat → Nat → Bool), k ≤ t ∧ sk = .int .i64 (k : Int) ∧ Hid (TabQ w wr g t t rb cp T ∧ Ph A t k 0 0 T)) (fun sk _ _ _ => t - (intOf sk).toNat)
      case atStart => exact ⟨0, T, Nat.zero_le _, rfl, HP0⟩
      case round =>
        obtain ⟨k, T1, hk, rfl, HK⟩ := hrel
        clear HP0
        by_cases hkt : k < t
        · have hkt' : (k : Int) < (t : Int) := by omega
          go_wp2
          obtain ⟨wF, rfl⟩ : ∃ wF, wF = wr := ⟨_, rfl⟩
          go_loopw [7, 8] (fun si _ wr => ∃ (i : Nat) (T : Nat → Nat → Bool), i ≤ t ∧ si = .int .i64 (i : Int) ∧ Hid (TabQ w wr g t t rb cp T ∧ Ph A t k i 0 T)) (fun si _ _ => t - (intOf si).toNat)
          case atStart => exact ⟨0, T1, Nat.zero_le _, rfl, HK⟩
          case round =>
            obtain ⟨i, T2, hi, rfl, HI⟩ := hrel
            clear HK
            by_cases hit : i < t
            · have hit' : (i : Int) < (t : Int) := by omega
              go_wp2
              obtain ⟨wG, rfl⟩ : ∃ wG, wG = wr := ⟨_, rfl⟩
              go_loopw [8] (fun sj wr => ∃ (j : Nat) (T : Nat → Nat → Bool), j ≤ t ∧ sj = .int .i64 (j : Int) ∧ Hid (TabQ w wr g t t rb cp T ∧ Ph A t k i j T)) (fun sj _ => t - (intOf sj).toNat)
              case atStart => exact ⟨0, T2, Nat.zero_le _, rfl, HI⟩
              case round =>
                obtain ⟨j, T3, hj, rfl, HJ⟩ := hrel
                clear HI
                by_cases hjt : j < t
                · have hjt' : (j : Int) < (t : Int) := by omega
                  have a0 := HJ.out.1.cellTop hit
                  have a1 := HJ.out.1.cell hit hkt
                  have b0 := HJ.out.1.cellTop hkt
                  have b1 := HJ.out.1.cell hkt hjt
                  cases hTa : T3 i k with
                  | false =>
                    rw [hTa] at a1
                    have HN := Lib.hid (HJ.out.2.skip hkt hit hjt (by rw [hTa]; simp))
                    clear hTa
                    go_wp2
                    go_roundw
                    case rel => exact ⟨j + 1, T3, by omega, by go_num, Lib.hid ⟨HJ.out.1, HN.out⟩⟩
                    case measure => simp [intOf]; omega
                  | true =>
                    rw [hTa] at a1
                    cases hTb : T3 k j with
                    | false =>
                      rw [hTb] at b1
                      have HN := Lib.hid (HJ.out.2.skip hkt hit hjt (by rw [hTb]; simp))
                      clear hTa hTb
                      go_wp2
                      go_roundw
                      case rel => exact ⟨j + 1, T3, by omega, by go_num, Lib.hid ⟨HJ.out.1, HN.out⟩⟩
                      case measure => simp [intOf]; omega
                    | true =>
                      rw [hTb] at b1
                      have HN := Lib.hid (HJ.out.2.put hkt hit hjt hTa hTb)
                      have HS := Lib.hid (HJ.out.1.set (j := j) hit)
                      have d1 := HJ.out.1.cell hit hjt
                      have d2 := (HJ.out.1.met i hit).fz j
                      clear hTa hTb
                      go_wp2
                      go_roundw
                      case rel => exact ⟨j + 1, _, by omega, by go_num, Lib.hid ⟨HS.out, HN.out⟩⟩
                      case measure => simp [intOf]; omega
                · obtain rfl : j = t := by omega
                  have HN := Lib.hid HJ.out.2.row
                  go_wp2
                  go_roundw
                  case rel => exact ⟨i + 1, T3, by omega, by go_num, Lib.hid ⟨HJ.out.1, HN.out⟩⟩
                  case measure => simp [intOf]; omega
            · obtain rfl : i = t := by omega
              have HN := Lib.hid HI.out.2.next
              go_wp2
              go_roundw
              case rel => exact ⟨k + 1, T2, by omega, by go_num, Lib.hid ⟨HI.out.1, HN.out⟩⟩
              case measure => simp [intOf]; omega
        · obtain rfl : k = t := by omega
          go_wp2
          go_ret
          refine ⟨g, rb, cp, T1, rfl, HK.out.1.read, fun i j hi hj => ?_, HK.out.1.bel⟩
          rw [HK.out.2 i j hi hj, ← WayK.all hi hj]
          exact ⟨fun h => h.elim id (fun h => by omega), .inl⟩
end Go.Proofs.Ytcolcgkfppjflaa
