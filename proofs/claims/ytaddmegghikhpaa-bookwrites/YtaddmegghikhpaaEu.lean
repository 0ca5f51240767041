/-
  The reference's Encode.
-/
import Derived.Test.YtaddmegghikhpaaEt
import Derived.IntWalk
namespace Go.Proofs.Ytaddmegghikhpaa
open Go.ChangeShapes Go.WideShapes Go.ChangeAt Go.RowKit

theorem renc_many (a : Option Addr) (len cap : Nat) (w : World) (h : 400 < len) : Calls Try.prog 11 #[.slice a len cap] w fun e w' => e = .returned (.tuple #[.slice none 0 0, .int .i64 4]) ∧ w = w' := by
  have h' : (400 : Int) < (len : Int) := by omega
  go_enter Try.func11, Try.ntmps11
  go_wp2
  go_ret2
  exact ⟨rfl, rfl⟩
def REP (F : Nat → Nat) (E : Nat → Ev) (len : Nat) (w : World) (e : Ending) (w' : World) : Prop :=
  Below w.heap.size w w' ∧ (((∃ i, i < len ∧ ¬ Fit (E i)) ∧ e = .returned (.tuple #[.slice none 0 0, .int .i64 20])) ∨
    ((∀ i, i < len → Fit (E i)) ∧ ∃ g cap, e = .returned (.tuple #[.slice (some ⟨g, 0, none⟩) (((BL E len).length + 7) / 8) cap, .int .i64 0]) ∧ Src w' (some ⟨g, 0, none⟩) (((BL E len).length + 7) / 8) F))
theorem rowS_bs {w : World} {base g cap : Nat} {L : List Nat} {F : Nat → Nat} (h : RowS w base L g cap) (hF : Sp F 0 L) : BS w g 0 L.length 0 F :=
  ⟨(h.lt g rfl).2, fun j hj => by
    have e := hF j hj
    rw [Nat.zero_add] at e
    rw [Nat.zero_add, e, h.cellAt j (by omega)]
    exact rowL_get L j hj⟩

set_option maxRecDepth 100000 in
set_option maxHeartbeats 8000000 in
theorem renc_any (a : Option Addr) (len cap : Nat) (E : Nat → Ev) (F : Nat → Nat) (w : World) (hl4 : len ≤ 400) (hs : EvS w a len E) (hF : (∀ i, i < len → Fit (E i)) → Sp F 0 (BL E len) ∧ Ends F (BL E len).length) : Calls Try.prog 11 #[.slice a len cap] w (REP F E len w) := by
  have HS := Lib.hid hs
  have HF := Lib.hid hF
  have h4' : ¬ (400 : Int) < (len : Int) := by omega
  obtain ⟨B, eB⟩ : ∃ B, B = w.heap.size := ⟨_, rfl⟩
  have HEB := Lib.hid eB
  have HNO : Hid (∀ W, Below B w W → ∀ i, i < len → ¬ Fit (E i) → REP F E len w (.returned (.tuple #[.slice none 0 0, .int .i64 20])) W) := Lib.hid fun W hb i hi hno => ⟨by rw [← eB]; exact hb, .inl ⟨⟨i, hi, hno⟩, rfl⟩⟩
  clear hs hF eB
  go_enter Try.func11, Try.ntmps11
  go_wp2
  go_loopw [5, 7, 13] (fun _ _ x wr => ∃ i : Nat, i ≤ len ∧ x = .int .i64 (i : Int) ∧ Hid (Below B w wr ∧ B ≤ wr.heap.size ∧ ∀ j, j < i → Fit (E j))) (fun _ _ x _ => len - (intOf x).toNat)
  case atStart => exact ⟨0, Nat.zero_le _, rfl, Lib.hid ⟨Below.refl _ _, by rw [HEB.out]; exact Nat.le_refl _, fun j hj => absurd hj (Nat.not_lt_zero _)⟩⟩
  case round =>
    obtain ⟨i, hi, rfl, HT⟩ := hrel
    by_cases hlt : i < len
    · obtain ⟨b, off, rfl, hbl, hci⟩ := HS.out (by omega)
      obtain ⟨sp, cp, c0, c1, c2, ho, hp, hnn⟩ := hci i hlt
      have hbB : b < B := by have := HEB.out; omega
      have x0 := (HT.out.1.cell (p := ⟨b, off + i * 3, none⟩) hbB).trans c0
      have x1 := (HT.out.1.cell (p := ⟨b, off + i * 3 + 1, none⟩) hbB).trans c1
      have x2 := (HT.out.1.cell (p := ⟨b, off + i * 3 + 2, none⟩) hbB).trans c2
      have hlt' : (i : Int) < (len : Int) := by omega
      have HO := Lib.hid ho
      have HNI : Hid (∀ W, Below B w W → ¬ Fit (E i) → REP F E len w (.returned (.tuple #[.slice none 0 0, .int .i64 20])) W) := Lib.hid fun W hb hno => HNO.out W hb i hlt hno
      have HPR : Hid (Fit (E i) → ∀ j, j < i + 1 → Fit (E j)) := Lib.hid fun hh j hj => by
        by_cases h : j < i
        · exact HT.out.2.2 j h
        · obtain rfl : j = i := by omega
          exact hh
      clear c0 c1 c2 ho hp hci
      generalize E i = ev at *
      obtain ⟨k, cl, n, o⟩ := ev
      dsimp only at x0 x1 x2 hnn HO
      have HB : Hid (Below B w (wr.alloc (.cells #[.int .i64 k, .int .i64 cl, .slice sp n cp] 43)) ∧ B ≤ (wr.alloc (.cells #[.int .i64 k, .int .i64 cl, .slice sp n cp] 43)).heap.size) := Lib.hid ⟨HT.out.1.alloc HT.out.2.1 _, Nat.le_trans HT.out.2.1 (by simp)⟩
      by_cases h1 : k < 1
      · go_wp2
        go_ret2
        exact HNI.out _ HB.out.1 (fun h => by have := h.1; dsimp only at this; omega)
      by_cases h2 : 4 < k
      · go_wp2
        go_ret2
        exact HNI.out _ HB.out.1 (fun h => by have := h.2.1; dsimp only at this; omega)
      by_cases h3 : cl < 1
      · go_wp2
        go_ret2
        exact HNI.out _ HB.out.1 (fun h => by have := h.2.2.1; dsimp only at this; omega)
      by_cases h4 : 16 < cl
      · go_wp2
        go_ret2
        exact HNI.out _ HB.out.1 (fun h => by have := h.2.2.2.1; dsimp only at this; omega)
      by_cases h5 : 12 < n
      · have h5' : (12 : Int) < (n : Int) := by omega
        go_wp2
        go_ret2
        exact HNI.out _ HB.out.1 (fun h => by have := h.2.2.2.2.1; dsimp only at this; omega)
      have h5' : ¬ (12 : Int) < (n : Int) := by omega
      have HFI : Hid ((∀ j, j < n → FitO (o j)) → Fit ⟨k, cl, n, o⟩) := Lib.hid fun h => ⟨by dsimp only; omega, by dsimp only; omega, by dsimp only; omega, by dsimp only; omega, by dsimp only; omega, h⟩
      have HNT : Hid (∀ W, Below B w W → ∀ t, t < n → ¬ FitO (o t) → REP F E len w (.returned (.tuple #[.slice none 0 0, .int .i64 20])) W) := Lib.hid fun W hb t ht hno => HNI.out W hb (fun h => hno (h.2.2.2.2.2 t ht))
      go_wp2
      clear x0 x1 x2
      go_loopw [7, 44] (fun _ x ws => ∃ t : Nat, t ≤ n ∧ x = .int .i64 (t : Int) ∧ Hid (Below B w ws ∧ B ≤ ws.heap.size ∧ ∀ j, j < t → FitO (o j))) (fun _ x _ => n - (intOf x).toNat)
      case atStart => exact ⟨0, Nat.zero_le _, rfl, Lib.hid ⟨HB.out.1, HB.out.2, fun j hj => absurd hj (Nat.not_lt_zero _)⟩⟩
      case round =>
        obtain ⟨t, ht, rfl, HU⟩ := hrel
        by_cases hlt2 : t < n
        · obtain ⟨b2, off2, rfl, hbl2, hci2⟩ := HO.out (by omega)
          obtain ⟨o0, o1, o2⟩ := hci2 t hlt2
          have hbB2 : b2 < B := by have := HEB.out; omega
          have x0 := (HU.out.1.cell (p := ⟨b2, off2 + t * 3, none⟩) hbB2).trans o0
          have x1 := (HU.out.1.cell (p := ⟨b2, off2 + t * 3 + 1, none⟩) hbB2).trans o1
          have x2 := (HU.out.1.cell (p := ⟨b2, off2 + t * 3 + 2, none⟩) hbB2).trans o2
          have hlt2' : (t : Int) < (n : Int) := by omega
          have HNV : Hid (∀ W, Below B w W → ¬ FitO (o t) → REP F E len w (.returned (.tuple #[.slice none 0 0, .int .i64 20])) W) := Lib.hid fun W hb hno => HNT.out W hb t hlt2 hno
          have HPO : Hid (FitO (o t) → ∀ j, j < t + 1 → FitO (o j)) := Lib.hid fun hh j hj => by
            by_cases h : j < t
            · exact HU.out.2.2 j h
            · obtain rfl : j = t := by omega
              exact hh
          clear o0 o1 o2 hci2
          generalize o t = ot at *
          obtain ⟨ok, okey, ov⟩ := ot
          dsimp only at x0 x1 x2
          have HV : Hid (Below B w (wr.alloc (.cells #[.int .i64 ok, .int .i64 okey, .int .i64 ov] 53)) ∧ B ≤ (wr.alloc (.cells #[.int .i64 ok, .int .i64 okey, .int .i64 ov] 53)).heap.size) := Lib.hid ⟨HU.out.1.alloc HU.out.2.1 _, Nat.le_trans HU.out.2.1 (by simp)⟩
          by_cases g1 : ok = 1 ∨ ok = 2
          · have g1b : ((ok != 1) = false ∧ True) ∨ ((ok != 1) = true ∧ (ok != 2) = false) := by
              rcases g1 with rfl | rfl
              · exact .inl ⟨rfl, trivial⟩
              · exact .inr ⟨rfl, rfl⟩
            by_cases g2 : okey < 0
            · rcases g1b with ⟨e1, _⟩ | ⟨e1, e2⟩ <;> (go_wp2; go_ret2; exact HNV.out _ HV.out.1 (fun h => by have := h.2.1; dsimp only at this; omega))
            by_cases g3 : 15 < okey
            · rcases g1b with ⟨e1, _⟩ | ⟨e1, e2⟩ <;> (go_wp2; go_ret2; exact HNV.out _ HV.out.1 (fun h => by have := h.2.2.1; dsimp only at this; omega))
            by_cases g4 : ov < 0
            · rcases g1b with ⟨e1, _⟩ | ⟨e1, e2⟩ <;> (go_wp2; go_ret2; exact HNV.out _ HV.out.1 (fun h => by have := h.2.2.2.1; dsimp only at this; omega))
            by_cases g5 : 1099511627776 ≤ ov
            · rcases g1b with ⟨e1, _⟩ | ⟨e1, e2⟩ <;> (go_wp2; go_ret2; exact HNV.out _ HV.out.1 (fun h => by have := h.2.2.2.2; dsimp only at this; omega))
            have HFT := Lib.hid (HPO.out ⟨g1, by dsimp only; omega, by dsimp only; omega, by dsimp only; omega, by dsimp only; omega⟩)
            clear g1
            rcases g1b with ⟨e1, _⟩ | ⟨e1, e2⟩
            · go_wp2
              go_roundw
              case rel => exact ⟨t + 1, by omega, by go_num, Lib.hid ⟨HV.out.1, HV.out.2, HFT.out⟩⟩
              case measure => simp [intOf]; omega
            · go_wp2
              go_roundw
              case rel => exact ⟨t + 1, by omega, by go_num, Lib.hid ⟨HV.out.1, HV.out.2, HFT.out⟩⟩
              case measure => simp [intOf]; omega
          · have e1 : (ok != 1) = true := by simp; omega
            have e2 : (ok != 2) = true := by simp; omega
            have HG1 := Lib.hid g1
            clear g1
            go_wp2
            go_ret2
            exact HNV.out _ HV.out.1 (fun h => HG1.out h.1)
        · obtain rfl : n = t := by omega
          have HFT := Lib.hid (HPR.out (HFI.out HU.out.2.2))
          go_wp2
          go_roundw
          case rel => exact ⟨i + 1, by omega, by go_num, Lib.hid ⟨HU.out.1, HU.out.2.1, HFT.out⟩⟩
          case measure => simp [intOf]; omega
    · obtain rfl : len = i := by omega
      go_wp2_with fail
      refine (rbook_any a len cap E wr hl4 (HS.out.below (by rw [← HEB.out]; exact HT.out.1)) HT.out.2.2).mono ?_
      rintro e w5 ⟨g5, c5, rfl, hr5, hb5⟩
      have HB5 := Lib.hid (HT.out.1.trans (hb5.mono HT.out.2.1))
      have HBS := Lib.hid (rowS_bs hr5 (HF.out HT.out.2.2).1)
      have HLN : Hid ((BL E len).length ≤ 800000) := Lib.hid (by
        have h1 := evsL_le E len HT.out.2.2
        have h2 := numL_le len (by omega)
        unfold BL; rw [List.length_append]; omega)
      have HZ5 : Hid (B ≤ w5.heap.size) := Lib.hid (Nat.le_trans HT.out.2.1 hb5.size)
      clear hr5 hb5
      go_wp2_with fail
      refine (rbytes_any g5 (BL E len).length c5 F w5 HBS.out (HF.out HT.out.2.2).2 HLN.out).mono ?_
      rintro e w6 ⟨g6, c6, rfl, _, ho6, hb6⟩
      have HO6 := Lib.hid (own_src ho6)
      have HB6 := Lib.hid (HB5.out.trans (hb6.mono HZ5.out))
      clear ho6 hb6
      go_wp2
      go_ret2
      exact ⟨by rw [← HEB.out]; exact HB6.out, .inr ⟨HT.out.2.2, g6, c6, rfl, HO6.out⟩⟩
end Go.Proofs.Ytaddmegghikhpaa
