/-
  All of frames whose first misfit has a kind that is none: ErrKind, and no bytes.
-/
import Derived.Test.YtgplannipnceeaaT
namespace Go.Proofs.Ytgplannipnceeaa
open Go.ChangeShapes Go.WideShapes Go.ChangeAt Go.RowKit

/-- frames in a slice that came in: their kinds are any numbers -/
def FSI (w : World) (sp : Option Addr) (c : Nat) (K : Nat → Int) (z : Nat → Nat) (d : Nat → Nat → Nat) : Prop :=
  0 < c → ∃ b off, sp = some ⟨b, off, none⟩ ∧ b < w.heap.size ∧ ∀ i, i < c → ∃ spi capi, w.cell? ⟨b, off + i * 2, none⟩ = some (.int .i64 (K i)) ∧ w.cell? ⟨b, off + i * 2 + 1, none⟩ = some (.slice spi (z i) capi) ∧ Src w spi (z i) (d i) ∧ (spi = none → z i = 0 ∧ capi = 0)
theorem FSI.fs {w : World} {sp : Option Addr} {c : Nat} {K : Nat → Int} {z : Nat → Nat} {d : Nat → Nat → Nat} (h : FSI w sp c K z d) (hk : ∀ i, i < c → 0 ≤ K i) : FS w sp c (fun i => (K i).toNat) z d := by
  intro hc
  obtain ⟨b, off, e, hl, hi⟩ := h hc
  refine ⟨b, off, e, hl, fun i hic => ?_⟩
  obtain ⟨spi, capi, c0, c1, hs, hp⟩ := hi i hic
  exact ⟨spi, capi, by rw [c0]; show some (Value.int .i64 (K i)) = some (Value.int .i64 (((K i).toNat : Nat) : Int)); rw [Int.toNat_of_nonneg (hk i hic)], c1, hs, hp⟩

set_option maxHeartbeats 2000000 in
theorem all_bad (sp : Option Addr) (c cap x : Nat) (K : Nat → Int) (z : Nat → Nat) (d : Nat → Nat → Nat) (w : World) (hcc : c ≤ 1000000) (hT : tot z c ≤ 900000) (hxc : x < c) (hx : K x < 0 ∨ 255 < K x) (hk : ∀ i, i < x → 0 ≤ K i ∧ K i ≤ 255) (hz : ∀ i, i < c → z i ≤ 65536) (hf : FSI w sp c K z d) :
    Calls Try.prog 17 #[.slice sp c cap] w fun e w' => e = .returned (.tuple #[.slice none 0 0, .int .i64 14]) ∧ Below w.heap.size w w' := by
  have HK := Lib.hid hk
  have HZ := Lib.hid hz
  have HXX := Lib.hid hx
  have HF := Lib.hid hf
  have HT := Lib.hid hT
  clear hk hz hx hf hT
  go_enter Try.func17, Try.ntmps17
  go_wp2
  go_loopw [4, 6, 7, 13] (fun s _ _ i wr => ∃ t : Nat, t ≤ x ∧ i = .int .i64 (t : Int) ∧ s = .int .i64 ((tot z t : Nat) : Int) ∧ Hid (Below w.heap.size w wr)) (fun _ _ _ i _ => c - (intOf i).toNat)
  case atStart => exact ⟨0, Nat.zero_le _, rfl, rfl, Lib.hid (Below.refl _ _)⟩
  case round =>
    obtain ⟨t, ht, rfl, rfl, HB⟩ := hrel
    have hltc : t < c := by omega
    obtain ⟨b, off, rfl, hbl, hci⟩ := HF.out (by omega)
    have htm : tot z t ≤ 900000 := Nat.le_trans (tot_mono z t c (by omega)) HT.out
    by_cases hlt : t < x
    · skip
      obtain ⟨spi, capi, c0, c1, _, _⟩ := hci t hltc
      have x0 := (HB.out.cell (p := ⟨b, off + t * 2, none⟩) hbl).trans c0
      have x1 := (HB.out.cell (p := ⟨b, off + t * 2 + 1, none⟩) hbl).trans c1
      have hf0 : fitsOf (K t) (z t) = 0 := by
        have := HK.out t hlt
        have := HZ.out t hltc
        unfold fitsOf; rw [if_neg (by omega), if_neg (by omega)]
      have hz6 := HZ.out t hltc
      have HTT : Hid (tot z (t + 1) = tot z t + (12 + z t)) := Lib.hid rfl
      have hlt' : (t : Int) < (c : Int) := by omega
      generalize tot z t = s at *
      generalize K t = kk at *
      generalize z t = zz at *
      clear c0 c1 hci
      go_wp2_with fail
      have hbA : Below w.heap.size w (wr.alloc (.cells #[.int .i64 kk, .slice spi zz capi] 24)) := HB.out.alloc HB.out.size _
      have hXA : (wr.alloc (.cells #[.int .i64 kk, .slice spi zz capi] 24)).heap[wr.heap.size]? = some (.cells #[.int .i64 kk, .slice spi zz capi] 24 (0, 0)) := heap_alloc_new wr _
      refine (fits_any kk spi zz capi _ (by omega)).mono ?_
      rintro e w3 ⟨rfl, hb3⟩
      rw [hf0]
      have HB3 := Lib.hid (hbA.trans (hb3.mono hbA.size))
      obtain ⟨⟨y0, y1⟩, _⟩ := zcells ((hb3.block _ (by simp)).trans hXA)
      clear hb3 hbA hXA x0 x1
      generalize wr.heap.size = Q at *
      go_wp2
      go_roundw
      case rel => exact ⟨t + 1, by omega, by go_num, val_int (by rw [HTT.out]; omega), HB3⟩
      case measure => simp [intOf]; omega
    · obtain rfl : t = x := by omega
      obtain ⟨spi, capi, c0, c1, _, _⟩ := hci t hltc
      have x0 := (HB.out.cell (p := ⟨b, off + t * 2, none⟩) hbl).trans c0
      have x1 := (HB.out.cell (p := ⟨b, off + t * 2 + 1, none⟩) hbl).trans c1
      have hf0 : fitsOf (K t) (z t) = 14 := by unfold fitsOf; rw [if_pos HXX.out]
      have hz6 := HZ.out t hltc
      have hlt' : (t : Int) < (c : Int) := by omega
      generalize tot z t = s at *
      generalize K t = kk at *
      generalize z t = zz at *
      clear c0 c1 hci
      go_wp2_with fail
      have hbA : Below w.heap.size w (wr.alloc (.cells #[.int .i64 kk, .slice spi zz capi] 24)) := HB.out.alloc HB.out.size _
      refine (fits_any kk spi zz capi _ (by omega)).mono ?_
      rintro e w3 ⟨rfl, hb3⟩
      rw [hf0]
      have HB3 := Lib.hid (hbA.trans (hb3.mono hbA.size))
      clear hb3 hbA x0 x1
      go_wp2
      go_ret2
      exact ⟨rfl, HB3.out⟩
end Go.Proofs.Ytgplannipnceeaa
