/-
  Contract of All, of frames that fit.
-/
import Derived.Test.YtgplannipnceeaaM
namespace Go.Proofs.Ytgplannipnceeaa
open Go.ChangeShapes Go.WideShapes Go.ChangeAt Go.RowKit

/-- frames in a slice that may be anybody's -/
def FS (w : World) (sp : Option Addr) (c : Nat) (k z : Nat → Nat) (d : Nat → Nat → Nat) : Prop :=
  0 < c → ∃ b off, sp = some ⟨b, off, none⟩ ∧ b < w.heap.size ∧ ∀ i, i < c → ∃ spi capi, w.cell? ⟨b, off + i * 2, none⟩ = some (.int .i64 ((k i : Nat) : Int)) ∧ w.cell? ⟨b, off + i * 2 + 1, none⟩ = some (.slice spi (z i) capi) ∧ Src w spi (z i) (d i) ∧ (spi = none → z i = 0 ∧ capi = 0)
theorem FS.below {w w' : World} {sp : Option Addr} {c : Nat} {k z : Nat → Nat} {d : Nat → Nat → Nat} (h : FS w sp c k z d) (hb : Below w.heap.size w w') : FS w' sp c k z d := by
  intro hc
  obtain ⟨b, off, e, hl, hi⟩ := h hc
  refine ⟨b, off, e, Nat.lt_of_lt_of_le hl hb.size, fun i hic => ?_⟩
  obtain ⟨spi, capi, c0, c1, hs, hp⟩ := hi i hic
  exact ⟨spi, capi, (hb.cell hl).trans c0, (hb.cell hl).trans c1, hs.below hb, hp⟩

def tot (z : Nat → Nat) : Nat → Nat
  | 0 => 0
  | i + 1 => tot z i + (12 + z i)
theorem tot_le (z : Nat → Nat) (c : Nat) (hz : ∀ i, i < c → z i ≤ 65536) : tot z c ≤ 65548 * c := by
  induction c with
  | zero => exact Nat.le_refl _
  | succ c ih => have := ih fun i hi => hz i (by omega); have := hz c (by omega); show tot z c + (12 + z c) ≤ _; omega
theorem tot_mono (z : Nat → Nat) (i c : Nat) (h : i ≤ c) : tot z i ≤ tot z c := by
  induction c with
  | zero => rw [show i = 0 by omega]; exact Nat.le_refl _
  | succ c ih =>
    rcases Nat.lt_or_ge c i with h' | h'
    · rw [show i = c + 1 by omega]; exact Nat.le_refl _
    · exact Nat.le_trans (ih h') (Nat.le_add_right _ _)
def allF (k z : Nat → Nat) (d : Nat → Nat → Nat) : Nat → Nat → Nat
  | 0 => fun _ => 0
  | i + 1 => cat (allF k z d i) (frm (k i) (z i) (d i)) (tot z i)

set_option maxHeartbeats 2000000 in
theorem all_ok (sp : Option Addr) (c cap : Nat) (k z : Nat → Nat) (d : Nat → Nat → Nat) (w : World) (hcc : c ≤ 1000000) (hT : tot z c ≤ 900000) (hk : ∀ i, i < c → k i < 256) (hz : ∀ i, i < c → z i ≤ 65536) (hd : ∀ i, i < c → ∀ j, d i j < 256) (hf : FS w sp c k z d) :
    Calls Try.prog 17 #[.slice sp c cap] w fun e w' => ∃ g cp, e = .returned (.tuple #[.slice (some ⟨g, 0, none⟩) (tot z c) cp, .int .i64 0]) ∧ w'.ownsRow w.heap.size 5 1 (.slice (some ⟨g, 0, none⟩) (tot z c) cp) (tot z c) (rowB (allF k z d c) (tot z c)) ∧ Below w.heap.size w w' := by
  have HK := Lib.hid hk
  have HZ := Lib.hid hz
  have HD := Lib.hid hd
  have HF := Lib.hid hf
  have HT := Lib.hid hT
  clear hk hz hd hf hT
  go_enter Try.func17, Try.ntmps17
  go_wp2
  go_loopw [4, 6, 7, 13] (fun s _ _ i wr => ∃ t : Nat, t ≤ c ∧ i = .int .i64 (t : Int) ∧ s = .int .i64 ((tot z t : Nat) : Int) ∧ Hid (Below w.heap.size w wr)) (fun _ _ _ i _ => c - (intOf i).toNat)
  case atStart => exact ⟨0, Nat.zero_le _, rfl, rfl, Lib.hid (Below.refl _ _)⟩
  case round =>
    obtain ⟨t, ht, rfl, rfl, HB⟩ := hrel
    by_cases hlt : t < c
    · obtain ⟨b, off, rfl, hbl, hci⟩ := HF.out (by omega)
      obtain ⟨spi, capi, c0, c1, _, _⟩ := hci t hlt
      have x0 := (HB.out.cell (p := ⟨b, off + t * 2, none⟩) hbl).trans c0
      have x1 := (HB.out.cell (p := ⟨b, off + t * 2 + 1, none⟩) hbl).trans c1
      have hf0 : fitsOf ((k t : Nat) : Int) (z t) = 0 := by
        have := HK.out t hlt
        have := HZ.out t hlt
        unfold fitsOf; rw [if_neg (by omega), if_neg (by omega)]
      have hz6 := HZ.out t hlt
      have HTT : Hid (tot z (t + 1) = tot z t + (12 + z t)) := Lib.hid rfl
      have htm : tot z t ≤ 900000 := Nat.le_trans (tot_mono z t c ht) HT.out
      have hlt' : (t : Int) < (c : Int) := by omega
      generalize tot z t = s at *
      generalize k t = kk at *
      generalize z t = zz at *
      clear c0 c1 hci
      go_wp2_with fail
      have hbA : Below w.heap.size w (wr.alloc (.cells #[.int .i64 (kk : Int), .slice spi zz capi] 24)) := HB.out.alloc HB.out.size _
      have hXA : (wr.alloc (.cells #[.int .i64 (kk : Int), .slice spi zz capi] 24)).heap[wr.heap.size]? = some (.cells #[.int .i64 (kk : Int), .slice spi zz capi] 24 (0, 0)) := heap_alloc_new wr _
      refine (fits_any (kk : Int) spi zz capi _ (by omega)).mono ?_
      rintro e w3 ⟨rfl, hb3⟩
      rw [hf0]
      have HB3 := Lib.hid (hbA.trans (hb3.mono hbA.size))
      obtain ⟨⟨y0, y1⟩, _⟩ := zcells ((hb3.block _ (by simp)).trans hXA)
      clear hb3 hbA hXA x0 x1
      generalize wr.heap.size = Q at *
      go_wp2
      go_roundw
      case rel => exact ⟨t + 1, by omega, by go_num, val_int (by rw [HTT.out]; omega), HB3⟩
      case measure => simp [intOf]; omega
    · obtain rfl : t = c := by omega
      obtain ⟨wq, hwq⟩ : ∃ wq, wq = wr := ⟨_, rfl⟩
      subst hwq
      obtain ⟨T, eT⟩ : ∃ T, T = tot z t := ⟨_, rfl⟩
      have hT := HT.out
      rw [← eT] at hT
      obtain ⟨cur, hcur, hmk⟩ := make0 T (by omega)
      have HCU := Lib.hid hcur
      rw [← eT]
      have HET := Lib.hid eT
      clear eT hcur
      have HFR := Lib.hid (HF.out.below HB.out)
      have HO0 : Hid ((wq.alloc (.cells cur 5)).ownsRow wq.heap.size 5 1 (.slice (some ⟨wq.heap.size, 0, none⟩) 0 T) 0 (rowB (allF k z d 0) 0)) := Lib.hid (World.ownsRow_made wq cur T (Nat.le_refl _) (by unfold maxLen; omega) (by rw [HCU.out, Nat.mul_one]))
      have HBM : Hid (Below wq.heap.size wq (wq.alloc (.cells cur 5))) := Lib.hid ((Below.refl _ _).alloc (Nat.le_refl _) _)
      go_wp2
      generalize (wq.alloc (.cells cur 5)) = wm at *
      go_loopw [8, 10, 33] (fun v _ i ws => ∃ s g cp : Nat, s ≤ t ∧ i = .int .i64 (s : Int) ∧ v = .slice (some ⟨g, 0, none⟩) (tot z s) cp ∧ Hid (ws.ownsRow wq.heap.size 5 1 (.slice (some ⟨g, 0, none⟩) (tot z s) cp) (tot z s) (rowB (allF k z d s) (tot z s)) ∧ Below wq.heap.size wq ws)) (fun _ _ i _ => t - (intOf i).toNat)
      case atStart => exact ⟨0, wq.heap.size, T, Nat.zero_le _, rfl, rfl, Lib.hid ⟨HO0.out, HBM.out⟩⟩
      case round =>
        obtain ⟨s, g, cp, hs, rfl, rfl, HA⟩ := hrel
        by_cases hlt2 : s < t
        · obtain ⟨b, off, rfl, hbl, hci⟩ := HFR.out (by omega)
          obtain ⟨spi, capi, c0, c1, hsi, hpi⟩ := hci s hlt2
          have x0 := (HA.out.2.cell (p := ⟨b, off + s * 2, none⟩) hbl).trans c0
          have x1 := (HA.out.2.cell (p := ⟨b, off + s * 2 + 1, none⟩) hbl).trans c1
          have hlt3 : (s : Int) < (t : Int) := by omega
          have hm1 : tot z s ≤ 900000 := by have := tot_mono z s t hs; rw [← HET.out] at this; omega
          have HTT : Hid (tot z (s + 1) = tot z s + (12 + z s)) := Lib.hid rfl
          have HAF : Hid (allF k z d (s + 1) = cat (allF k z d s) (frm (k s) (z s) (d s)) (tot z s)) := Lib.hid rfl
          have hkk := HK.out s hlt2
          have hzz := HZ.out s hlt2
          have HDD := Lib.hid (HD.out s hlt2)
          have HSI := Lib.hid hsi
          have HPI := Lib.hid hpi
          generalize k s = kk at *
          generalize z s = zz at *
          generalize d s = dd at *
          generalize allF k z d s = af at *
          generalize tot z s = m at *
          clear c0 c1 hci hsi hpi
          go_wp2_with fail
          have hbA : Below wq.heap.size wq (wr.alloc (.cells #[.int .i64 (kk : Int), .slice spi zz capi] 24)) := HA.out.2.alloc HA.out.2.size _
          refine (laid_any wq.heap.size g m cp af kk spi zz capi dd (wr.alloc (.cells #[.int .i64 (kk : Int), .slice spi zz capi] 24)) hkk hzz (by omega) HDD.out (HSI.out.below hbA) HPI.out (HA.out.1.alloc _) hbA.size (src_blk HSI.out)).mono ?_
          rintro e w6 ⟨g6, cp6, rfl, ho6, hb6⟩
          have HA6 := Lib.hid (⟨ho6, hbA.trans hb6⟩ : _ ∧ _)
          clear ho6 hb6 hbA x0 x1
          go_wp2
          go_roundw
          case rel => exact ⟨s + 1, g6, cp6, by omega, by go_num, by rw [HTT.out], by rw [HTT.out, HAF.out]; exact HA6⟩
          case measure => simp [intOf]; omega
        · obtain rfl : s = t := by omega
          rw [← HET.out] at HA ⊢
          go_wp2
          go_ret2
          exact ⟨g, cp, by rw [← HET.out]; rfl, by rw [← HET.out]; exact own_mono HA.out.1 HB.out.size, HB.out.trans (HA.out.2.mono HB.out.size)⟩
end Go.Proofs.Ytgplannipnceeaa
