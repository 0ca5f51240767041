/-
  Encode.
  The laws' head and big.
  takeUpTo, takeBytes.
  take: states and memory (mathematics).
  take.
-/
import Derived.Test.YtccpfoimedjdgaaJ05
import Derived.Test.YtccpfoimedjdgaaJ04
import Derived.Test.YtccpfoimedjdgaaJ02
import Derived.IntWalk
import Derived.Deep.RegionHeld3

namespace Go.Proofs.Ytccpfoimedjdgaa
open Go.ChangeShapes Go.WideShapes Go.ChangeAt Go.RowKit

/-- the frame of content F, nb bytes -/
def FrG (k : Int) (L : List Nat) (w' : World) (g cp nb : Nat) (F : Nat → Nat) : Prop :=
  Src w' (some ⟨g, 0, none⟩) (12 + nb) (Fr.frm k.toNat nb F) ∧ 12 + nb ≤ cp ∧ nb = (L.length + 7) / 8 ∧ Ends F L.length ∧ Sp F 0 L
def EncP (k : Int) (N : Nat → Int) (n : Nat) (P : Nat → Bs) (D : Bs) (w : World) (e : Ending) (w' : World) : Prop :=
  Below w.heap.size w w' ∧ ((¬ mErr k N n P D = 0 ∧ e = .returned (.tuple #[.slice none 0 0, .int .i64 (mErr k N n P D)])) ∨
    (mErr k N n P D = 0 ∧ ∃ g cp nb F, e = .returned (.tuple #[.slice (some ⟨g, 0, none⟩) (12 + nb) cp, .int .i64 0]) ∧ FrG k (msgL N n P D) w' g cp nb F))

set_option maxRecDepth 100000 in
set_option maxHeartbeats 4000000 in
theorem encode_any (k : Int) (N : Nat → Int) (la : Option Addr) (n lc : Nat) (P : Nat → Bs) (da : Value) (D : Bs) (w : World) (hn : n ≤ 1000000) (hc : n ≤ lc) (hl : LsS w la n P) (hla : la = none → n = 0 ∧ lc = 0) (hd : BsS w da D)
    (hM : (∀ j, j < 9 → NOk (N j)) → (msgL N n P D).length ≤ 500000) :
    Calls Try.prog 9 #[.agg (msL k N (.slice la n lc) da).toArray] w (EncP k N n P D w) := by
  have HL := Lib.hid hl
  have HA := Lib.hid hla
  have HD := Lib.hid hd
  obtain ⟨dsp, dcap, eda, _⟩ := hd
  generalize D.n = dn at eda
  subst eda
  clear hl hla
  have HLM := Lib.hid hM
  clear hM
  have hbx : (w.alloc (.cells (msL k N (.slice la n lc) (.slice dsp dn dcap)).toArray 25)).heap[w.heap.size]? = some (.cells (msL k N (.slice la n lc) (.slice dsp dn dcap)).toArray 25 (0, 0)) := heap_alloc_new w _
  obtain ⟨wb, ewb⟩ : ∃ wb, wb = w.alloc (.cells (msL k N (.slice la n lc) (.slice dsp dn dcap)).toArray 25) := ⟨_, rfl⟩
  have hb0 : Below w.heap.size w wb := by rw [ewb]; exact (Below.refl _ _).alloc (Nat.le_refl _) _
  rw [← ewb] at hbx
  have hbl : w.heap.size < wb.heap.size := by rw [ewb]; simp
  have HB0 := Lib.hid hb0
  have HM : Hid (MsC wb w.heap.size k N (.slice la n lc) (.slice dsp dn dcap)) := Lib.hid hbx
  clear hb0 hbx
  obtain ⟨m0, m1, m2, m3, m4, m5, m6, m7, m8, m9, m10, m11⟩ := HM.out.all
  have HER : Hid (mErr k N n P D = 0 → KOk k ∧ ∀ j, j < 9 → NOk (N j)) := Lib.hid fun h => ⟨(mErr_zero h).1, (mErr_zero h).2.1⟩
  go_enter Try.func9, Try.ntmps9
  go_wp2_with fail
  rw [← ewb]
  clear ewb
  refine (fits_any k N la n lc P (.slice dsp dn dcap) D wb hn hc (HL.out.below HB0.out) HA.out (HD.out.below HB0.out)).mono ?_
  rintro e w1 ⟨rfl, hb1⟩
  have HM1 := Lib.hid (HM.out.below hb1 hbl)
  have HB1 := Lib.hid (HB0.out.trans (hb1.mono (Nat.le_of_lt hbl)))
  have hbl1 : w.heap.size < w1.heap.size := Nat.lt_of_lt_of_le hbl hb1.size
  clear hb1 HM HB0 m0 m1 m2 m3 m4 m5 m6 m7 m8 m9 m10 m11 hbl
  obtain ⟨er, eer⟩ : ∃ er, er = mErr k N n P D := ⟨_, rfl⟩
  rw [← eer] at HER ⊢
  have HEE := Lib.hid eer
  clear eer
  rcases (Classical.em (er = 0)).symm with her | her
  · have her1 : (er != 0) = true := by simpa using her
    go_wp2
    go_ret2
    exact ⟨HB1.out, .inl ⟨by rw [← HEE.out]; exact her, by rw [← HEE.out]; rfl⟩⟩
  · subst her
    obtain ⟨hk, hN⟩ := HER.out rfl
    have hL := HLM.out hN
    obtain ⟨kn, rfl⟩ : ∃ kn : Nat, k = (kn : Int) := ⟨k.toNat, by unfold KOk at hk; omega⟩
    have hkn : kn < 256 := by unfold KOk at hk; omega
    have HMA : Hid (∀ W, Below w1.heap.size w1 W → W.cell? ⟨w.heap.size, 0, none⟩ = some (.int .i64 (kn : Int)) ∧ W.cell? ⟨w.heap.size, 1, none⟩ = some (.int .i64 (N 0)) ∧ W.cell? ⟨w.heap.size, 2, none⟩ = some (.int .i64 (N 1)) ∧ W.cell? ⟨w.heap.size, 3, none⟩ = some (.int .i64 (N 2)) ∧ W.cell? ⟨w.heap.size, 4, none⟩ = some (.int .i64 (N 3)) ∧ W.cell? ⟨w.heap.size, 5, none⟩ = some (.int .i64 (N 4)) ∧ W.cell? ⟨w.heap.size, 6, none⟩ = some (.int .i64 (N 5)) ∧ W.cell? ⟨w.heap.size, 7, none⟩ = some (.int .i64 (N 6)) ∧ W.cell? ⟨w.heap.size, 8, none⟩ = some (.int .i64 (N 7)) ∧ W.cell? ⟨w.heap.size, 9, none⟩ = some (.int .i64 (N 8)) ∧ W.cell? ⟨w.heap.size, 10, none⟩ = some (.slice la n lc) ∧ W.cell? ⟨w.heap.size, 11, none⟩ = some (.slice dsp dn dcap)) := Lib.hid fun W hW => (HM1.out.below hW hbl1).all
    have HCO : Hid (∀ W, Below w1.heap.size w1 W → Calls Try.prog 19 #[.agg (msL (kn : Int) N (.slice la n lc) (.slice dsp dn dcap)).toArray] W (ConP (msgL N n P D) W)) := Lib.hid fun W hW => by
      have hb := HB1.out.trans (hW.mono (Nat.le_of_lt hbl1))
      exact content_any kn N la n lc P (.slice dsp dn dcap) D W hn hc (HL.out.below hb) HA.out (HD.out.below hb) hN hL
    have HBW : Hid (∀ W, Below w1.heap.size w1 W → Below w.heap.size w W) := Lib.hid fun W hW => HB1.out.trans (hW.mono (Nat.le_of_lt hbl1))
    have hB0 : Below w1.heap.size w1 w1 := Below.refl _ _
    have hB1 : Below w1.heap.size w1 w1.drew := hB0.drew
    clear hk hN HLM HER
    obtain ⟨L, eL⟩ : ∃ L, L = msgL N n P D := ⟨_, rfl⟩
    rw [← eL] at HCO hL
    have HLQ := Lib.hid eL
    clear eL
    go_wp2_with fail
    go_region_held3 (fun W => W.cell? ⟨w.heap.size, 0, none⟩ = some (.int .i64 (kn : Int)) ∧ W.cell? ⟨w.heap.size, 1, none⟩ = some (.int .i64 (N 0)) ∧ W.cell? ⟨w.heap.size, 2, none⟩ = some (.int .i64 (N 1)) ∧ W.cell? ⟨w.heap.size, 3, none⟩ = some (.int .i64 (N 2)) ∧ W.cell? ⟨w.heap.size, 4, none⟩ = some (.int .i64 (N 3)) ∧ W.cell? ⟨w.heap.size, 5, none⟩ = some (.int .i64 (N 4)) ∧ W.cell? ⟨w.heap.size, 6, none⟩ = some (.int .i64 (N 5)) ∧ W.cell? ⟨w.heap.size, 7, none⟩ = some (.int .i64 (N 6)) ∧ W.cell? ⟨w.heap.size, 8, none⟩ = some (.int .i64 (N 7)) ∧ W.cell? ⟨w.heap.size, 9, none⟩ = some (.int .i64 (N 8)) ∧ W.cell? ⟨w.heap.size, 10, none⟩ = some (.slice la n lc) ∧ W.cell? ⟨w.heap.size, 11, none⟩ = some (.slice dsp dn dcap))
      (first | exact HMA.out _ hB1 | exact HMA.out _ hB0 | exact HMA.out _ hB2 | exact HMA.out _ hB3)
      (first
        | (go_at_call 19; refine (HCO.out _ hB1).mono ?_; rintro e w2 ⟨g2, nb, F, rfl, hE2, hb2⟩; have hB2 : Below w1.heap.size w1 w2 := hB1.trans (hb2.mono hB1.size); have hnb : nb ≤ 65536 := (by have := hE2.2.2.1; omega))
        | (go_at_call 12; refine (Fr.encode_ok kn (some ⟨g2, 0, none⟩) nb nb F w2 hkn hnb hE2.2.2.2.1.1 (row_src hE2.1) (fun h => by cases h)).mono ?_; rintro e w3 ⟨g3, c3, rfl, ho3, hb3⟩; have hB3 : Below w1.heap.size w1 w3 := hB2.trans (hb3.mono hB2.size)))
    all_goals
      have HR : Hid (Below w.heap.size w w3 ∧ FrG (kn : Int) L w3 g3 c3 nb F) := Lib.hid ⟨HBW.out _ hB3, Fr.own_src ho3, (Fr.own_cap ho3).1, hE2.2.2.1, hE2.2.2.2.1, hE2.2.2.2.2⟩
      have HE0 : Hid (mErr (kn : Int) N n P D = 0) := Lib.hid HEE.out.symm
      clear hE2 ho3 hb2 hb3 hB0 hB1 hB2 hB3 HMA HCO HBW
      go_wp2
      go_ret2
      exact ⟨HR.out.1, .inr ⟨HE0.out, g3, c3, nb, F, rfl, by rw [← HLQ.out]; exact HR.out.2⟩⟩
end Go.Proofs.Ytccpfoimedjdgaa

namespace Go.Proofs.Ytccpfoimedjdgaa
open Go.ChangeShapes Go.WideShapes Go.ChangeAt Go.RowKit

def exN : Nat → Int := fun _ => 0
def exD : Bs := ⟨0, fun _ => 0⟩
def exP : Nat → Bs := fun _ => exD
def exB : Nat → Nat := fun j => if j = 0 then 255 else if j = 1 then 224 else 0
theorem exL : msgL exN 0 exP exD = [1, 1, 1, 1, 1, 1, 1, 1, 1, 1, 1] := by decide +kernel
theorem exEnds : Ends exB 11 := ⟨fun j => by unfold exB; split; decide; split <;> decide, fun _ => by decide⟩
theorem exBits : ∀ i, i < 11 → bitAt exB i = [1, 1, 1, 1, 1, 1, 1, 1, 1, 1, 1].getD i 0 := by decide +kernel
theorem ex_bytes {F : Nat → Nat} (hs : Sp F 0 (msgL exN 0 exP exD)) (he : Ends F (msgL exN 0 exP exD).length) : ∀ j, j < 2 → F j = exB j := by
  rw [exL] at hs he
  refine fun j hj => bytes_eq he exEnds (fun i hi => ?_) j hj
  have h1 := hs i hi
  rw [Nat.zero_add] at h1
  rw [h1, exBits i hi]
theorem exErr : mErr 7 exN 0 exP exD = 0 := mErr_ok ⟨by decide, by decide⟩ (fun _ _ => ⟨(by decide : (0 : Int) ≤ 0), (by decide : (0 : Int) ≤ 1099511627776)⟩) (by decide) (fun i _ => by show (if i < 0 then exD else exD).n ≤ 4000; split <;> decide)
theorem exBs (w : World) : BsS w (.slice none 0 0) exD := ⟨none, 0, rfl, fun h => absurd h (Nat.lt_irrefl 0), fun _ => ⟨rfl, rfl⟩, Nat.zero_le _, fun _ => (by decide : 0 < 256)⟩

theorem cat_lo {f o : Nat → Nat} {n j : Nat} (h : j < n) : Fr.cat f o n j = f j := by unfold Fr.cat; rw [if_pos h]
theorem cat_hi {f o : Nat → Nat} (n j : Nat) : Fr.cat f o n (n + j) = o j := by unfold Fr.cat; rw [if_neg (by omega), Nat.add_sub_cancel_left]
set_option maxRecDepth 100000 in
set_option maxHeartbeats 2000000 in
theorem head_any (w : World) : Calls Try.prog 7 #[] w fun e w' => e = .returned (.bool true) ∧ Below w.heap.size w w' := by
  go_enter Try.func7, Try.ntmps7
  go_wp2_with fail
  refine (encode_any 7 exN none 0 0 exP (.slice none 0 0) exD w (Nat.zero_le _) (Nat.le_refl _) (fun h => absurd h (Nat.lt_irrefl 0)) (fun _ => ⟨rfl, rfl⟩) (exBs w) (fun _ => by rw [exL]; decide)).mono ?_
  rintro e w2 ⟨hb2, hres⟩
  have HB2 := Lib.hid hb2
  clear hb2
  rcases hres with ⟨h, _⟩ | ⟨_, g, cp, nb, F, rfl, hs, hc, hnb, he, hsp⟩
  · exact absurd exErr h
  · obtain rfl : nb = 2 := by rw [hnb, exL]; rfl
    have hF := ex_bytes hsp he
    obtain ⟨ad, ead, _, hcell⟩ := hs (by decide)
    injection ead with ead
    subst ead
    have c0 := hcell 0 (by decide)
    have c12 := hcell 12 (by decide)
    have c13 := hcell 13 (by decide)
    have e0 : Fr.frm (Int.toNat 7) 2 F 0 = 7 := by
      show Fr.cat (Fr.h12 7 2 F) F 12 0 = 7
      rw [cat_lo (by decide)]
      show Fr.cat (Fr.h8 7 2) _ 8 0 = 7
      rw [cat_lo (by decide)]
      show Fr.cat (Fr.h4 7 2) _ 4 0 = 7
      rw [cat_lo (by decide)]
      decide
    have e12 : Fr.frm (Int.toNat 7) 2 F 12 = 255 := by
      show Fr.cat (Fr.h12 7 2 F) F 12 (12 + 0) = 255
      rw [cat_hi, hF 0 (by decide)]; rfl
    have e13 : Fr.frm (Int.toNat 7) 2 F 13 = 224 := by
      show Fr.cat (Fr.h12 7 2 F) F 12 (12 + 1) = 224
      rw [cat_hi, hF 1 (by decide)]; rfl
    rw [e0] at c0
    rw [e12] at c12
    rw [e13] at c13
    rw [Go.WideShapes.add_plain] at c0 c12 c13
    have hcp : (14 : Int) ≤ (cp : Int) := by omega
    clear e0 e12 e13 hcell hs hsp he hF hc hnb
    go_wp2
    go_ret
    exact ⟨rfl, HB2.out⟩

/-- great messages, which the laws leave out -/
def Big (n : Nat) (P : Nat → Bs) (D : Bs) : Prop := 30 < n ∨ 4100 < D.n ∨ ∃ i, i < n ∧ 500 < (P i).n
set_option maxRecDepth 100000 in
set_option maxHeartbeats 2000000 in
theorem big_any (k : Int) (N : Nat → Int) (la : Option Addr) (n lc : Nat) (P : Nat → Bs) (da : Value) (D : Bs) (w : World) (hn : n ≤ 9223372036854775807) (hl : LsS w la n P) (hd : BsS w da D) :
    Calls Try.prog 8 #[.agg (msL k N (.slice la n lc) da).toArray] w (Tells (Big n P D) w) := by
  have HL := Lib.hid hl
  have HDN : Hid (D.n ≤ 9223372036854775807) := Lib.hid (by obtain ⟨_, _, _, _, _, h, _⟩ := hd; exact h)
  obtain ⟨dsp, dcap, eda, _⟩ := hd
  clear hl
  have hbx : (w.alloc (.cells (msL k N (.slice la n lc) da).toArray 25)).heap[w.heap.size]? = some (.cells (msL k N (.slice la n lc) da).toArray 25 (0, 0)) := heap_alloc_new w _
  obtain ⟨wb, ewb⟩ : ∃ wb, wb = w.alloc (.cells (msL k N (.slice la n lc) da).toArray 25) := ⟨_, rfl⟩
  have hb0 : Below w.heap.size w wb := by rw [ewb]; exact (Below.refl _ _).alloc (Nat.le_refl _) _
  rw [← ewb] at hbx
  have HB0 := Lib.hid hb0
  have m10 : wb.cell? ⟨w.heap.size, 10, none⟩ = some (.slice la n lc) := MsC.cell (k := k) (N := N) (la := .slice la n lc) (da := da) hbx 10 rfl
  have m11 : wb.cell? ⟨w.heap.size, 11, none⟩ = some da := MsC.cell (k := k) (N := N) (la := .slice la n lc) (da := da) hbx 11 rfl
  clear hb0 hbx
  rw [eda] at m11 ewb ⊢
  by_cases h1 : 30 < n
  · have h1' : (30 : Int) < (n : Int) := by omega
    go_enter Try.func8, Try.ntmps8
    go_wp2
    rw [← ewb]
    go_ret
    exact ⟨true, rfl, ⟨fun _ => .inl h1, fun _ => rfl⟩, HB0.out⟩
  · have h1' : ¬ (30 : Int) < (n : Int) := by omega
    by_cases h2 : 4100 < D.n
    · have HY : Hid (Big n P D) := Lib.hid (.inr (.inl h2))
      have h2' : (4100 : Int) < (D.n : Int) := by omega
      generalize D.n = dn at *
      go_enter Try.func8, Try.ntmps8
      go_wp2_with fail
      rw [← ewb]
      clear ewb
      go_wp2
      go_ret
      exact ⟨true, rfl, ⟨fun _ => HY.out, fun _ => rfl⟩, HB0.out⟩
    · have h2' : ¬ (4100 : Int) < (D.n : Int) := by omega
      have HY : Hid (∀ i, i < n → 500 < (P i).n → Big n P D) := Lib.hid fun i hi h => .inr (.inr ⟨i, hi, h⟩)
      have HNO : Hid ((∀ i, i < n → ¬ 500 < (P i).n) → ¬ Big n P D) := Lib.hid fun h h' => by
        rcases h' with h' | h' | ⟨i, hi, h'⟩
        · exact h1 h'
        · exact h2 h'
        · exact h i hi h'
      clear h2
      generalize D.n = dn at *
      go_enter Try.func8, Try.ntmps8
      go_wp2_with fail
      rw [← ewb]
      clear ewb
      go_wp2
      go_loopw [4, 18] (fun _ i wr => ∃ t : Nat, t ≤ n ∧ i = .int .i64 (t : Int) ∧ wr = wb ∧ Hid (∀ i, i < t → ¬ 500 < (P i).n)) (fun _ i _ => n - (intOf i).toNat)
      case atStart => exact ⟨0, Nat.zero_le _, rfl, rfl, Lib.hid fun j hj => absurd hj (Nat.not_lt_zero _)⟩
      case round =>
        obtain ⟨t, ht, rfl, rfl, HT⟩ := hrel
        by_cases hlt : t < n
        · have hlt' : (t : Int) < (n : Int) := by omega
          obtain ⟨b, off, rfl, hbl2, hci⟩ := (HL.out.below HB0.out) (by omega)
          obtain ⟨v, c0, sp, cap, rfl, hsrc⟩ := hci t hlt
          have HYT := Lib.hid (HY.out t hlt)
          have HPR : Hid (¬ 500 < (P t).n → ∀ i, i < t + 1 → ¬ 500 < (P i).n) := Lib.hid fun hh j hj => by
            by_cases h : j < t
            · exact HT.out j h
            · obtain rfl : j = t := by omega
              exact hh
          clear hci hsrc
          generalize (P t).n = x at *
          by_cases hx : 500 < x
          · have hx' : (500 : Int) < (x : Int) := by omega
            have HYY := Lib.hid (HYT.out hx)
            go_wp2
            go_ret
            exact ⟨true, rfl, ⟨fun _ => HYY.out, fun _ => rfl⟩, HB0.out⟩
          · have hx' : ¬ (500 : Int) < (x : Int) := by omega
            have HPR' := Lib.hid (HPR.out hx)
            go_wp2
            go_roundw
            case rel => exact ⟨t + 1, by omega, by go_num, trivial, HPR'⟩
            case measure => simp [intOf]; omega
        · obtain rfl : n = t := by omega
          have HNN := Lib.hid (HNO.out HT.out)
          go_wp2
          go_ret
          exact ⟨false, rfl, ⟨fun h => (by cases h), fun h => absurd h HNN.out⟩, HB0.out⟩
end Go.Proofs.Ytccpfoimedjdgaa

namespace Go.Proofs.Ytccpfoimedjdgaa
open Go.ChangeShapes Go.WideShapes Go.ChangeAt Go.RowKit

noncomputable def uV (f : Nat → Nat) (n most : Nat) (s : PS) : Nat := if most < nV f n s then 0 else nV f n s
noncomputable def uS (f : Nat → Nat) (n most : Nat) (er : Int) (s : PS) : PS := if most < nV f n s then fS er (nS f n s) else nS f n s
theorem uV_le (f : Nat → Nat) (n most : Nat) (s : PS) : uV f n most s ≤ most := by unfold uV; split <;> omega
def UpP (w : World) (g rb n : Nat) (f : Nat → Nat) (s : PS) (most : Nat) (er : Int) (e : Ending) (w' : World) : Prop :=
  e = .returned (.int .i64 ((uV f n most s : Nat) : Int)) ∧ RSt w' g rb n f (uS f n most er s) ∧ w.grownBy w' (some rb)
theorem upto_any (w : World) (g rb n : Nat) (f : Nat → Nat) (s : PS) (most : Nat) (M : Int) (hM : M = (most : Int)) (er : Int) (her : ¬ er = 0) (hm : most ≤ 1099511627776) (h : RSt w g rb n f s) :
    Calls Try.prog 44 #[.pointer (some ⟨rb, 0, none⟩), .int .u64 M, .int .i64 er] w (UpP w g rb n f s most er) := by
  subst hM
  have HR := Lib.hid h
  have HE := Lib.hid her
  have HV : Hid (uV f n most s = if most < nV f n s then 0 else nV f n s) := Lib.hid rfl
  have HS : Hid (uS f n most er s = if most < nV f n s then fS er (nS f n s) else nS f n s) := Lib.hid rfl
  have hlt := nV_lt f n s
  clear h her
  go_enter Try.func44, Try.ntmps44
  go_wp2_with fail
  refine (num_s w g rb n f s HR.out).mono ?_
  rintro e w1 ⟨rfl, hr1, hg1⟩
  have HR1 := Lib.hid hr1
  have HG1 := Lib.hid hg1
  clear hr1 hg1
  obtain ⟨x, ex⟩ : ∃ x, x = nV f n s := ⟨_, rfl⟩
  rw [← ex] at HV HS hlt ⊢
  clear ex
  by_cases hx : most < x
  · have hx' : (most : Int) < (x : Int) := by omega
    rw [if_pos hx] at HV HS
    go_wp2_with fail
    refine (fail_s w1 g rb n f _ er HE.out HR1.out).mono ?_
    rintro e w2 ⟨rfl, hr2, hg2⟩
    have HR2 := Lib.hid hr2
    have HG2 := Lib.hid (grown_trans HG1.out hg2)
    clear hr2 hg2
    go_wp2
    go_ret
    exact ⟨by rw [HV.out]; rfl, by rw [HS.out]; exact HR2.out, HG2.out⟩
  · have hx' : ¬ (most : Int) < (x : Int) := by omega
    rw [if_neg hx] at HV HS
    have hx2 : x ≤ 1099511627776 := by omega
    go_wp2
    go_ret
    exact ⟨by rw [HV.out]; rfl, by rw [HS.out]; exact HR1.out, HG1.out⟩

/-- behind j bytes -/
def gsS (n : Nat) (s : PS) : Nat → PS
  | 0 => s
  | j + 1 => gS n 8 (gsS n s j)
noncomputable def tB (f : Nat → Nat) (n : Nat) (s : PS) : Bs := ⟨uV f n 4000 s, fun j => gV f n 8 (gsS n (uS f n 4000 3 s) j)⟩
noncomputable def tS (f : Nat → Nat) (n : Nat) (s : PS) : PS := gsS n (uS f n 4000 3 s) (uV f n 4000 s)
def TbP (w : World) (g rb n : Nat) (f : Nat → Nat) (s : PS) (e : Ending) (w' : World) : Prop :=
  ∃ q, e = .returned (.slice (some ⟨q, 0, none⟩) (tB f n s).n (tB f n s).n) ∧ w'.heap[q]? = some (.cells (rowB (tB f n s).f (tB f n s).n).toArray 5 (0, 0)) ∧ w.heap.size ≤ q ∧ RSt w' g rb n f (tS f n s) ∧ w.grownBy w' (some rb)
def pre (F : Nat → Nat) (t j : Nat) : Nat := if j < t then F j else 0
theorem pre_next (F : Nat → Nat) (t : Nat) : updB (pre F t) t (F t) = pre F (t + 1) := by
  funext j
  unfold updB pre
  by_cases h : j = t
  · subst h; simp
  · rw [if_neg h]
    by_cases h' : j < t
    · rw [if_pos h', if_pos (by omega)]
    · rw [if_neg h', if_neg (by omega)]
theorem pre_all (F : Nat → Nat) (n : Nat) : rowB (pre F n) n = rowB F n := by
  unfold rowB
  refine List.map_congr_left fun j hj => ?_
  rw [List.mem_range] at hj
  unfold pre
  rw [if_pos hj]
theorem pre_none (F : Nat → Nat) (n : Nat) : rowB (pre F 0) n = List.replicate n (.int .u8 0) := by
  unfold rowB
  refine List.ext_getElem (by simp) fun i h1 h2 => ?_
  simp [pre]
theorem row_store {w : World} {q m t : Nat} {F : Nat → Nat} (h : w.heap[q]? = some (.cells (rowB (pre F t) m).toArray 5 (0, 0))) : (w.setCell ⟨q, t, none⟩ (.int .u8 ((F t : Nat) : Int))).heap[q]? = some (.cells (rowB (pre F (t + 1)) m).toArray 5 (0, 0)) := by
  rw [heap_setCell_same _ q t _ 5 _ h, ← pre_next, ← rowB_set]
  simp

set_option maxRecDepth 100000 in
set_option maxHeartbeats 2000000 in
theorem takeb_any (w : World) (g rb n : Nat) (f : Nat → Nat) (s : PS) (h : RSt w g rb n f s) (hgw : g < w.heap.size) :
    Calls Try.prog 45 #[.pointer (some ⟨rb, 0, none⟩)] w (TbP w g rb n f s) := by
  have hrw := h.lt
  have HR := Lib.hid h
  clear h
  have HF : Hid (∀ j, (tB f n s).f j = gV f n 8 (gsS n (uS f n 4000 3 s) j)) := Lib.hid fun _ => rfl
  have HX : Hid (∀ j, gsS n (uS f n 4000 3 s) (j + 1) = gS n 8 (gsS n (uS f n 4000 3 s) j)) := Lib.hid fun _ => rfl
  have HM : Hid ((tB f n s).n = uV f n 4000 s) := Lib.hid rfl
  have HTS : Hid (tS f n s = gsS n (uS f n 4000 3 s) (uV f n 4000 s)) := Lib.hid rfl
  have HLT : Hid (∀ j, (tB f n s).f j < 256) := Lib.hid fun j => gV_lt f n 8 _
  have hmm := uV_le f n 4000 s
  have HN8 : Hid (wn 8 = 8) := Lib.hid (by decide)
  unfold TbP
  rw [HM.out]
  generalize (tB f n s).f = F at *
  obtain ⟨m, em⟩ : ∃ m, m = uV f n 4000 s := ⟨_, rfl⟩
  obtain ⟨s1, es1⟩ : ∃ s1, s1 = uS f n 4000 3 s := ⟨_, rfl⟩
  rw [← em] at hmm HTS ⊢
  rw [← es1] at HF HX HTS
  have HE1 := Lib.hid em
  have HE2 := Lib.hid es1
  clear em es1 HM
  go_enter Try.func45, Try.ntmps45
  go_wp2_with fail
  refine (upto_any w g rb n f s 4000 4000 rfl 3 (by decide) (by omega) HR.out).mono ?_
  rintro e w1 ⟨rfl, hr1, hg1⟩
  rw [← HE1.out]
  rw [← HE2.out] at hr1
  have HR1 := Lib.hid hr1
  have HG1 := Lib.hid hg1
  have hw1 := hg1.size
  clear hr1 hg1 HR
  obtain ⟨cur, hcur⟩ : ∃ cur, cur = List.replicate m (Value.int .u8 0) := ⟨_, rfl⟩
  have hmk := makeB m cur hcur (by omega)
  have HCU : Hid (rowB (pre F 0) m = cur) := Lib.hid (by rw [pre_none, hcur])
  clear hcur
  obtain ⟨w2, ew2⟩ : ∃ w2, w2 = w1.alloc (.cells cur.toArray 5) := ⟨_, rfl⟩
  have hq2 : w2.heap[w1.heap.size]? = some (.cells (rowB (pre F 0) m).toArray 5 (0, 0)) := by rw [ew2, HCU.out]; exact heap_alloc_new w1 _
  have hb2 : Below w1.heap.size w1 w2 := by rw [ew2]; exact (Below.refl _ _).alloc (Nat.le_refl _) _
  have hl2 : w2.heap.size = w1.heap.size + 1 := by rw [ew2]; simp
  have HR2 := Lib.hid (HR1.out.below hb2)
  have HG2 : Hid (w.grownBy w2 (some rb)) := Lib.hid (by rw [ew2]; exact grown_trans HG1.out (World.grownBy_alloc w1 _ _))
  have HQ2 := Lib.hid hq2
  clear hq2 hb2 HCU
  go_wp2
  rw [← ew2]
  clear ew2 hmk
  obtain ⟨q, eq⟩ : ∃ q, q = w1.heap.size := ⟨_, rfl⟩
  rw [← eq] at HQ2 hl2 hw1 ⊢
  have hqr : rb ≠ q := by omega
  have hqg : g ≠ q := by omega
  clear eq HR1 HG1
  go_loopw [4, 10] (fun _ x wr => ∃ t : Nat, t ≤ m ∧ x = .int .i64 (t : Int) ∧ Hid (wr.heap[q]? = some (.cells (rowB (pre F t) m).toArray 5 (0, 0)) ∧ RSt wr g rb n f (gsS n s1 t) ∧ w.grownBy wr (some rb))) (fun _ x _ => m - (intOf x).toNat)
  case atStart => exact ⟨0, Nat.zero_le _, rfl, Lib.hid ⟨HQ2.out, HR2.out, HG2.out⟩⟩
  case round =>
    obtain ⟨t, ht, rfl, HT⟩ := hrel
    by_cases hlt : t < m
    · have hlt' : (t : Int) < (m : Int) := by omega
      have HFT := HF.out t
      have HXT := HX.out t
      have hy := HLT.out t
      go_wp2_with fail
      refine (get_s wr g rb n f (gsS n s1 t) 8 8 HN8.out HT.out.2.1).mono ?_
      rintro e w3 ⟨rfl, hr3, hg3⟩
      rw [← HFT]
      rw [← HXT] at hr3
      have hq3 : w3.heap[q]? = some (.cells (rowB (pre F t) m).toArray 5 (0, 0)) := (hg3.block q (by
        rcases Nat.lt_or_ge q wr.heap.size with h' | h'
        · exact h'
        · have := HT.out.1; rw [Array.getElem?_eq_none h'] at this; cases this) (fun e => by injection e with e; exact hqr e.symm)).trans HT.out.1
      have c3 : w3.cell? ⟨q, t, none⟩ = some (.int .u8 ((pre F t t : Nat) : Int)) := by
        rw [cell_of_row w3 q t _ 5 (0, 0) hq3]; simpa using rowB_get (pre F t) m t hlt
      have f3 : w3.frozen? ⟨q, t, none⟩ = false := frozen_of_row w3 _ t _ 5 hq3
      have HQ3 := Lib.hid (row_store hq3)
      have HG3 := Lib.hid (grown_new (grown_trans HT.out.2.2 hg3) (grown_setCell (grown_refl w3 (some q)) t (.int .u8 ((F t : Nat) : Int))) (by omega))
      have HR3 := Lib.hid (hr3.kept (grown_setCell (grown_refl w3 (some q)) t (.int .u8 ((F t : Nat) : Int))) hqr hqg)
      clear hr3 hg3 hq3 HT HXT HFT
      generalize F t = y at *
      go_wp2
      go_roundw
      case rel => exact ⟨t + 1, by omega, by go_num, Lib.hid ⟨HQ3.out, HR3.out, HG3.out⟩⟩
      case measure => simp [intOf]; omega
    · obtain rfl : m = t := by omega
      have HQE : Hid (wr.heap[q]? = some (.cells (rowB F m).toArray 5 (0, 0))) := Lib.hid (by rw [← pre_all]; exact HT.out.1)
      go_wp2
      go_ret
      exact ⟨q, rfl, HQE.out, by omega, by rw [HTS.out]; exact HT.out.2.1, HT.out.2.2⟩
end Go.Proofs.Ytccpfoimedjdgaa

namespace Go.Proofs.Ytccpfoimedjdgaa
open Go.ChangeShapes Go.WideShapes Go.ChangeAt Go.RowKit

noncomputable def nmS (f : Nat → Nat) (n : Nat) (s : PS) : Nat → PS
  | 0 => s
  | j + 1 => uS f n 1099511627776 1 (nmS f n s j)
noncomputable def tN (f : Nat → Nat) (n : Nat) (s : PS) (j : Nat) : Int := ((uV f n 1099511627776 (nmS f n s j) : Nat) : Int)
noncomputable def itS (f : Nat → Nat) (n : Nat) (s : PS) : Nat → PS
  | 0 => s
  | j + 1 => tS f n (itS f n s j)
noncomputable def tM (f : Nat → Nat) (n : Nat) (s : PS) : Nat := uV f n 2000 (nmS f n s 9)
noncomputable def tI (f : Nat → Nat) (n : Nat) (s : PS) : PS := uS f n 2000 4 (nmS f n s 9)
noncomputable def tP (f : Nat → Nat) (n : Nat) (s : PS) (j : Nat) : Bs := tB f n (itS f n (tI f n s) j)
noncomputable def tD (f : Nat → Nat) (n : Nat) (s : PS) : Bs := tB f n (itS f n (tI f n s) (tM f n s))
noncomputable def tF (f : Nat → Nat) (n : Nat) (s : PS) : PS := tS f n (itS f n (tI f n s) (tM f n s))

/-- the first numbers, then noughts -/
def preN (N : Nat → Int) (t j : Nat) : Int := if j < t then N j else 0
theorem MsC.store {w : World} {b k : Nat} {N : Nat → Int} {la da : Value} {t : Nat} (h : MsC w b k (preN N t) la da) (ht : t < 9) : MsC (w.setCell ⟨b, t + 1, none⟩ (.int .i64 (N t))) b k (preN N (t + 1)) la da := by
  unfold MsC at *
  rw [heap_setCell_same _ b (t + 1) _ 25 _ h]
  have : t = 0 ∨ t = 1 ∨ t = 2 ∨ t = 3 ∨ t = 4 ∨ t = 5 ∨ t = 6 ∨ t = 7 ∨ t = 8 := by omega
  rcases this with rfl | rfl | rfl | rfl | rfl | rfl | rfl | rfl | rfl <;> rfl
theorem MsC.list {w : World} {b : Nat} {k : Int} {N : Nat → Int} {la da : Value} (h : MsC w b k N la da) (la' : Value) : MsC (w.setCell ⟨b, 10, none⟩ la') b k N la' da := by
  unfold MsC at *
  rw [heap_setCell_same _ b 10 _ 25 _ h]
  rfl
theorem MsC.data {w : World} {b : Nat} {k : Int} {N : Nat → Int} {la da : Value} (h : MsC w b k N la da) (da' : Value) : MsC (w.setCell ⟨b, 11, none⟩ da') b k N la da' := by
  unfold MsC at *
  rw [heap_setCell_same _ b 11 _ 25 _ h]
  rfl
theorem MsC.grown {w w' : World} {b q : Nat} {k : Int} {N : Nat → Int} {la da : Value} (h : MsC w b k N la da) (hg : w.grownBy w' (some q)) (hne : b ≠ q) : MsC w' b k N la da := (hg.block b h.lt (fun e => by injection e with e; exact hne e)).trans h
theorem MsC.grownO {w w' : World} {b base e size n : Nat} {v : Value} {xs : List Value} {k : Int} {N : Nat → Int} {la da : Value} (h : MsC w b k N la da) (ho : w.ownsRow base e size v n xs) (he : e ≠ 25) (hg : w.grownBy w' v.ownBlock) : MsC w' b k N la da := by
  refine (hg.block b h.lt (fun e' => ?_)).trans h
  obtain ⟨cur, e3⟩ := own_cells ho e'.symm
  unfold MsC at h
  rw [h] at e3
  injection e3 with e3
  injection e3 with _ e3
  exact he e3.symm

/-- an entry that was read: in memory of its own -/
def EnS (w : World) (B : Nat) (u : Value) (b : Bs) : Prop := ∃ q, u = .slice (some ⟨q, 0, none⟩) b.n b.n ∧ w.heap[q]? = some (.cells (rowB b.f b.n).toArray 5 (0, 0)) ∧ B ≤ q
theorem EnS.lt {w : World} {q : Nat} {cs : Array Value} {t : Nat} (h : w.heap[q]? = some (.cells cs t (0, 0))) : q < w.heap.size := by
  rcases Nat.lt_or_ge q w.heap.size with h' | h'
  · exact h'
  · rw [Array.getElem?_eq_none h'] at h; cases h
theorem EnS.grown {w w' : World} {B p : Nat} {u : Value} {b : Bs} (h : EnS w B u b) (hg : w.grownBy w' (some p)) (hp : p < B) : EnS w' B u b := by
  obtain ⟨q, e, h1, h2⟩ := h
  exact ⟨q, e, (hg.block q (EnS.lt h1) (fun e => by injection e with e; omega)).trans h1, h2⟩
theorem EnS.grownO {w w' : World} {B base e size n : Nat} {v u : Value} {xs : List Value} {b : Bs} (h : EnS w B u b) (ho : w.ownsRow base e size v n xs) (he : e ≠ 5) (hg : w.grownBy w' v.ownBlock) : EnS w' B u b := by
  obtain ⟨q, e1, h1, h2⟩ := h
  refine ⟨q, e1, (hg.block q (EnS.lt h1) (fun e' => ?_)).trans h1, h2⟩
  obtain ⟨cur, e3⟩ := own_cells ho e'.symm
  rw [h1] at e3
  injection e3 with e3
  injection e3 with _ e3
  exact he e3.symm
theorem EnS.set {w : World} {B b' j : Nat} {u v : Value} {b : Bs} {k : Int} {N : Nat → Int} {la da : Value} (h : EnS w B u b) (hm : MsC w b' k N la da) : EnS (w.setCell ⟨b', j, none⟩ v) B u b := by
  obtain ⟨q, e1, h1, h2⟩ := h
  refine ⟨q, e1, (Below.heap_setCell w ⟨b', j, none⟩ v q (fun e => ?_)).trans h1, h2⟩
  dsimp only at e
  subst e
  unfold MsC at hm
  rw [h1] at hm
  injection hm with hm
  injection hm with _ hm
  cases hm
theorem EnS.below {w w' : World} {B : Nat} {u : Value} {b : Bs} (h : EnS w B u b) (hb : Below w.heap.size w w') : EnS w' B u b := by
  obtain ⟨q, e, h1, h2⟩ := h
  exact ⟨q, e, (hb.block q (EnS.lt h1)).trans h1, h2⟩
theorem EnS.bs {w : World} {B : Nat} {u : Value} {b : Bs} (h : EnS w B u b) (hn : b.n ≤ 4000) (hf : ∀ j, b.f j < 256) : BsS w u b := by
  obtain ⟨q, e, h1, h2⟩ := h
  exact ⟨some ⟨q, 0, none⟩, b.n, e, row_src h1, fun h => (by cases h), by omega, hf⟩
/-- the entries that were read so far -/
def LiS (w : World) (B : Nat) (v : Value) (j : Nat) (P : Nat → Bs) : Prop := ∃ us : List Value, w.ownsRow B 23 1 v j us ∧ us.length = j ∧ ∀ i u, us[i]? = some u → EnS w B u (P i)
theorem tB_le (f : Nat → Nat) (n : Nat) (s : PS) : (tB f n s).n ≤ 4000 := uV_le f n 4000 s
theorem tB_lt (f : Nat → Nat) (n : Nat) (s : PS) : ∀ j, (tB f n s).f j < 256 := fun _ => gV_lt f n 8 _
theorem LiS.ls {w : World} {B cap j : Nat} {sp : Option Addr} {P : Nat → Bs} (h : LiS w B (.slice sp j cap) j P) (hn : ∀ i, i < j → (P i).n ≤ 4000) (hf : ∀ i j, (P i).f j < 256) : LsS w sp j P := by
  obtain ⟨us, ho, hl, he⟩ := h
  intro hj
  obtain ⟨g, cp, e, h1, h2⟩ := ho.form hj
  injection e with e _ _
  subst e
  refine ⟨g, 0, rfl, h2, fun i hi => ?_⟩
  have hc := ho.cellAt i (by omega)
  obtain ⟨u, hu⟩ : ∃ u, us[i]? = some u := ⟨us[i]'(by omega), List.getElem?_eq_getElem (by omega)⟩
  exact ⟨u, by rw [Nat.zero_add]; exact hc.trans hu, (he i u hu).bs (hn i hi) (hf i)⟩
theorem LiS.nil (w : World) (B : Nat) (P : Nat → Bs) : LiS w B (.slice none 0 0) 0 P := ⟨[], World.ownsRow_nil _ _ _ _, rfl, fun i u h => by simp at h⟩
theorem LiS.step {w W6 W7 w8 : World} {B rb Q j g8 c8 : Nat} {v : Value} {P : Nat → Bs} {k : Int} {N : Nat → Int} {la da u nv : Value} {us : List Value} (hrb : rb < B) (ho : w.ownsRow B 23 1 v j us) (hl : us.length = j) (he : ∀ i u, us[i]? = some u → EnS w B u (P i))
    (h6 : w.grownBy W6 (some rb)) (hu : EnS W6 B u (P j)) (h67 : Below W6.heap.size W6 W7) (ho7 : W7.ownsRow B 23 1 v j us) (ho8 : w8.ownsRow B 23 1 (.slice (some ⟨g8, 0, none⟩) (j + 1) c8) (j + 1) (us ++ [u])) (hg8 : W7.grownBy w8 v.ownBlock)
    (hm : MsC w8 Q k N la da) : LiS (w8.setCell ⟨Q, 10, none⟩ nv) B (.slice (some ⟨g8, 0, none⟩) (j + 1) c8) (j + 1) P := by
  refine ⟨us ++ [u], ?_, by rw [List.length_append, hl]; rfl, fun i u' hi => ?_⟩
  · refine own_keep ho8 fun q e => Below.heap_setCell w8 ⟨Q, 10, none⟩ nv q (fun e' => ?_)
    dsimp only at e'
    obtain ⟨cur, e3⟩ := own_cells ho8 e
    subst e'
    unfold MsC at hm
    rw [hm] at e3
    injection e3 with e3
    injection e3 with _ e3
    cases e3
  · by_cases hij : i < j
    · rw [List.getElem?_append_left (by omega)] at hi
      exact ((((he i u' hi).grown h6 hrb).below h67).grownO ho7 (by decide) hg8).set hm
    · have hij' : i = j := by
        rcases Nat.lt_or_ge i (j + 1) with h | h
        · omega
        · rw [List.getElem?_eq_none (by rw [List.length_append, hl]; exact h)] at hi; cases hi
      subst hij'
      rw [List.getElem?_append_right (by omega), hl, Nat.sub_self] at hi
      have hi' : u = u' := by simpa using hi
      subst hi'
      exact ((hu.below h67).grownO ho7 (by decide) hg8).set hm
end Go.Proofs.Ytccpfoimedjdgaa

namespace Go.Proofs.Ytccpfoimedjdgaa
open Go.ChangeShapes Go.WideShapes Go.ChangeAt Go.RowKit

/-- what lies from B on has stayed -/
def Abv (B : Nat) (w W : World) : Prop := w.heap.size ≤ W.heap.size ∧ ∀ k, B ≤ k → k < w.heap.size → W.heap[k]? = w.heap[k]?
theorem LiS.abv {w W : World} {B j : Nat} {v : Value} {P : Nat → Bs} (h : LiS w B v j P) (hA : Abv B w W) : LiS W B v j P := by
  obtain ⟨us, ho, hl, he⟩ := h
  refine ⟨us, own_keep ho fun q e => hA.2 q (ho.lt q e).1 (ho.lt q e).2, hl, fun i u hi => ?_⟩
  obtain ⟨q, e1, h1, h2⟩ := he i u hi
  exact ⟨q, e1, (hA.2 q h2 (EnS.lt h1)).trans h1, h2⟩
def TkP (w : World) (g rb n : Nat) (f : Nat → Nat) (s : PS) (e : Ending) (w' : World) : Prop :=
  ∃ sp cap dsp dcap, e = .returned (.agg (msL 0 (tN f n s) (.slice sp (tM f n s) cap) (.slice dsp (tD f n s).n dcap)).toArray) ∧ (∀ W, Abv w.heap.size w' W → LsS W sp (tM f n s) (tP f n s) ∧ BsS W (.slice dsp (tD f n s).n dcap) (tD f n s)) ∧ (sp = none → tM f n s = 0 ∧ cap = 0) ∧ tM f n s ≤ cap ∧ RSt w' g rb n f (tF f n s) ∧ w.grownBy w' (some rb)

def mixN (N' N : Nat → Int) (t j : Nat) : Int := if j < t then N' j else N j
theorem MsC.mix {w : World} {b : Nat} {k : Int} {N' N : Nat → Int} {la da : Value} {t : Nat} (h : MsC w b k (mixN N' N t) la da) (ht : t < 9) : MsC (w.setCell ⟨b, t + 1, none⟩ (.int .i64 (N' t))) b k (mixN N' N (t + 1)) la da := by
  unfold MsC at *
  rw [heap_setCell_same _ b (t + 1) _ 25 _ h]
  have : t = 0 ∨ t = 1 ∨ t = 2 ∨ t = 3 ∨ t = 4 ∨ t = 5 ∨ t = 6 ∨ t = 7 ∨ t = 8 := by omega
  rcases this with rfl | rfl | rfl | rfl | rfl | rfl | rfl | rfl | rfl <;> rfl
set_option maxHeartbeats 1000000 in
theorem MsC.set12 {w : World} {b : Nat} {k : Int} {N : Nat → Int} {la da : Value} (h : MsC w b k N la da) (k' : Int) (N' : Nat → Int) (la' da' : Value) {W : World}
    (eW : W = (((((((((((w.setCell ⟨b, 0, none⟩ (.int .i64 k')).setCell ⟨b, 1, none⟩ (.int .i64 (N' 0))).setCell ⟨b, 2, none⟩ (.int .i64 (N' 1))).setCell ⟨b, 3, none⟩ (.int .i64 (N' 2))).setCell ⟨b, 4, none⟩ (.int .i64 (N' 3))).setCell ⟨b, 5, none⟩ (.int .i64 (N' 4))).setCell ⟨b, 6, none⟩ (.int .i64 (N' 5))).setCell ⟨b, 7, none⟩ (.int .i64 (N' 6))).setCell ⟨b, 8, none⟩ (.int .i64 (N' 7))).setCell ⟨b, 9, none⟩ (.int .i64 (N' 8))).setCell ⟨b, 10, none⟩ la').setCell ⟨b, 11, none⟩ da') : MsC W b k' N' la' da' ∧ w.grownBy W (some b) := by
  subst eW
  have g0 := grown_setCell (grown_refl w (some b)) 0 (.int .i64 k')
  have g1 := grown_setCell g0 1 (.int .i64 (N' 0))
  have g2 := grown_setCell g1 2 (.int .i64 (N' 1))
  have g3 := grown_setCell g2 3 (.int .i64 (N' 2))
  have g4 := grown_setCell g3 4 (.int .i64 (N' 3))
  have g5 := grown_setCell g4 5 (.int .i64 (N' 4))
  have g6 := grown_setCell g5 6 (.int .i64 (N' 5))
  have g7 := grown_setCell g6 7 (.int .i64 (N' 6))
  have g8 := grown_setCell g7 8 (.int .i64 (N' 7))
  have g9 := grown_setCell g8 9 (.int .i64 (N' 8))
  have g10 := grown_setCell g9 10 la'
  have g11 := grown_setCell g10 11 da'
  refine ⟨?_, g11⟩
  have h0 : MsC (w.setCell ⟨b, 0, none⟩ (.int .i64 k')) b k' (mixN N' N 0) la da := by
    unfold MsC at *
    rw [heap_setCell_same _ b 0 _ 25 _ h]
    rfl
  have h1 := (((((((((h0.mix (by decide)).mix (by decide)).mix (by decide)).mix (by decide)).mix (by decide)).mix (by decide)).mix (by decide)).mix (by decide)).mix (by decide))
  have h2 := (h1.list la').data da'
  exact h2
theorem own_nil' {w : World} {base e size n cp : Nat} {sp : Option Addr} {xs : List Value} (h : w.ownsRow base e size (.slice sp n cp) n xs) : sp = none → n = 0 ∧ cp = 0 := by
  rintro rfl
  rcases h.2 with ⟨e, h0⟩ | ⟨g, c, cur, e, _⟩
  · injection e with e1 e2 e3; exact ⟨e2, e3⟩
  · injection e with e1 e2 e3; cases e1
theorem own_cap' {w : World} {base e size n cp : Nat} {sp : Option Addr} {xs : List Value} (h : w.ownsRow base e size (.slice sp n cp) n xs) : n ≤ cp := by
  rcases h.2 with ⟨e, h0⟩ | ⟨g, c, cur, e, _, _, hle, _⟩
  · injection e with e1 e2 e3; omega
  · injection e with e1 e2 e3; omega
theorem LiS.grownM {w w' : World} {B R j : Nat} {v : Value} {P : Nat → Bs} {k : Int} {N : Nat → Int} {la da : Value} (h : LiS w B v j P) (hm : MsC w R k N la da) (hg : w.grownBy w' (some R)) : LiS w' B v j P := by
  obtain ⟨us, ho, hl, he⟩ := h
  unfold MsC at hm
  refine ⟨us, own_keep ho fun q e => hg.block q (ho.lt q e).2 (fun e' => ?_), hl, fun i u hi => ?_⟩
  · injection e' with e'
    subst e'
    obtain ⟨cur, e3⟩ := own_cells ho e
    rw [hm] at e3
    injection e3 with e3
    injection e3 with _ e3
    cases e3
  · obtain ⟨q, e1, h1, h2⟩ := he i u hi
    refine ⟨q, e1, (hg.block q (EnS.lt h1) (fun e' => ?_)).trans h1, h2⟩
    injection e' with e'
    subst e'
    rw [h1] at hm
    injection hm with hm
    injection hm with _ hm
    cases hm
abbrev nilV : Value := .slice none 0 0
abbrev zN : Nat → Int := fun _ => 0

set_option maxRecDepth 100000 in
set_option maxHeartbeats 4000000 in
theorem take_any (w : World) (g rb n : Nat) (f : Nat → Nat) (s : PS) (h : RSt w g rb n f s) (hgw : g < w.heap.size) :
    Calls Try.prog 28 #[.pointer (some ⟨rb, 0, none⟩)] w (TkP w g rb n f s) := by
  obtain ⟨i0, hi, hz0, hz1, hz2⟩ := info_parts info23
  have hrw := h.lt
  have HR := Lib.hid h
  have HN : Hid (∀ t, tN f n s t = ((uV f n 1099511627776 (nmS f n s t) : Nat) : Int)) := Lib.hid fun _ => rfl
  have HX : Hid (∀ t, nmS f n s (t + 1) = uS f n 1099511627776 1 (nmS f n s t)) := Lib.hid fun _ => rfl
  have HX0 : Hid (nmS f n s 0 = s) := Lib.hid rfl
  have HM : Hid (tM f n s = uV f n 2000 (nmS f n s 9)) := Lib.hid rfl
  have HI0 : Hid (itS f n (tI f n s) 0 = uS f n 2000 4 (nmS f n s 9)) := Lib.hid rfl
  have HI : Hid (∀ j, itS f n (tI f n s) (j + 1) = tS f n (itS f n (tI f n s) j)) := Lib.hid fun _ => rfl
  have HP : Hid (∀ j, tP f n s j = tB f n (itS f n (tI f n s) j)) := Lib.hid fun _ => rfl
  have HDD : Hid (tD f n s = tB f n (itS f n (tI f n s) (tM f n s))) := Lib.hid rfl
  have HF : Hid (tF f n s = tS f n (itS f n (tI f n s) (tM f n s))) := Lib.hid rfl
  have hm2 : tM f n s ≤ 2000 := uV_le f n 2000 _
  unfold TkP
  generalize tN f n s = N at *
  generalize tP f n s = P at *
  generalize tD f n s = D at *
  generalize tF f n s = sF at *
  generalize tM f n s = m at *
  generalize itS f n (tI f n s) = ι at *
  generalize nmS f n s = σ at *
  clear h
  obtain ⟨w1, ew1⟩ : ∃ w1, w1 = (w.alloc (.cells (msL 0 zN nilV nilV).toArray 25)).alloc (.cells (msL 0 zN nilV nilV).toArray 25) := ⟨_, rfl⟩
  have hR1 : MsC w1 w.heap.size 0 zN nilV nilV := by rw [ew1]; exact (Below.heap_alloc _ _ _ (by simp)).trans (heap_alloc_new w _)
  have hQ1 : MsC w1 (w.heap.size + 1) 0 (preN N 0) nilV nilV := by
    rw [ew1]
    have := heap_alloc_new (w.alloc (.cells (msL 0 zN nilV nilV).toArray 25)) (.cells (msL 0 zN nilV nilV).toArray 25)
    rw [show (w.alloc (.cells (msL 0 zN nilV nilV).toArray 25)).heap.size = w.heap.size + 1 by simp] at this
    exact this
  have hl1 : w1.heap.size = w.heap.size + 2 := by rw [ew1]; simp
  have hb1 : Below w.heap.size w w1 := by rw [ew1]; exact ((Below.refl _ _).alloc (Nat.le_refl _) _).alloc (by simp) _
  have hg1 : w.grownBy w1 (some rb) := by rw [ew1]; exact grown_trans (World.grownBy_alloc w _ _) (World.grownBy_alloc _ _ _)
  have HR1 := Lib.hid hR1
  have HQ1 := Lib.hid hQ1
  have HS1 := Lib.hid (HR.out.below hb1)
  have HG1 := Lib.hid hg1
  clear hR1 hQ1 hb1 hg1 HR
  obtain ⟨R, eR⟩ : ∃ R, R = w.heap.size := ⟨_, rfl⟩
  obtain ⟨Q, eQ⟩ : ∃ Q, Q = w.heap.size + 1 := ⟨_, rfl⟩
  rw [← eR] at HR1
  rw [← eQ] at HQ1
  go_enter Try.func28, Try.ntmps28
  go_wp2_with fail
  rw [← ew1, ← eQ, ← eR]
  have HER : Hid (R = w.heap.size ∧ Q = w.heap.size + 1) := Lib.hid ⟨eR, eQ⟩
  clear ew1 eR eQ
  refine (numbers_any Q w1).mono ?_
  rintro e w2 ⟨rfl, hp2, hb2⟩
  have hRQ : R ≠ Q ∧ R ≠ rb ∧ Q ≠ rb ∧ g ≠ Q ∧ R < w1.heap.size ∧ Q < w1.heap.size ∧ w.heap.size ≤ Q ∧ w.heap.size ≤ R := by have := HER.out; omega
  obtain ⟨hRQ, hRr, hQr, hgQ, hR1, hQ1, hwQ, hwR⟩ := hRQ
  have HP2 := Lib.hid hp2
  have HR2 := Lib.hid (HR1.out.below hb2 hR1)
  have HQ2 := Lib.hid (HQ1.out.below hb2 hQ1)
  have HS2 := Lib.hid (HS1.out.below hb2)
  have HG2 : Hid (w.grownBy w2 (some rb)) := Lib.hid (grown_trans HG1.out ⟨hb2.os, hb2.tape, hb2.output, hb2.size, fun k hk _ => hb2.block k hk⟩)
  have hl2 : w1.heap.size < w2.heap.size := hp2.lt
  clear hp2 hb2 HR1 HQ1 HS1 HG1
  obtain ⟨q, eq⟩ : ∃ q, q = w1.heap.size := ⟨_, rfl⟩
  rw [← eq] at HP2 ⊢
  have hqq : q ≠ Q ∧ q ≠ rb := by have := HER.out; omega
  obtain ⟨hqQ, hqr⟩ := hqq
  clear eq
  go_wp2
  go_loopw [5, 9] (fun _ x wr => ∃ t : Nat, t ≤ 9 ∧ x = .int .i64 (t : Int) ∧ Hid (MsC wr Q 0 (preN N t) nilV nilV ∧ MsC wr R 0 zN nilV nilV ∧ PtS wr q Q ∧ RSt wr g rb n f (σ t) ∧ w.grownBy wr (some rb))) (fun _ x _ => 9 - (intOf x).toNat)
  case atStart => exact ⟨0, Nat.zero_le _, rfl, Lib.hid ⟨HQ2.out, HR2.out, HP2.out, by rw [HX0.out]; exact HS2.out, HG2.out⟩⟩
  case round =>
    obtain ⟨t, ht, rfl, HT⟩ := hrel
    by_cases hlt : t < 9
    · have hlt' : (t : Int) < 9 := by omega
      have c0 := HT.out.2.2.1.at t hlt
      go_wp2_with fail
      refine (upto_any wr g rb n f (σ t) 1099511627776 1099511627776 rfl 1 (by decide) (by omega) HT.out.2.2.2.1).mono ?_
      rintro e w3 ⟨rfl, hr3, hg3⟩
      rw [← HN.out t]
      rw [← HX.out t] at hr3
      have hQ3 := HT.out.1.grown hg3 hQr
      have hR3 := HT.out.2.1.grown hg3 hRr
      have hP3 : PtS w3 q Q := (hg3.block q HT.out.2.2.1.lt (fun e => by injection e with e; exact hqr e)).trans HT.out.2.2.1
      have c1 := hQ3.num t hlt
      have f1 := hQ3.fz (t + 1)
      have hgs : w3.grownBy (w3.setCell ⟨Q, t + 1, none⟩ (.int .i64 (N t))) (some Q) := grown_setCell (grown_refl _ _) _ _
      have HQ4 := Lib.hid (hQ3.store hlt)
      have HR4 := Lib.hid (hR3.grown hgs hRQ)
      have HP4 : Hid (PtS (w3.setCell ⟨Q, t + 1, none⟩ (.int .i64 (N t))) q Q) := Lib.hid ((hgs.block q hP3.lt (fun e => by injection e with e; exact hqQ e)).trans hP3)
      have HS4 := Lib.hid (hr3.kept hgs (fun e => hQr e.symm) hgQ)
      have HG4 := Lib.hid (grown_new (grown_trans HT.out.2.2.2.2 hg3) hgs hwQ)
      clear hr3 hg3 hQ3 hR3 hP3 hgs HT
      generalize N t = z at *
      go_wp2
      go_roundw
      case rel => exact ⟨t + 1, by omega, by go_num, Lib.hid ⟨HQ4.out, HR4.out, HP4.out, HS4.out, HG4.out⟩⟩
      case measure => simp [intOf]; omega
    · obtain rfl : t = 9 := by omega
      have HQ2 := Lib.hid HT.out.1
      have HR2 := Lib.hid HT.out.2.1
      have HS2 := Lib.hid HT.out.2.2.2.1
      have HG2 := Lib.hid HT.out.2.2.2.2
      clear HT HP2
      go_wp2_with fail
      refine (upto_any wr g rb n f (σ 9) 2000 2000 rfl 4 (by decide) (by omega) HS2.out).mono ?_
      rintro e w3 ⟨rfl, hr3, hg3⟩
      rw [← HM.out]
      rw [← HI0.out] at hr3
      have HQ3 : Hid (MsC w3 Q 0 N nilV nilV) := Lib.hid (HQ2.out.grown hg3 hQr)
      have HR3 := Lib.hid (HR2.out.grown hg3 hRr)
      have HS3 := Lib.hid hr3
      have HG3 := Lib.hid (grown_trans HG2.out hg3)
      clear hr3 hg3 HQ2 HR2 HS2 HG2
      obtain ⟨B, eB⟩ : ∃ B, B = w.heap.size := ⟨_, rfl⟩
      have hrB : rb < B := by omega
      have hBw : B ≤ w3.heap.size := by have := HG3.out.size; omega
      have HEB := Lib.hid eB
      clear eB
      go_wp2
      go_loopw [20] (fun x wr => ∃ (j : Nat) (lv : Value), j ≤ m ∧ x = .int .i64 (j : Int) ∧ Hid (MsC wr Q 0 N lv nilV ∧ MsC wr R 0 zN nilV nilV ∧ LiS wr B lv j P ∧ RSt wr g rb n f (ι j) ∧ w.grownBy wr (some rb))) (fun x _ => m - (intOf x).toNat)
      case atStart => exact ⟨0, nilV, Nat.zero_le _, rfl, Lib.hid ⟨HQ3.out, HR3.out, LiS.nil _ _ _, HS3.out, HG3.out⟩⟩
      case round =>
        obtain ⟨j, lv, hj, rfl, HT⟩ := hrel
        obtain ⟨hQ, hR, ⟨us, ho, hul, hen⟩, hS, hG⟩ := HT.out
        obtain ⟨lsp, lcap, elv⟩ := own_form' ho
        subst elv
        have HQ := Lib.hid hQ
        have HRR := Lib.hid hR
        have HO := Lib.hid ho
        have HUL := Lib.hid hul
        have HEN := Lib.hid hen
        have HS := Lib.hid hS
        have HG := Lib.hid hG
        clear hQ hR ho hul hen hS hG HT
        by_cases hjm : j < m
        · have hjm' : (j : Int) < (m : Int) := by omega
          have q10 := HQ.out.cell 10 rfl
          have hB0 : Below wr.heap.size wr wr.drew := (Below.refl _ _).drew
          have hg0 : wr.grownBy wr.drew (some rb) := ⟨rfl, rfl, rfl, Nat.le_refl _, fun _ _ _ => rfl⟩
          have HCL : Hid (Calls Try.prog 45 #[.pointer (some ⟨rb, 0, none⟩)] wr.drew (fun e w' => ∃ q, e = .returned (.slice (some ⟨q, 0, none⟩) (P j).n (P j).n) ∧ w'.heap[q]? = some (.cells (rowB (P j).f (P j).n).toArray 5 (0, 0)) ∧ wr.heap.size ≤ q ∧ RSt w' g rb n f (ι (j + 1)) ∧ wr.drew.grownBy w' (some rb))) := Lib.hid (by
            rw [HP.out j, HI.out j]
            exact takeb_any wr.drew g rb n f (ι j) (HS.out.below hB0) (Nat.lt_of_lt_of_le hgw HG.out.size))
          have HKQ : Hid (∀ W, wr.drew.grownBy W (some rb) → MsC W Q 0 N (.slice lsp j lcap) nilV) := Lib.hid fun W hW => (HQ.out.below hB0 HQ.out.lt).grown hW hQr
          have HKO : Hid (∀ W ob, wr.drew.grownBy W (some rb) → (W.alloc ob).ownsRow B 23 1 (.slice lsp j lcap) j us) := Lib.hid fun W ob hW => (own_keep HO.out fun q e => hW.block q (HO.out.lt q e).2 (fun e' => by injection e' with e'; have := (HO.out.lt q e).1; omega)).alloc _
          have HNW : Hid (∀ (W : World) (ev : Value) (i : Nat) (u : Value), [ev][i]? = some u → (W.alloc (.cells #[ev] 23)).cell? ((⟨W.heap.size, 0, none⟩ : Addr).add i) = some u) := Lib.hid fun W ev i u hu => by
            rw [Go.WideShapes.add_plain, cell_of_row _ _ _ _ 23 (0, 0) (heap_alloc_new W _), Nat.zero_add]
            simpa using hu
          have hBW : B ≤ wr.heap.size := by have := HG.out.size; have := HEB.out; omega
          have hPn : (P j).n ≤ 4000 := by rw [HP.out j]; exact tB_le f n _
          have HFN : Hid (∀ (w6 w7 : World) (q6 g7 c7 : Nat), wr.drew.grownBy w6 (some rb) → w6.heap[q6]? = some (.cells (rowB (P j).f (P j).n).toArray 5 (0, 0)) → wr.heap.size ≤ q6 → RSt w6 g rb n f (ι (j + 1)) → w7.ownsRow B 23 1 (.slice (some ⟨g7, 0, none⟩) (j + 1) c7) (j + 1) (us ++ [.slice (some ⟨q6, 0, none⟩) (P j).n (P j).n]) → (w6.alloc (.cells #[.slice (some ⟨q6, 0, none⟩) (P j).n (P j).n] 23)).grownBy w7 (Value.ownBlock (.slice lsp j lcap)) →
              MsC w7 Q 0 N (.slice lsp j lcap) nilV ∧ MsC (w7.setCell ⟨Q, 10, none⟩ (.slice (some ⟨g7, 0, none⟩) (j + 1) c7)) Q 0 N (.slice (some ⟨g7, 0, none⟩) (j + 1) c7) nilV ∧ MsC (w7.setCell ⟨Q, 10, none⟩ (.slice (some ⟨g7, 0, none⟩) (j + 1) c7)) R 0 zN nilV nilV ∧ LiS (w7.setCell ⟨Q, 10, none⟩ (.slice (some ⟨g7, 0, none⟩) (j + 1) c7)) B (.slice (some ⟨g7, 0, none⟩) (j + 1) c7) (j + 1) P ∧ RSt (w7.setCell ⟨Q, 10, none⟩ (.slice (some ⟨g7, 0, none⟩) (j + 1) c7)) g rb n f (ι (j + 1)) ∧ w.grownBy (w7.setCell ⟨Q, 10, none⟩ (.slice (some ⟨g7, 0, none⟩) (j + 1) c7)) (some rb)) := Lib.hid (by
            intro w6 w7 q6 g7 c7 h6 hq6 hql6 hs6 ho7 hg7
            have hA : Below w6.heap.size w6 (w6.alloc (.cells #[.slice (some ⟨q6, 0, none⟩) (P j).n (P j).n] 23)) := (Below.refl _ _).alloc (Nat.le_refl _) _
            have hoA := HKO.out w6 (.cells #[.slice (some ⟨q6, 0, none⟩) (P j).n (P j).n] 23) h6
            have hm7 : MsC w7 Q 0 N (.slice lsp j lcap) nilV := ((HKQ.out w6 h6).below hA (HKQ.out w6 h6).lt).grownO hoA (by decide) hg7
            have hr6 : MsC w6 R 0 zN nilV nilV := (HRR.out.below hB0 HRR.out.lt).grown h6 hRr
            have hr7 : MsC w7 R 0 zN nilV nilV := (hr6.below hA hr6.lt).grownO hoA (by decide) hg7
            have hgs : w7.grownBy (w7.setCell ⟨Q, 10, none⟩ (.slice (some ⟨g7, 0, none⟩) (j + 1) c7)) (some Q) := grown_setCell (grown_refl _ _) _ _
            have hgA : w.grownBy (w6.alloc (.cells #[.slice (some ⟨q6, 0, none⟩) (P j).n (P j).n] 23)) (some rb) := grown_trans (grown_trans (grown_trans HG.out hg0) h6) (World.grownBy_alloc _ _ _)
            have hg7w : w.grownBy w7 (some rb) := grown_news hgA hg7 (fun q e => by have := (hoA.lt q e).1; have := HEB.out; omega)
            have hs7 : RSt w7 g rb n f (ι (j + 1)) := by
              have h := hs6.below hA
              cases hob : Value.ownBlock (.slice lsp j lcap) with
              | none => rw [hob] at hg7; exact h.kept (q := rb + g + 1) ⟨hg7.os, hg7.tape, hg7.output, hg7.size, fun q hq _ => hg7.block q hq (fun e => by cases e)⟩ (by omega) (by omega)
              | some q => rw [hob] at hg7; have := (hoA.lt q hob).1; have := HEB.out; exact h.kept hg7 (by omega) (by omega)
            exact ⟨hm7, hm7.list _, hr7.grown hgs hRQ, LiS.step hrB HO.out HUL.out HEN.out (grown_trans hg0 h6) ⟨q6, rfl, hq6, by omega⟩ hA hoA ho7 hg7 hm7, hs7.kept hgs (fun e => hQr e.symm) hgQ, grown_new hg7w hgs hwQ⟩)
          have HUO : Hid (∀ (q6 : Nat) (u : Value), u ∈ [Value.slice (some ⟨q6, 0, none⟩) (P j).n (P j).n] → u.oneCell' = true) := Lib.hid fun q6 u hu => by
            simp at hu; subst hu; rfl
          have HZ : Hid (B ≤ wr.drew.heap.size) := Lib.hid hBW
          have HQF : Hid (∀ W, MsC W Q 0 N (.slice lsp j lcap) nilV → W.cell? ⟨Q, 10, none⟩ = some (.slice lsp j lcap) ∧ W.frozen? ⟨Q, 10, none⟩ = false) := Lib.hid fun W h => ⟨h.cell 10 rfl, h.fz 10⟩
          generalize (P j).n = pn at *
          generalize (P j).f = pf at *
          clear hB0 hg0
          go_wp2
          go_region_law (first
            | (refine step_append_lies _ (by rfl) _ _ 22 (by rfl) B 23 i0 (.slice none 0 0) 1 24 Try.underlying22 hi hz0 hz1 hz2 rfl (by decide) _ j us (by rfl) (HKO.out w6 _ h6) ⟨w6.heap.size, 0, none⟩ 1 1 [.slice (some ⟨q6, 0, none⟩) pn pn] (by rfl) (by rfl) (HNW.out w6 _) (HUO.out q6) (by omega) (by unfold maxLen; omega) (by omega) (Nat.le_trans HZ.out (Nat.le_trans h6.size (by simp))) _ rfl ?_; intro g7 c7 w7 ho7 hg7 hat7 hl7; obtain ⟨z0, z1⟩ := HQF.out _ (HFN.out w6 w7 q6 g7 c7 h6 hq6 hql6 hs6 ho7 hg7).1)
            | (go_simp; refine HCL.out.mono ?_; rintro e w6 ⟨q6, rfl, hq6, hql6, hs6, h6⟩; obtain ⟨y0, y1⟩ := HQF.out _ (HKQ.out w6 h6); obtain ⟨x0, x1⟩ := HQF.out _ ((HKQ.out w6 h6).below ((Below.refl w6.heap.size w6).alloc (Nat.le_refl _) (.cells #[.slice (some ⟨q6, 0, none⟩) pn pn] 23)) (HKQ.out w6 h6).lt)))
          all_goals
            have HN7 := Lib.hid (HFN.out w6 w7 q6 g7 c7 h6 hq6 hql6 hs6 ho7 hg7).2
            clear ho7 hg7 hat7 hq6 hql6 hs6 h6 z0 z1 y0 y1 x0 x1 HFN HUO HNW HKO HKQ HCL HQF q10
            go_wp2
            go_roundw
            case rel => exact ⟨j + 1, _, by omega, by go_num, Lib.hid HN7.out⟩
            case measure => simp [intOf]; omega
        · obtain rfl : m = j := by omega
          have HDL : Hid (D.n ≤ 4000 ∧ ∀ i, D.f i < 256) := Lib.hid (by rw [HDD.out]; exact ⟨tB_le f n _, tB_lt f n _⟩)
          have HPL : Hid ((∀ i, (P i).n ≤ 4000) ∧ ∀ i j, (P i).f j < 256) := Lib.hid ⟨fun i => by rw [HP.out i]; exact tB_le f n _, fun i => by rw [HP.out i]; exact tB_lt f n _⟩
          have HNIL := Lib.hid (own_nil' HO.out)
          have HCP : Hid (m ≤ lcap) := Lib.hid (own_cap' HO.out)
          go_wp2_with fail
          refine (takeb_any wr g rb n f (ι m) HS.out (Nat.lt_of_lt_of_le hgw HG.out.size)).mono ?_
          rintro e w4 ⟨q4, rfl, hq4, hql4, hs4, hg4⟩
          rw [← HDD.out] at hq4 ⊢
          rw [← HF.out] at hs4
          have hQ4 := HQ.out.grown hg4 hQr
          have hR4 := HRR.out.grown hg4 hRr
          have hqQ4 : q4 ≠ Q ∧ q4 ≠ R := by have := HQ.out.lt; have := HRR.out.lt; omega
          have hL4 : LiS w4 B (.slice lsp m lcap) m P := ⟨us, own_keep HO.out fun q e => hg4.block q (HO.out.lt q e).2 (fun e' => by injection e' with e'; have := (HO.out.lt q e).1; omega), HUL.out, fun i u hi => (HEN.out i u hi).grown hg4 hrB⟩
          have hgs : w4.grownBy (w4.setCell ⟨Q, 11, none⟩ (.slice (some ⟨q4, 0, none⟩) D.n D.n)) (some Q) := grown_setCell (grown_refl _ _) _ _
          have hQ5 := hQ4.data (.slice (some ⟨q4, 0, none⟩) D.n D.n)
          have hR5 := hR4.grown hgs hRQ
          have hq5 : (w4.setCell ⟨Q, 11, none⟩ (.slice (some ⟨q4, 0, none⟩) D.n D.n)).heap[q4]? = some (.cells (rowB D.f D.n).toArray 5 (0, 0)) := (hgs.block q4 (EnS.lt hq4) (fun e => by injection e with e; exact hqQ4.1 e)).trans hq4
          have hS5 := hs4.kept hgs (fun e => hQr e.symm) hgQ
          have hG5 := grown_new (grown_trans HG.out hg4) hgs hwQ
          obtain ⟨us5, ho5, hul5, hen5⟩ := hL4
          have hL5 : LiS (w4.setCell ⟨Q, 11, none⟩ (.slice (some ⟨q4, 0, none⟩) D.n D.n)) B (.slice lsp m lcap) m P := ⟨us5, own_keep ho5 fun q e => Below.heap_setCell w4 ⟨Q, 11, none⟩ _ q (fun e' => by
            dsimp only at e'
            obtain ⟨cur, e3⟩ := own_cells ho5 e
            subst e'
            unfold MsC at hQ4
            rw [hQ4] at e3
            injection e3 with e3
            injection e3 with _ e3
            cases e3), hul5, fun i u hi => (hen5 i u hi).set hQ4⟩
          have c11 := hQ4.cell 11 rfl
          have f11 := hQ4.fz 11
          clear hQ4 hR4 hs4 hg4 hgs ho5 hen5 hq4
          have HQ5 := Lib.hid hQ5
          have HR5 := Lib.hid hR5
          have HQQ5 := Lib.hid hq5
          have HS5 := Lib.hid hS5
          have HG5 := Lib.hid hG5
          have HL5 := Lib.hid hL5
          clear hQ5 hR5 hq5 hS5 hG5 hL5
          obtain ⟨a0, a1, a2, a3, a4, a5, a6, a7, a8, a9, a10, a11⟩ := HQ5.out.all
          obtain ⟨r0, r1, r2, r3, r4, r5, r6, r7, r8, r9, r10, r11⟩ := HR5.out.all
          have z0 := HR5.out.fz 0
          have z1 := HR5.out.fz 1
          have z2 := HR5.out.fz 2
          have z3 := HR5.out.fz 3
          have z4 := HR5.out.fz 4
          have z5 := HR5.out.fz 5
          have z6 := HR5.out.fz 6
          have z7 := HR5.out.fz 7
          have z8 := HR5.out.fz 8
          have z9 := HR5.out.fz 9
          have z10 := HR5.out.fz 10
          have z11 := HR5.out.fz 11
          go_wp2
          obtain ⟨W5, eW5⟩ : ∃ W5, W5 = ((((((((((((w4.setCell ⟨Q, 11, none⟩ (.slice (some ⟨q4, 0, none⟩) D.n D.n)).setCell ⟨R, 0, none⟩ (.int .i64 0)).setCell ⟨R, 1, none⟩ (.int .i64 (N 0))).setCell ⟨R, 2, none⟩ (.int .i64 (N 1))).setCell ⟨R, 3, none⟩ (.int .i64 (N 2))).setCell ⟨R, 4, none⟩ (.int .i64 (N 3))).setCell ⟨R, 5, none⟩ (.int .i64 (N 4))).setCell ⟨R, 6, none⟩ (.int .i64 (N 5))).setCell ⟨R, 7, none⟩ (.int .i64 (N 6))).setCell ⟨R, 8, none⟩ (.int .i64 (N 7))).setCell ⟨R, 9, none⟩ (.int .i64 (N 8))).setCell ⟨R, 10, none⟩ (.slice lsp m lcap)).setCell ⟨R, 11, none⟩ (.slice (some ⟨q4, 0, none⟩) D.n D.n) := ⟨_, rfl⟩
          obtain ⟨h5, hg5⟩ := HR5.out.set12 0 N (.slice lsp m lcap) (.slice (some ⟨q4, 0, none⟩) D.n D.n) eW5
          rw [← eW5]
          clear eW5 a0 a1 a2 a3 a4 a5 a6 a7 a8 a9 a10 a11 r0 r1 r2 r3 r4 r5 r6 r7 r8 r9 r10 r11 z0 z1 z2 z3 z4 z5 z6 z7 z8 z9 z10 z11 c11 f11
          obtain ⟨p0, p1, p2, p3, p4, p5, p6, p7, p8, p9, p10, p11⟩ := h5.all
          have hq5 : W5.heap[q4]? = some (.cells (rowB D.f D.n).toArray 5 (0, 0)) := (hg5.block q4 (EnS.lt HQQ5.out) (fun e => by injection e with e; exact hqQ4.2 e)).trans HQQ5.out
          have hL5 := HL5.out.grownM HR5.out hg5
          have hqw : w.heap.size ≤ q4 := Nat.le_trans HG.out.size hql4
          have HW5 : Hid ((∀ W, Abv w.heap.size W5 W → LsS W lsp m P ∧ BsS W (.slice (some ⟨q4, 0, none⟩) D.n D.n) D) ∧ RSt W5 g rb n f sF ∧ w.grownBy W5 (some rb)) := Lib.hid ⟨fun W hW => ⟨LiS.ls (LiS.abv hL5 (by rw [HEB.out]; exact hW)) (fun i _ => HPL.out.1 i) HPL.out.2, ⟨some ⟨q4, 0, none⟩, D.n, rfl, row_src ((hW.2 q4 hqw (EnS.lt hq5)).trans hq5), fun h => (by cases h), by have := HDL.out.1; omega, HDL.out.2⟩⟩, HS5.out.kept hg5 (fun e => hRr e.symm) (by have := HER.out; omega), grown_new HG5.out hg5 hwR⟩
          clear h5 hg5
          exact bodyPost_ret (v := .agg (msL 0 N (.slice lsp m lcap) (.slice (some ⟨q4, 0, none⟩) D.n D.n)).toArray) (by simp [results, Try.results28, go_sem, p0, p1, p2, p3, p4, p5, p6, p7, p8, p9, p10, p11]) rfl ⟨lsp, lcap, some ⟨q4, 0, none⟩, D.n, rfl, HW5.out.1, HNIL.out, HCP.out, HW5.out.2.1, HW5.out.2.2⟩
end Go.Proofs.Ytccpfoimedjdgaa

