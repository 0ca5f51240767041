/-
  WireWrites' walk.
-/
import Derived.Test.YtccpfoimedjdgaaJ14
import Derived.Test.YtccpfoimedjdgaaJ10
import Derived.Test.YtccpfoimedjdgaaJ11
import Derived.Deep.RegionHeld3

namespace Go.Proofs.Ytccpfoimedjdgaa
open Go.ChangeShapes Go.WideShapes Go.ChangeAt Go.RowKit

theorem mErr_one {k : Int} {N : Nat → Int} {n : Nat} {P : Nat → Bs} {D : Bs} (h : KOk k) : mErr k N n P D = mErr 1 N n P D := by
  unfold mErr
  rw [if_neg (show ¬ ¬ KOk k from fun h' => h' h), if_neg (show ¬ ¬ KOk 1 from fun h' => h' KOk1)]

set_option maxRecDepth 100000 in
set_option maxHeartbeats 16000000 in
theorem plain_raw (k n0 n1 n2 n3 n4 n5 n6 n7 n8 : Int) (la : Option Addr) (n lc : Nat) (da : Option Addr) (dn dc : Nat) (w : World) :
    Calls Try.prog 11 #[.agg #[.int .i64 k, .int .i64 n0, .int .i64 n1, .int .i64 n2, .int .i64 n3, .int .i64 n4, .int .i64 n5, .int .i64 n6, .int .i64 n7, .int .i64 n8, .slice la n lc, .slice da dn dc]] w (fun e w' => e = .returned (.agg #[.int .i64 n0, .int .i64 n1, .int .i64 n2, .int .i64 n3, .int .i64 n4, .int .i64 n5, .int .i64 n6, .int .i64 n7, .int .i64 n8, .slice la n lc, .slice da dn dc]) ∧ Below w.heap.size w w') :=
  plain_any k (fun j => [n0, n1, n2, n3, n4, n5, n6, n7, n8].getD j 0) la n lc da dn dc w
theorem writes_main (k : Int) (N : Nat → Int) (la : Option Addr) (n lc : Nat) (P : Nat → Bs) (da : Value) (D : Bs) (w : World) (hn : n ≤ 9223372036854775807) (hc : n ≤ lc) (hl : LsS w la n P) (hla : la = none → n = 0 ∧ lc = 0) (hd : BsS w da D) :
    Calls Try.prog 3 #[.agg (msL k N (.slice la n lc) da).toArray] w fun e w' => e = .returned (.bool true) ∧ Below w.heap.size w w' := by
  have HL := Lib.hid hl
  have HA := Lib.hid hla
  have HD := Lib.hid hd
  obtain ⟨dsp, dcap, eda, _⟩ := hd
  have hdF : Hid (∀ j, D.f j < 256) := Lib.hid (by obtain ⟨_, _, _, _, _, _, h⟩ := HD.out; exact h)
  obtain ⟨dn, edn⟩ : ∃ dn, dn = D.n := ⟨_, rfl⟩
  rw [← edn] at eda
  subst eda
  clear hl hla edn
  obtain ⟨wb, ewb⟩ : ∃ wb, wb = w.alloc (.cells (msL k N (.slice la n lc) (.slice dsp dn dcap)).toArray 25) := ⟨_, rfl⟩
  have HB0 : Hid (Below w.heap.size w wb) := Lib.hid (by rw [ewb]; exact (Below.refl _ _).alloc (Nat.le_refl _) _)
  have HM : Hid (MsC wb w.heap.size k N (.slice la n lc) (.slice dsp dn dcap)) := Lib.hid (by rw [ewb]; exact heap_alloc_new w _)
  go_enter Try.func3, Try.ntmps3
  go_wp2_with fail
  rw [← ewb]
  clear ewb
  refine (head_any wb).mono ?_
  rintro e w1 ⟨rfl, hb1⟩
  have HM1 := Lib.hid (HM.out.below hb1 HM.out.lt)
  have HB1 := Lib.hid (HB0.out.trans (hb1.mono HB0.out.size))
  clear hb1 HM HB0
  obtain ⟨m0, m1, m2, m3, m4, m5, m6, m7, m8, m9, m10, m11⟩ := HM1.out.all
  go_wp2_with fail
  refine (big_any k N la n lc P (.slice dsp dn dcap) D w1 hn (HL.out.below HB1.out) (HD.out.below HB1.out)).mono ?_
  rintro e w2 ⟨bb, rfl, hiff, hb2⟩
  have HM2 := Lib.hid (HM1.out.below hb2 HM1.out.lt)
  have HB2 := Lib.hid (HB1.out.trans (hb2.mono HB1.out.size))
  have HI := Lib.hid hiff
  clear hb2 HM1 HB1 hiff m0 m1 m2 m3 m4 m5 m6 m7 m8 m9 m10 m11
  rcases Bool.eq_false_or_eq_true bb with hbb | hbb
  · subst hbb
    go_wp2
    go_ret
    exact ⟨rfl, HB2.out⟩
  · subst hbb
    have hnb : ¬ Big n P D := fun h => by have := HI.out.2 h; cases this
    have hn30 : n ≤ 30 := by rcases Nat.lt_or_ge 30 n with h | h; exact absurd (.inl h) hnb; exact h
    have HNB := Lib.hid hnb
    clear hnb HI
    obtain ⟨m0, m1, m2, m3, m4, m5, m6, m7, m8, m9, m10, m11⟩ := HM2.out.all
    go_wp2_with fail
    refine (encode_any k N la n lc P (.slice dsp dn dcap) D w2 (by omega) hc (HL.out.below HB2.out) HA.out (HD.out.below HB2.out) (fun hN => small_len HNB.out hN)).mono ?_
    rintro e w3 ⟨hb3, hres⟩
    have HB3 := Lib.hid (HB2.out.trans (hb3.mono HB2.out.size))
    have HM3 := Lib.hid (HM2.out.below hb3 HM2.out.lt)
    clear hb3 HM2 HB2 m0 m1 m2 m3 m4 m5 m6 m7 m8 m9 m10 m11
    rcases (Classical.em (KOk k)).symm with hk | hk
    · have h14 : mErr k N n P D = 14 := mErr_kind hk
      rcases hres with ⟨hne, rfl⟩ | ⟨h0, _⟩
      · rw [h14]
        have m0 := HM3.out.cell 0 rfl
        clear hne h14
        by_cases h1 : k < 1
        · go_wp2
          go_ret
          exact ⟨rfl, HB3.out⟩
        · have h7 : 7 < k := by unfold KOk at hk; omega
          go_wp2
          go_ret
          exact ⟨rfl, HB3.out⟩
      · rw [h14] at h0; exact absurd h0 (by decide)
    · have hk1 : ¬ k < 1 := by unfold KOk at hk; omega
      have hk7 : ¬ 7 < k := by unfold KOk at hk; omega
      obtain ⟨kn, rfl⟩ : ∃ kn : Nat, k = (kn : Int) := ⟨k.toNat, by omega⟩
      have HMO : Hid (mErr (kn : Int) N n P D = mErr 1 N n P D) := Lib.hid (mErr_one hk)
      have HKK := Lib.hid hk
      obtain ⟨m0, m1, m2, m3, m4, m5, m6, m7, m8, m9, m10, m11⟩ := HM3.out.all
      rcases hres with ⟨hne, rfl⟩ | ⟨h0, g, cp, nb, F, rfl, hs, hcp, hnbb, hE, hS⟩
      · rw [HMO.out] at hne ⊢
        clear hk
        go_wp2_with fail
        refine (plain_any kn N la n lc dsp dn dcap w3).mono ?_
        rintro e w4 ⟨rfl, hb4⟩
        have HB4 := Lib.hid (HB3.out.trans (hb4.mono HB3.out.size))
        clear hb4 m0 m1 m2 m3 m4 m5 m6 m7 m8 m9 m10 m11
        go_wp2_with fail
        refine (inside_any N la n lc P (.slice dsp dn dcap) D (fun _ => 0) w4 (by omega) (HL.out.below HB4.out) HA.out (HD.out.below HB4.out) (fun hN => small_len HNB.out hN) (fun h => absurd h hne)).mono ?_
        rintro e w5 ⟨hb5, hres5⟩
        have HB5 := Lib.hid (HB4.out.trans (hb5.mono HB4.out.size))
        rcases hres5 with ⟨_, rfl⟩ | ⟨h0, _⟩
        · generalize mErr 1 N n P D = er at *
          have her1 : (er != 0) = true := by rw [bne_iff_ne]; exact hne
          have her2 : (er == er) = true := by simp
          clear hb5
          go_wp2
          go_ret
          exact ⟨rfl, HB5.out⟩
        · exact absurd h0 hne
      · obtain ⟨_, hN, hm2, hP⟩ := mErr_zero h0
        have hlen := small_len HNB.out hN
        have hkn : 1 ≤ kn ∧ kn ≤ 7 := by unfold KOk at hk; omega
        rw [show Int.toNat (kn : Int) = kn from rfl] at hs
        have h65 : nb ≤ 65536 := by omega
        have hPP : ∀ i, i < n → (P i).n ≤ 4000 ∧ ∀ j, (P i).f j < 256 := fun i hi => ⟨by have := hP i (by omega); unfold prt at this; rwa [if_pos hi] at this, HL.out.entry i hi⟩
        have hDD : D.n ≤ 4000 ∧ ∀ j, D.f j < 256 := ⟨by have := hP n (by omega); unfold prt at this; rwa [if_neg (Nat.lt_irrefl _)] at this, hdF.out⟩
        have HBK : Hid (dErr (Fr.frm kn nb F) (12 + nb) = 0 ∧ Fr.kindOf (Fr.frm kn nb F) = kn ∧ Fr.sizeOf' (Fr.frm kn nb F) = nb) := Lib.hid (frame_back hkn hN hm2 hPP hDD hnbb h65 hE hS (fun _ _ => rfl) (ctn_frm kn nb F))
        have HCT : Hid (ctn (Fr.frm kn nb F) = F) := Lib.hid (ctn_frm kn nb F)
        have HGL : Hid (∀ j, Fr.frm kn nb F j < 256) := Lib.hid (Fr.frm_lt kn nb F hE.1)
        have HTF : Hid ((∀ j, j < 9 → tN F nb s00 j = N j) ∧ tM F nb s00 = n ∧ (∀ i, i < n → SameB (tP F nb s00 i) (P i)) ∧ SameB (tD F nb s00) D) := Lib.hid (by
          obtain ⟨e1, e2, e3, e4, _⟩ := tF_at hN hm2 hPP hDD hS (n := nb) (by omega)
          exact ⟨e1, e2, e3, e4⟩)
        have HS3 := Lib.hid hs
        have HFS : Hid (mErr 1 N n P D = 0 → Sp F 0 (msgL N n P D) ∧ Ends F (msgL N n P D).length) := Lib.hid fun _ => ⟨hS, hE⟩
        have HFL : Hid (∀ j, F j < 256) := Lib.hid hE.1
        have HNBB := Lib.hid hnbb
        have HE0 : Hid (mErr 1 N n P D = 0) := Lib.hid (by rw [← HMO.out]; exact h0)
        have HCPX : Hid (12 + nb ≤ cp) := Lib.hid hcp
        clear hs hE hS hPP hDD hP hN hlen h0 hk hnbb HMO hcp
        go_wp2_with fail
        refine (plain_any kn N la n lc dsp dn dcap w3).mono ?_
        rintro e w4 ⟨rfl, hb4⟩
        have HB4 := Lib.hid (HB3.out.trans (hb4.mono HB3.out.size))
        have HS4 := Lib.hid (HS3.out.below hb4)
        have HM4 := Lib.hid (HM3.out.below hb4 HM3.out.lt)
        clear hb4 m0 m1 m2 m3 m4 m5 m6 m7 m8 m9 m10 m11 HM3 HB3 HS3
        go_wp2_with fail
        refine (inside_any N la n lc P (.slice dsp dn dcap) D F w4 (by omega) (HL.out.below HB4.out) HA.out (HD.out.below HB4.out) (fun hN => small_len HNB.out hN) HFS.out).mono ?_
        rintro e w5 ⟨hb5, hres5⟩
        have HB5 := Lib.hid (HB4.out.trans (hb5.mono HB4.out.size))
        have HS5 := Lib.hid (HS4.out.below hb5)
        have HM5 := Lib.hid (HM4.out.below hb5 HM4.out.lt)
        rcases hres5 with ⟨hne, _⟩ | ⟨_, g5, c5, nb5, rfl, hnb5, hs5⟩
        · exact absurd HE0.out hne
        · have enb : nb5 = nb := by rw [hnb5]; exact HNBB.out.symm
          subst enb
          have HI5 := Lib.hid hs5
          have m0 := HM5.out.cell 0 rfl
          clear hb5 hs5 HM4 HB4 HS4 HFS HE0 HNBB hnb5
          go_wp2_with fail
          refine (Fr.encode_ok kn (some ⟨g5, 0, none⟩) nb5 c5 F w5 (by omega) h65 HFL.out HI5.out (fun h => by cases h)).mono ?_
          rintro e w6 ⟨g6, c6, rfl, ho6, hb6⟩
          have HB6 := Lib.hid (HB5.out.trans (hb6.mono HB5.out.size))
          have HS6 := Lib.hid (HS5.out.below hb6)
          have HM6 := Lib.hid (HM5.out.below hb6 HM5.out.lt)
          have HW6 : Hid (Src w6 (some ⟨g6, 0, none⟩) (12 + nb5) (Fr.frm kn nb5 F)) := Lib.hid (Fr.own_src ho6)
          clear hb6 ho6 HI5 HM5 HB5 HS5 m0 HFL
          have hcp6 : 12 + nb5 ≤ cp := HCPX.out
          obtain ⟨G, eG⟩ : ∃ G, G = Fr.frm kn nb5 F := ⟨_, rfl⟩
          rw [← eG] at HBK HCT HGL HS6 HW6
          obtain ⟨l, el⟩ : ∃ l, l = 12 + nb5 := ⟨_, rfl⟩
          rw [← el] at HBK HS6 HW6 hcp6 ⊢
          clear eG el
          go_wp2_with fail
          refine (sameB_any w6 (some ⟨g, 0, none⟩) (some ⟨g6, 0, none⟩) l l cp c6 G G true HGL.out HGL.out HS6.out HW6.out ⟨fun _ => ⟨rfl, fun _ _ => rfl⟩, fun _ => rfl⟩).mono ?_
          rintro e w7 ⟨rfl, rfl⟩
          go_wp2_with fail
          refine (decode_any (some ⟨g, 0, none⟩) l cp G w6 HGL.out hcp6 HS6.out).mono ?_
          rintro e w8 ⟨hb8, hres8⟩
          have HB8 := Lib.hid (HB6.out.trans (hb8.mono HB6.out.size))
          have HM8 := Lib.hid (HM6.out.below hb8 HM6.out.lt)
          clear hb8 HM6 HB6 HS6 HW6
          rcases hres8 with ⟨h1, _⟩ | ⟨_, sp8, cp8, dv8, rfl, hG8⟩
          · exact absurd HBK.out.1 h1
          · unfold DecG at hG8
            rw [HBK.out.2.2, HCT.out, HTF.out.2.1] at hG8
            rw [HBK.out.2.1, HBK.out.2.2, HCT.out, HTF.out.2.1]
            obtain ⟨hls8, _, _, hbs8⟩ := hG8
            obtain ⟨N8, eN8⟩ : ∃ N8, N8 = tN F nb5 s00 := ⟨_, rfl⟩
            obtain ⟨P8, eP8⟩ : ∃ P8, P8 = tP F nb5 s00 := ⟨_, rfl⟩
            obtain ⟨D8, eD8⟩ : ∃ D8, D8 = tD F nb5 s00 := ⟨_, rfl⟩
            rw [← eP8] at hls8
            rw [← eD8] at hbs8
            rw [← eN8]
            have HSM : Hid (SameM N8 N n n P8 P D8 D) := Lib.hid (by
              obtain ⟨e1, _, e3, e4⟩ := HTF.out
              rw [← eN8] at e1
              rw [← eP8] at e3
              rw [← eD8] at e4
              exact ⟨e1, rfl, e4, e3⟩)
            have HLS8 := Lib.hid hls8
            have HBS8 := Lib.hid hbs8
            obtain ⟨dsp8, dcap8, edv8, _⟩ := hbs8
            obtain ⟨dn8, edn8⟩ : ∃ dn8, dn8 = D8.n := ⟨_, rfl⟩
            rw [← edn8] at edv8
            subst edv8
            clear hls8 eN8 eP8 eD8 edn8 HTF HBK HCT HGL
            obtain ⟨w9, ew9⟩ : ∃ w9, w9 = w8.alloc (.cells (msL (kn : Int) N8 (.slice sp8 n cp8) (.slice dsp8 dn8 dcap8)).toArray 25) := ⟨_, rfl⟩
            have hb9 : Below w8.heap.size w8 w9 := by rw [ew9]; exact (Below.refl _ _).alloc (Nat.le_refl _) _
            have hN9 : MsC w9 w8.heap.size kn N8 (.slice sp8 n cp8) (.slice dsp8 dn8 dcap8) := by rw [ew9]; exact heap_alloc_new w8 _
            have hM9 := HM8.out.below hb9 HM8.out.lt
            have HSA : Hid (∀ W, Below w9.heap.size w9 W → W.cell? ⟨w.heap.size, 0, none⟩ = some (.int .i64 (kn : Int)) ∧ W.cell? ⟨w.heap.size, 1, none⟩ = some (.int .i64 (N 0)) ∧ W.cell? ⟨w.heap.size, 2, none⟩ = some (.int .i64 (N 1)) ∧ W.cell? ⟨w.heap.size, 3, none⟩ = some (.int .i64 (N 2)) ∧ W.cell? ⟨w.heap.size, 4, none⟩ = some (.int .i64 (N 3)) ∧ W.cell? ⟨w.heap.size, 5, none⟩ = some (.int .i64 (N 4)) ∧ W.cell? ⟨w.heap.size, 6, none⟩ = some (.int .i64 (N 5)) ∧ W.cell? ⟨w.heap.size, 7, none⟩ = some (.int .i64 (N 6)) ∧ W.cell? ⟨w.heap.size, 8, none⟩ = some (.int .i64 (N 7)) ∧ W.cell? ⟨w.heap.size, 9, none⟩ = some (.int .i64 (N 8)) ∧ W.cell? ⟨w.heap.size, 10, none⟩ = some (.slice la n lc) ∧ W.cell? ⟨w.heap.size, 11, none⟩ = some (.slice dsp dn dcap) ∧ W.cell? ⟨w8.heap.size, 0, none⟩ = some (.int .i64 (kn : Int)) ∧ W.cell? ⟨w8.heap.size, 1, none⟩ = some (.int .i64 (N8 0)) ∧ W.cell? ⟨w8.heap.size, 2, none⟩ = some (.int .i64 (N8 1)) ∧ W.cell? ⟨w8.heap.size, 3, none⟩ = some (.int .i64 (N8 2)) ∧ W.cell? ⟨w8.heap.size, 4, none⟩ = some (.int .i64 (N8 3)) ∧ W.cell? ⟨w8.heap.size, 5, none⟩ = some (.int .i64 (N8 4)) ∧ W.cell? ⟨w8.heap.size, 6, none⟩ = some (.int .i64 (N8 5)) ∧ W.cell? ⟨w8.heap.size, 7, none⟩ = some (.int .i64 (N8 6)) ∧ W.cell? ⟨w8.heap.size, 8, none⟩ = some (.int .i64 (N8 7)) ∧ W.cell? ⟨w8.heap.size, 9, none⟩ = some (.int .i64 (N8 8)) ∧ W.cell? ⟨w8.heap.size, 10, none⟩ = some (.slice sp8 n cp8) ∧ W.cell? ⟨w8.heap.size, 11, none⟩ = some (.slice dsp8 dn8 dcap8)) := Lib.hid fun W hW => by
              obtain ⟨m0, m1, m2, m3, m4, m5, m6, m7, m8, m9, m10, m11⟩ := (hM9.below hW hM9.lt).all
              obtain ⟨r0, r1, r2, r3, r4, r5, r6, r7, r8, r9, r10, r11⟩ := (hN9.below hW hN9.lt).all
              exact ⟨m0, m1, m2, m3, m4, m5, m6, m7, m8, m9, m10, m11, r0, r1, r2, r3, r4, r5, r6, r7, r8, r9, r10, r11⟩
            have HSC : Hid (∀ W, Below w9.heap.size w9 W → Calls Try.prog 15 #[rmV N8 (.slice sp8 n cp8) (.slice dsp8 dn8 dcap8), rmV N (.slice la n lc) (.slice dsp dn dcap)] W fun e w' => e = .returned (.bool true) ∧ Below W.heap.size W w') := Lib.hid fun W hW => by
              have hb : Below w8.heap.size w8 W := hb9.trans (hW.mono hb9.size)
              have hb' : Below w.heap.size w W := HB8.out.trans (hb.mono HB8.out.size)
              refine (samem_any N8 N sp8 la n n cp8 lc P8 P _ _ D8 D W (by omega) (HLS8.out.below hb) (HL.out.below hb') (HBS8.out.below hb) (HD.out.below hb')).mono ?_
              rintro e w' ⟨x, rfl, hx, hb9⟩
              have hx1 : x = true := hx.2 HSM.out
              subst hx1
              exact ⟨rfl, hb9⟩
            have HBW : Hid (∀ W, Below w9.heap.size w9 W → Below w.heap.size w W) := Lib.hid fun W hW => HB8.out.trans ((hb9.trans (hW.mono hb9.size)).mono HB8.out.size)
            have hB0 : Below w9.heap.size w9 w9 := Below.refl _ _
            have hBc : Below w9.heap.size w9 w9.drew := hB0.drew
            clear hb9 hN9 hM9 HM8 HB8 HLS8 HBS8 HSM
            go_wp2_with fail
            rw [← ew9]
            clear ew9
            go_region_held3 (fun W => W.cell? ⟨w.heap.size, 0, none⟩ = some (.int .i64 (kn : Int)) ∧ W.cell? ⟨w.heap.size, 1, none⟩ = some (.int .i64 (N 0)) ∧ W.cell? ⟨w.heap.size, 2, none⟩ = some (.int .i64 (N 1)) ∧ W.cell? ⟨w.heap.size, 3, none⟩ = some (.int .i64 (N 2)) ∧ W.cell? ⟨w.heap.size, 4, none⟩ = some (.int .i64 (N 3)) ∧ W.cell? ⟨w.heap.size, 5, none⟩ = some (.int .i64 (N 4)) ∧ W.cell? ⟨w.heap.size, 6, none⟩ = some (.int .i64 (N 5)) ∧ W.cell? ⟨w.heap.size, 7, none⟩ = some (.int .i64 (N 6)) ∧ W.cell? ⟨w.heap.size, 8, none⟩ = some (.int .i64 (N 7)) ∧ W.cell? ⟨w.heap.size, 9, none⟩ = some (.int .i64 (N 8)) ∧ W.cell? ⟨w.heap.size, 10, none⟩ = some (.slice la n lc) ∧ W.cell? ⟨w.heap.size, 11, none⟩ = some (.slice dsp dn dcap) ∧ W.cell? ⟨w8.heap.size, 0, none⟩ = some (.int .i64 (kn : Int)) ∧ W.cell? ⟨w8.heap.size, 1, none⟩ = some (.int .i64 (N8 0)) ∧ W.cell? ⟨w8.heap.size, 2, none⟩ = some (.int .i64 (N8 1)) ∧ W.cell? ⟨w8.heap.size, 3, none⟩ = some (.int .i64 (N8 2)) ∧ W.cell? ⟨w8.heap.size, 4, none⟩ = some (.int .i64 (N8 3)) ∧ W.cell? ⟨w8.heap.size, 5, none⟩ = some (.int .i64 (N8 4)) ∧ W.cell? ⟨w8.heap.size, 6, none⟩ = some (.int .i64 (N8 5)) ∧ W.cell? ⟨w8.heap.size, 7, none⟩ = some (.int .i64 (N8 6)) ∧ W.cell? ⟨w8.heap.size, 8, none⟩ = some (.int .i64 (N8 7)) ∧ W.cell? ⟨w8.heap.size, 9, none⟩ = some (.int .i64 (N8 8)) ∧ W.cell? ⟨w8.heap.size, 10, none⟩ = some (.slice sp8 n cp8) ∧ W.cell? ⟨w8.heap.size, 11, none⟩ = some (.slice dsp8 dn8 dcap8))
              (first | exact HSA.out _ hBc | exact HSA.out _ hB0)
              (first
                | (go_at_call 11; refine (plain_raw _ _ _ _ _ _ _ _ _ _ _ _ _ _ _ _ _).mono ?_; rintro e wx ⟨rfl, hbx⟩; replace hBc := hBc.trans (hbx.mono hBc.size); clear hbx)
                | (go_at_call 15; refine (HSC.out _ hBc).mono ?_; rintro e wx ⟨rfl, hbx⟩; replace hBc := hBc.trans (hbx.mono hBc.size); clear hbx))
            all_goals
              have HB9 := Lib.hid (HBW.out _ hBc)
              clear HSA HSC HBW hB0 hBc
              go_wp2
              go_ret
              exact ⟨rfl, HB9.out⟩
end Go.Proofs.Ytccpfoimedjdgaa

