/-
  The law BitsReads' walk.
-/
import Derived.Test.YtmhjffneemmncaaR4
import Derived.Deep.CutRange
import Derived.Deep.CutBlock
namespace Go.Proofs.Ytmhjffneemmncaa
open Go.ChangeShapes Go.WideShapes Go.ChangeAt Go.RowKit

/-- where a slice of ints lies -/
def Nums (w : World) (sp : Option Addr) (n : Nat) (K : Nat → Int) : Prop :=
  0 < n → ∃ b off, sp = some ⟨b, off, none⟩ ∧ b < w.heap.size ∧ ∀ j, j < n → w.cell? ⟨b, off + j, none⟩ = some (.int .i64 (K j))

theorem Nums.at {w w' : World} {sp : Option Addr} {n : Nat} {K : Nat → Int} (h : Nums w sp n K) (hb : Below w.heap.size w w') (j : Nat) (hj : j < n) :
    ∃ b off, sp = some ⟨b, off, none⟩ ∧ w'.cell? ⟨b, off + j, none⟩ = some (.int .i64 (K j)) := by
  obtain ⟨b, off, e, hlt, hc⟩ := h (by omega)
  exact ⟨b, off, e, (hb.cell (p := ⟨b, off + j, none⟩) hlt).trans (hc j hj)⟩

/-- what the loop holds: the reader beside the bits that are left -/
def Going (wr : World) (g rb n q : Nat) (f : Nat → Nat) (rest bad : Value) : Prop :=
  ∃ a L o cp, bad = .int .i64 0 ∧ rest = .slice (some ⟨q, o, none⟩) L cp ∧ L ≤ cp ∧ a + L = 8 * n ∧ Hid (RD wr g rb n f a ∧ BS wr q o L a f)
def Stopped (wr : World) (rb : Nat) (rest bad : Value) : Prop :=
  ∃ er : Nat, ¬ er = 0 ∧ er ≤ 100 ∧ bad = .int .i64 (er : Int) ∧ rest = .slice none 0 0 ∧ Hid (RS wr rb (er : Int))

set_option maxRecDepth 100000 in
set_option maxHeartbeats 4000000 in
theorem reads_main (a0 : Option Addr) (n cap0 : Nat) (f : Nat → Nat) (a1 : Option Addr) (len1 cap1 : Nat) (K : Nat → Int) (a2 : Option Addr) (len2 cap2 : Nat) (Z : Nat → Int) (w : World)
    (hn : n ≤ 200) (hl : len1 ≤ 60) (_hl2 : len2 ≤ 9223372036854775807) (hf : ∀ j, f j < 256) (hs : Src w a0 n f) (hsp : a0 = none → n = 0 ∧ cap0 = 0) (h1 : Nums w a1 len1 K) (h2 : Nums w a2 len2 Z) :
    Calls Try.prog 4 #[.slice a0 n cap0, .slice a1 len1 cap1, .slice a2 len2 cap2] w fun e w' => e = .returned (.bool true) ∧ Below w.heap.size w w' := by
  have HF := Lib.hid hf
  have HS := Lib.hid hs
  have HSP := Lib.hid hsp
  have H1 := Lib.hid h1
  have H2 := Lib.hid h2
  clear hf hs hsp h1 h2
  go_enter Try.func4, Try.ntmps4
  go_wp2_with fail
  refine (took_any _).mono ?_
  rintro e w1 ⟨rfl, hb1⟩
  have HB1 := Lib.hid hb1; clear hb1
  go_wp2_with fail
  refine (rcopy_any a0 n cap0 f w1 (by omega) (HS.out.below HB1.out) HSP.out).mono ?_
  rintro e w2 ⟨spm, capm, rfl, hsm, hb2⟩
  have HM := Lib.hid hsm
  have HB2 : Hid (Below w.heap.size w w2) := Lib.hid (HB1.out.trans (hb2.mono HB1.out.size))
  clear hsm hb2
  go_wp2_with fail
  refine (read_any spm n capm f w2 (by omega) HF.out HM.out).mono ?_
  rintro e w3 ⟨g, rb, rfl, hrd, hg, hrb, hb3⟩
  have HD := Lib.hid hrd
  have HB3 : Hid (Below w2.heap.size w2 w3) := Lib.hid hb3
  clear hrd hb3
  have HS3 : Hid (Src w3 a0 n f) := Lib.hid (HS.out.below (HB2.out.trans (HB3.out.mono HB2.out.size)))
  go_wp2_with fail
  refine (rbits_any a0 n cap0 f w3 (by omega) HF.out HS3.out).mono ?_
  rintro e w4 ⟨q, cpq, rfl, hq, hown, hb4⟩
  have HB4 : Hid (Below w2.heap.size w2 w4) := Lib.hid (HB3.out.trans (hb4.mono HB3.out.size))
  have HD4 : Hid (RD w4 g rb n f 0) := Lib.hid (HD.out.below hb4)
  have hrb2 : w2.heap.size ≤ rb := hrb
  have hne : q ≠ rb := by have := HD.out.lt; omega
  have HBS : Hid (BS w4 q 0 (8 * n) 0 f ∧ 8 * n ≤ cpq) := Lib.hid (by
    refine ⟨⟨(hown.lt q rfl).2, fun j hj => ?_⟩, ?_⟩
    · simp only [Nat.zero_add]; rw [hown.cellAt j (by omega)]; exact rowB_get _ _ j hj
    · rcases hown.2 with ⟨e, _⟩ | ⟨g', cp', cur, e, _, _, hle, _⟩
      · cases e
      · injection e with e1 e2 e3; omega)
  clear hown hb4 HD HS3 HB3 hq hg hrb
  have hcpq : 8 * n ≤ cpq := HBS.out.2
  go_wp2
  go_loopw [9, 10, 41] (fun rest bad i wr => ∃ k : Nat, k ≤ len1 ∧ i = .int .i64 (k : Int) ∧ (Going wr g rb n q f rest bad ∨ Stopped wr rb rest bad) ∧ Hid (Below w2.heap.size w2 wr)) (fun _ _ i _ => len1 - (intOf i).toNat)
  case atStart => exact ⟨0, by omega, rfl, .inl ⟨0, 8 * n, 0, cpq, rfl, rfl, hcpq, by omega, Lib.hid ⟨HD4.out, HBS.out.1⟩⟩, HB4⟩
  case round =>
    obtain ⟨k, hk, rfl, hst, HBr⟩ := hrel
    clear HBS HD4 HB4 hcpq
    have HBw : Hid (Below w.heap.size w wr) := Lib.hid (HB2.out.trans (HBr.out.mono HB2.out.size))
    by_cases hlt : k < len1
    · obtain ⟨b1, off1, rfl, ck⟩ := H1.out.at HBw.out k hlt
      generalize K k = kk at ck
      rcases hst with ⟨a, L, o, cp, rfl, rfl, hcp, hL, HG⟩ | ⟨er, hz, her, rfl, rfl, HG⟩
      · go_upto_if 49 with (fail)
        go_cut [13, 41] from 41 to 115 (fun z i wc => (∃ zz, z = .int .i64 zz) ∧ i = .int .i64 (k : Int) ∧ wr = wc)
        case first =>
          by_cases hs2 : k < len2
          · obtain ⟨b2, off2, rfl, cz⟩ := H2.out.at HBw.out k hs2
            generalize Z k = zz at cz
            go_wp2
            go_meet
            exact ⟨⟨_, rfl⟩, rfl, rfl⟩
          · have hs3 : ¬ (k : Int) < (len2 : Int) := by omega
            go_wp2
            go_meet
            exact ⟨⟨_, rfl⟩, rfl, rfl⟩
        case rest =>
          obtain ⟨⟨zz, rfl⟩, rfl, rfl⟩ := hcut
          go_upto_block 2 with (fail)
          go_cut [14, 15, 16, 17, 41] from 41 to 115 (fun _ _ vm ve i wc => ∃ m er : Nat, vm = .int .i64 (m : Int) ∧ ve = .int .i64 (er : Int) ∧ i = .int .i64 (k : Int) ∧ m ≤ L ∧ er ≤ 100 ∧ (er = 0 ∨ m = 0) ∧ Hid (Nxt g rb n f a m er wr wc))
          case first =>
            by_cases k0 : kk = 0
            · have q0 : (kk == 0) = true := by rw [k0]; rfl
              clear k0
              obtain ⟨x, m, er, hx, hm, her, hz, hC, hR⟩ := get_pair f n a L zz hL (by omega)
              have bx : ((x : Int) != (x : Int)) = false := by simp
              have HC := Lib.hid (hC wr q o cp hcp HG.out.2)
              have HR := Lib.hid (hR wr g rb HG.out.1)
              have HZ : Hid (er = 0 ∨ m = 0) := Lib.hid ((Decidable.em (er = 0)).imp_right hz)
              clear hC hR hz
              go_wp2_with fail
              refine HC.out.mono ?_
              rintro e w' ⟨rfl, rfl⟩
              go_wp2_with fail
              refine HR.out.mono ?_
              rintro e w5 ⟨rfl, hnx⟩
              have HN := Lib.hid hnx
              clear hnx HC HR
              go_wp2
              go_meet
              exact ⟨m, er, rfl, rfl, rfl, hm, her, HZ.out, HN⟩
            · have q0 : (kk == 0) = false := by rw [beq_eq_false_iff_ne]; exact k0
              by_cases k1 : kk = 1
              · have q1 : (kk == 1) = true := by rw [k1]; rfl
                clear k0 k1
                obtain ⟨x, m, er, hx, hm, her, hz, hC, hR⟩ := num_pair f n a L hL
                have bx : ((x : Int) != (x : Int)) = false := by simp
                have HC := Lib.hid (hC wr q o cp hcp HG.out.2)
                have HR := Lib.hid (hR wr g rb HG.out.1)
                have HZ : Hid (er = 0 ∨ m = 0) := Lib.hid ((Decidable.em (er = 0)).imp_right hz)
                clear hC hR hz
                go_wp2_with fail
                refine HC.out.mono ?_
                rintro e w' ⟨rfl, rfl⟩
                go_wp2_with fail
                refine HR.out.mono ?_
                rintro e w5 ⟨rfl, hnx⟩
                have HN := Lib.hid hnx
                clear hnx HC HR
                go_wp2
                go_meet
                exact ⟨m, er, rfl, rfl, rfl, hm, her, HZ.out, HN⟩
              · have q1 : (kk == 1) = false := by rw [beq_eq_false_iff_ne]; exact k1
                clear k0 k1
                obtain ⟨x, m, er, hm, her, hz, hC, hR⟩ := int_pair f n a L hL
                have bx : (x != x) = false := by simp
                have HC := Lib.hid (hC wr q o cp hcp HG.out.2)
                have HR := Lib.hid (hR wr g rb HG.out.1)
                have HZ : Hid (er = 0 ∨ m = 0) := Lib.hid ((Decidable.em (er = 0)).imp_right hz)
                clear hC hR hz
                go_wp2_with fail
                refine HC.out.mono ?_
                rintro e w' ⟨rfl, rfl⟩
                go_wp2_with fail
                refine HR.out.mono ?_
                rintro e w5 ⟨rfl, hnx⟩
                have HN := Lib.hid hnx
                clear hnx HC HR
                go_wp2
                go_meet
                exact ⟨m, er, rfl, rfl, rfl, hm, her, HZ.out, HN⟩
          case rest =>
            obtain ⟨m, er, rfl, rfl, rfl, hm, her, hmz, HN⟩ := hcut
            have HBc : Hid (Below w2.heap.size w2 wc) := Lib.hid (bel_grown HBr.out HN.out.1 hrb2)
            by_cases he0 : er = 0
            · subst he0
              have HRc : Hid (RD wc g rb n f (a + m)) := Lib.hid (HN.out.2.elim (fun h => h.2) (fun h => absurd rfl h.1))
              have HSc : Hid (BS wc q (o + m) (L - m) (a + m) f) := Lib.hid ((HG.out.2.kept HN.out.1 hne).part m (L - m) (by omega))
              have bl : (((8 * n - (a + m) : Nat) : Int) != ((L - m : Nat) : Int)) = false := by rw [bne_eq_false_iff_eq]; omega
              rw [show ((0 : Nat) : Int) = 0 from rfl]
              clear hmz
              by_cases hcm : cp = m
              · have HS0 : Hid (BS wc q o 0 (a + m) f) := Lib.hid ⟨HSc.out.lt, fun j hj => by omega⟩
                have eL : L = m := by omega
                have bl0 : (((8 * n - (a + m) : Nat) : Int) != 0) = false := by rw [bne_eq_false_iff_eq]; omega
                clear bl HSc
                subst hcm
                subst eL
                go_wp2_with fail
                refine (err_any wc rb 0 HRc.out.c2).mono ?_
                rintro e w' ⟨rfl, rfl⟩
                go_wp2_with fail
                refine (left_any wc g rb n _ f HRc.out).mono ?_
                rintro e w6 ⟨rfl, q6, rfl⟩
                go_wp2
                go_roundw
                case rel => exact ⟨k + 1, by omega, by go_num, .inl ⟨a + L, 0, o, 0, rfl, rfl, by omega, by omega, Lib.hid ⟨HRc.out.drewN q6, HS0.out.drewN q6⟩⟩, Lib.hid (bel_drewN HBc.out q6)⟩
                case measure => simp [intOf]; omega
              · go_wp2_with fail
                refine (err_any wc rb 0 HRc.out.c2).mono ?_
                rintro e w' ⟨rfl, rfl⟩
                go_wp2_with fail
                refine (left_any wc g rb n _ f HRc.out).mono ?_
                rintro e w6 ⟨rfl, q6, rfl⟩
                go_wp2
                go_roundw
                case rel => exact ⟨k + 1, by omega, by go_num, .inl ⟨a + m, L - m, o + m, cp - m, rfl, rfl, by omega, by omega, Lib.hid ⟨HRc.out.drewN q6, HSc.out.drewN q6⟩⟩, Lib.hid (bel_drewN HBc.out q6)⟩
                case measure => simp [intOf]; omega
            · obtain rfl : m = 0 := by omega
              have HRc : Hid (RS wc rb (er : Int)) := Lib.hid (HN.out.2.elim (fun h => absurd h.1 he0) (fun h => h.2))
              have be : ((er : Int) != 0) = true := by rw [bne_iff_ne]; omega
              have be2 : ((er : Int) != (er : Int)) = false := by simp
              rw [show ((0 : Nat) : Int) = 0 from rfl]
              have HE := Lib.hid he0
              clear hmz he0
              by_cases hcm : cp = 0
              · subst hcm
                obtain rfl : L = 0 := by omega
                go_wp2_with fail
                refine (err_any wc rb er HRc.out.c2).mono ?_
                rintro e w' ⟨rfl, rfl⟩
                go_wp2_with fail
                refine (left_stop wc rb er HRc.out).mono ?_
                rintro e w6 ⟨rfl, q6, rfl⟩
                go_wp2
                go_roundw
                case rel => exact ⟨k + 1, by omega, by go_num, .inr ⟨er, HE.out, her, rfl, rfl, Lib.hid (HRc.out.drewN q6)⟩, Lib.hid (bel_drewN HBc.out q6)⟩
                case measure => simp [intOf]; omega
              · have hcm2 : 0 < cp := by omega
                clear hcm
                go_wp2_with fail
                refine (err_any wc rb er HRc.out.c2).mono ?_
                rintro e w' ⟨rfl, rfl⟩
                go_wp2_with fail
                refine (left_stop wc rb er HRc.out).mono ?_
                rintro e w6 ⟨rfl, q6, rfl⟩
                go_wp2
                go_roundw
                case rel => exact ⟨k + 1, by omega, by go_num, .inr ⟨er, HE.out, her, rfl, rfl, Lib.hid (HRc.out.drewN q6)⟩, Lib.hid (bel_drewN HBc.out q6)⟩
                case measure => simp [intOf]; omega
      · have be : ((er : Int) == 0) = false := by rw [beq_eq_false_iff_ne]; omega
        have be1 : ((er : Int) != 0) = true := by rw [bne_iff_ne]; omega
        have be2 : ((er : Int) != (er : Int)) = false := by simp
        have HE := Lib.hid hz
        clear hz
        go_upto_if 49 with (fail)
        go_cut [13, 41] from 41 to 115 (fun z i wc => (∃ zz, z = .int .i64 zz) ∧ i = .int .i64 (k : Int) ∧ wr = wc)
        case first =>
          by_cases hs2 : k < len2
          · obtain ⟨b2, off2, rfl, cz⟩ := H2.out.at HBw.out k hs2
            generalize Z k = zz at cz
            go_wp2
            go_meet
            exact ⟨⟨_, rfl⟩, rfl, rfl⟩
          · have hs3 : ¬ (k : Int) < (len2 : Int) := by omega
            go_wp2
            go_meet
            exact ⟨⟨_, rfl⟩, rfl, rfl⟩
        case rest =>
          obtain ⟨⟨zz, rfl⟩, rfl, rfl⟩ := hcut
          go_upto_block 2 with (fail)
          go_cut [14, 15, 16, 17, 41] from 41 to 115 (fun _ _ vm ve i wc => vm = .int .i64 0 ∧ ve = .int .i64 (er : Int) ∧ i = .int .i64 (k : Int) ∧ Hid (RS wc rb (er : Int) ∧ wr.grownBy wc (some rb)))
          case first =>
            by_cases k0 : kk = 0
            · have q0 : (kk == 0) = true := by rw [k0]; rfl
              clear k0
              go_wp2_with fail
              refine (get_stop wr rb er zz HG.out).mono ?_
              rintro e w5 ⟨rfl, hrs, hgr⟩
              have HN := Lib.hid (⟨hrs, hgr⟩ : _ ∧ _)
              clear hrs hgr
              go_wp2
              go_meet
              exact ⟨rfl, rfl, rfl, HN⟩
            · have q0 : (kk == 0) = false := by rw [beq_eq_false_iff_ne]; exact k0
              by_cases k1 : kk = 1
              · have q1 : (kk == 1) = true := by rw [k1]; rfl
                clear k0 k1
                go_wp2_with fail
                refine (num_stop wr rb er HG.out).mono ?_
                rintro e w5 ⟨rfl, hrs, hgr⟩
                have HN := Lib.hid (⟨hrs, hgr⟩ : _ ∧ _)
                clear hrs hgr
                go_wp2
                go_meet
                exact ⟨rfl, rfl, rfl, HN⟩
              · have q1 : (kk == 1) = false := by rw [beq_eq_false_iff_ne]; exact k1
                clear k0 k1
                go_wp2_with fail
                refine (int_stop wr rb er HG.out).mono ?_
                rintro e w5 ⟨rfl, hrs, hgr⟩
                have HN := Lib.hid (⟨hrs, hgr⟩ : _ ∧ _)
                clear hrs hgr
                go_wp2
                go_meet
                exact ⟨rfl, rfl, rfl, HN⟩
          case rest =>
            obtain ⟨rfl, rfl, rfl, HN⟩ := hcut
            have HBc : Hid (Below w2.heap.size w2 wc) := Lib.hid (bel_grown HBr.out HN.out.2 hrb2)
            have HRc : Hid (RS wc rb (er : Int)) := Lib.hid HN.out.1
            go_wp2_with fail
            refine (err_any wc rb er HRc.out.c2).mono ?_
            rintro e w' ⟨rfl, rfl⟩
            go_wp2_with fail
            refine (left_stop wc rb er HRc.out).mono ?_
            rintro e w6 ⟨rfl, q6, rfl⟩
            go_wp2
            go_roundw
            case rel => exact ⟨k + 1, by omega, by go_num, .inr ⟨er, HE.out, her, rfl, rfl, Lib.hid (HRc.out.drewN q6)⟩, Lib.hid (bel_drewN HBc.out q6)⟩
            case measure => simp [intOf]; omega
    · obtain rfl : k = len1 := by omega
      rcases hst with ⟨a, L, o, cp, rfl, rfl, hcp, hL, HG⟩ | ⟨er, hz, her, rfl, rfl, HG⟩
      · go_upto_if 121 with (fail)
        go_cut [18] from 119 (fun v wc => ∃ ev : Nat, v = .int .i64 (ev : Int) ∧ Hid (ev = if 7 < L then 12 else 0) ∧ wr = wc)
        case first =>
          by_cases h7 : 7 < L
          · have h7' : (7 : Int) < (L : Int) := by omega
            go_wp2
            go_meet
            exact ⟨12, rfl, Lib.hid (by rw [if_pos h7]), rfl⟩
          · have h7' : ¬ (7 : Int) < (L : Int) := by omega
            go_wp2
            go_meet
            exact ⟨0, rfl, Lib.hid (by rw [if_neg h7]), rfl⟩
        case rest =>
          obtain ⟨ev0, rfl, HE0, rfl⟩ := hcut
          go_wp2
          go_loopw [18, 20, 124] (fun v _ i wx => ∃ t ev : Nat, t ≤ L ∧ i = .int .i64 (t : Int) ∧ v = .int .i64 (ev : Int) ∧ Hid (ev = if 7 < L ∨ ¬ gv f a t = 0 then 12 else 0) ∧ wr = wx) (fun _ _ i _ => L - (intOf i).toNat)
          case atStart => exact ⟨0, ev0, Nat.zero_le _, rfl, rfl, Lib.hid (by rw [HE0.out]; simp [gv]), rfl⟩
          case round =>
            obtain ⟨t, ev, ht, rfl, rfl, HEV, rfl⟩ := hrel
            by_cases hlt2 : t < L
            · have c1 := HG.out.2.cb t hlt2
              have hb := bitAt_lt f (a + t)
              have HE1 : Hid (bitAt f (a + t) = 0 → (if 7 < L ∨ ¬ gv f a (t + 1) = 0 then 12 else 0 : Nat) = ev) := Lib.hid (fun h => by
                have e : (gv f a (t + 1) = 0) = (gv f a t = 0) := by
                  show (2 * gv f a t + bitAt f (a + t) = 0) = _
                  rw [h]; apply propext; omega
                rw [HEV.out]; simp only [e])
              have HE2 : Hid (¬ bitAt f (a + t) = 0 → (if 7 < L ∨ ¬ gv f a (t + 1) = 0 then 12 else 0 : Nat) = 12) := Lib.hid (fun h => by
                rw [if_pos (.inr (by show ¬ 2 * gv f a t + bitAt f (a + t) = 0; omega))])
              clear HEV
              generalize bitAt f (a + t) = b at c1 hb HE1 HE2
              by_cases hb0 : b = 0
              · have b1 : ((b : Int) != 0) = false := by rw [hb0]; rfl
                have HV := Lib.hid (HE1.out hb0)
                clear hb0
                go_wp2
                go_roundw
                case rel => exact ⟨t + 1, ev, by omega, by go_num, rfl, Lib.hid HV.out.symm, by first | rfl | trivial⟩
                case measure => simp [intOf]; omega
              · have b1 : ((b : Int) != 0) = true := by rw [bne_iff_ne]; omega
                have HV := Lib.hid (HE2.out hb0)
                clear hb0
                go_wp2
                go_roundw
                case rel => exact ⟨t + 1, 12, by omega, by go_num, rfl, Lib.hid HV.out.symm, by first | rfl | trivial⟩
                case measure => simp [intOf]; omega
            · obtain rfl : t = L := by omega
              have HEnd := Lib.hid (end_any wr g rb n a t f HG.out.1 hL)
              have HEE : Hid (endOf f a t = ev) := Lib.hid HEV.out.symm
              rw [HEE.out] at HEnd
              clear HEV HEE
              have bv : ((ev : Int) == (ev : Int)) = true := by simp
              go_wp2_with fail
              refine HEnd.out.mono ?_
              rintro e w6 ⟨rfl, q6, rfl⟩
              have HBr6 : Hid (Below w2.heap.size w2 (wr.drewN q6)) := Lib.hid (bel_drewN HBr.out q6)
              have HBw6 : Hid (Below w.heap.size w (wr.drewN q6)) := Lib.hid (bel_drewN HBw.out q6)
              have HRc : Hid (RD (wr.drewN q6) g rb n f a) := Lib.hid (HG.out.1.drewN q6)
              generalize wr.drewN q6 = w6 at *
              go_wp2_with fail
              refine (err_any w6 rb 0 HRc.out.c2).mono ?_
              rintro e w' ⟨rfl, rfl⟩
              go_wp2_with fail
              refine (same_true w6 spm a0 n capm cap0 f f (HM.out.below HBr6.out) (HS.out.below HBw6.out) (fun _ _ => rfl)).mono ?_
              rintro e w' ⟨rfl, rfl⟩
              go_wp2
              go_ret
              exact ⟨rfl, HBw6.out⟩
      · have be : ((er : Int) == 0) = false := by rw [beq_eq_false_iff_ne]; omega
        have be3 : ((er : Int) == (er : Int)) = true := by simp
        go_wp2_with fail
        refine (end_stop wr rb er HG.out).mono ?_
        rintro e w' ⟨rfl, rfl⟩
        go_wp2_with fail
        refine (err_any wr rb er HG.out.c2).mono ?_
        rintro e w' ⟨rfl, rfl⟩
        go_wp2_with fail
        refine (same_true wr spm a0 n capm cap0 f f (HM.out.below HBr.out) (HS.out.below HBw.out) (fun _ _ => rfl)).mono ?_
        rintro e w' ⟨rfl, rfl⟩
        go_wp2
        go_ret
        exact ⟨rfl, HBw.out⟩
end Go.Proofs.Ytmhjffneemmncaa
