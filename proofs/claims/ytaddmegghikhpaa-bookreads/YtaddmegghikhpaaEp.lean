/-
  Decode.
-/
import Derived.Test.YtaddmegghikhpaaEo
import Derived.IntWalk
namespace Go.Proofs.Ytaddmegghikhpaa
open Go.ChangeShapes Go.WideShapes Go.ChangeAt Go.RowKit

set_option maxRecDepth 100000 in
set_option maxHeartbeats 4000000 in
theorem decode_any (sp : Option Addr) (n cap : Nat) (f : Nat → Nat) (w : World) (hn : n ≤ 100000) (hf : ∀ j, f j < 256) (hs : Src w sp n f) : Calls Try.prog 14 #[.slice sp n cap] w (DecP w n f) := by
  obtain ⟨i1, hi1, hz0, hz1, hz2⟩ := info_parts info43
  have HS := Lib.hid hs
  have HF := Lib.hid hf
  clear hs hf
  go_enter Try.func14, Try.ntmps14
  go_wp2_with fail
  refine (read_any sp n cap f w hn HF.out HS.out).mono ?_
  rintro e w1 ⟨g, rb, rfl, hr1, hgw, hrw, hb1⟩
  have hrl := hr1.lt
  have hgl := hr1.glt
  have HB1 := Lib.hid hb1
  have HR1 := Lib.hid hr1
  have HDN : Hid (∀ W, w1.grownBy W (some rb) → Below w.heap.size w W) := Lib.hid fun W hg => hb1.grown hg hb1.size (fun q hq => by injection hq with hq; omega)
  clear hb1 hr1
  go_wp2_with fail
  refine (num_q w1 g rb n 0 f HR1.out).mono ?_
  rintro e w2 ⟨hg2, hres⟩
  have HG2 := Lib.hid hg2
  clear hg2
  rcases hres with ⟨m, hm, hsp, hl, rfl, hr2⟩ | ⟨er, her, rfl, hr2, hno⟩
  · have HSP := Lib.hid hsp
    rw [Nat.zero_add] at hl hr2
    have HL := Lib.hid hl
    have HR2 := Lib.hid hr2
    clear hsp hl hr2
    by_cases hm4 : 400 < m
    · obtain ⟨M, eM⟩ : ∃ M : Int, M = (m : Int) := ⟨_, rfl⟩
      have hm4' : (400 : Int) < M := by omega
      have hm0 : (0 : Int) < M := by omega
      have HNB : Hid (NoBk f n 4) := Lib.hid (noBk_many hm HSP.out HL.out hm4)
      rw [← eM]
      clear eM hm hm4
      go_wp2_with fail
      refine (fail_any w2 g rb n _ f 4 HR2.out).mono ?_
      rintro e w3 ⟨rfl, hr3, hg3⟩
      have HG3 := Lib.hid (grown_trans HG2.out hg3)
      have HR3 := Lib.hid hr3
      clear hr3 hg3
      go_wp2_with fail
      refine wp_loop_rounds 1 ?_
      rw [rounds_succ]
      go_wp2_with fail
      refine (err_any w3 rb 4 HR3.out.c2).mono ?_
      rintro e w4 ⟨rfl, rfl⟩
      go_wp2_with fail
      refine (end_stop w3 rb 4 HR3.out).mono ?_
      rintro e w4 ⟨rfl, rfl⟩
      go_wp2
      go_ret2
      exact ⟨HDN.out _ HG3.out, .inr ⟨4, by decide, rfl, HNB.out⟩⟩
    · have hm4' : ¬ (400 : Int) < (m : Int) := by omega
      have HS0 : Hid (DkS w1 w2 g rb n f m (.slice none 0 0) 0) := Lib.hid ⟨HG2.out, .inl ⟨fun _ => ⟨0, 0, 0, fun _ => ⟨0, 0, 0⟩⟩, fun _ => .slice none 0 0, by omega, HSP.out, fun i hi => absurd hi (Nat.not_lt_zero _), HL.out, fun i hi => absurd hi (Nat.not_lt_zero _), HR2.out, ⟨World.ownsRow_nil _ _ _ _, fun i hi => absurd hi (Nat.not_lt_zero _)⟩⟩⟩
      clear HSP HL HR2 HG2
      go_wp2_with fail
      go_loopw [6, 7] (fun v x wr => ∃ j : Nat, j ≤ m ∧ x = .int .u64 (j : Int) ∧ Hid (DkS w1 wr g rb n f m v j)) (fun _ x _ => m - (intOf x).toNat)
      case atStart => exact ⟨0, Nat.zero_le _, rfl, HS0⟩
      case round =>
        obtain ⟨j, hj, rfl, HT⟩ := hrel
        obtain ⟨hg0, ⟨E, V, hG⟩ | ⟨er, her, hr, hno⟩⟩ := HT.out
        · have HGW := Lib.hid hg0
          have HG := Lib.hid hG
          obtain ⟨spv, cpv, ev⟩ := own_form' hG.2.2.2.2.2.2.row
          subst ev
          clear hg0 hG HT HS0
          by_cases hjm : j < m
          · have hjm' : (j : Int) < (m : Int) := by omega
            go_wp2_with fail
            refine (err_any wr rb 0 HG.out.2.2.2.2.2.1.c2).mono ?_
            rintro e w5 ⟨rfl, rfl⟩
            go_wp2_with fail
            refine (take_any wr g rb n _ f HG.out.2.2.2.1 HG.out.2.2.2.2.2.1).mono ?_
            rintro e w6 ⟨h6, k, c, sp6, jj, cap6, o6, rfl, ho6, ht6⟩
            have H6 := Lib.hid h6
            have HO6 := Lib.hid ho6
            have HT6 := Lib.hid ht6
            have HRW : Hid ((w6.alloc (.cells #[.int .i64 k, .int .i64 c, .slice sp6 jj cap6] 43)).ownsRow w1.heap.size 43 3 (.slice spv j cpv) j (rowT (fun i => asT (E i)) V j)) := Lib.hid (((HG.out.2.2.2.2.2.2.grownR h6 hrl).row).alloc _)
            have HNW : Hid (∀ (i : Nat) (u : Value), [Value.int .i64 k, .int .i64 c, .slice sp6 jj cap6][i]? = some u → (w6.alloc (.cells #[.int .i64 k, .int .i64 c, .slice sp6 jj cap6] 43)).cell? ((⟨w6.heap.size, 0, none⟩ : Addr).add i) = some u) := Lib.hid fun i u hu => by
              rw [Go.WideShapes.add_plain, cell_of_row _ _ _ _ 43 (0, 0) (heap_alloc_new w6 _), Nat.zero_add]
              simpa using hu
            have HZ6 : Hid (w1.heap.size ≤ w6.heap.size) := Lib.hid (Nat.le_trans HGW.out.size h6.size)
            clear h6 ho6 ht6
            go_wp2_with (at_builtin; refine wpList_append_lies _ rfl _ _ 22 rfl w1.heap.size 43 i1 (.agg #[.int .i64 0, .int .i64 0, .slice none 0 0]) 3 40 Try.underlying22 hi1 hz0 hz1 hz2 rfl (by decide) _ j _ rfl HRW.out ⟨w6.heap.size, 0, none⟩ 1 1 [.int .i64 k, .int .i64 c, .slice sp6 jj cap6] rfl rfl HNW.out (by intro u hu; simp at hu; rcases hu with rfl | rfl | rfl <;> rfl) (by omega) (by unfold maxLen; omega) (by omega) (Nat.le_trans HZ6.out (by simp)) _ rfl ?_)
            intro g7 c7 w7 ho7 hg7 hat7 hl7
            have HD7 : Hid (DkS w1 w7 g rb n f m (.slice (some ⟨g7, 0, none⟩) (j + 1) c7) (j + 1)) := Lib.hid (dec_fin hrl hgl hjm HGW.out HG.out H6.out HO6.out HT6.out ho7 hg7)
            clear ho7 hg7 hat7 hl7 H6 HO6 HT6 HRW HNW
            go_wp2
            go_roundw
            case rel => exact ⟨j + 1, by omega, by go_num, HD7⟩
            case measure => simp [intOf]; omega
          · obtain rfl : m = j := by omega
            obtain ⟨L, hL⟩ : ∃ L, (numL m).length + (evsL E m).length + L = 8 * n := ⟨8 * n - ((numL m).length + (evsL E m).length), by have := HG.out.2.2.2.1; omega⟩
            go_wp2_with fail
            refine (end_any wr g rb n _ L f HG.out.2.2.2.2.2.1 hL).mono ?_
            rintro e w5 ⟨rfl, q, rfl⟩
            have HGQ := Lib.hid (grown_drewN HGW.out q)
            rcases end_cases f ((numL m).length + (evsL E m).length) L with e0 | e0
            · have HE0 := Lib.hid (end_zero HF.out hL e0)
              rw [e0]
              clear e0
              go_wp2
              go_ret2
              refine ⟨HDN.out _ HGQ.out, .inl ⟨E, m, spv, cpv, V, rfl, ?_⟩⟩
              obtain ⟨s1, s2, s3, s4, s5, s6, s7⟩ := HG.out
              have hBL : (BL E m).length = (numL m).length + (evsL E m).length := by unfold BL; rw [List.length_append]
              exact ⟨s1, (s7.grownR (grown_drewN (grown_refl _ (some rb)) q) hrl).low HB1.out.size, s5, Sp.app.2 ⟨s2, by rw [Nat.zero_add]; exact s3⟩, by rw [hBL]; exact s4, by rw [hBL]; exact HE0.out.1, by rw [hBL]; exact HE0.out.2⟩
            · have HBD := Lib.hid (end_bad hL e0)
              rw [e0]
              clear e0
              go_wp2
              go_ret2
              obtain ⟨s1, s2, s3, s4, s5, s6, s7⟩ := HG.out
              exact ⟨HDN.out _ HGQ.out, .inr ⟨12, by decide, rfl, noBk_trail s1 s2 s3 s4 s5 HBD.out⟩⟩
        · have HGW := Lib.hid hg0
          have HRS := Lib.hid hr
          have HNB := Lib.hid hno
          have her0 : (er == 0) = false := by simpa using her
          have her1 : (er != 0) = true := by simpa using her
          clear hg0 hr hno HT HS0
          by_cases hjm : j < m
          · have hjm' : (j : Int) < (m : Int) := by omega
            go_wp2_with fail
            refine (err_any wr rb er HRS.out.c2).mono ?_
            rintro e w5 ⟨rfl, rfl⟩
            go_wp2_with fail
            refine (end_stop wr rb er HRS.out).mono ?_
            rintro e w5 ⟨rfl, rfl⟩
            go_wp2
            go_ret2
            exact ⟨HDN.out _ HGW.out, .inr ⟨er, her, rfl, HNB.out⟩⟩
          · obtain rfl : m = j := by omega
            go_wp2_with fail
            refine (end_stop wr rb er HRS.out).mono ?_
            rintro e w5 ⟨rfl, rfl⟩
            go_wp2
            go_ret2
            exact ⟨HDN.out _ HGW.out, .inr ⟨er, her, rfl, HNB.out⟩⟩
  · have HNB := Lib.hid (noBk_num hno)
    have HR2 := Lib.hid hr2
    have her0 : (er == 0) = false := by rcases her with rfl | rfl <;> rfl
    have her1 : (er != 0) = true := by rcases her with rfl | rfl <;> rfl
    have her2 : ¬ er = 0 := by rcases her with rfl | rfl <;> decide
    clear hno hr2 her
    go_wp2_with fail
    refine wp_loop_rounds 1 ?_
    rw [rounds_succ]
    go_wp2_with fail
    refine (end_stop w2 rb er HR2.out).mono ?_
    rintro e w5 ⟨rfl, rfl⟩
    go_wp2
    go_ret2
    exact ⟨HDN.out _ HG2.out, .inr ⟨er, her2, rfl, HNB.out⟩⟩
end Go.Proofs.Ytaddmegghikhpaa
