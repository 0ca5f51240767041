/-
  The reference's Cycle; GraphCycles' walk.
-/
import Derived.Test.YtcolcgkfppjflaaCn
import Derived.Test.YtcolcgkfppjflaaW
namespace Go.Proofs.Ytcolcgkfppjflaa
open Go.ChangeShapes Go.WideShapes Go.ChangeAt Go.RowKit
set_option linter.unusedVariables false

def RcP (A : Nat → Nat → Prop) (N : Nat) (w : World) (e : Ending) (w' : World) : Prop :=
  ∃ R sp cp, e = .returned (.slice sp R.length cp) ∧ RfC A N R ∧ LsS w' (.slice sp R.length cp) R ∧ Below w.heap.size w w'
theorem pre_nil (Q : List Nat) : Pre [] Q := ⟨Q, rfl⟩

set_option maxRecDepth 100000 in
set_option maxHeartbeats 4000000 in
theorem rcycle_any (A : Nat → Nat → Prop) (g N : Nat) (rb : Nat → Nat) (T : Nat → Nat → Bool) (w : World) (hN : N ≤ 100) (hTA : ∀ i j, i < N → j < N → (T i j = true ↔ A i j)) (hT : TabR w g N rb T) :
    Calls Try.prog 18 #[.slice (some ⟨g, 0, none⟩) N N] w (RcP A N w) := by
  have HT := Lib.hid hT
  have HTA := Lib.hid hTA
  have HN := Lib.hid hN
  clear hT hTA
  go_enter Try.func18, Try.ntmps18
  go_wp2_with fail
  go_loopw [3, 4] (fun x _ wr => ∃ m : Nat, m ≤ N ∧ x = .int .i64 ((m : Int) + 1) ∧ Hid (Below w.heap.size w wr ∧ ∀ L, L ≤ m → ∀ Q, ¬ SCy A N L Q)) (fun x _ _ => N + 1 - (intOf x).toNat)
  case atStart => exact ⟨0, Nat.zero_le _, rfl, Lib.hid ⟨Below.refl _ _, fun L hL Q hQ => by have := hQ.pos; omega⟩⟩
  case round =>
    obtain ⟨m, hm, rfl, HM⟩ := hrel
    by_cases hmN : m < N
    · have hmN' : (m : Int) + 1 ≤ (N : Int) := by omega
      have HBM := Lib.hid HM.out.1
      have HNM := Lib.hid HM.out.2
      have HWK : Hid (Calls Try.prog 28 #[.slice (some ⟨g, 0, none⟩) N N, .slice none 0 0, .int .i64 ((m : Int) + 1)] wr (WkP A N (m + 1) [] wr)) := Lib.hid (walk_any A g N rb T m HN.out (by omega) HTA.out (m + 1) [] none 0 wr (by simp) ⟨List.nodup_nil, fun x hx => by simp at hx, fun i hi => by simp at hi⟩ (HT.out.below HM.out.1) ⟨none, 0, rfl, fun h => absurd h (Nat.lt_irrefl _)⟩ (fun _ => ⟨rfl, rfl⟩))
      clear HM
      go_wp2_with fail
      refine HWK.out.mono ?_
      rintro e w2 ⟨R, sp, cp, rfl, hR, hL, hb⟩
      have HB2 := Lib.hid (HBM.out.trans (hb.mono HBM.out.size))
      have HL := Lib.hid hL
      clear hb hL HWK
      rcases hR with ⟨rfl, hno⟩ | ⟨h1, _, h3⟩
      · have HZ : Hid (∀ L, L ≤ m + 1 → ∀ Q, ¬ SCy A N L Q) := Lib.hid fun L hL Q hQ => by
          by_cases e : L ≤ m
          · exact HNM.out L e Q hQ
          · obtain rfl : L = m + 1 := by omega
            exact hno Q hQ (pre_nil Q)
        clear hno
        go_wp2_with fail
        go_roundw
        case rel => exact ⟨m + 1, by omega, by go_num, Lib.hid ⟨HB2.out, HZ.out⟩⟩
        case measure => simp [intOf]; omega
      · have hrl : 0 < R.length := by rw [h1.len]; omega
        have hrl2 : (0 : Int) < (R.length : Int) := by omega
        have HZ : Hid (RfC A N R) := Lib.hid (.inr ⟨m + 1, by omega, fun k hk => HNM.out k (by omega), h1, fun Q hQ => h3 Q hQ (pre_nil Q)⟩)
        clear h1 h3
        go_wp2_with fail
        go_ret
        exact ⟨R, sp, cp, rfl, HZ.out, HL.out, HB2.out⟩
    · obtain rfl : m = N := by omega
      have HZ : Hid (RfC A m []) := Lib.hid (.inl ⟨rfl, fun L _ hL => HM.out.2 L hL⟩)
      have HBM := Lib.hid HM.out.1
      clear HM
      go_wp2_with fail
      go_ret
      exact ⟨[], none, 0, rfl, HZ.out, ⟨none, 0, rfl, fun h => absurd h (Nat.lt_irrefl _)⟩, HBM.out⟩

set_option maxRecDepth 100000 in
set_option maxHeartbeats 4000000 in
theorem cycles_law (z : Int) (a : Option Addr) (n cap : Nat) (p : Nat → Int × Int) (w : World) (hs : PsS w a n p) :
    Calls Try.prog 4 #[.int .i64 z, .slice a n cap] w (fun e w' => e = .returned (.bool true) ∧ Below w.heap.size w w') := by
  have HS := Lib.hid hs
  clear hs
  have HO := Lib.hid (found_any w)
  go_enter Try.func4, Try.ntmps4
  go_wp2_with fail
  refine HO.out.mono ?_
  rintro e w3 ⟨rfl, hb⟩
  have HB4 := Lib.hid hb
  clear hb HO
  by_cases hz : 7 < z
  · go_wp2
    go_ret
    exact ⟨rfl, HB4.out⟩
  · have hz' : decide (7 < z) = false := by simp; omega
    by_cases hn : 100 < n
    · have hn' : (100 : Int) < (n : Int) := by omega
      go_wp2
      go_ret
      exact ⟨rfl, HB4.out⟩
    · have hn' : decide ((100 : Int) < (n : Int)) = false := by simp; omega
      obtain ⟨N, hN⟩ : ∃ N : Nat, (N : Int) = max z 0 := ⟨(max z 0).toNat, by omega⟩
      have HA2 := Lib.hid (arcs_any a n cap p w3 (by omega) (HS.out.below HB4.out))
      go_wp2_with fail
      refine HA2.out.mono ?_
      rintro e w5 ⟨g5, cp5, rfl, ho, hb⟩
      have HB5 := Lib.hid (HB4.out.trans (hb.mono HB4.out.size))
      have HI2 := Lib.hid (Cycle_any z N (some ⟨g5, 0, none⟩) n cp5 p w5 (by omega) (by omega) (ArcP.pairs ho))
      clear ho hb HA2 HB4
      go_wp2_with fail
      refine HI2.out.mono ?_
      rintro e w6 ⟨C, sp, cp, rfl, hcy, hcl, hls, hb⟩
      have HB6 := Lib.hid (HB5.out.trans (hb.mono HB5.out.size))
      have HCY := Lib.hid hcy
      have HCL := Lib.hid hcl
      have HLS := Lib.hid hls
      clear hb HI2 HB5 hcy hcl hls
      have HT := Lib.hid (table_any N a n cap p w6 (by omega) (by omega) (HS.out.below HB6.out))
      have HN4 : Hid (N ≤ 100) := Lib.hid (by omega)
      go_upto_if 20 with (fail)
      go_cut [0] from 19 (fun v wc => v = .int .i64 (N : Int) ∧ w6 = wc)
      case first =>
        by_cases hz0 : z < 0
        · obtain rfl : N = 0 := by omega
          go_wp2
          go_meet
          exact ⟨rfl, rfl⟩
        · have hzN : z = (N : Int) := by omega
          subst hzN
          clear hN hz0
          go_wp2
          go_meet
          exact ⟨rfl, rfl⟩
      case rest =>
        obtain ⟨rfl, rfl⟩ := hcut
        clear hN hz hz'
        go_wp2_with fail
        refine HT.out.mono ?_
        rintro e w7 ⟨g7, rb7, T7, rfl, hR7, hA7, hb⟩
        have HB7 := Lib.hid (HB6.out.trans (hb.mono HB6.out.size))
        have HX7 := Lib.hid hb
        have HRR := Lib.hid (rcycle_any (adj p n) g7 N rb7 T7 w7 HN4.out hA7 hR7)
        clear hb hR7 hA7 HT HB6
        go_wp2_with fail
        refine HRR.out.mono ?_
        rintro e w8 ⟨R, sp', cp', rfl, hrf, hls, hb⟩
        obtain rfl := cyc_rf HCY.out HCL.out hrf
        have HB8 := Lib.hid (HB7.out.trans (hb.mono HB7.out.size))
        have hO : C.length ≤ 400 := by
          have := HN4.out; have := HCL.out; omega
        have HSM := Lib.hid (same_any sp C.length cp _ sp' C.length cp' _ true w8 (LsS.ints ((HLS.out.below HX7.out).below hb)) (LsS.ints hls) (by omega) (by omega) ⟨fun _ => ⟨rfl, fun i _ => rfl⟩, fun _ => rfl⟩)
        clear hb hrf hls HRR HB7 HX7 HLS HCY HCL
        go_wp2_with fail
        refine HSM.out.mono ?_
        rintro e w9 ⟨rfl, hb⟩
        have HB9 := Lib.hid (HB8.out.trans (hb.mono HB8.out.size))
        clear hb
        go_wp2
        go_ret
        exact ⟨rfl, HB9.out⟩
end Go.Proofs.Ytcolcgkfppjflaa
