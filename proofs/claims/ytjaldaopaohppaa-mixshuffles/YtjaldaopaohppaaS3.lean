/-
  The walk of the law MixShuffles for numbers from 0 to 1000.
-/
import Derived.Test.YtjaldaopaohppaaS2
import Derived.OwnWalk
import Derived.Laws.OwnMore
import Derived.Deep.AppendLies
import Derived.Deep.QuietTactic
import Derived.BigQuiet
namespace Go.Proofs.Ytjaldaopaohppaa
open Go.ChangeShapes Go.WideShapes Go.ChangeAt Go.RowKit RefMath

theorem shuf_top (x : Nat) (n : Int) (w : World) (hn : 1000 < n) :
    Calls Try.prog 6 #[.int .u64 (x : Int), .int .i64 n] w fun e w' => e = .returned (.bool true) ∧ Below w.heap.size w w' := by
  obtain ⟨m, hm⟩ : ∃ m, m = 1000 := ⟨_, rfl⟩
  have hm1 : m ≤ 1000 := by omega
  have hm2 : 1000 ≤ m := by omega
  have he : ((m : Int) == 1000) = true := by rw [hm]; rfl
  clear hm
  go_enter Try.func6, Try.ntmps6
  go_wp2_with fail
  refine (head_any _).mono ?_
  rintro e w' ⟨rfl, rfl⟩
  go_wp2_with fail
  refine (new_any _ _).mono ?_
  rintro e w' ⟨rfl, rfl⟩
  go_wp2_with fail
  refine (shuffle_top w.heap.size (w.heap.size + 1) x m n _ ?_ ?_ ?_ (by omega) hn hm1 hm2).mono ?_
  · go_simp
  · go_simp
  · simp
  rintro e w3 ⟨rfl, _, _, hb⟩
  have HB : Hid (Below w.heap.size w w3) := Lib.hid ((((Below.refl _ _).alloc (Nat.le_refl _) _).alloc (by simp) _).trans hb)
  clear hb
  go_wp2
  go_ret
  exact ⟨rfl, HB.out⟩

set_option maxRecDepth 100000 in
set_option maxHeartbeats 1000000 in
theorem shuf_mid (x m : Nat) (w : World) (hx : x < 18446744073709551616) (hm : m ≤ 1000) :
    Calls Try.prog 6 #[.int .u64 (x : Int), .int .i64 (m : Int)] w fun e w' => e = .returned (.bool true) ∧ Below w.heap.size w w' := by
  have HX := Lib.hid hx
  have hm0 : ¬ (1000 : Int) < (m : Int) := by omega
  clear hx
  go_enter Try.func6, Try.ntmps6
  go_wp2_with fail
  refine (head_any _).mono ?_
  rintro e w' ⟨rfl, rfl⟩
  go_wp2_with fail
  refine (new_any _ _).mono ?_
  rintro e w' ⟨rfl, rfl⟩
  go_wp2_with fail
  refine (shuffle_mid w.heap.size (w.heap.size + 1) x m _ ?_ ?_ ?_ (by omega) hm).mono ?_
  · go_simp
  · go_simp
  · simp
  rintro e w3 ⟨rfl, hc, hs, hb⟩
  have HB : Hid (Below w.heap.size w w3) := Lib.hid ((((Below.refl _ _).alloc (Nat.le_refl _) _).alloc (by simp) _).trans hb)
  clear hb
  have esz : ((w.alloc (.cells #[.int .u64 ((MixMath.nxt 0 : Nat) : Int)] 49)).alloc (.cells #[.int .u64 (x : Int)] 49)).heap.size = w.heap.size + 1 + 1 := by simp
  rw [esz] at hc hs
  have HC := Lib.hid hc
  clear hc esz
  go_wp2
  obtain ⟨i0, hi, hz0, hz1, hz2⟩ := info_parts info3
  have hs3 : w.heap.size + 1 + 1 < w3.heap.size := hs
  go_loopw [6, 7, 8] (fun s v i wr => ∃ k : Nat, k ≤ m ∧ i = .int .i64 (k : Int) ∧ s = .int .u64 ((nk x k : Nat) : Int) ∧ Hid (wr.ownsRow w3.heap.size 3 1 v k (rowL x k) ∧ Below w3.heap.size w3 wr)) (fun _ _ i _ => m - (intOf i).toNat)
  case atStart => exact ⟨0, Nat.zero_le _, rfl, rfl, Lib.hid ⟨World.ownsRow_lit w3 #[] 0 (Nat.le_refl _) (Nat.zero_le _) rfl, (Below.refl _ _).alloc (Nat.le_refl _) _⟩⟩
  case round =>
    obtain ⟨k, hk, rfl, rfl, HA⟩ := hrel
    by_cases hlt : k < m
    · have hd := dr_le x k
      obtain ⟨d, ed⟩ : ∃ d, d = dr x k := ⟨_, rfl⟩
      have HE := Lib.hid (dr_eq x k)
      rw [← ed] at HE hd
      have ED := Lib.hid ed
      clear ed
      go_wp2_with fail
      refine (rbelow_all (nk x k) _ (by omega) _ (nk_lt x k HX.out)).mono ?_
      rw [HE.out]
      rintro e w4 ⟨rfl, hb4⟩
      have hown4 := own_below HA.out.1 hb4
      have HB4 := Lib.hid (HA.out.2.trans (hb4.mono HA.out.2.size))
      have HO := Lib.hid hown4
      have hsz4 : w3.heap.size ≤ w4.heap.size := HB4.out.size
      clear hb4 hown4
      go_wp2_with (at_builtin; refine wpList_append_own _ rfl _ _ 25 rfl w3.heap.size 3 i0 (.int .i64 0) 1 8 Try.underlying25 hi hz0 hz1 hz2 rfl (by decide) _ _ _ rfl (HO.out.alloc _) ⟨w4.heap.size, 0, none⟩ 1 1 [.int .i64 (k : Int)] rfl rfl ?c1 ?c2 ?c3 ?c4 ?c5 ?_)
      case c1 =>
        intro j u hj
        match j, hj with
        | 0, hj => simp at hj; subst hj; simp [Addr.add]
      case c2 => intro u hu; simp at hu; subst hu; rfl
      case c3 => unfold maxLen; omega
      case c4 => omega
      case c5 => simp; omega
      intro v5 w5 hown5 hgrow5 _
      have HB5 : Hid (Below w3.heap.size w3 w5) := Lib.hid ((HB4.out.alloc HB4.out.size _).grown hgrow5 (by simp; omega) (fun q hq => (HO.out.lt q hq).1))
      obtain ⟨g, cap, rfl, hg1, hg2⟩ := hown5.form (by omega)
      have HO5 := Lib.hid hown5
      clear hown5 hgrow5
      by_cases hdk : d = k
      · have b1 : ((d : Int) != (k : Int)) = false := by rw [hdk]; simp
        have HR : Hid (w5.ownsRow w3.heap.size 3 1 (.slice (some ⟨g, 0, none⟩) (k + 1) cap) (k + 1) (rowL x (k + 1))) := by
          rw [← rowL_same x k (by rw [← ED.out]; exact hdk)]; exact HO5
        clear hdk
        go_wp2
        go_roundw
        case rel => exact ⟨k + 1, by omega, by go_num, rfl, Lib.hid ⟨HR.out, HB5.out⟩⟩
        case measure => simp [intOf]; omega
      · have b1 : ((d : Int) != (k : Int)) = true := by simp; omega
        obtain ⟨v1, ev⟩ : ∃ v1, v1 = ((sl x k d : Nat) : Int) := ⟨_, rfl⟩
        have c1 : w5.cell? ⟨g, d, none⟩ = some (.int .i64 v1) := by
          rw [HO5.out.cellAt d (by omega), List.getElem?_append_left (by rw [rowL_length]; omega), rowL_get x k d (by omega), ev]
        have c2 : w5.cell? ⟨g, k, none⟩ = some (.int .i64 (k : Int)) := by
          rw [HO5.out.cellAt k (by omega), List.getElem?_append_right (by rw [rowL_length]; omega), rowL_length]; simp
        have f1 := HO5.out.frozenAt d
        have f2 := HO5.out.frozenAt k
        have c4 : (w5.setCell ⟨g, k, none⟩ (.int .i64 v1)).cell? ⟨g, d, none⟩ = some (.int .i64 v1) := by
          rw [World.cell?_setCell_other _ _ _ _ (by intro h; injection h with _ h; omega)]; exact c1
        have HR : Hid (((w5.setCell ⟨g, k, none⟩ (.int .i64 v1)).setCell ⟨g, d, none⟩ (.int .i64 (k : Int))).ownsRow w3.heap.size 3 1 (.slice (some ⟨g, 0, none⟩) (k + 1) cap) (k + 1) (rowL x (k + 1))) := by
          have h1 := (HO5.out.stored k (.int .i64 v1)).1
          have h2 := (h1.stored d (.int .i64 (k : Int))).1
          rw [ev, rowL_swap x k d ED.out.symm hdk hd] at h2
          rw [ev]; exact Lib.hid h2
        have HB6 : Hid (Below w3.heap.size w3 ((w5.setCell ⟨g, k, none⟩ (.int .i64 v1)).setCell ⟨g, d, none⟩ (.int .i64 (k : Int)))) := Lib.hid ((HB5.out.setCell (by exact hg1) _).setCell (by exact hg1) _)
        clear hdk ev
        go_wp2
        go_roundw
        case rel => exact ⟨k + 1, by omega, by go_num, rfl, Lib.hid ⟨HR.out, HB6.out⟩⟩
        case measure => simp [intOf]; omega
    · obtain rfl : k = m := by omega
      obtain ⟨mc, hmc⟩ : ∃ mc, mc = madeCells #[.bool false] k := ⟨_, rfl⟩
      have hmk := makeb_at k hm mc hmc
      have HMC := Lib.hid hmc
      clear hmc
      have HBW : Hid (Below w.heap.size w wr) := Lib.hid (HB.out.trans (HA.out.2.mono HB.out.size))
      have hszw : w3.heap.size ≤ wr.heap.size := HA.out.2.size
      have HSP := Lib.hid (sl_spec x k)
      rcases HA.out.1.2 with ⟨rfl, h0⟩ | ⟨g, cap, cur, rfl, hg1, hg2, hcap, _⟩
      · clear h0
        go_wp2
        refine wp_loop_rounds 1 ?_
        rw [rounds_succ]
        go_wp2
        go_ret
        exact ⟨rfl, HBW.out.alloc HBW.out.size _⟩
      · have hglt : g < wr.heap.size := by
          rcases Nat.lt_or_ge g wr.heap.size with h' | h'
          · exact h'
          · rw [Array.getElem?_eq_none h'] at hg2; cases hg2
        have HST : Hid (SeenAt w (wr.alloc (.cells mc 4)) (w.heap.size + 1 + 1) g wr.heap.size k (sl x k) 0) := Lib.hid (SeenAt.start mc HMC.out (by omega) hglt HBW.out
          (fun i hi => (HA.out.2.cell (p := ⟨w.heap.size + 1 + 1, i, none⟩) (by exact hs3)).trans (HC.out i hi))
          (fun i hi => by rw [HA.out.1.cellAt i (by omega), rowL_get x k i hi]))
        obtain ⟨f, ef⟩ : ∃ f, f = sl x k := ⟨_, rfl⟩
        rw [← ef] at HST HSP
        clear ef hg2
        go_wp2
        go_loopw [70] (fun i wq => ∃ j : Nat, j ≤ k ∧ i = .int .i64 (j : Int) ∧ Hid (SeenAt w wq (w.heap.size + 1 + 1) g wr.heap.size k f j)) (fun i _ => k - (intOf i).toNat)
        case atStart => exact ⟨0, Nat.zero_le _, rfl, HST⟩
        case round =>
          clear HST
          obtain ⟨j, hj, rfl, HQ⟩ := hrel
          by_cases hlt : j < k
          · have HQ1 := Lib.hid (fun q => (HQ.out.drewN q).step (by omega) (by omega) (by have := HBW.out.size; omega) (HSP.out.1 j hlt))
            have c1 := HQ.out.ca j hlt
            have c2 := HQ.out.cw j hlt
            have c3 := HQ.out.ck (f j) (HSP.out.1 j hlt)
            rw [seenB_false f j (f j) (fun i hi e => by have := HSP.out.2 i j (by omega) hlt e; omega)] at c3
            have f3 := HQ.out.fk (f j)
            have hu := HSP.out.1 j hlt
            generalize f j = u at c1 c2 c3 f3 hu HQ1
            have b1 : ((u : Int) != (u : Int)) = false := by simp
            go_wp2
            go_quiet (fail)
            go_wp2
            go_roundw
            case rel => exact ⟨j + 1, by omega, by go_num, Lib.hid (HQ1.out _)⟩
            case measure => simp [intOf]; omega
          · go_wp2
            go_ret
            exact ⟨rfl, HQ.out.bel⟩
set_option maxRecDepth 100000 in
set_option maxHeartbeats 1000000 in
theorem shuf_neg (x : Nat) (n : Int) (w : World) (hn : n < 0) :
    Calls Try.prog 6 #[.int .u64 (x : Int), .int .i64 n] w fun e w' => e = .returned (.bool true) ∧ Below w.heap.size w w' := by
  have hm0 : ¬ (1000 : Int) < n := by omega
  obtain ⟨mc, hmc⟩ : ∃ mc, mc = madeCells #[.bool false] 0 := ⟨_, rfl⟩
  have hmk := makeb_at 0 (by omega) mc hmc
  rw [show ((0 : Nat) : Int) = 0 from rfl] at hmk
  clear hmc
  go_enter Try.func6, Try.ntmps6
  go_wp2_with fail
  refine (head_any _).mono ?_
  rintro e w' ⟨rfl, rfl⟩
  go_wp2_with fail
  refine (new_any _ _).mono ?_
  rintro e w' ⟨rfl, rfl⟩
  go_wp2_with fail
  refine (shuffle_neg w.heap.size (w.heap.size + 1) x n _ ?_ ?_ ?_ (by omega) hn).mono ?_
  · go_simp
  · go_simp
  · simp
  rintro e w3 ⟨rfl, hc, hs, hb⟩
  have HB : Hid (Below w.heap.size w w3) := Lib.hid ((((Below.refl _ _).alloc (Nat.le_refl _) _).alloc (by simp) _).trans hb)
  clear hb hc hs
  go_wp2
  refine wp_loop_rounds 1 ?_
  rw [rounds_succ]
  go_wp2
  refine wp_loop_rounds 1 ?_
  rw [rounds_succ]
  go_wp2
  go_ret
  refine ⟨rfl, (HB.out.alloc HB.out.size _).alloc ?_ _⟩
  have := HB.out.size; simp; omega

end Go.Proofs.Ytjaldaopaohppaa
