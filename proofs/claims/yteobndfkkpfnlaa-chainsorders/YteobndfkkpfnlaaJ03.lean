/-
  The reference's right.
-/
import Derived.Test.YteobndfkkpfnlaaJ02

namespace Go.Proofs.Yteobndfkkpfnlaa
open Go.ChangeShapes Go.WideShapes Go.ChangeAt Go.RowKit

set_option maxRecDepth 100000 in
set_option maxHeartbeats 2000000 in
theorem right_any (k c : Int) (sp : Option Addr) (n cap : Nat) (o : Nat → O3) (w : World) (hn : n ≤ 9223372036854775807) (hs : OpS w sp n o) :
    Calls Try.prog 40 #[.agg #[.int .i64 k, .int .i64 c, .slice sp n cap]] w (Tells (Snd k c n o) w) := by
  have HB : Hid (Below w.heap.size w (w.alloc (.cells #[.int .i64 k, .int .i64 c, .slice sp n cap] 90))) := Lib.hid ((Below.refl _ _).alloc (Nat.le_refl _) _)
  have HS := Lib.hid hs
  clear hs
  by_cases hg : k < 1 ∨ 4 < k ∨ c < 1 ∨ 16 < c ∨ 12 < n ∨ (n = 0 ∧ (k = 1 ∨ k = 2))
  · have HN : Hid (false = true ↔ Snd k c n o) := Lib.hid ⟨fun h => (by cases h), fun h => (by unfold Snd at h; omega)⟩
    by_cases h1 : k < 1
    · clear hg
      go_enter Try.func40, Try.ntmps40
      go_wp2
      go_ret
      exact ⟨false, rfl, HN.out, HB.out⟩
    · by_cases h2 : 4 < k
      · clear hg
        go_enter Try.func40, Try.ntmps40
        go_wp2
        go_ret
        exact ⟨false, rfl, HN.out, HB.out⟩
      · by_cases h3 : c < 1
        · clear hg
          go_enter Try.func40, Try.ntmps40
          go_wp2
          go_ret
          exact ⟨false, rfl, HN.out, HB.out⟩
        · by_cases h4 : 16 < c
          · clear hg
            go_enter Try.func40, Try.ntmps40
            go_wp2
            go_ret
            exact ⟨false, rfl, HN.out, HB.out⟩
          · by_cases h5 : 12 < n
            · have h5' : (12 : Int) < (n : Int) := by omega
              clear hg
              go_enter Try.func40, Try.ntmps40
              go_wp2
              go_ret
              exact ⟨false, rfl, HN.out, HB.out⟩
            · have h6 : n = 0 ∧ (k = 1 ∨ k = 2) := by omega
              obtain ⟨rfl, hk⟩ := h6
              clear hg h5
              rcases hk with rfl | rfl
              · go_enter Try.func40, Try.ntmps40
                go_wp2
                go_ret
                exact ⟨false, rfl, HN.out, HB.out⟩
              · go_enter Try.func40, Try.ntmps40
                go_wp2
                go_ret
                exact ⟨false, rfl, HN.out, HB.out⟩
  · have h1 : ¬ k < 1 := by omega
    have h2 : ¬ 4 < k := by omega
    have h3 : ¬ c < 1 := by omega
    have h4 : ¬ 16 < c := by omega
    have h5 : ¬ (12 : Int) < (n : Int) := by omega
    have hn12 : n ≤ 12 := by omega
    have HG : Hid ((∀ i, i < n → SOp (o i) k) → Snd k c n o) := Lib.hid fun h => ⟨by omega, by omega, by omega, by omega, by omega, by omega, h⟩
    have HG2 : Hid ((∃ i, i < n ∧ ¬ SOp (o i) k) → (false = true ↔ Snd k c n o)) := Lib.hid fun ⟨i, hi, hno⟩ => ⟨fun h => (by cases h), fun h => absurd (h.2.2.2.2.2.2 i hi) hno⟩
    have hxx := heap_alloc_new w (.cells #[.int .i64 k, .int .i64 c, .slice sp n cap] 90)
    have HX := Lib.hid hxx
    have hl : w.heap.size < (w.alloc (.cells #[.int .i64 k, .int .i64 c, .slice sp n cap] 90)).heap.size := by simp
    have hz : ((n : Int) == 0) = false ∨ (n = 0 ∧ (k == 1) = false ∧ (k == 2) = false) := by
      by_cases h : n = 0
      · exact .inr ⟨h, by rw [beq_eq_false_iff_ne]; omega, by rw [beq_eq_false_iff_ne]; omega⟩
      · exact .inl (by rw [beq_eq_false_iff_ne]; omega)
    clear hg hxx
    obtain ⟨wx, ewx⟩ : ∃ wx, wx = w.alloc (.cells #[.int .i64 k, .int .i64 c, .slice sp n cap] 90) := ⟨_, rfl⟩
    rw [← ewx] at HB HX hl
    rcases hz with hz | ⟨rfl, hz1, hz2⟩
    · go_enter Try.func40, Try.ntmps40
      go_wp2
      rw [← ewx]
      clear ewx
      go_loopw [4, 46] (fun _ i wr => ∃ t : Nat, t ≤ n ∧ i = .int .i64 (t : Int) ∧ Hid (Below wx.heap.size wx wr ∧ ∀ i, i < t → SOp (o i) k)) (fun _ i _ => n - (intOf i).toNat)
      case atStart => exact ⟨0, Nat.zero_le _, rfl, Lib.hid ⟨Below.refl _ _, fun i hi => absurd hi (Nat.not_lt_zero _)⟩⟩
      case round =>
        obtain ⟨t, ht, rfl, HT⟩ := hrel
        obtain ⟨⟨e0, e1, e2⟩, _⟩ := cells3 ((HT.out.1.block _ hl).trans HX.out)
        by_cases hlt : t < n
        · have HBT := Lib.hid (HB.out.trans (HT.out.1.mono HB.out.size))
          obtain ⟨b, off, rfl, hbl, hci⟩ := HS.out (by omega)
          obtain ⟨c0, c1, c2⟩ := hci t hlt
          have x0 := (HBT.out.cell (p := ⟨b, off + t * 3, none⟩) hbl).trans c0
          have x1 := (HBT.out.cell (p := ⟨b, off + t * 3 + 1, none⟩) hbl).trans c1
          have x2 := (HBT.out.cell (p := ⟨b, off + t * 3 + 2, none⟩) hbl).trans c2
          have hlt' : (t : Int) < (n : Int) := by omega
          have HPR : Hid (SOp (o t) k → ∀ i, i < t + 1 → SOp (o i) k) := Lib.hid fun hh i hi => by
            by_cases h : i < t
            · exact HT.out.2 i h
            · obtain rfl : i = t := by omega
              exact hh
          have HNO : Hid (¬ SOp (o t) k → (false = true ↔ Snd k c n o)) := Lib.hid fun hh => HG2.out ⟨t, hlt, hh⟩
          clear c0 c1 c2 hci
          generalize o t = ot at *
          obtain ⟨ok, okey, ov⟩ := ot
          dsimp only at x0 x1 x2
          have hlw : w.heap.size < wr.heap.size := Nat.lt_of_lt_of_le hl HT.out.1.size
          have HW2 : Hid (Below wx.heap.size wx (wr.alloc (.cells #[.int .i64 ok, .int .i64 okey, .int .i64 ov] 44))) := Lib.hid (HT.out.1.alloc HT.out.1.size _)
          obtain ⟨⟨f0, f1, f2⟩, _⟩ := cells3 ((HW2.out.block _ hl).trans HX.out)
          clear f1 f2 e1 e2
          by_cases r1 : ok = 1
          · subst r1
            by_cases q1 : okey < 0
            · go_wp2
              go_ret
              exact ⟨false, rfl, HNO.out (fun h => by unfold SOp at h; dsimp only at h; omega), HB.out.trans (HW2.out.mono HB.out.size)⟩
            · by_cases q2 : 15 < okey
              · go_wp2
                go_ret
                exact ⟨false, rfl, HNO.out (fun h => by unfold SOp at h; dsimp only at h; omega), HB.out.trans (HW2.out.mono HB.out.size)⟩
              · by_cases q3 : ov < 0
                · go_wp2
                  go_ret
                  exact ⟨false, rfl, HNO.out (fun h => by unfold SOp at h; dsimp only at h; omega), HB.out.trans (HW2.out.mono HB.out.size)⟩
                · by_cases q4 : 1099511627776 ≤ ov
                  · go_wp2
                    go_ret
                    exact ⟨false, rfl, HNO.out (fun h => by unfold SOp at h; dsimp only at h; omega), HB.out.trans (HW2.out.mono HB.out.size)⟩
                  · by_cases q5 : ov = 0
                    · subst q5
                      go_wp2
                      go_roundw
                      case rel => exact ⟨t + 1, by omega, by go_num, Lib.hid ⟨HW2.out, HPR.out (by unfold SOp; dsimp only; omega)⟩⟩
                      case measure => simp [intOf]; omega
                    · have q5b : (ov == 0) = false := by rw [beq_eq_false_iff_ne]; exact q5
                      have q5c : (ov != 0) = true := by rw [bne_iff_ne]; exact q5
                      by_cases q6 : k = 1
                      · subst q6
                        go_wp2
                        go_ret
                        exact ⟨false, rfl, HNO.out (fun h => by unfold SOp at h; dsimp only at h; omega), HB.out.trans (HW2.out.mono HB.out.size)⟩
                      · have q6b : (k == 1) = false := by rw [beq_eq_false_iff_ne]; exact q6
                        go_wp2
                        go_roundw
                        case rel => exact ⟨t + 1, by omega, by go_num, Lib.hid ⟨HW2.out, HPR.out (by unfold SOp; dsimp only; omega)⟩⟩
                        case measure => simp [intOf]; omega
          · have r1b : (ok != 1) = true := by rw [bne_iff_ne]; exact r1
            have r1c : (ok == 1) = false := by rw [beq_eq_false_iff_ne]; exact r1
            by_cases r2 : ok = 2
            · subst r2
              by_cases q1 : okey < 0
              · go_wp2
                go_ret
                exact ⟨false, rfl, HNO.out (fun h => by unfold SOp at h; dsimp only at h; omega), HB.out.trans (HW2.out.mono HB.out.size)⟩
              · by_cases q2 : 15 < okey
                · go_wp2
                  go_ret
                  exact ⟨false, rfl, HNO.out (fun h => by unfold SOp at h; dsimp only at h; omega), HB.out.trans (HW2.out.mono HB.out.size)⟩
                · by_cases q3 : ov < 0
                  · go_wp2
                    go_ret
                    exact ⟨false, rfl, HNO.out (fun h => by unfold SOp at h; dsimp only at h; omega), HB.out.trans (HW2.out.mono HB.out.size)⟩
                  · by_cases q4 : 1099511627776 ≤ ov
                    · go_wp2
                      go_ret
                      exact ⟨false, rfl, HNO.out (fun h => by unfold SOp at h; dsimp only at h; omega), HB.out.trans (HW2.out.mono HB.out.size)⟩
                    · by_cases q5 : ov = 0
                      · subst q5
                        go_wp2
                        go_ret
                        exact ⟨false, rfl, HNO.out (fun h => by unfold SOp at h; dsimp only at h; omega), HB.out.trans (HW2.out.mono HB.out.size)⟩
                      · have q5b : (ov == 0) = false := by rw [beq_eq_false_iff_ne]; exact q5
                        have q5c : (ov != 0) = true := by rw [bne_iff_ne]; exact q5
                        go_wp2
                        go_roundw
                        case rel => exact ⟨t + 1, by omega, by go_num, Lib.hid ⟨HW2.out, HPR.out (by unfold SOp; dsimp only; omega)⟩⟩
                        case measure => simp [intOf]; omega
            · have r2b : (ok != 2) = true := by rw [bne_iff_ne]; exact r2
              have r2c : (ok == 2) = false := by rw [beq_eq_false_iff_ne]; exact r2
              go_wp2
              go_ret
              exact ⟨false, rfl, HNO.out (fun h => by unfold SOp at h; dsimp only at h; omega), HB.out.trans (HW2.out.mono HB.out.size)⟩
        · obtain rfl : n = t := by omega
          go_wp2
          go_ret
          exact ⟨true, rfl, ⟨fun _ => HG.out HT.out.2, fun _ => rfl⟩, HB.out.trans (HT.out.1.mono HB.out.size)⟩
    · clear HG2
      go_enter Try.func40, Try.ntmps40
      go_wp2
      rw [← ewx]
      clear ewx
      refine wp_loop_rounds 1 ?_
      rw [rounds_succ]
      go_wp2
      go_ret
      exact ⟨true, rfl, ⟨fun _ => HG.out (fun i hi => absurd hi (Nat.not_lt_zero _)), fun _ => rfl⟩, HB.out⟩

end Go.Proofs.Yteobndfkkpfnlaa

