/-
  The reference's Table.
-/
import Derived.Test.YtcolcgkfppjflaaG
namespace Go.Proofs.Ytcolcgkfppjflaa
open Go.ChangeShapes Go.WideShapes Go.ChangeAt Go.RowKit
set_option linter.unusedVariables false

theorem info28 : (Try.prog.info? 28).map (fun i => (i.zero, i.size, i.bytes)) = some (some (.slice none 0 0), 1, 24) := by kernel_rfl
theorem makeT (M : Nat) (hM : M ≤ 1000) (mc : Array Value) (hmc : mc = madeCells #[.slice none 0 0] M) (w : World) :
    (Instr.makeSlice 23 (.int .i64 (M : Int)) (.int .i64 (M : Int))).run Try.prog w = .ok (.slice (some ⟨w.heap.size, 0, none⟩) M M) (w.alloc (.cells mc 28)) := by
  subst hmc
  exact run_make_row' (P := Try.prog) 23 28 (.slice none 0 0) 24 Try.underlying23 info28 rfl .i64 .i64 M (by omega) (by omega) w
/-- a table, its first t rows there -/
structure TabM (w0 w : World) (g N t : Nat) (rb : Nat → Nat) (T : Nat → Nat → Bool) : Prop where
  top : w.ownsRow w0.heap.size 28 1 (.slice (some ⟨g, 0, none⟩) N N) N (rowV (fun i => if i < t then .slice (some ⟨rb i, 0, none⟩) N N else .slice none 0 0) N)
  met : ∀ i, i < t → MetS w w0.heap.size (rb i) N (T i)
  dj : ∀ i j, i < t → j < t → rb i = rb j → i = j
  bel : Below w0.heap.size w0 w
section
variable {w0 w w' : World} {g N t : Nat} {rb : Nat → Nat} {T : Nat → Nat → Bool}
theorem TabM.below (h : TabM w0 w g N t rb T) (hb : Below w.heap.size w w') : TabM w0 w' g N t rb T :=
  ⟨own_keep h.top fun q e => hb.block q (h.top.lt q e).2, fun i hi => (h.met i hi).keep (hb.block _ (h.met i hi).lt.2), h.dj, h.bel.trans (hb.mono h.bel.size)⟩
theorem TabM.start {mc : Array Value} (hN : N ≤ 400) (hb : Below w0.heap.size w0 w) (hmc : mc = madeCells #[.slice none 0 0] N) : TabM w0 (w.alloc (.cells mc 28)) w.heap.size N 0 rb T := by
  refine ⟨⟨by rw [rowV_length]; omega, .inr ⟨w.heap.size, N, _, rfl, hb.size, heap_alloc_new _ _, Nat.le_refl _, by unfold maxLen; omega, by rw [hmc, size_madeCells]; omega, ?_⟩⟩, fun i hi => absurd hi (Nat.not_lt_zero _), fun i j hi => absurd hi (Nat.not_lt_zero _), hb.alloc hb.size _⟩
  rw [hmc, made_row, List.take_of_length_le (by rw [rowV_length]; omega)]
  rfl
theorem TabM.topAt (h : TabM w0 w g N t rb T) : g < w.heap.size ∧ w0.heap.size ≤ g ∧ ∃ cur, w.heap[g]? = some (.cells cur 28 (0, 0)) := ⟨(h.top.lt g rfl).2, (h.top.lt g rfl).1, own_cells h.top rfl⟩
theorem TabM.row (h : TabM w0 w g N t rb T) (ht : t < N) (hN : N ≤ 400) {md : Array Value} (hmd : md = madeCells #[.bool false] N) :
    TabM w0 ((w.alloc (.cells md 4)).setCell ⟨g, t, none⟩ (.slice (some ⟨w.heap.size, 0, none⟩) N N)) g N (t + 1) (fun i => if i = t then w.heap.size else rb i) (fun i => if i = t then (fun _ => false) else T i) := by
  have ha : Below w.heap.size w (w.alloc (.cells md 4)) := (Below.refl _ _).alloc (Nat.le_refl _) _
  have h1 := h.below ha
  obtain ⟨k1, k2⟩ := h1.top.stored t (.slice (some ⟨w.heap.size, 0, none⟩) N N)
  have hg := h.topAt.1
  have hst : ∀ q, q ≠ g → ((w.alloc (.cells md 4)).setCell ⟨g, t, none⟩ (.slice (some ⟨w.heap.size, 0, none⟩) N N)).heap[q]? = (w.alloc (.cells md 4)).heap[q]? := fun q hq => Below.heap_setCell _ _ _ _ hq
  refine ⟨?_, fun i hi => ?_, fun i j hi hj e => ?_, h1.bel.setCell (by exact h.topAt.2.1) _⟩
  · rw [rowV_set] at k1
    have e : (fun x => if x = t then Value.slice (some ⟨w.heap.size, 0, none⟩) N N else if x < t then .slice (some ⟨rb x, 0, none⟩) N N else .slice none 0 0) = fun i => if i < t + 1 then Value.slice (some ⟨if i = t then w.heap.size else rb i, 0, none⟩) N N else .slice none 0 0 := by
      funext x
      by_cases hx : x = t
      · rw [if_pos hx, if_pos (by omega), if_pos hx]
      · rw [if_neg hx, if_neg hx]
        by_cases hx2 : x < t
        · rw [if_pos hx2, if_pos (by omega)]
        · rw [if_neg hx2, if_neg (by omega)]
    rw [e] at k1
    exact k1
  · by_cases hit : i = t
    · rw [if_pos hit, if_pos hit]
      refine MetS.keep (w := w.alloc (.cells md 4)) ?_ (hst _ (by omega))
      rw [hmd]
      exact MetS.made hN h.bel.size
    · rw [if_neg hit, if_neg hit]
      have h2 := h1.met i (by omega)
      refine h2.keep (hst _ (fun e => ?_))
      obtain ⟨cur, e2⟩ := h1.topAt.2.2
      obtain ⟨cur', e3⟩ := own_cells h2 (g := rb i) rfl
      rw [e, e2] at e3
      injection e3 with e3
      injection e3 with _ e3 _
      cases e3
  · by_cases hit : i = t
    · by_cases hjt : j = t
      · rw [hit, hjt]
      · rw [if_pos hit, if_neg hjt] at e
        have := (h.met j (by omega)).lt.2
        omega
    · by_cases hjt : j = t
      · rw [if_neg hit, if_pos hjt] at e
        have := (h.met i (by omega)).lt.2
        omega
      · rw [if_neg hit, if_neg hjt] at e
        exact h.dj i j (by omega) (by omega) e
theorem TabM.cellTop (h : TabM w0 w g N N rb T) {i : Nat} (hi : i < N) : w.cell? ⟨g, i, none⟩ = some (.slice (some ⟨rb i, 0, none⟩) N N) := by
  rw [h.top.cellAt i (by omega), rowV_get _ _ _ hi, if_pos hi]
theorem TabM.cell (h : TabM w0 w g N N rb T) {i j : Nat} (hi : i < N) (hj : j < N) : w.cell? ⟨rb i, j, none⟩ = some (.bool (T i j)) := (h.met i hi).cell hj
/-- one cell is set -/
theorem TabM.set (h : TabM w0 w g N N rb T) {i j : Nat} (hi : i < N) : TabM w0 (w.setCell ⟨rb i, j, none⟩ (.bool true)) g N N rb (fun x y => if x = i ∧ y = j then true else T x y) := by
  have hst : ∀ q, q ≠ rb i → (w.setCell ⟨rb i, j, none⟩ (.bool true)).heap[q]? = w.heap[q]? := fun q hq => Below.heap_setCell _ _ _ _ hq
  have hgr : g ≠ rb i := fun e => by
    obtain ⟨cur, e2⟩ := h.topAt.2.2
    obtain ⟨cur', e3⟩ := own_cells (h.met i hi) (g := rb i) rfl
    rw [e, e3] at e2
    injection e2 with e3
    injection e3 with _ e3 _
    cases e3
  refine ⟨own_keep h.top fun q e => ?_, fun x hx => ?_, h.dj, h.bel.setCell (by exact (h.met i hi).lt.1) _⟩
  · have : g = q := Option.some.inj e
    rw [← this]; exact hst g hgr
  · by_cases hxi : x = i
    · subst hxi
      have := (h.met x hx).set j true
      have e : (fun y => if x = x ∧ y = j then true else T x y) = fun y => if y = j then true else T x y := by funext y; simp
      rw [e]; exact this
    · have e : (fun y => if x = i ∧ y = j then true else T x y) = T x := by funext y; rw [if_neg (fun e => hxi e.1)]
      rw [e]
      exact (h.met x hx).keep (hst _ (fun e => hxi (h.dj x i hx hi e)))
end
/-- a table as it is read -/
structure TabR (w : World) (g N : Nat) (rb : Nat → Nat) (T : Nat → Nat → Bool) : Prop where
  lt : g < w.heap.size
  top : ∀ i, i < N → w.cell? ⟨g, i, none⟩ = some (.slice (some ⟨rb i, 0, none⟩) N N) ∧ rb i < w.heap.size
  cell : ∀ i j, i < N → j < N → w.cell? ⟨rb i, j, none⟩ = some (.bool (T i j))
theorem TabR.below {w w' : World} {g N : Nat} {rb : Nat → Nat} {T : Nat → Nat → Bool} (h : TabR w g N rb T) (hb : Below w.heap.size w w') : TabR w' g N rb T :=
  ⟨Nat.lt_of_lt_of_le h.lt hb.size, fun i hi => ⟨(hb.cell (p := ⟨g, i, none⟩) h.lt).trans (h.top i hi).1, Nat.lt_of_lt_of_le (h.top i hi).2 hb.size⟩, fun i j hi hj => (hb.cell (p := ⟨rb i, j, none⟩) (h.top i hi).2).trans (h.cell i j hi hj)⟩
theorem TabM.read {w0 w : World} {g N : Nat} {rb : Nat → Nat} {T : Nat → Nat → Bool} (h : TabM w0 w g N N rb T) : TabR w g N rb T :=
  ⟨h.topAt.1, fun i hi => ⟨h.cellTop hi, (h.met i hi).lt.2⟩, fun i j hi hj => h.cell hi hj⟩
def TabP (p : Nat → Int × Int) (n N : Nat) (w : World) (e : Ending) (w' : World) : Prop :=
  ∃ g rb T, e = .returned (.slice (some ⟨g, 0, none⟩) N N) ∧ TabR w' g N rb T ∧ (∀ i j, i < N → j < N → (T i j = true ↔ adj p n i j)) ∧ Below w.heap.size w w'

set_option maxRecDepth 100000 in
set_option maxHeartbeats 4000000 in
theorem table_any (N : Nat) (a : Option Addr) (n cap : Nat) (p : Nat → Int × Int) (w : World) (hN : N ≤ 400) (hn : n ≤ 100000) (hs : PsS w a n p) :
    Calls Try.prog 14 #[.int .i64 (N : Int), .slice a n cap] w (TabP p n N w) := by
  have HS := Lib.hid hs
  clear hs
  obtain ⟨mc, hmc⟩ : ∃ mc, mc = madeCells #[.slice none 0 0] N := ⟨_, rfl⟩
  have hmk := makeT N (by omega) mc hmc
  obtain ⟨md, hmd⟩ : ∃ md, md = madeCells #[.bool false] N := ⟨_, rfl⟩
  have hmb := makeB N (by omega) md hmd
  have HMD := Lib.hid hmd
  have HT0 : Hid (TabM w (w.alloc (.cells mc 28)) w.heap.size N 0 (fun _ => 0) (fun _ _ => false)) := Lib.hid (TabM.start hN (Below.refl _ _) hmc)
  clear hmc hmd
  go_enter Try.func14, Try.ntmps14
  go_wp2
  obtain ⟨wc, ewc⟩ : ∃ wc, wc = w.alloc (.cells mc 28) := ⟨_, rfl⟩
  obtain ⟨g, eg⟩ : ∃ g, g = w.heap.size := ⟨_, rfl⟩
  rw [← ewc] at HT0 ⊢
  have HT1 : Hid (TabM w wc g N 0 (fun _ => 0) (fun _ _ => false)) := Lib.hid (by rw [eg]; exact HT0.out)
  rw [← eg]
  clear ewc eg hmk HT0
  go_loopw [6, 13] (fun _ i wr => ∃ (t : Nat) (rb : Nat → Nat) (T : Nat → Nat → Bool), t ≤ N ∧ i = .int .i64 (t : Int) ∧ Hid (TabM w wr g N t rb T ∧ ∀ i j, T i j = false)) (fun _ i _ => N - (intOf i).toNat)
  case atStart => exact ⟨0, _, _, Nat.zero_le _, rfl, Lib.hid ⟨HT1.out, fun _ _ => rfl⟩⟩
  case round =>
    obtain ⟨t, rb, T, ht, rfl, HT⟩ := hrel
    clear HT1
    by_cases hlt : t < N
    · have hlt' : (t : Int) < (N : Int) := by omega
      have h1 := HT.out.1.below ((Below.refl wr.heap.size wr).alloc (Nat.le_refl _) (.cells md 4))
      obtain ⟨c0, f0⟩ : (∃ v, (wr.alloc (.cells md 4)).cell? ⟨g, t, none⟩ = some v) ∧ (wr.alloc (.cells md 4)).frozen? ⟨g, t, none⟩ = false := ⟨⟨_, (h1.top.cellAt t (by omega)).trans (rowV_get _ _ _ hlt)⟩, h1.top.frozenAt t⟩
      obtain ⟨v0, c0⟩ := c0
      have HN := Lib.hid (HT.out.1.row hlt hN HMD.out)
      have HF : Hid (∀ i j, (if i = t then (fun _ => false) else T i) j = false) := Lib.hid fun i j => by
        by_cases h : i = t
        · rw [if_pos h]
        · rw [if_neg h]; exact HT.out.2 i j
      clear h1
      go_wp2
      go_roundw
      case rel => exact ⟨t + 1, _, _, by omega, by go_num, Lib.hid ⟨HN.out, HF.out⟩⟩
      case measure => simp [intOf]; omega
    · obtain rfl : t = N := by omega
      have HA0 : Hid (TabM w wr g t t rb T ∧ ∀ i j, i < t → j < t → (T i j = true ↔ adj p 0 i j)) := Lib.hid ⟨HT.out.1, fun i j _ _ => ⟨fun e => (by rw [HT.out.2 i j] at e; cases e), fun ⟨k, hk, _⟩ => absurd hk (Nat.not_lt_zero _)⟩⟩
      clear HT hmb
      go_wp2
      obtain ⟨wE, rfl⟩ : ∃ wE, wE = wr := ⟨_, rfl⟩
      go_loopw [8, 24] (fun _ i wr => ∃ (s : Nat) (T : Nat → Nat → Bool), s ≤ n ∧ i = .int .i64 (s : Int) ∧ Hid (TabM w wr g t t rb T ∧ ∀ i j, i < t → j < t → (T i j = true ↔ adj p s i j))) (fun _ i _ => n - (intOf i).toNat)
      case atStart => exact ⟨0, T, Nat.zero_le _, rfl, HA0⟩
      case round =>
        obtain ⟨s, T2, hs, rfl, HR⟩ := hrel
        clear HA0
        by_cases hsn : s < n
        · obtain ⟨b, off, rfl, hbl, hci⟩ := HS.out (by omega)
          obtain ⟨c0, c1⟩ := hci s hsn
          have x0 := (HR.out.1.bel.cell (p := ⟨b, off + s * 2, none⟩) hbl).trans c0
          have x1 := (HR.out.1.bel.cell (p := ⟨b, off + s * 2 + 1, none⟩) hbl).trans c1
          have hsn' : (s : Int) < (n : Int) := by omega
          clear c0 c1 hci
          obtain ⟨⟨u, v⟩, hpt⟩ : ∃ q, p s = q := ⟨_, rfl⟩
          rw [hpt] at x0 x1
          dsimp only at x0 x1
          have HPT := Lib.hid hpt
          clear hpt
          have hB1 : Below wr.heap.size wr (wr.alloc (.cells #[.int .i64 u, .int .i64 v] 27)) := (Below.refl _ _).alloc (Nat.le_refl _) _
          have HSK : Hid (¬ (0 ≤ u ∧ u < t ∧ 0 ≤ v ∧ v < t) → TabM w (wr.alloc (.cells #[.int .i64 u, .int .i64 v] 27)) g t t rb T2 ∧ ∀ i j, i < t → j < t → (T2 i j = true ↔ adj p (s + 1) i j)) := Lib.hid fun hno => ⟨HR.out.1.below hB1, fun i j hi hj => by
            rw [adj_succ, HR.out.2 i j hi hj, HPT.out]
            constructor
            · exact .inl
            · rintro (h | h)
              · exact h
              · injection h with h1 h2; exact absurd ⟨by omega, by omega, by omega, by omega⟩ hno⟩
          by_cases hu0 : 0 ≤ u
          · have hu0' : decide (0 ≤ u) = true := by simp [hu0]
            by_cases hu1 : u < t
            · have hu1' : decide (u < (t : Int)) = true := by simp [hu1]
              by_cases hv0 : 0 ≤ v
              · have hv0' : decide (0 ≤ v) = true := by simp [hv0]
                by_cases hv1 : v < t
                · have hv1' : decide (v < (t : Int)) = true := by simp [hv1]
                  obtain ⟨i, rfl⟩ : ∃ i : Nat, u = (i : Int) := ⟨u.toNat, by omega⟩
                  obtain ⟨j, rfl⟩ : ∃ j : Nat, v = (j : Int) := ⟨v.toNat, by omega⟩
                  have hi : i < t := by omega
                  have hj : j < t := by omega
                  have h1 := HR.out.1.below hB1
                  have d0 := h1.cellTop hi
                  have d1 := h1.cell hi hj
                  have d2 := (h1.met i hi).fz j
                  have HF : Hid (TabM w ((wr.alloc (.cells #[.int .i64 (i : Int), .int .i64 (j : Int)] 27)).setCell ⟨rb i, j, none⟩ (.bool true)).drew g t t rb (fun x y => if x = i ∧ y = j then true else T2 x y) ∧ ∀ x y, x < t → y < t → ((if x = i ∧ y = j then true else T2 x y) = true ↔ adj p (s + 1) x y)) := Lib.hid ⟨(h1.set hi).below (Below.refl _ _).drew, fun x y hx hy => by
                    rw [adj_succ, HPT.out, ← HR.out.2 x y hx hy]
                    by_cases hxy : x = i ∧ y = j
                    · rw [if_pos hxy, hxy.1, hxy.2]; simp
                    · rw [if_neg hxy]
                      constructor
                      · exact .inl
                      · rintro (h | h)
                        · exact h
                        · injection h with h1 h2; exact absurd ⟨by omega, by omega⟩ hxy⟩
                  clear HSK h1 hB1 hu0 hu1 hv0 hv1
                  go_wp2
                  go_region
                  go_wp2
                  go_roundw
                  case rel => exact ⟨s + 1, _, by omega, by go_num, HF⟩
                  case measure => simp [intOf]; omega
                · have hv1' : decide (v < (t : Int)) = false := by simp; omega
                  have HNO := Lib.hid (HSK.out (by omega))
                  clear HSK hB1 hu0 hu1 hv0 hv1
                  go_wp2
                  go_roundw
                  case rel => exact ⟨s + 1, T2, by omega, by go_num, HNO⟩
                  case measure => simp [intOf]; omega
              · have hv0' : decide (0 ≤ v) = false := by simp; omega
                have HNO := Lib.hid (HSK.out (by omega))
                clear HSK hB1 hu0 hu1 hv0
                go_wp2
                go_roundw
                case rel => exact ⟨s + 1, T2, by omega, by go_num, HNO⟩
                case measure => simp [intOf]; omega
            · have hu1' : decide (u < (t : Int)) = false := by simp; omega
              have HNO := Lib.hid (HSK.out (by omega))
              clear HSK hB1 hu0 hu1
              go_wp2
              go_roundw
              case rel => exact ⟨s + 1, T2, by omega, by go_num, HNO⟩
              case measure => simp [intOf]; omega
          · have hu0' : decide (0 ≤ u) = false := by simp; omega
            have HNO := Lib.hid (HSK.out (by omega))
            clear HSK hB1 hu0
            go_wp2
            go_roundw
            case rel => exact ⟨s + 1, T2, by omega, by go_num, HNO⟩
            case measure => simp [intOf]; omega
        · obtain rfl : s = n := by omega
          go_wp2
          go_ret
          exact ⟨g, rb, T2, rfl, HR.out.1.read, HR.out.2, HR.out.1.bel⟩
end Go.Proofs.Ytcolcgkfppjflaa
