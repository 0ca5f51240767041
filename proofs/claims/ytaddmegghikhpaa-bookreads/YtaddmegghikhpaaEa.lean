/-
  Bits as lists; a writer that has a list; fits.
-/
import Derived.Test.YtaddmegghikhpaaHK
namespace Go.Proofs.Ytaddmegghikhpaa
open Go.ChangeShapes Go.WideShapes Go.ChangeAt Go.RowKit

/-- the bits L stand from place c on -/
def Sp (F : Nat → Nat) (c : Nat) (L : List Nat) : Prop := ∀ i, i < L.length → bitAt F (c + i) = L.getD i 0
def bitsL (x m : Nat) : List Nat := (List.range m).map fun i => x / 2 ^ (m - 1 - i) % 2
def numL (x : Nat) : List Nat := (List.range (2 * nz x + 1)).map (numBits x)
theorem bitsL_length (x m : Nat) : (bitsL x m).length = m := by unfold bitsL; simp
theorem numL_length (x : Nat) : (numL x).length = 2 * nz x + 1 := by unfold numL; simp
theorem bitsL_get (x m i : Nat) (h : i < m) : (bitsL x m).getD i 0 = x / 2 ^ (m - 1 - i) % 2 := by unfold bitsL; simp [h]
theorem numL_get (x i : Nat) (h : i < 2 * nz x + 1) : (numL x).getD i 0 = numBits x i := by unfold numL; simp [h]
theorem getD_left (L M : List Nat) (i : Nat) (h : i < L.length) : (L ++ M).getD i 0 = L.getD i 0 := by simp [List.getD_eq_getElem?_getD, List.getElem?_append_left h]
theorem getD_right (L M : List Nat) (i : Nat) : (L ++ M).getD (L.length + i) 0 = M.getD i 0 := by simp [List.getD_eq_getElem?_getD, List.getElem?_append_right]
theorem Sp.app {F : Nat → Nat} {c : Nat} {L M : List Nat} : Sp F c (L ++ M) ↔ (Sp F c L ∧ Sp F (c + L.length) M) := by
  constructor
  · intro h
    refine ⟨fun i hi => ?_, fun i hi => ?_⟩
    · rw [h i (by rw [List.length_append]; omega), getD_left _ _ _ hi]
    · rw [Nat.add_assoc, h (L.length + i) (by rw [List.length_append]; omega), getD_right]
  · rintro ⟨h1, h2⟩ i hi
    rw [List.length_append] at hi
    by_cases hl : i < L.length
    · rw [h1 i hl, getD_left _ _ _ hl]
    · obtain ⟨j, rfl⟩ : ∃ j, i = L.length + j := ⟨i - L.length, by omega⟩
      rw [getD_right, ← Nat.add_assoc]
      exact h2 j (by omega)

/-- a writer that has the bits L -/
def WSt (w : World) (base wb : Nat) (L : List Nat) (v : Value) : Prop := ∃ F, WR w base wb v F L.length ∧ Sp F 0 L
def PutP (base wb : Nat) (L M : List Nat) (v : Value) (w : World) (e : Ending) (w' : World) : Prop :=
  e = .returned (.tuple #[]) ∧ ∃ v', WSt w' base wb (L ++ M) v' ∧ WStep wb w v.ownBlock w' v'.ownBlock
theorem WSt.wrote {w w' : World} {base wb m : Nat} {L M : List Nat} {v : Value} {F B : Nat → Nat} (hs : Sp F 0 L) (hm : m = M.length) (hB : ∀ i, i < M.length → B i = M.getD i 0) (h : Wrote w base wb v F L.length m B w') :
    ∃ v', WSt w' base wb (L ++ M) v' ∧ WStep wb w v.ownBlock w' v'.ownBlock := by
  obtain ⟨v', F', h1, h2, h3, h4⟩ := h
  subst hm
  refine ⟨v', ⟨F', by rw [List.length_append]; exact h1, Sp.app.2 ⟨fun i hi => ?_, fun i hi => ?_⟩⟩, h4⟩
  · rw [Nat.zero_add, h2 i hi]
    have := hs i hi
    rwa [Nat.zero_add] at this
  · rw [Nat.zero_add, h3 i hi, hB i hi]
theorem put_L (w : World) (base wb : Nat) (L : List Nat) (v : Value) (x : Nat) (X z : Int) (hX : X = (x : Int)) (m : Nat) (hm : wn z = m) (h : WSt w base wb L v) (hx : x < 18446744073709551616) (hc : L.length ≤ 900000) :
    Calls Try.prog 34 #[.pointer (some ⟨wb, 0, none⟩), .int .u64 X, .int .i64 z] w (PutP base wb L (bitsL x m) v w) := by
  obtain ⟨F, h1, h2⟩ := h
  refine (put_lit w base wb v F L.length x X z hX m hm h1 hx hc).mono ?_
  rintro e w' ⟨rfl, hw⟩
  exact ⟨rfl, WSt.wrote h2 (bitsL_length x m).symm (fun i hi => by rw [bitsL_length] at hi; rw [bitsL_get x m i hi]) hw⟩
theorem num_L (w : World) (base wb : Nat) (L : List Nat) (v : Value) (x : Nat) (h : WSt w base wb L v) (hx : x < 18446744073709551616) (hc : L.length ≤ 800000) :
    Calls Try.prog 17 #[.pointer (some ⟨wb, 0, none⟩), .int .u64 (x : Int)] w (PutP base wb L (numL x) v w) := by
  obtain ⟨F, h1, h2⟩ := h
  refine (wnum_any w base wb v F L.length x h1 hx hc).mono ?_
  rintro e w' ⟨rfl, hw⟩
  exact ⟨rfl, WSt.wrote h2 (numL_length x).symm (fun i hi => by rw [numL_length] at hi; rw [numL_get x i hi]) hw⟩
theorem WSt.below {w w' : World} {base wb : Nat} {L : List Nat} {v : Value} (h : WSt w base wb L v) (hb : Below w.heap.size w w') : WSt w' base wb L v := by
  obtain ⟨F, h1, h2⟩ := h
  exact ⟨F, h1.below hb, h2⟩
theorem WStep.alloc (wb : Nat) (w : World) (o : Option Nat) (ob : Obj) : WStep wb w o (w.alloc ob) o :=
  ⟨rfl, rfl, rfl, by simp, fun k hk _ _ => heap_alloc_old _ _ hk, .inl rfl⟩
/-- another's block stays -/
theorem WSt.other {w w' : World} {base wb : Nat} {L : List Nat} {v : Value} {o' : Option Nat} (h : WSt w base wb L v) (s : WStep wb w v.ownBlock w' o') {k t : Nat} {cs : Array Value} (hk : w.heap[k]? = some (.cells cs t (0, 0))) (ht : t ≠ 5) (hne : k ≠ wb) : w'.heap[k]? = some (.cells cs t (0, 0)) := by
  obtain ⟨F, h1, _⟩ := h
  refine (s.block k ?_ hne (fun e => ?_)).trans hk
  · rcases Nat.lt_or_ge k w.heap.size with h' | h'
    · exact h'
    · rw [Array.getElem?_eq_none h'] at hk; cases hk
  · obtain ⟨cur, e1⟩ := own_cells h1.own e.symm
    rw [hk] at e1
    injection e1 with e1
    injection e1 with _ e1 _
    exact ht e1
theorem WSt.belowB {w w' : World} {base wb : Nat} {L : List Nat} {v : Value} {o' : Option Nat} (h : WSt w base wb L v) (s : WStep wb w v.ownBlock w' o') (hwb : base ≤ wb) : Below base w w' := by
  obtain ⟨F, h1, _⟩ := h
  exact s.below hwb h1.hb (fun k hk => (h1.own.lt k hk).1)

/-! may an event have bytes? -/
def FitO (t : O3) : Prop := (t.k = 1 ∨ t.k = 2) ∧ 0 ≤ t.key ∧ t.key ≤ 15 ∧ 0 ≤ t.v ∧ t.v < 1099511627776
def Fit (e : Ev) : Prop := 1 ≤ e.k ∧ e.k ≤ 4 ∧ 1 ≤ e.c ∧ e.c ≤ 16 ∧ e.n ≤ 12 ∧ ∀ i, i < e.n → FitO (e.o i)

set_option maxHeartbeats 1000000 in
theorem fitsOp_any (k key v : Int) (w : World) : Calls Try.prog 35 #[.agg #[.int .i64 k, .int .i64 key, .int .i64 v]] w (Tells (FitO ⟨k, key, v⟩) w) := by
  have HB : Hid (Below w.heap.size w (w.alloc (.cells #[.int .i64 k, .int .i64 key, .int .i64 v] 53))) := Lib.hid ((Below.refl _ _).alloc (Nat.le_refl _) _)
  have HN : Hid (∀ b : Bool, (b = true ↔ FitO ⟨k, key, v⟩) → Tells (FitO ⟨k, key, v⟩) w (.returned (.bool b)) (w.alloc (.cells #[.int .i64 k, .int .i64 key, .int .i64 v] 53))) := Lib.hid fun b h => ⟨b, rfl, h, HB.out⟩
  by_cases hk : k = 1 ∨ k = 2
  · have hkb : (k != 1) = false ∨ ((k != 1) = true ∧ (k != 2) = false) := by
      rcases hk with h | h
      · left; rw [h]; rfl
      · right; rw [h]; exact ⟨rfl, rfl⟩
    have HF : Hid ((decide (0 ≤ key) && (decide (key < 16) && (decide (0 ≤ v) && decide (v < 1099511627776)))) = true ↔ FitO ⟨k, key, v⟩) := Lib.hid (by
      unfold FitO
      simp only [Bool.and_eq_true, decide_eq_true_iff]
      constructor
      · rintro ⟨h1, h2, h3, h4⟩; exact ⟨hk, h1, by omega, h3, h4⟩
      · rintro ⟨_, h1, h2, h3, h4⟩; exact ⟨h1, by omega, h3, h4⟩)
    by_cases h1 : 0 ≤ key
    · by_cases h2 : key < 16
      · by_cases h3 : 0 ≤ v
        · by_cases h4 : v < 1099511627776
          · have HT := Lib.hid (HN.out true ⟨fun _ => HF.out.1 (by simp [h1, h2, h3, h4]), fun _ => rfl⟩)
            clear hk
            rcases hkb with h | ⟨h, h'⟩
            all_goals
              go_enter Try.func35, Try.ntmps35
              go_wp2
              go_ret
              exact HT.out
          · have HT := Lib.hid (HN.out false ⟨fun h => (by cases h), fun h => (by have := HF.out.2 h; simp [h4] at this)⟩)
            clear hk
            rcases hkb with h | ⟨h, h'⟩
            all_goals
              go_enter Try.func35, Try.ntmps35
              go_wp2
              go_ret
              exact HT.out
        · have HT := Lib.hid (HN.out false ⟨fun h => (by cases h), fun h => (by have := HF.out.2 h; simp [h3] at this)⟩)
          clear hk
          rcases hkb with h | ⟨h, h'⟩
          all_goals
            go_enter Try.func35, Try.ntmps35
            go_wp2
            go_ret
            exact HT.out
      · have HT := Lib.hid (HN.out false ⟨fun h => (by cases h), fun h => (by have := HF.out.2 h; simp [h2] at this)⟩)
        clear hk
        rcases hkb with h | ⟨h, h'⟩
        all_goals
          go_enter Try.func35, Try.ntmps35
          go_wp2
          go_ret
          exact HT.out
    · have HT := Lib.hid (HN.out false ⟨fun h => (by cases h), fun h => (by have := HF.out.2 h; simp [h1] at this)⟩)
      clear hk
      rcases hkb with h | ⟨h, h'⟩
      all_goals
        go_enter Try.func35, Try.ntmps35
        go_wp2
        go_ret
        exact HT.out
  · have h1 : (k != 1) = true := by rw [bne_iff_ne]; exact fun h => hk (.inl h)
    have h2 : (k != 2) = true := by rw [bne_iff_ne]; exact fun h => hk (.inr h)
    have HT := Lib.hid (HN.out false ⟨fun h => (by cases h), fun h => absurd h.1 hk⟩)
    clear hk
    go_enter Try.func35, Try.ntmps35
    go_wp2
    go_ret
    exact HT.out

set_option maxHeartbeats 2000000 in
theorem fits_any (k c : Int) (sp : Option Addr) (n cap : Nat) (o : Nat → O3) (w : World) (hs : OpS w sp n o) :
    Calls Try.prog 18 #[.agg #[.int .i64 k, .int .i64 c, .slice sp n cap]] w (Tells (Fit ⟨k, c, n, o⟩) w) := by
  have HB : Hid (Below w.heap.size w (w.alloc (.cells #[.int .i64 k, .int .i64 c, .slice sp n cap] 43))) := Lib.hid ((Below.refl _ _).alloc (Nat.le_refl _) _)
  have HS := Lib.hid hs
  clear hs
  by_cases hg : k < 1 ∨ 4 < k ∨ c < 1 ∨ 16 < c ∨ 12 < n
  · have HN : Hid (false = true ↔ Fit ⟨k, c, n, o⟩) := Lib.hid ⟨fun h => (by cases h), fun h => (by unfold Fit at h; dsimp only at h; omega)⟩
    by_cases h1 : k < 1
    · clear hg
      go_enter Try.func18, Try.ntmps18
      go_wp2
      go_ret
      exact ⟨false, rfl, HN.out, HB.out⟩
    · by_cases h2 : 4 < k
      · clear hg
        go_enter Try.func18, Try.ntmps18
        go_wp2
        go_ret
        exact ⟨false, rfl, HN.out, HB.out⟩
      · by_cases h3 : c < 1
        · clear hg
          go_enter Try.func18, Try.ntmps18
          go_wp2
          go_ret
          exact ⟨false, rfl, HN.out, HB.out⟩
        · by_cases h4 : 16 < c
          · clear hg
            go_enter Try.func18, Try.ntmps18
            go_wp2
            go_ret
            exact ⟨false, rfl, HN.out, HB.out⟩
          · have h5' : (12 : Int) < (n : Int) := by omega
            clear hg
            go_enter Try.func18, Try.ntmps18
            go_wp2
            go_ret
            exact ⟨false, rfl, HN.out, HB.out⟩
  · have h1 : ¬ k < 1 := by omega
    have h2 : ¬ 4 < k := by omega
    have h3 : ¬ c < 1 := by omega
    have h4 : ¬ 16 < c := by omega
    have h5 : ¬ (12 : Int) < (n : Int) := by omega
    have hn12 : n ≤ 12 := by omega
    have HG : Hid ((∀ i, i < n → FitO (o i)) → Fit ⟨k, c, n, o⟩) := Lib.hid fun h => ⟨by dsimp only; omega, by dsimp only; omega, by dsimp only; omega, by dsimp only; omega, hn12, h⟩
    have HG2 : Hid ((∃ i, i < n ∧ ¬ FitO (o i)) → (false = true ↔ Fit ⟨k, c, n, o⟩)) := Lib.hid fun ⟨i, hi, hno⟩ => ⟨fun h => (by cases h), fun h => absurd (h.2.2.2.2.2 i hi) hno⟩
    clear hg
    obtain ⟨wx, ewx⟩ : ∃ wx, wx = w.alloc (.cells #[.int .i64 k, .int .i64 c, .slice sp n cap] 43) := ⟨_, rfl⟩
    rw [← ewx] at HB
    go_enter Try.func18, Try.ntmps18
    go_wp2
    rw [← ewx]
    clear ewx
    go_loopw [4, 28] (fun _ i wr => ∃ t : Nat, t ≤ n ∧ i = .int .i64 (t : Int) ∧ Hid (Below wx.heap.size wx wr ∧ ∀ i, i < t → FitO (o i))) (fun _ i _ => n - (intOf i).toNat)
    case atStart => exact ⟨0, Nat.zero_le _, rfl, Lib.hid ⟨Below.refl _ _, fun i hi => absurd hi (Nat.not_lt_zero _)⟩⟩
    case round =>
      obtain ⟨t, ht, rfl, HT⟩ := hrel
      by_cases hlt : t < n
      · have HBT := Lib.hid (HB.out.trans (HT.out.1.mono HB.out.size))
        obtain ⟨b, off, rfl, hbl, hci⟩ := HS.out (by omega)
        obtain ⟨c0, c1, c2⟩ := hci t hlt
        have x0 := (HBT.out.cell (p := ⟨b, off + t * 3, none⟩) hbl).trans c0
        have x1 := (HBT.out.cell (p := ⟨b, off + t * 3 + 1, none⟩) hbl).trans c1
        have x2 := (HBT.out.cell (p := ⟨b, off + t * 3 + 2, none⟩) hbl).trans c2
        have hlt' : (t : Int) < (n : Int) := by omega
        have HPR : Hid (FitO (o t) → ∀ i, i < t + 1 → FitO (o i)) := Lib.hid fun hh i hi => by
          by_cases h : i < t
          · exact HT.out.2 i h
          · obtain rfl : i = t := by omega
            exact hh
        have HNO : Hid (¬ FitO (o t) → (false = true ↔ Fit ⟨k, c, n, o⟩)) := Lib.hid fun hh => HG2.out ⟨t, hlt, hh⟩
        clear c0 c1 c2 hci
        generalize o t = ot at *
        obtain ⟨ok, okey, ov⟩ := ot
        dsimp only at x0 x1 x2
        have HW2 : Hid (Below wx.heap.size wx (wr.alloc (.cells #[.int .i64 ok, .int .i64 okey, .int .i64 ov] 53))) := Lib.hid (HT.out.1.alloc HT.out.1.size _)
        go_wp2_with fail
        refine (fitsOp_any ok okey ov _).mono ?_
        rintro e w3 ⟨bb, rfl, hiff, hb3⟩
        have HW3 := Lib.hid (HW2.out.trans (hb3.mono HW2.out.size))
        have HIF := Lib.hid hiff
        clear hb3 hiff x0 x1 x2
        cases bb
        · go_wp2
          go_ret
          exact ⟨false, rfl, HNO.out (fun h => by have := HIF.out.2 h; cases this), HB.out.trans (HW3.out.mono HB.out.size)⟩
        · go_wp2
          go_roundw
          case rel => exact ⟨t + 1, by omega, by go_num, Lib.hid ⟨HW3.out, HPR.out (HIF.out.1 (by first | rfl | trivial))⟩⟩
          case measure => simp [intOf]; omega
      · obtain rfl : n = t := by omega
        go_wp2
        go_ret
        exact ⟨true, rfl, ⟨fun _ => HG.out HT.out.2, fun _ => rfl⟩, HB.out.trans (HT.out.1.mono HB.out.size)⟩
end Go.Proofs.Ytaddmegghikhpaa
