/-
  Operations in memory; contracts of soundOp and sound.
-/
import Derived.Test.YtgpnjgpbblookaaRows
import Derived.WalkKit
import Derived.ProofKit
import Derived.OpenShut
import Derived.Below
import Derived.Lib.Hide
import Derived.Deep.AppendLies
import Derived.WalkArith
namespace Go.Proofs.Ytgpnjgpbblookaa
open Go.ChangeShapes Go.WideShapes Go.ChangeAt Go.RowKit

theorem ret_int {k : IntKind} {a b : Int} (h : a = b) : Ending.returned (.int k a) = .returned (.int k b) := by rw [h]
theorem val_int {k : IntKind} {a b : Int} (h : a = b) : Value.int k a = .int k b := by rw [h]
theorem block_add (a : Addr) (n : Nat) : (a.add n).block = a.block := by unfold Addr.add; split <;> rfl
theorem cell_lt {w : World} {a : Addr} {v : Value} (h : w.cell? a = some v) : a.block < w.heap.size := by
  rcases Nat.lt_or_ge a.block w.heap.size with h' | h'
  · exact h'
  · simp [World.cell?, Array.getElem?_eq_none h'] at h

/-- three cells of a block -/
theorem cells3 {w : World} {b t : Nat} {v0 v1 v2 : Value} (h : w.heap[b]? = some (.cells #[v0, v1, v2] t (0, 0))) :
    (w.cell? ⟨b, 0, none⟩ = some v0 ∧ w.cell? ⟨b, 1, none⟩ = some v1 ∧ w.cell? ⟨b, 2, none⟩ = some v2) ∧ ∀ j, w.frozen? ⟨b, j, none⟩ = false :=
  ⟨⟨by simp [World.cell?, h], by simp [World.cell?, h], by simp [World.cell?, h]⟩, fun j => by simp [World.frozen?, h]⟩

/-- who tells whether something holds -/
def Tells (p : Prop) (w : World) (e : Ending) (w' : World) : Prop := ∃ b : Bool, e = .returned (.bool b) ∧ (b = true ↔ p) ∧ Below w.heap.size w w'

/-- an operation -/
structure O3 where
  k : Int
  key : Int
  v : Int

/-- operations in a slice that may be anybody's -/
def OpS (w : World) (sp : Option Addr) (n : Nat) (o : Nat → O3) : Prop :=
  0 < n → ∃ b off, sp = some ⟨b, off, none⟩ ∧ b < w.heap.size ∧ ∀ i, i < n → w.cell? ⟨b, off + i * 3, none⟩ = some (.int .i64 (o i).k) ∧ w.cell? ⟨b, off + i * 3 + 1, none⟩ = some (.int .i64 (o i).key) ∧ w.cell? ⟨b, off + i * 3 + 2, none⟩ = some (.int .i64 (o i).v)
theorem OpS.below {w w' : World} {sp : Option Addr} {n : Nat} {o : Nat → O3} (h : OpS w sp n o) (hb : Below w.heap.size w w') : OpS w' sp n o := by
  intro hn
  obtain ⟨b, off, e, hl, hc⟩ := h hn
  refine ⟨b, off, e, Nat.lt_of_lt_of_le hl hb.size, fun i hi => ?_⟩
  obtain ⟨c0, c1, c2⟩ := hc i hi
  exact ⟨(hb.cell hl).trans c0, (hb.cell hl).trans c1, (hb.cell hl).trans c2⟩

/-- may an operation stand in an event of that kind? -/
def SOp (o : O3) (ev : Int) : Prop := 0 ≤ o.key ∧ o.key ≤ 15 ∧ 0 ≤ o.v ∧ o.v < 1099511627776 ∧ ((o.k = 1 ∧ (¬ ev = 1 ∨ o.v = 0)) ∨ (o.k = 2 ∧ 0 < o.v))

theorem soundOp_any (k key v ev : Int) (w : World) :
    Calls Try.prog 38 #[.agg #[.int .i64 k, .int .i64 key, .int .i64 v], .int .i64 ev] w (Tells (SOp ⟨k, key, v⟩ ev) w) := by
  have HB : Hid (Below w.heap.size w (w.alloc (.cells #[.int .i64 k, .int .i64 key, .int .i64 v] 38))) := Lib.hid ((Below.refl _ _).alloc (Nat.le_refl _) _)
  by_cases hg : key < 0 ∨ 16 ≤ key ∨ v < 0 ∨ 1099511627776 ≤ v
  · have HN : Hid (false = true ↔ SOp ⟨k, key, v⟩ ev) := Lib.hid ⟨fun h => (by cases h), fun h => (by unfold SOp at h; simp only at h; omega)⟩
    by_cases h1 : key < 0
    · clear hg
      go_enter Try.func38, Try.ntmps38
      go_wp2
      go_ret
      exact ⟨false, rfl, HN.out, HB.out⟩
    · by_cases h2 : 16 ≤ key
      · clear hg
        go_enter Try.func38, Try.ntmps38
        go_wp2
        go_ret
        exact ⟨false, rfl, HN.out, HB.out⟩
      · by_cases h3 : v < 0
        · clear hg
          go_enter Try.func38, Try.ntmps38
          go_wp2
          go_ret
          exact ⟨false, rfl, HN.out, HB.out⟩
        · have h4 : 1099511627776 ≤ v := by omega
          clear hg
          go_enter Try.func38, Try.ntmps38
          go_wp2
          go_ret
          exact ⟨false, rfl, HN.out, HB.out⟩
  · have h1 : ¬ key < 0 := by omega
    have h2 : ¬ 16 ≤ key := by omega
    have h3 : ¬ v < 0 := by omega
    have h4 : ¬ 1099511627776 ≤ v := by omega
    by_cases hk1 : k = 1
    · by_cases he : ev = 1
      · have HN : Hid ((v == 0) = true ↔ SOp ⟨k, key, v⟩ 1) := Lib.hid ⟨fun h => ⟨by simp only; omega, by simp only; omega, by simp only; omega, by simp only; omega, .inl ⟨hk1, .inr (by simpa using h)⟩⟩, fun h => by rw [beq_iff_eq]; rcases h.2.2.2.2 with ⟨_, h | h⟩ | ⟨h, _⟩ <;> first | exact absurd rfl h | exact h | (simp only at h; omega)⟩
        subst he
        subst hk1
        clear hg
        go_enter Try.func38, Try.ntmps38
        go_wp2
        go_ret
        exact ⟨_, rfl, HN.out, HB.out⟩
      · have HN : Hid (SOp ⟨k, key, v⟩ ev) := Lib.hid ⟨by simp only; omega, by simp only; omega, by simp only; omega, by simp only; omega, .inl ⟨hk1, .inl he⟩⟩
        have he' : (ev != 1) = true := by rw [bne_iff_ne]; exact he
        subst hk1
        clear hg he
        go_enter Try.func38, Try.ntmps38
        go_wp2
        go_ret
        exact ⟨true, rfl, ⟨fun _ => HN.out, fun _ => rfl⟩, HB.out⟩
    · have hk1' : (k == 1) = false := by rw [beq_eq_false_iff_ne]; exact hk1
      by_cases hk2 : k = 2
      · have HN : Hid ((decide (0 < v)) = true ↔ SOp ⟨k, key, v⟩ ev) := Lib.hid (by unfold SOp; rw [decide_eq_true_iff]; simp only; omega)
        subst hk2
        clear hg hk1 hk1'
        go_enter Try.func38, Try.ntmps38
        go_wp2
        go_ret
        exact ⟨_, rfl, HN.out, HB.out⟩
      · have HN : Hid (false = true ↔ SOp ⟨k, key, v⟩ ev) := Lib.hid ⟨fun h => (by cases h), fun h => (by unfold SOp at h; simp only at h; omega)⟩
        have hk2' : (k == 2) = false := by rw [beq_eq_false_iff_ne]; exact hk2
        clear hg hk1 hk2
        go_enter Try.func38, Try.ntmps38
        go_wp2
        go_ret
        exact ⟨_, rfl, HN.out, HB.out⟩

/-- may an event be, by itself? -/
def Snd (k c : Int) (n : Nat) (o : Nat → O3) : Prop := 1 ≤ k ∧ k ≤ 4 ∧ 1 ≤ c ∧ c ≤ 16 ∧ n ≤ 12 ∧ ¬ (n = 0 ∧ (k = 1 ∨ k = 2)) ∧ ∀ i, i < n → SOp (o i) k

set_option maxHeartbeats 1000000 in
theorem sound_any (k c : Int) (sp : Option Addr) (n cap : Nat) (o : Nat → O3) (w : World) (hn : n ≤ 9223372036854775807) (hs : OpS w sp n o) :
    Calls Try.prog 31 #[.agg #[.int .i64 k, .int .i64 c, .slice sp n cap]] w (Tells (Snd k c n o) w) := by
  have HB : Hid (Below w.heap.size w (w.alloc (.cells #[.int .i64 k, .int .i64 c, .slice sp n cap] 43))) := Lib.hid ((Below.refl _ _).alloc (Nat.le_refl _) _)
  have HS := Lib.hid hs
  clear hs
  by_cases hg : k < 1 ∨ 4 < k ∨ c < 1 ∨ 16 < c ∨ 12 < n ∨ (n = 0 ∧ (k = 1 ∨ k = 2))
  · have HN : Hid (false = true ↔ Snd k c n o) := Lib.hid ⟨fun h => (by cases h), fun h => (by unfold Snd at h; omega)⟩
    by_cases h1 : k < 1
    · clear hg
      go_enter Try.func31, Try.ntmps31
      go_wp2
      go_ret
      exact ⟨false, rfl, HN.out, HB.out⟩
    · by_cases h2 : 4 < k
      · clear hg
        go_enter Try.func31, Try.ntmps31
        go_wp2
        go_ret
        exact ⟨false, rfl, HN.out, HB.out⟩
      · by_cases h3 : c < 1
        · clear hg
          go_enter Try.func31, Try.ntmps31
          go_wp2
          go_ret
          exact ⟨false, rfl, HN.out, HB.out⟩
        · by_cases h4 : 16 < c
          · clear hg
            go_enter Try.func31, Try.ntmps31
            go_wp2
            go_ret
            exact ⟨false, rfl, HN.out, HB.out⟩
          · by_cases h5 : 12 < n
            · have h5' : (12 : Int) < (n : Int) := by omega
              clear hg
              go_enter Try.func31, Try.ntmps31
              go_wp2
              go_ret
              exact ⟨false, rfl, HN.out, HB.out⟩
            · have h6 : n = 0 ∧ (k = 1 ∨ k = 2) := by omega
              obtain ⟨rfl, hk⟩ := h6
              clear hg h5
              rcases hk with rfl | rfl
              · go_enter Try.func31, Try.ntmps31
                go_wp2
                go_ret
                exact ⟨false, rfl, HN.out, HB.out⟩
              · go_enter Try.func31, Try.ntmps31
                go_wp2
                go_ret
                exact ⟨false, rfl, HN.out, HB.out⟩
  · have h1 : ¬ k < 1 := by omega
    have h2 : ¬ 4 < k := by omega
    have h3 : ¬ c < 1 := by omega
    have h4 : ¬ 16 < c := by omega
    have h5 : ¬ (12 : Int) < (n : Int) := by omega
    have hn12 : n ≤ 12 := by omega
    have HG : Hid ((∀ i, i < n → SOp (o i) k) → Snd k c n o) := Lib.hid fun h => ⟨by omega, by omega, by omega, by omega, by omega, by omega, h⟩
    have HG2 : Hid ((∃ i, i < n ∧ ¬ SOp (o i) k) → (false = true ↔ Snd k c n o)) := Lib.hid fun ⟨i, hi, hno⟩ => ⟨fun h => (by cases h), fun h => absurd (h.2.2.2.2.2.2 i hi) hno⟩
    have hxx := heap_alloc_new w (.cells #[.int .i64 k, .int .i64 c, .slice sp n cap] 43)
    have HX := Lib.hid hxx
    have hl : w.heap.size < (w.alloc (.cells #[.int .i64 k, .int .i64 c, .slice sp n cap] 43)).heap.size := by simp
    have hz : ((n : Int) == 0) = false ∨ (n = 0 ∧ (k == 1) = false ∧ (k == 2) = false) := by
      by_cases h : n = 0
      · exact .inr ⟨h, by rw [beq_eq_false_iff_ne]; omega, by rw [beq_eq_false_iff_ne]; omega⟩
      · exact .inl (by rw [beq_eq_false_iff_ne]; omega)
    clear hg hxx
    obtain ⟨wx, ewx⟩ : ∃ wx, wx = w.alloc (.cells #[.int .i64 k, .int .i64 c, .slice sp n cap] 43) := ⟨_, rfl⟩
    rw [← ewx] at HB HX hl
    rcases hz with hz | ⟨rfl, hz1, hz2⟩
    · go_enter Try.func31, Try.ntmps31
      go_wp2
      rw [← ewx]
      clear ewx
      go_loopw [4, 42] (fun _ i wr => ∃ t : Nat, t ≤ n ∧ i = .int .i64 (t : Int) ∧ Hid (Below wx.heap.size wx wr ∧ ∀ i, i < t → SOp (o i) k)) (fun _ i _ => n - (intOf i).toNat)
      case atStart => exact ⟨0, Nat.zero_le _, rfl, Lib.hid ⟨Below.refl _ _, fun i hi => absurd hi (Nat.not_lt_zero _)⟩⟩
      case round =>
        obtain ⟨t, ht, rfl, HT⟩ := hrel
        obtain ⟨⟨e0, e1, e2⟩, _⟩ := cells3 ((HT.out.1.block _ hl).trans HX.out)
        by_cases hlt : t < n
        · have HBT := Lib.hid (HB.out.trans (HT.out.1.mono HB.out.size))
          obtain ⟨b, off, rfl, hbl, hci⟩ := HS.out (by omega)
          obtain ⟨c0, c1, c2⟩ := hci t hlt
          have x0 := (HBT.out.cell (p := ⟨b, off + t * 3, none⟩) hbl).trans c0
          have x1 := (HBT.out.cell (p := ⟨b, off + t * 3 + 1, none⟩) hbl).trans c1
          have x2 := (HBT.out.cell (p := ⟨b, off + t * 3 + 2, none⟩) hbl).trans c2
          have hlt' : (t : Int) < (n : Int) := by omega
          have HPR : Hid (SOp (o t) k → ∀ i, i < t + 1 → SOp (o i) k) := Lib.hid fun hh i hi => by
            by_cases h : i < t
            · exact HT.out.2 i h
            · obtain rfl : i = t := by omega
              exact hh
          have HNO : Hid (¬ SOp (o t) k → (false = true ↔ Snd k c n o)) := Lib.hid fun hh => HG2.out ⟨t, hlt, hh⟩
          clear c0 c1 c2 hci
          generalize o t = ot at *
          obtain ⟨ok, okey, ov⟩ := ot
          dsimp only at x0 x1 x2
          have hlw : w.heap.size < wr.heap.size := Nat.lt_of_lt_of_le hl HT.out.1.size
          have HW2 : Hid (Below wx.heap.size wx (wr.alloc (.cells #[.int .i64 ok, .int .i64 okey, .int .i64 ov] 38))) := Lib.hid (HT.out.1.alloc HT.out.1.size _)
          obtain ⟨⟨f0, f1, f2⟩, _⟩ := cells3 ((HW2.out.block _ hl).trans HX.out)
          clear f1 f2
          go_wp2_with fail
          refine (soundOp_any ok okey ov k _).mono ?_
          rintro e w3 ⟨bb, rfl, hiff, hb3⟩
          have HW3 := Lib.hid (HW2.out.trans (hb3.mono HW2.out.size))
          obtain ⟨⟨e0, e1, e2⟩, _⟩ := cells3 ((HW3.out.block _ hl).trans HX.out)
          have HIF := Lib.hid hiff
          clear hb3 hiff x0 x1 x2
          cases bb
          · go_wp2
            go_ret
            exact ⟨false, rfl, HNO.out (fun h => by have := HIF.out.2 h; cases this), HB.out.trans (HW3.out.mono HB.out.size)⟩
          · go_wp2
            go_roundw
            case rel => exact ⟨t + 1, by omega, by go_num, Lib.hid ⟨HW3.out, HPR.out (HIF.out.1 (by first | rfl | trivial))⟩⟩
            case measure => simp [intOf]; omega
        · obtain rfl : n = t := by omega
          go_wp2
          go_ret
          exact ⟨true, rfl, ⟨fun _ => HG.out HT.out.2, fun _ => rfl⟩, HB.out.trans (HT.out.1.mono HB.out.size)⟩
    · clear HG2
      go_enter Try.func31, Try.ntmps31
      go_wp2
      rw [← ewx]
      clear ewx
      refine wp_loop_rounds 1 ?_
      rw [rounds_succ]
      go_wp2
      go_ret
      exact ⟨true, rfl, ⟨fun _ => HG.out (fun i hi => absurd hi (Nat.not_lt_zero _)), fun _ => rfl⟩, HB.out⟩
end Go.Proofs.Ytgpnjgpbblookaa
