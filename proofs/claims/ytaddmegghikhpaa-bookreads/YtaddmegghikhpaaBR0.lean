/-
  Contracts of the reference's functions Put (of eight bits), Bits, value and Copy: lists of noughts and ones.
-/
import Derived.Test.YtaddmegghikhpaaBG
namespace Go.Proofs.Ytaddmegghikhpaa
open Go.ChangeShapes Go.WideShapes Go.ChangeAt Go.RowKit

theorem own_below {w w' : World} {base e size n : Nat} {v : Value} {xs : List Value} (h : w.ownsRow base e size v n xs) (hb : Below w.heap.size w w') : w'.ownsRow base e size v n xs := by
  refine ⟨h.1, ?_⟩
  rcases h.2 with h0 | ⟨g, cap, cur, hv, hg, hh, hrest⟩
  · exact .inl h0
  · have hlt : g < w.heap.size := by
      rcases Nat.lt_or_ge g w.heap.size with h' | h'
      · exact h'
      · rw [Array.getElem?_eq_none h'] at hh; cases hh
    exact .inr ⟨g, cap, cur, hv, hg, (hb.block g hlt).trans hh, hrest⟩

theorem rowB_cons (b : Nat) (f h : Nat → Nat) (k : Nat) (h0 : h 0 = b) (hs : ∀ j, j < k → h (j + 1) = f j) : Value.int .u8 (b : Int) :: rowB f k = rowB h (k + 1) := by
  apply List.ext_getElem?
  intro j
  rcases j with _ | j
  · rw [rowB_get _ _ _ (by omega), h0]; rfl
  · show (rowB f k)[j]? = _
    by_cases hj : j < k
    · rw [rowB_get f k j hj, rowB_get h (k + 1) (j + 1) (by omega), hs j hj]
    · rw [List.getElem?_eq_none (by simp [rowB_length]; omega), List.getElem?_eq_none (by rw [rowB_length]; omega)]

/-- bits of a number, the highest of k first -/
def pb (x k j : Nat) : Nat := x / 2 ^ (k - 1 - j) % 2

theorem half_int (x : Nat) (k : Nat) (hx : x < 18446744073709551616) : IntKind.u64.wrap (((x / 2 ^ k : Nat) : Int) / 2) = ((x / 2 ^ (k + 1) : Nat) : Int) := by
  have h1 : x / 2 ^ k ≤ x := Nat.div_le_self _ _
  rw [Nat.pow_succ, ← Nat.div_div_eq_div_mul, IntKind.wrap_u64]; generalize x / 2 ^ k = y at *; omega

def PutPost (x k : Nat) (w : World) (e : Ending) (w' : World) : Prop :=
  ∃ g cap, e = .returned (.slice (some ⟨g, 0, none⟩) k cap) ∧ w.heap.size ≤ g ∧ w'.ownsRow w.heap.size 5 1 (.slice (some ⟨g, 0, none⟩) k cap) k (rowB (pb x k) k) ∧ Below w.heap.size w w'

set_option maxHeartbeats 1000000 in
theorem rput8 (x : Nat) (w : World) (hx : x < 18446744073709551616) :
    Calls Try.prog 38 #[.int .u64 (x : Int), .int .i64 8] w (PutPost x 8 w) := by
  have HX := Lib.hid hx
  clear hx
  obtain ⟨i0, hi, hz0, hz1, hz2⟩ := info_parts info5
  go_enter Try.func38, Try.ntmps38
  go_wp2
  go_loopw [0, 5, 6] (fun y v i wr => ∃ k g cap : Nat, k ≤ 8 ∧ i = .int .i64 (k : Int) ∧ y = .int .u64 ((x / 2 ^ k : Nat) : Int) ∧ v = .slice (some ⟨g, 0, none⟩) k cap ∧ Hid (w.heap.size ≤ g ∧ wr.ownsRow w.heap.size 5 1 (.slice (some ⟨g, 0, none⟩) k cap) k (rowB (pb x k) k) ∧ Below w.heap.size w wr)) (fun _ _ i _ => 8 - (intOf i).toNat)
  case atStart => exact ⟨0, w.heap.size, 0, by omega, rfl, by rw [Nat.pow_zero, Nat.div_one], rfl, Lib.hid ⟨Nat.le_refl _, World.ownsRow_lit w #[] 0 (Nat.le_refl _) (Nat.zero_le _) rfl, (Below.refl _ _).alloc (Nat.le_refl _) _⟩⟩
  case round =>
    obtain ⟨k, g, cap, hk, rfl, rfl, rfl, HA⟩ := hrel
    by_cases hlt : k < 8
    · have hwr : w.heap.size ≤ wr.heap.size := HA.out.2.2.size
      have hy : (x / 2 ^ k) % 2 < 2 := Nat.mod_lt _ (by decide)
      have HH := Lib.hid (half_int x k HX.out)
      obtain ⟨y, ey⟩ : ∃ y, y = x / 2 ^ k := ⟨_, rfl⟩
      rw [← ey] at hy HH ⊢
      have HY := Lib.hid ey
      clear ey
      go_wp2_with (at_builtin; refine wpList_append_own _ rfl _ _ 26 rfl w.heap.size 5 i0 (.int .u8 0) 1 1 Try.underlying26 hi hz0 hz1 hz2 rfl (by decide) _ 1 [.int .u8 ((y : Int) % 2)] rfl ?c0 ⟨g, 0, none⟩ k cap (rowB (pb x k) k) rfl ?cl ?c1 ?c2 ?c3 ?c4 ?c5 ?_)
      case c0 => exact World.ownsRow_lit wr #[.int .u8 ((y : Int) % 2)] 1 hwr (by unfold maxLen; omega) rfl
      case cl => rw [rowB_length]; omega
      case c1 =>
        intro j u hj
        have hg := (HA.out.2.1.cells (g := g) rfl) j u hj
        have hlt' := cell_lt hg
        rw [World.cell?_alloc_lt _ _ _ hlt']; exact hg
      case c2 => exact rowB_one _ _
      case c3 => unfold maxLen; omega
      case c4 => omega
      case c5 => simp; omega
      intro v5 w5 hown5 hgrow5 _
      have HB5 : Hid (Below w.heap.size w w5) := Lib.hid ((HA.out.2.2.alloc HA.out.2.2.size _).grown hgrow5 (by simp; omega) (fun q hq => by simp [Value.ownBlock] at hq; omega))
      rw [show (y : Int) % 2 = ((y % 2 : Nat) : Int) from by omega, rowB_cons (y % 2) (pb x k) (pb x (k + 1)) k (by unfold pb; rw [HY.out]; congr 3) (fun j hj => by unfold pb; congr 3; omega), Nat.add_comm 1 k] at hown5
      obtain ⟨g5, cap5, rfl, hg1, hg2⟩ := hown5.form (by omega)
      have HO5 := Lib.hid (⟨hg1, hown5, HB5.out⟩ : _ ∧ _ ∧ _)
      clear hown5 hgrow5
      go_wp2
      go_roundw
      case rel => exact ⟨k + 1, g5, cap5, by omega, by go_num, val_int HH.out, rfl, HO5⟩
      case measure => simp [intOf]; omega
    · obtain rfl : k = 8 := by omega
      go_wp2
      go_ret
      exact ⟨g, cap, rfl, HA.out.1, HA.out.2.1, HA.out.2.2⟩

/-- the bits of n bytes -/
theorem rowB_app (f h : Nat → Nat) (n m : Nat) (r : Nat → Nat) (h1 : ∀ j, j < n → r j = f j) (h2 : ∀ j, j < m → r (n + j) = h j) : rowB f n ++ rowB h m = rowB r (n + m) := by
  apply List.ext_getElem?
  intro j
  by_cases hj : j < n
  · rw [List.getElem?_append_left (by rw [rowB_length]; exact hj), rowB_get _ _ _ hj, rowB_get _ _ _ (by omega), h1 j hj]
  · rw [List.getElem?_append_right (by rw [rowB_length]; omega), rowB_length]
    by_cases hj2 : j < n + m
    · rw [rowB_get _ _ _ (by omega), rowB_get _ _ _ hj2]
      have := h2 (j - n) (by omega)
      rw [show n + (j - n) = j from by omega] at this
      rw [this]
    · rw [List.getElem?_eq_none (by rw [rowB_length]; omega), List.getElem?_eq_none (by rw [rowB_length]; omega)]

def BitsPost (f : Nat → Nat) (n : Nat) (w : World) (e : Ending) (w' : World) : Prop :=
  ∃ g cap, e = .returned (.slice (some ⟨g, 0, none⟩) (8 * n) cap) ∧ w.heap.size ≤ g ∧ w'.ownsRow w.heap.size 5 1 (.slice (some ⟨g, 0, none⟩) (8 * n) cap) (8 * n) (rowB (bitAt f) (8 * n)) ∧ Below w.heap.size w w'

set_option maxHeartbeats 1000000 in
theorem rbits_any (sp : Option Addr) (n cap : Nat) (f : Nat → Nat) (w : World) (hn : n ≤ 100000) (hf : ∀ j, f j < 256) (hs : Src w sp n f) :
    Calls Try.prog 30 #[.slice sp n cap] w (BitsPost f n w) := by
  have HS := Lib.hid hs
  have HF := Lib.hid hf
  clear hs hf
  obtain ⟨i0, hi, hz0, hz1, hz2⟩ := info_parts info5
  go_enter Try.func30, Try.ntmps30
  go_wp2
  go_loopw [3, 4, 8] (fun v _ i wr => ∃ k g cp : Nat, k ≤ n ∧ i = .int .i64 (k : Int) ∧ v = .slice (some ⟨g, 0, none⟩) (8 * k) cp ∧ Hid (w.heap.size ≤ g ∧ wr.ownsRow w.heap.size 5 1 (.slice (some ⟨g, 0, none⟩) (8 * k) cp) (8 * k) (rowB (bitAt f) (8 * k)) ∧ Below w.heap.size w wr)) (fun _ _ i _ => n - (intOf i).toNat)
  case atStart => exact ⟨0, w.heap.size, 0, Nat.zero_le _, rfl, rfl, Lib.hid ⟨Nat.le_refl _, World.ownsRow_lit w #[] 0 (Nat.le_refl _) (Nat.zero_le _) rfl, (Below.refl _ _).alloc (Nat.le_refl _) _⟩⟩
  case round =>
    obtain ⟨k, g, cp, hk, rfl, rfl, HA⟩ := hrel
    by_cases hlt : k < n
    · obtain ⟨ad, rfl, hadlt, hadc⟩ := HS.out (by omega)
      obtain ⟨b, off, spot⟩ := ad
      have h0 := hadc 0 (by omega)
      have hspot : spot = none := by simpa [Addr.add] using World.cell?_spot h0
      subst hspot
      have c1 := hadc k hlt
      rw [Go.WideShapes.add_plain] at c1
      have c2 := (HA.out.2.2.cell (p := ⟨b, off + k, none⟩) hadlt).trans c1
      have hy := HF.out k
      obtain ⟨y, ey⟩ : ∃ y, y = f k := ⟨_, rfl⟩
      rw [← ey] at c2 hy
      have HY := Lib.hid ey
      clear ey c1 h0 hadc
      go_wp2_with fail
      refine (rput8 y _ (by omega)).mono ?_
      rintro e w4 ⟨g4, cap4, rfl, hg4, hown4, hb4⟩
      have HO4 := Lib.hid hown4
      have HOV := Lib.hid (own_below HA.out.2.1 hb4)
      have HB4 := Lib.hid (HA.out.2.2.trans (hb4.mono HA.out.2.2.size))
      have hsz : w.heap.size ≤ w4.heap.size := HB4.out.size
      clear hown4 hb4
      go_wp2_with (at_builtin; refine wpList_append_own _ rfl _ _ 26 rfl w.heap.size 5 i0 (.int .u8 0) 1 1 Try.underlying26 hi hz0 hz1 hz2 rfl (by decide) _ (8 * k) (rowB (bitAt f) (8 * k)) rfl HOV.out ⟨g4, 0, none⟩ 8 cap4 (rowB (pb y 8) 8) rfl ?cl ?c1 ?c2 ?c3 ?c4 ?c5 ?_)
      case cl => rw [rowB_length]
      case c1 => intro j u hj; exact (HO4.out.cells (g := g4) rfl) j u hj
      case c2 => exact rowB_one _ _
      case c3 => unfold maxLen; omega
      case c4 => omega
      case c5 => omega
      intro v5 w5 hown5 hgrow5 _
      have HB5 : Hid (Below w.heap.size w w5) := Lib.hid (HB4.out.grown hgrow5 hsz (fun q hq => (HOV.out.lt q hq).1))
      rw [rowB_app (bitAt f) (pb y 8) (8 * k) 8 (bitAt f) (fun _ _ => rfl) (fun j hj => by unfold bitAt pb; rw [show (8 * k + j) / 8 = k from by omega, show (8 * k + j) % 8 = j from by omega, HY.out]), show 8 * k + 8 = 8 * (k + 1) from by omega] at hown5
      obtain ⟨g5, cap5, rfl, hg1, hg2⟩ := hown5.form (by omega)
      have HO5 := Lib.hid (⟨hg1, hown5, HB5.out⟩ : _ ∧ _ ∧ _)
      clear hown5 hgrow5
      go_wp2
      go_roundw
      case rel => exact ⟨k + 1, g5, cap5, by omega, by go_num, rfl, HO5⟩
      case measure => simp [intOf]; omega
    · obtain rfl : k = n := by omega
      go_wp2
      go_ret
      exact ⟨g, cp, rfl, HA.out.1, HA.out.2.1, HA.out.2.2⟩
end Go.Proofs.Ytaddmegghikhpaa
