/-
  Contracts of the reference's functions Put (of eight bits), Bits, value and Copy: lists of noughts and ones.
  Contract of the reference's function Put, of any number of bits; append of noughts.
  A law of append: noughts that 'append(x, make([]byte, m)...)' lays behind a row of one's own.
  Contract of the reference's function Num: a number's bits.
  Contracts of the reference's functions value and Get: bits at the front.
  Contracts of the reference's functions Num, Int and Bytes.
  Contracts of the reference's functions ReadNum and ReadInt: a number at the front, or why there is none.
-/
import Derived.Test.YtccpfoimedjdgaaJ01
import Derived.Deep.CutRange
import Derived.Deep.RegionHeld3
import Derived.Deep.AppendLies

namespace Go.Proofs.Ytccpfoimedjdgaa
open Go.ChangeShapes Go.WideShapes Go.ChangeAt Go.RowKit

set_option maxRecDepth 100000 in
theorem own_below {w w' : World} {base e size n : Nat} {v : Value} {xs : List Value} (h : w.ownsRow base e size v n xs) (hb : Below w.heap.size w w') : w'.ownsRow base e size v n xs := by
  refine ⟨h.1, ?_⟩
  rcases h.2 with h0 | ⟨g, cap, cur, hv, hg, hh, hrest⟩
  · exact .inl h0
  · have hlt : g < w.heap.size := by
      rcases Nat.lt_or_ge g w.heap.size with h' | h'
      · exact h'
      · rw [Array.getElem?_eq_none h'] at hh; cases hh
    exact .inr ⟨g, cap, cur, hv, hg, (hb.block g hlt).trans hh, hrest⟩

set_option maxRecDepth 100000 in
theorem rowB_cons (b : Nat) (f h : Nat → Nat) (k : Nat) (h0 : h 0 = b) (hs : ∀ j, j < k → h (j + 1) = f j) : Value.int .u8 (b : Int) :: rowB f k = rowB h (k + 1) := by
  apply List.ext_getElem?
  intro j
  rcases j with _ | j
  · rw [rowB_get _ _ _ (by omega), h0]; rfl
  · show (rowB f k)[j]? = _
    by_cases hj : j < k
    · rw [rowB_get f k j hj, rowB_get h (k + 1) (j + 1) (by omega), hs j hj]
    · rw [List.getElem?_eq_none (by simp [rowB_length]; omega), List.getElem?_eq_none (by rw [rowB_length]; omega)]

/-- bits of a number, the highest of k first -/
def pb (x k j : Nat) : Nat := x / 2 ^ (k - 1 - j) % 2

set_option maxRecDepth 100000 in
theorem half_int (x : Nat) (k : Nat) (hx : x < 18446744073709551616) : IntKind.u64.wrap (((x / 2 ^ k : Nat) : Int) / 2) = ((x / 2 ^ (k + 1) : Nat) : Int) := by
  have h1 : x / 2 ^ k ≤ x := Nat.div_le_self _ _
  rw [Nat.pow_succ, ← Nat.div_div_eq_div_mul, IntKind.wrap_u64]; generalize x / 2 ^ k = y at *; omega

def PutPost (x k : Nat) (w : World) (e : Ending) (w' : World) : Prop :=
  ∃ g cap, e = .returned (.slice (some ⟨g, 0, none⟩) k cap) ∧ w.heap.size ≤ g ∧ w'.ownsRow w.heap.size 5 1 (.slice (some ⟨g, 0, none⟩) k cap) k (rowB (pb x k) k) ∧ Below w.heap.size w w'

set_option maxRecDepth 100000 in
set_option maxHeartbeats 1000000 in
theorem rput8 (x : Nat) (w : World) (hx : x < 18446744073709551616) :
    Calls Try.prog 37 #[.int .u64 (x : Int), .int .i64 8] w (PutPost x 8 w) := by
  have HX := Lib.hid hx
  clear hx
  obtain ⟨i0, hi, hz0, hz1, hz2⟩ := info_parts info5
  go_enter Try.func37, Try.ntmps37
  go_wp2
  go_loopw [0, 5, 6] (fun y v i wr => ∃ k g cap : Nat, k ≤ 8 ∧ i = .int .i64 (k : Int) ∧ y = .int .u64 ((x / 2 ^ k : Nat) : Int) ∧ v = .slice (some ⟨g, 0, none⟩) k cap ∧ Hid (w.heap.size ≤ g ∧ wr.ownsRow w.heap.size 5 1 (.slice (some ⟨g, 0, none⟩) k cap) k (rowB (pb x k) k) ∧ Below w.heap.size w wr)) (fun _ _ i _ => 8 - (intOf i).toNat)
  case atStart => exact ⟨0, w.heap.size, 0, by omega, rfl, by rw [Nat.pow_zero, Nat.div_one], rfl, Lib.hid ⟨Nat.le_refl _, World.ownsRow_lit w #[] 0 (Nat.le_refl _) (Nat.zero_le _) rfl, (Below.refl _ _).alloc (Nat.le_refl _) _⟩⟩
  case round =>
    obtain ⟨k, g, cap, hk, rfl, rfl, rfl, HA⟩ := hrel
    by_cases hlt : k < 8
    · have hwr : w.heap.size ≤ wr.heap.size := HA.out.2.2.size
      have hy : (x / 2 ^ k) % 2 < 2 := Nat.mod_lt _ (by decide)
      have HH := Lib.hid (half_int x k HX.out)
      obtain ⟨y, ey⟩ : ∃ y, y = x / 2 ^ k := ⟨_, rfl⟩
      rw [← ey] at hy HH ⊢
      have HY := Lib.hid ey
      clear ey
      go_wp2_with (at_builtin; refine wpList_append_own _ rfl _ _ 23 rfl w.heap.size 5 i0 (.int .u8 0) 1 1 Try.underlying23 hi hz0 hz1 hz2 rfl (by decide) _ 1 [.int .u8 ((y : Int) % 2)] rfl ?c0 ⟨g, 0, none⟩ k cap (rowB (pb x k) k) rfl ?cl ?c1 ?c2 ?c3 ?c4 ?c5 ?_)
      case c0 => exact World.ownsRow_lit wr #[.int .u8 ((y : Int) % 2)] 1 hwr (by unfold maxLen; omega) rfl
      case cl => rw [rowB_length]; omega
      case c1 =>
        intro j u hj
        have hg := (HA.out.2.1.cells (g := g) rfl) j u hj
        have hlt' := cell_lt hg
        rw [World.cell?_alloc_lt _ _ _ hlt']; exact hg
      case c2 => exact rowB_one _ _
      case c3 => unfold maxLen; omega
      case c4 => omega
      case c5 => simp; omega
      intro v5 w5 hown5 hgrow5 _
      have HB5 : Hid (Below w.heap.size w w5) := Lib.hid ((HA.out.2.2.alloc HA.out.2.2.size _).grown hgrow5 (by simp; omega) (fun q hq => by simp [Value.ownBlock] at hq; omega))
      rw [show (y : Int) % 2 = ((y % 2 : Nat) : Int) from by omega, rowB_cons (y % 2) (pb x k) (pb x (k + 1)) k (by unfold pb; rw [HY.out]; congr 3) (fun j hj => by unfold pb; congr 3; omega), Nat.add_comm 1 k] at hown5
      obtain ⟨g5, cap5, rfl, hg1, hg2⟩ := hown5.form (by omega)
      have HO5 := Lib.hid (⟨hg1, hown5, HB5.out⟩ : _ ∧ _ ∧ _)
      clear hown5 hgrow5
      go_wp2
      go_roundw
      case rel => exact ⟨k + 1, g5, cap5, by omega, by go_num, val_int HH.out, rfl, HO5⟩
      case measure => simp [intOf]; omega
    · obtain rfl : k = 8 := by omega
      go_wp2
      go_ret
      exact ⟨g, cap, rfl, HA.out.1, HA.out.2.1, HA.out.2.2⟩

set_option maxRecDepth 100000 in
/-- the bits of n bytes -/
theorem rowB_app (f h : Nat → Nat) (n m : Nat) (r : Nat → Nat) (h1 : ∀ j, j < n → r j = f j) (h2 : ∀ j, j < m → r (n + j) = h j) : rowB f n ++ rowB h m = rowB r (n + m) := by
  apply List.ext_getElem?
  intro j
  by_cases hj : j < n
  · rw [List.getElem?_append_left (by rw [rowB_length]; exact hj), rowB_get _ _ _ hj, rowB_get _ _ _ (by omega), h1 j hj]
  · rw [List.getElem?_append_right (by rw [rowB_length]; omega), rowB_length]
    by_cases hj2 : j < n + m
    · rw [rowB_get _ _ _ (by omega), rowB_get _ _ _ hj2]
      have := h2 (j - n) (by omega)
      rw [show n + (j - n) = j from by omega] at this
      rw [this]
    · rw [List.getElem?_eq_none (by rw [rowB_length]; omega), List.getElem?_eq_none (by rw [rowB_length]; omega)]

def BitsPost (f : Nat → Nat) (n : Nat) (w : World) (e : Ending) (w' : World) : Prop :=
  ∃ g cap, e = .returned (.slice (some ⟨g, 0, none⟩) (8 * n) cap) ∧ w.heap.size ≤ g ∧ w'.ownsRow w.heap.size 5 1 (.slice (some ⟨g, 0, none⟩) (8 * n) cap) (8 * n) (rowB (bitAt f) (8 * n)) ∧ Below w.heap.size w w'

set_option maxRecDepth 100000 in
set_option maxHeartbeats 1000000 in
theorem rbits_any (sp : Option Addr) (n cap : Nat) (f : Nat → Nat) (w : World) (hn : n ≤ 1000000) (hf : ∀ j, f j < 256) (hs : Src w sp n f) :
    Calls Try.prog 21 #[.slice sp n cap] w (BitsPost f n w) := by
  have HS := Lib.hid hs
  have HF := Lib.hid hf
  clear hs hf
  obtain ⟨i0, hi, hz0, hz1, hz2⟩ := info_parts info5
  go_enter Try.func21, Try.ntmps21
  go_wp2
  go_loopw [3, 4, 8] (fun v _ i wr => ∃ k g cp : Nat, k ≤ n ∧ i = .int .i64 (k : Int) ∧ v = .slice (some ⟨g, 0, none⟩) (8 * k) cp ∧ Hid (w.heap.size ≤ g ∧ wr.ownsRow w.heap.size 5 1 (.slice (some ⟨g, 0, none⟩) (8 * k) cp) (8 * k) (rowB (bitAt f) (8 * k)) ∧ Below w.heap.size w wr)) (fun _ _ i _ => n - (intOf i).toNat)
  case atStart => exact ⟨0, w.heap.size, 0, Nat.zero_le _, rfl, rfl, Lib.hid ⟨Nat.le_refl _, World.ownsRow_lit w #[] 0 (Nat.le_refl _) (Nat.zero_le _) rfl, (Below.refl _ _).alloc (Nat.le_refl _) _⟩⟩
  case round =>
    obtain ⟨k, g, cp, hk, rfl, rfl, HA⟩ := hrel
    by_cases hlt : k < n
    · obtain ⟨ad, rfl, hadlt, hadc⟩ := HS.out (by omega)
      obtain ⟨b, off, spot⟩ := ad
      have h0 := hadc 0 (by omega)
      have hspot : spot = none := by simpa [Addr.add] using World.cell?_spot h0
      subst hspot
      have c1 := hadc k hlt
      rw [Go.WideShapes.add_plain] at c1
      have c2 := (HA.out.2.2.cell (p := ⟨b, off + k, none⟩) hadlt).trans c1
      have hy := HF.out k
      obtain ⟨y, ey⟩ : ∃ y, y = f k := ⟨_, rfl⟩
      rw [← ey] at c2 hy
      have HY := Lib.hid ey
      clear ey c1 h0 hadc
      go_wp2_with fail
      refine (rput8 y _ (by omega)).mono ?_
      rintro e w4 ⟨g4, cap4, rfl, hg4, hown4, hb4⟩
      have HO4 := Lib.hid hown4
      have HOV := Lib.hid (own_below HA.out.2.1 hb4)
      have HB4 := Lib.hid (HA.out.2.2.trans (hb4.mono HA.out.2.2.size))
      have hsz : w.heap.size ≤ w4.heap.size := HB4.out.size
      clear hown4 hb4
      go_wp2_with (at_builtin; refine wpList_append_own _ rfl _ _ 23 rfl w.heap.size 5 i0 (.int .u8 0) 1 1 Try.underlying23 hi hz0 hz1 hz2 rfl (by decide) _ (8 * k) (rowB (bitAt f) (8 * k)) rfl HOV.out ⟨g4, 0, none⟩ 8 cap4 (rowB (pb y 8) 8) rfl ?cl ?c1 ?c2 ?c3 ?c4 ?c5 ?_)
      case cl => rw [rowB_length]
      case c1 => intro j u hj; exact (HO4.out.cells (g := g4) rfl) j u hj
      case c2 => exact rowB_one _ _
      case c3 => unfold maxLen; omega
      case c4 => omega
      case c5 => omega
      intro v5 w5 hown5 hgrow5 _
      have HB5 : Hid (Below w.heap.size w w5) := Lib.hid (HB4.out.grown hgrow5 hsz (fun q hq => (HOV.out.lt q hq).1))
      rw [rowB_app (bitAt f) (pb y 8) (8 * k) 8 (bitAt f) (fun _ _ => rfl) (fun j hj => by unfold bitAt pb; rw [show (8 * k + j) / 8 = k from by omega, show (8 * k + j) % 8 = j from by omega, HY.out]), show 8 * k + 8 = 8 * (k + 1) from by omega] at hown5
      obtain ⟨g5, cap5, rfl, hg1, hg2⟩ := hown5.form (by omega)
      have HO5 := Lib.hid (⟨hg1, hown5, HB5.out⟩ : _ ∧ _ ∧ _)
      clear hown5 hgrow5
      go_wp2
      go_roundw
      case rel => exact ⟨k + 1, g5, cap5, by omega, by go_num, rfl, HO5⟩
      case measure => simp [intOf]; omega
    · obtain rfl : k = n := by omega
      go_wp2
      go_ret
      exact ⟨g, cp, rfl, HA.out.1, HA.out.2.1, HA.out.2.2⟩

end Go.Proofs.Ytccpfoimedjdgaa

namespace Go.Proofs.Ytccpfoimedjdgaa
open Go.ChangeShapes Go.WideShapes Go.ChangeAt Go.RowKit

set_option maxRecDepth 100000 in
set_option maxHeartbeats 1000000 in
theorem rput_any (x : Nat) (z : Int) (m : Nat) (w : World) (hx : x < 18446744073709551616) (hm : wn z = m) :
    Calls Try.prog 37 #[.int .u64 (x : Int), .int .i64 z] w (PutPost x m w) := by
  have HX := Lib.hid hx
  have hw := wn_le z
  rw [hm] at hw
  have HZ : Hid ((z < 0 → m = 0) ∧ (64 < z → m = 64) ∧ (0 ≤ z → z ≤ 64 → z = (m : Int))) := Lib.hid ⟨fun h => by rw [← hm]; exact wn_neg z h, fun h => by rw [← hm]; exact wn_top z h, fun h h' => by rw [← hm]; exact (wn_mid z h h').symm⟩
  clear hx hm
  obtain ⟨i0, hi, hz0, hz1, hz2⟩ := info_parts info5
  go_enter Try.func37, Try.ntmps37
  go_upto_if 8 with (fail)
  go_cut [1] from 7 (fun v wc => ∃ zz : Int, v = .int .i64 zz ∧ (zz = (m : Int) ∨ (zz < 0 ∧ m = 0)) ∧ w = wc)
  case first =>
    by_cases h64 : 64 < z
    · have hm := HZ.out.2.1 h64
      subst hm
      go_wp2
      go_meet
      exact ⟨64, rfl, .inl rfl, rfl⟩
    · have HQ : Hid (z = (m : Int) ∨ (z < 0 ∧ m = 0)) := Lib.hid (by
        by_cases h0 : z < 0
        · exact .inr ⟨h0, HZ.out.1 h0⟩
        · exact .inl (HZ.out.2.2 (by omega) (by omega)))
      go_wp2
      go_meet
      exact ⟨z, rfl, HQ.out, rfl⟩
  case rest =>
  obtain ⟨zz, rfl, hzz, rfl⟩ := hcut
  go_wp2
  go_loopw [0, 5, 6] (fun y v i wr => ∃ k g cap : Nat, k ≤ m ∧ i = .int .i64 (k : Int) ∧ y = .int .u64 ((x / 2 ^ k : Nat) : Int) ∧ v = .slice (some ⟨g, 0, none⟩) k cap ∧ Hid (w.heap.size ≤ g ∧ wr.ownsRow w.heap.size 5 1 (.slice (some ⟨g, 0, none⟩) k cap) k (rowB (pb x k) k) ∧ Below w.heap.size w wr)) (fun _ _ i _ => m - (intOf i).toNat)
  case atStart => exact ⟨0, w.heap.size, 0, by omega, rfl, by rw [Nat.pow_zero, Nat.div_one], rfl, Lib.hid ⟨Nat.le_refl _, World.ownsRow_lit w #[] 0 (Nat.le_refl _) (Nat.zero_le _) rfl, (Below.refl _ _).alloc (Nat.le_refl _) _⟩⟩
  case round =>
    obtain ⟨k, g, cap, hk, rfl, rfl, rfl, HA⟩ := hrel
    by_cases hlt : k < m
    · have hlt' : (k : Int) < zz := by omega
      have hwr : w.heap.size ≤ wr.heap.size := HA.out.2.2.size
      have hy : (x / 2 ^ k) % 2 < 2 := Nat.mod_lt _ (by decide)
      have HH := Lib.hid (half_int x k HX.out)
      obtain ⟨y, ey⟩ : ∃ y, y = x / 2 ^ k := ⟨_, rfl⟩
      rw [← ey] at hy HH ⊢
      have HY := Lib.hid ey
      have HZZ := Lib.hid hzz
      clear ey hzz
      go_wp2_with (at_builtin; refine wpList_append_own _ rfl _ _ 23 rfl w.heap.size 5 i0 (.int .u8 0) 1 1 Try.underlying23 hi hz0 hz1 hz2 rfl (by decide) _ 1 [.int .u8 ((y : Int) % 2)] rfl ?c0 ⟨g, 0, none⟩ k cap (rowB (pb x k) k) rfl ?cl ?c1 ?c2 ?c3 ?c4 ?c5 ?_)
      case c0 => exact World.ownsRow_lit wr #[.int .u8 ((y : Int) % 2)] 1 hwr (by unfold maxLen; omega) rfl
      case cl => rw [rowB_length]; omega
      case c1 =>
        intro j u hj
        have hg := (HA.out.2.1.cells (g := g) rfl) j u hj
        have hlt' := cell_lt hg
        rw [World.cell?_alloc_lt _ _ _ hlt']; exact hg
      case c2 => exact rowB_one _ _
      case c3 => unfold maxLen; omega
      case c4 => omega
      case c5 => simp; omega
      intro v5 w5 hown5 hgrow5 _
      have HB5 : Hid (Below w.heap.size w w5) := Lib.hid ((HA.out.2.2.alloc HA.out.2.2.size _).grown hgrow5 (by simp; omega) (fun q hq => by simp [Value.ownBlock] at hq; omega))
      rw [show (y : Int) % 2 = ((y % 2 : Nat) : Int) from by omega, rowB_cons (y % 2) (pb x k) (pb x (k + 1)) k (by unfold pb; rw [HY.out]; congr 3) (fun j hj => by unfold pb; congr 3; omega), Nat.add_comm 1 k] at hown5
      obtain ⟨g5, cap5, rfl, hg1, hg2⟩ := hown5.form (by omega)
      have HO5 := Lib.hid (⟨hg1, hown5, HB5.out⟩ : _ ∧ _ ∧ _)
      clear hown5 hgrow5
      go_wp2
      go_roundw
      case rel => exact ⟨k + 1, g5, cap5, by omega, by go_num, val_int HH.out, rfl, HO5⟩
      case measure => simp [intOf]; omega
    · obtain rfl : k = m := by omega
      have hlt' : ¬ (k : Int) < zz := by omega
      have HZZ := Lib.hid hzz
      clear hzz
      go_wp2
      go_ret
      exact ⟨g, cap, rfl, HA.out.1, HA.out.2.1, HA.out.2.2⟩

end Go.Proofs.Ytccpfoimedjdgaa

namespace Go.Proofs.Ytccpfoimedjdgaa
open Go.ChangeShapes Go.WideShapes Go.ChangeAt Go.RowKit

set_option maxRecDepth 100000 in
theorem zeroCells_u8 (m : Nat) : Builtin.zeroCells #[Value.int .u8 0] m = (List.replicate m (Value.int .u8 0)).toArray := by
  apply Array.ext'
  apply List.ext_getElem?
  intro j
  simp [Builtin.zeroCells, Nat.mod_one]
  by_cases h : j < m
  · simp [h]
  · simp [h]

set_option maxRecDepth 100000 in
theorem rowB_rep (m : Nat) : List.replicate m (Value.int .u8 0) = rowB (fun _ => 0) m := by
  apply List.ext_getElem?
  intro j
  by_cases hj : j < m
  · rw [rowB_get _ _ _ hj]; simp [hj]
  · rw [List.getElem?_eq_none (by simpa using hj), List.getElem?_eq_none (by rw [rowB_length]; omega)]

set_option maxRecDepth 100000 in
theorem under3 : Try.prog.underlying 3 = some (.int .i64) := by kernel_rfl

set_option maxRecDepth 100000 in
theorem run_append_noughts_room (w : World) (ty : TypeId) (i : TypeInfo) (hi : Try.prog.info? 5 = some i) (hz : i.zero = some (.int .u8 0)) (hs : i.size = 1) (hb : i.bytes = 1)
    (g sLen sCap m : Nat) (cur : Array Value) (hg : w.heap[g]? = some (.cells cur 5 (0, 0))) (hm : 0 < m) (hm2 : m ≤ 1000) (hroom : sLen + m ≤ sCap) (hfit : sLen + m ≤ cur.size) :
    (Builtin.append_ #[23, 3] ty #[.slice (some ⟨g, 0, none⟩) sLen sCap, .int .i64 (m : Int)]).run Try.prog w =
      .ok (.slice (some ⟨g, 0, none⟩) (sLen + m) sCap) (w.setRow g (cur.toList.take sLen ++ List.replicate m (Value.int .u8 0) ++ cur.toList.drop (sLen + m)).toArray) := by
  have hst := run_storeCells_at Try.prog g sLen 5 (List.replicate m (Value.int .u8 0)) 0 cur w hg (by simpa using hfit) (by intro u hu; rw [List.mem_replicate] at hu; rw [hu.2]; rfl)
  simp only [Nat.add_zero, List.length_replicate] at hst
  have e1 : IntKind.i64.wrap (m : Int) = (m : Int) := by rw [IntKind.wrap_i64]; omega
  have e2 : ¬ ((m : Int) < 0) := by omega
  have e3 : ¬ (281474976710656 < (m : Int)) := by omega
  have e4 : ¬ (m = 0) := by omega
  have e5 : (Value.int .u8 0).cells = #[Value.int .u8 0] := rfl
  simp [Builtin.append_, run_underlying Try.underlying23, run_underlying under3, sizeOf, typeInfo, zeroValue, hi, hz, hs, hb, asInt, asIntOf, e1, e2, e3, e4, e5, hroom, zeroCells_u8, Addr.add_lit, hst]

set_option maxRecDepth 100000 in
theorem run_append_noughts_grow (w : World) (ty : TypeId) (i : TypeInfo) (hi : Try.prog.info? 5 = some i) (hz : i.zero = some (.int .u8 0)) (hs : i.size = 1) (hb : i.bytes = 1)
    (g sLen sCap m : Nat) (olds : List Value) (hlo : olds.length = sLen) (holds : ∀ j v, olds[j]? = some v → w.cell? ((⟨g, 0, none⟩ : Addr).add j) = some v) (hm : 0 < m) (hm2 : m ≤ 1000) (hl2 : sLen ≤ 1000) (hroom : sCap < sLen + m) :
    (Builtin.append_ #[23, 3] ty #[.slice (some ⟨g, 0, none⟩) sLen sCap, .int .i64 (m : Int)]).run Try.prog w =
      .ok (.slice (some ⟨w.heap.size, 0, none⟩) (sLen + m) (grownCap w (sLen + m) sCap 5)) (w.drew.alloc (.cells (olds.toArray ++ (List.replicate m (Value.int .u8 0)).toArray ++ Builtin.zeroCells #[Value.int .u8 0] (grownCap w (sLen + m) sCap 5 - (sLen + m))) 5)) := by
  have hn : ¬ (sLen + m ≤ sCap) := by omega
  have h63' : ¬ (9223372036854775807 < ((sLen : Int) + (m : Int))) := by omega
  have h48' : ¬ (281474976710656 < Builtin.nextslicecap (sLen + m) sCap) := by
    have := growslice_fits (bytes := 1) (show sCap < sLen + m from hroom) (by omega)
    omega
  have hfo := run_firstCells_some (P := Try.prog) w.drew 1 sLen ⟨g, 0, none⟩ sLen sCap olds (by omega) (by simpa using holds)
  have e1 : IntKind.i64.wrap (m : Int) = (m : Int) := by rw [IntKind.wrap_i64]; omega
  have e2 : ¬ ((m : Int) < 0) := by omega
  have e3 : ¬ (281474976710656 < (m : Int)) := by omega
  have e4 : ¬ (m = 0) := by omega
  have e5 : (Value.int .u8 0).cells = #[Value.int .u8 0] := rfl
  simp [Builtin.append_, run_underlying Try.underlying23, run_underlying under3, sizeOf, typeInfo, zeroValue, hi, hz, hs, hb, asInt, asIntOf, e1, e2, e3, e4, e5, hn, h63', h48', Question.forced, hfo, newRow, grownCap, zeroCells_u8]

set_option maxRecDepth 100000 in
theorem run_append_noughts (w : World) (ty : TypeId) (i : TypeInfo) (hi : Try.prog.info? 5 = some i) (hz : i.zero = some (.int .u8 0)) (hs : i.size = 1) (hb : i.bytes = 1)
    (base g n cap m : Nat) (xs : List Value) (hown : w.ownsRow base 5 1 (.slice (some ⟨g, 0, none⟩) n cap) n xs) (hm : 0 < m) (hm2 : m ≤ 1000) (hn : n ≤ 1000) (hbase : base ≤ w.heap.size) :
    ∃ g' cap' w', (Builtin.append_ #[23, 3] ty #[.slice (some ⟨g, 0, none⟩) n cap, .int .i64 (m : Int)]).run Try.prog w = .ok (.slice (some ⟨g', 0, none⟩) (n + m) cap') w' ∧
      w'.ownsRow base 5 1 (.slice (some ⟨g', 0, none⟩) (n + m) cap') (n + m) (xs ++ List.replicate m (Value.int .u8 0)) ∧ w.grownBy w' (some g) := by
  have hl : xs.length = n := by have := hown.1; omega
  have hlen : (xs ++ List.replicate m (Value.int .u8 0)).length = (n + m) * 1 := by rw [List.length_append, hl, List.length_replicate]; omega
  rcases hown.2 with ⟨e, _⟩ | ⟨g1, cap1, cur, e, hbg, hg, hnc, hcm, hcs, htake⟩
  · cases e
  · injection e with e1 e2 e3
    injection e1 with e1
    injection e1 with e1
    subst e1
    subst e3
    by_cases hroom : n + m ≤ cap
    · have hr := run_append_noughts_room w ty i hi hz hs hb g n cap m cur hg hm hm2 hroom (by omega)
      refine ⟨_, _, _, hr, ⟨hlen, .inr ⟨g, cap, _, rfl, hbg, setRow_heap w g cur _ 5 _ hg, hroom, hcm, ?_, ?_⟩⟩, ⟨rfl, rfl, rfl, by simp, fun k _ hk => setRow_other w g k _ (fun e => hk (by rw [e]))⟩⟩
      · simp only [List.size_toArray, List.length_append, List.length_take, List.length_drop, Array.length_toList, List.length_replicate]
        omega
      · rw [Nat.mul_one] at htake
        rw [htake, ← hlen]
        exact List.take_left
    · have hr := run_append_noughts_grow w ty i hi hz hs hb g n cap m xs hl (hown.cells (g := g) rfl) hm hm2 hn (by omega)
      have hge := grownCap_ge w (n + m) cap 5
      have hcm2 : grownCap w (n + m) cap 5 ≤ maxLen := grownCap_le_maxLen w (n + m) cap 5 (by unfold maxLen; omega)
      refine ⟨_, _, _, hr, ⟨hlen, .inr ⟨w.heap.size, _, _, rfl, hbase, heap_alloc_new w.drew _, hge, hcm2, ?_, ?_⟩⟩, ⟨rfl, rfl, rfl, by simp, fun k hk _ => heap_alloc_old w.drew _ hk⟩⟩
      · simp only [Array.size_append, List.size_toArray, size_zeroCells, List.length_replicate, hl]
        simp
        omega
      · simp only [Array.toList_append, List.append_assoc]
        rw [← List.append_assoc, ← hlen]
        exact List.take_left

set_option maxRecDepth 100000 in
theorem wpList_append_noughts {ops : Array Oper} {rest : List Oper} {o : Oper} {a : Act} {Q : Exit → Act → World → Prop} (w : World) (hgd : o.guard = none) (s x : Operand)
    (ho : o.op = .call { callee := .builtin .append, args := #[s, x], argTypes := #[23, 3] }) (i : TypeInfo) (hi : Try.prog.info? 5 = some i) (hz : i.zero = some (.int .u8 0)) (hs : i.size = 1) (hb : i.bytes = 1)
    (base g n cap m : Nat) (xs : List Value) (hsv : a.eval s = .slice (some ⟨g, 0, none⟩) n cap) (hxv : a.eval x = .int .i64 (m : Int)) (hown : w.ownsRow base 5 1 (.slice (some ⟨g, 0, none⟩) n cap) n xs) (hm : 0 < m) (hm2 : m ≤ 1000) (hn : n ≤ 1000) (hbase : base ≤ w.heap.size)
    (h : ∀ g' cap' w', w'.ownsRow base 5 1 (.slice (some ⟨g', 0, none⟩) (n + m) cap') (n + m) (xs ++ rowB (fun _ => 0) m) → w.grownBy w' (some g) → wpList Try.prog ops Q rest (a.put o.dst (.slice (some ⟨g', 0, none⟩) (n + m) cap')) w') : wpList Try.prog ops Q (o :: rest) a w := by
  refine wpList_plain hgd fun K hK => ?_
  obtain ⟨g', cap', w', hr, h2, h3⟩ := run_append_noughts w o.type i hi hz hs hb base g n cap m xs hown hm hm2 hn hbase
  rw [rowB_rep] at h2
  unfold Oper.wp execOp
  simp only [ho, resolve, invoke, builtin, Sem.run_bind, Sem.run_pure, Result.andThen_ok, List.map_toArray, List.map_cons, List.map_nil, hsv, hxv, hr]
  exact hK _ _ (h g' cap' w' h2 h3)

end Go.Proofs.Ytccpfoimedjdgaa

namespace Go.Proofs.Ytccpfoimedjdgaa
open Go.ChangeShapes Go.WideShapes Go.ChangeAt Go.RowKit

/-- a new list of bits -/
def ListPost (h : Nat → Nat) (m : Nat) (w : World) (e : Ending) (w' : World) : Prop :=
  ∃ g cap, e = .returned (.slice (some ⟨g, 0, none⟩) m cap) ∧ w.heap.size ≤ g ∧ w'.ownsRow w.heap.size 5 1 (.slice (some ⟨g, 0, none⟩) m cap) m (rowB h m) ∧ Below w.heap.size w w'

set_option maxRecDepth 100000 in
theorem nz_top : nz 18446744073709551615 = 64 := by unfold nz; decide

set_option maxRecDepth 100000 in
theorem nz_low (x : Nat) (hx : x + 1 < 18446744073709551616) : nz x ≤ 63 := by
  have h1 := (nz_spec x).1
  rcases Nat.lt_or_ge (nz x) 64 with h2 | h2
  · omega
  · have : 2 ^ 64 ≤ 2 ^ nz x := Nat.pow_le_pow_right (by decide) h2
    omega

set_option maxRecDepth 100000 in
theorem top_bits : List.replicate 64 (Value.int .u8 0) ++ [Value.int .u8 1] ++ List.replicate 64 (Value.int .u8 0) = rowB (numBits 18446744073709551615) 129 := by
  have h1 : ∀ j, j < 64 → numBits 18446744073709551615 j = (fun _ => 0) j := fun j hj => numBits_low _ _ (by rw [nz_top]; exact hj)
  have h2 : ∀ j, j < 1 → numBits 18446744073709551615 (64 + j) = (fun _ => 1) j := fun j hj => by
    obtain rfl : j = 0 := by omega
    have h := numBits_lead 18446744073709551615
    rw [nz_top] at h
    exact h
  have h3 : ∀ j, j < 64 → numBits 18446744073709551615 (65 + j) = (fun _ => 0) j := fun j hj => by
    unfold numBits
    rw [nz_top, if_neg (by omega), show 18446744073709551615 + 1 = 2 ^ 64 from rfl, Nat.pow_div (by omega) (by decide), show 64 - (2 * 64 - (65 + j)) = j + 1 from by omega, Nat.pow_succ, Nat.mul_mod_left]
  rw [rowB_rep, show [Value.int .u8 1] = rowB (fun _ => 1) 1 from rfl, rowB_app _ _ 64 1 (numBits 18446744073709551615) h1 h2, rowB_app _ _ 65 64 (numBits 18446744073709551615) (fun _ _ => rfl) h3]

set_option maxRecDepth 100000 in
set_option maxHeartbeats 1000000 in
theorem rnumw_top (w : World) : Calls Try.prog 20 #[.int .u64 18446744073709551615] w (ListPost (numBits 18446744073709551615) 129 w) := by
  obtain ⟨i0, hi, hz0, hz1, hz2⟩ := info_parts info5
  obtain ⟨cur, hcur⟩ : ∃ cur, cur = List.replicate 64 (Value.int .u8 0) := ⟨_, rfl⟩
  have hmk := makeB 64 cur hcur (by decide)
  rw [show ((64 : Nat) : Int) = 64 from rfl] at hmk
  have HCL : Hid (cur.length = 64) := Lib.hid (by rw [hcur]; simp)
  have HC := Lib.hid hcur
  clear hcur
  go_enter Try.func20, Try.ntmps20
  go_wp2_with (at_builtin; refine wpList_append_own _ rfl _ _ 23 rfl w.heap.size 5 i0 (.int .u8 0) 1 1 Try.underlying23 hi hz0 hz1 hz2 rfl (by decide) _ 64 cur rfl ?c0 ⟨w.heap.size + 1, 0, none⟩ 1 1 [.int .u8 1] rfl ?cl ?c1 ?c2 ?c3 ?c4 ?c5 ?_)
  case c0 =>
    have h := (World.ownsRow_lit (base := w.heap.size) (e := 5) (size := 1) w cur.toArray 64 (Nat.le_refl _) (by unfold maxLen; omega) (by simp [HCL.out])).alloc (.cells #[.int .u8 1] 5)
    rw [List.toList_toArray] at h
    exact h
  case cl => rfl
  case c1 =>
    intro j u hj
    rcases j with _ | j
    · simp at hj; subst hj; simp [Addr.add]
    · simp at hj
  case c2 => intro u hu; simp at hu; subst hu; rfl
  case c3 => unfold maxLen; omega
  case c4 => omega
  case c5 => simp; omega
  intro v5 w5 hown5 hgrow5 _
  have HB5 : Hid (Below w.heap.size w w5) := Lib.hid ((((Below.refl _ _).alloc (Nat.le_refl _) _).alloc (by simp) _).grown hgrow5 (by simp; omega) (fun q hq => by simp [Value.ownBlock] at hq; omega))
  obtain ⟨g5, cap5, rfl, hg1, hg2⟩ := hown5.form (by omega)
  obtain ⟨L5, eL5⟩ : ∃ L5, L5 = cur ++ [Value.int .u8 1] := ⟨_, rfl⟩
  rw [← eL5] at hown5
  have HL5 := Lib.hid eL5
  have HO5 := Lib.hid hown5
  clear eL5
  clear hown5 hgrow5
  go_wp2_with (at_builtin; refine wpList_append_noughts _ rfl _ _ rfl i0 hi hz0 hz1 hz2 w.heap.size g5 65 cap5 64 L5 rfl rfl ?d0 ?d1 ?d2 ?d3 ?d4 ?_)
  case d0 => exact HO5.out
  case d1 => omega
  case d2 => omega
  case d3 => omega
  case d4 => exact HB5.out.size
  intro g6 cap6 w6 hown6 hgrow6
  have HB6 : Hid (Below w.heap.size w w6) := Lib.hid (HB5.out.grown hgrow6 HB5.out.size (fun q hq => by injection hq with hq; omega))
  have HO6 : Hid (w.heap.size ≤ g6 ∧ w6.ownsRow w.heap.size 5 1 (.slice (some ⟨g6, 0, none⟩) 129 cap6) 129 (rowB (numBits 18446744073709551615) 129)) := Lib.hid ⟨(hown6.lt g6 rfl).1, by
    have e := top_bits
    rw [← HC.out, ← HL5.out, HC.out, rowB_rep] at e
    rw [← e]; exact hown6⟩
  clear hown6 hgrow6
  go_wp2
  go_ret
  exact ⟨g6, cap6, rfl, HO6.out.1, HO6.out.2, HB6.out⟩

set_option maxRecDepth 100000 in
theorem num_list (x z : Nat) (hz : z = nz x) : List.replicate z (Value.int .u8 0) ++ rowB (pb (x + 1) (z + 1)) (z + 1) = rowB (numBits x) (2 * z + 1) := by
  rw [rowB_rep, rowB_app _ _ z (z + 1) (numBits x) (fun j hj => numBits_low _ _ (by omega)) (fun j hj => by
    unfold numBits pb
    rw [if_neg (by omega), ← hz]
    congr 3
    omega), show z + (z + 1) = 2 * z + 1 from by omega]

set_option maxRecDepth 100000 in
theorem num_fin (x z : Nat) (ez : z = nz x) (cur : List Value) (hc : cur = List.replicate z (Value.int .u8 0)) (w w5 : World) (g5 cap5 : Nat)
    (hown : w5.ownsRow w.heap.size 5 1 (.slice (some ⟨g5, 0, none⟩) (z + (z + 1)) cap5) (z + (z + 1)) (cur.toArray.toList ++ rowB (pb (x + 1) (z + 1)) (z + 1))) (hB : Below w.heap.size w w5) :
    ListPost (numBits x) (2 * nz x + 1) w (.returned (.slice (some ⟨g5, 0, none⟩) (z + (z + 1)) cap5)) w5 := by
  rw [List.toList_toArray, hc, num_list x z ez, show z + (z + 1) = 2 * z + 1 from by omega] at hown
  rw [← ez, show z + (z + 1) = 2 * z + 1 from by omega]
  exact ⟨g5, cap5, rfl, (hown.lt g5 rfl).1, hown, hB⟩

set_option maxRecDepth 100000 in
set_option maxHeartbeats 1000000 in
theorem rnumw_any (x : Nat) (w : World) (hx : x + 1 < 18446744073709551616) : Calls Try.prog 20 #[.int .u64 (x : Int)] w (ListPost (numBits x) (2 * nz x + 1) w) := by
  obtain ⟨i0, hi, hz0, hz1, hz2⟩ := info_parts info5
  have hz := nz_le x (by omega)
  have HNZ := Lib.hid (nz_spec x)
  have b1 : ((x : Int) == 18446744073709551615) = false := by rw [beq_eq_false_iff_ne]; omega
  go_enter Try.func20, Try.ntmps20
  go_wp2
  go_loopw [3, 4] (fun n y wr => ∃ k : Nat, k ≤ nz x + 1 ∧ n = .int .i64 (k : Int) ∧ y = .int .u64 (((x + 1) / 2 ^ k : Nat) : Int) ∧ w = wr) (fun n _ _ => nz x + 1 - (intOf n).toNat)
  case atStart => exact ⟨0, by omega, rfl, by rw [Nat.pow_zero, Nat.div_one]; rfl, rfl⟩
  case round =>
    obtain ⟨k, hk, rfl, rfl, rfl⟩ := hrel
    by_cases hlt : k < nz x + 1
    · have hy : 0 < (x + 1) / 2 ^ k := Nat.div_pos (Nat.le_trans (Nat.pow_le_pow_right (by decide) (by omega)) HNZ.out.1) (Nat.two_pow_pos _)
      have HH := Lib.hid (half_int (x + 1) k hx)
      have hy2 : (x + 1) / 2 ^ k ≤ x + 1 := Nat.div_le_self _ _
      generalize (x + 1) / 2 ^ k = y at *
      go_wp2
      go_roundw
      case rel => exact ⟨k + 1, by omega, by go_num, val_int (by rw [← HH.out, IntKind.wrap_u64]; omega), by first | rfl | trivial⟩
      case measure => simp [intOf]; omega
    · obtain rfl : k = nz x + 1 := by omega
      have hy : (x + 1) / 2 ^ (nz x + 1) = 0 := Nat.div_eq_of_lt HNZ.out.2
      rw [hy]
      clear hy
      obtain ⟨z, ez⟩ : ∃ z, z = nz x := ⟨_, rfl⟩
      have EZ := Lib.hid ez
      rw [← ez] at hz ⊢
      clear ez hlt hk
      obtain ⟨cur, hcur⟩ : ∃ cur, cur = List.replicate z (Value.int .u8 0) := ⟨_, rfl⟩
      have hmk := makeB z cur hcur (by omega)
      have HCL : Hid (cur.length = z) := Lib.hid (by rw [hcur]; simp)
      have HC := Lib.hid hcur
      clear hcur
      have hz63 : z ≤ 63 := by rw [EZ.out]; exact nz_low x hx
      have HPUT : Hid (∀ w, Calls Try.prog 37 #[.int .u64 ((x : Int) + 1), .int .i64 ((z : Int) + 1)] w (PutPost (x + 1) (z + 1) w)) := Lib.hid (fun w => rput_any (x + 1) ((z : Int) + 1) (z + 1) w hx (wn_nat' (z + 1) (by omega)))
      have HOA : Hid (∀ w4, Below (w.alloc (.cells cur.toArray 5)).drew.heap.size (w.alloc (.cells cur.toArray 5)).drew w4 → w4.ownsRow w.heap.size 5 1 (.slice (some ⟨w.heap.size, 0, none⟩) z z) z cur.toArray.toList ∧ w.heap.size ≤ w4.heap.size ∧ Below w.heap.size w w4) := Lib.hid (fun w4 hb => by
        have h0 : (w.alloc (.cells cur.toArray 5)).ownsRow w.heap.size 5 1 (.slice (some ⟨w.heap.size, 0, none⟩) z z) z cur.toArray.toList := World.ownsRow_lit w cur.toArray z (Nat.le_refl _) (by unfold maxLen; omega) (by simp [HCL.out])
        have h1 : (w.alloc (.cells cur.toArray 5)).drew.ownsRow w.heap.size 5 1 (.slice (some ⟨w.heap.size, 0, none⟩) z z) z cur.toArray.toList := h0
        have b1 : Below w.heap.size w (w.alloc (.cells cur.toArray 5)).drew := ((Below.refl _ _).alloc (Nat.le_refl _) _).drew
        have b2 := b1.trans (hb.mono b1.size)
        exact ⟨own_below h1 hb, b2.size, b2⟩)
      have HOB : Hid (∀ w4, Below w.drew.heap.size w.drew w4 → (w4.alloc (.cells cur.toArray 5)).ownsRow w.heap.size 5 1 (.slice (some ⟨w4.heap.size, 0, none⟩) z z) z cur.toArray.toList ∧ w.heap.size ≤ (w4.alloc (.cells cur.toArray 5)).heap.size ∧ Below w.heap.size w (w4.alloc (.cells cur.toArray 5))) := Lib.hid (fun w4 hb => by
        have b1 : Below w.heap.size w w.drew := (Below.refl _ _).drew
        have b2 := b1.trans (hb.mono b1.size)
        have b3 := b2.alloc b2.size (.cells cur.toArray 5)
        exact ⟨World.ownsRow_lit w4 cur.toArray z b2.size (by unfold maxLen; omega) (by simp [HCL.out]), b3.size, b3⟩)
      have hw1 : IntKind.i64.wrap (z : Int) = (z : Int) := by rw [IntKind.wrap_i64]; omega
      have hw2 : IntKind.u64.wrap ((x : Int) + 1) = (x : Int) + 1 := by rw [IntKind.wrap_u64]; omega
      go_wp2_with fail
      go_region_held3 (fun _ => True) (trivial)
        (first
          | (go_at_call 37; refine (HPUT.out _).mono ?_; rintro e w4 ⟨g4, cap4, rfl, hg4, hown4, hb4⟩)
          | (refine step_append_lies _ (by rfl) _ _ 23 (by rfl) w.heap.size 5 i0 (.int .u8 0) 1 1 Try.underlying23 hi hz0 hz1 hz2 rfl (by decide) _ z cur.toArray.toList (by rfl) (HOA.out _ hb4).1 ⟨g4, 0, none⟩ (z + 1) cap4 (rowB (pb (x + 1) (z + 1)) (z + 1)) (by rfl) (by rw [rowB_length]; omega) (fun j u hj => hown4.cells (g := g4) rfl j u hj) (rowB_one _ _) (by omega) (by unfold maxLen; omega) (by omega) (HOA.out _ hb4).2.1 _ rfl ?_; intro g5 cap5 w5 hown5 hgrow5 hat5 hlt5)
          | (refine step_append_lies _ (by rfl) _ _ 23 (by rfl) w.heap.size 5 i0 (.int .u8 0) 1 1 Try.underlying23 hi hz0 hz1 hz2 rfl (by decide) _ z cur.toArray.toList (by rfl) (HOB.out _ hb4).1 ⟨g4, 0, none⟩ (z + 1) cap4 (rowB (pb (x + 1) (z + 1)) (z + 1)) (by rfl) (by rw [rowB_length]; omega) (fun j u hj => (World.cell?_alloc_lt _ _ _ (cell_lt (hown4.cells (g := g4) rfl j u hj))).trans (hown4.cells (g := g4) rfl j u hj)) (rowB_one _ _) (by omega) (by unfold maxLen; omega) (by omega) (HOB.out _ hb4).2.1 _ rfl ?_; intro g5 cap5 w5 hown5 hgrow5 hat5 hlt5))
      · have HF := Lib.hid (num_fin x z EZ.out cur HC.out w w5 g5 cap5 hown5 ((HOA.out _ hb4).2.2.grown hgrow5 (HOA.out _ hb4).2.1 (fun q hq => by have hq' : w.heap.size = q := Option.some.inj hq; omega)))
        clear hown4 hb4 hown5 hgrow5 hat5
        go_wp2
        go_ret
        exact HF.out
      · have HF := Lib.hid (num_fin x z EZ.out cur HC.out w w5 g5 cap5 hown5 ((HOB.out _ hb4).2.2.grown hgrow5 (HOB.out _ hb4).2.1 (fun q hq => by have hq' : w4.heap.size = q := Option.some.inj hq; have h2 : w.heap.size ≤ w4.heap.size := hb4.size; omega)))
        clear hown4 hb4 hown5 hgrow5 hat5
        go_wp2
        go_ret
        exact HF.out

end Go.Proofs.Ytccpfoimedjdgaa

namespace Go.Proofs.Ytccpfoimedjdgaa
open Go.ChangeShapes Go.WideShapes Go.ChangeAt Go.RowKit

/-- bits in a slice, from place a of the bytes on -/
structure BS (w : World) (q o L a : Nat) (f : Nat → Nat) : Prop where
  lt : q < w.heap.size
  cb : ∀ j, j < L → w.cell? ⟨q, o + j, none⟩ = some (.int .u8 ((bitAt f (a + j) : Nat) : Int))

set_option maxRecDepth 100000 in
theorem BS.part {w : World} {q o L a : Nat} {f : Nat → Nat} (h : BS w q o L a f) (m k : Nat) (hk : m + k ≤ L) : BS w q (o + m) k (a + m) f :=
  ⟨h.lt, fun j hj => by rw [show o + m + j = o + (m + j) from by omega, show a + m + j = a + (m + j) from by omega]; exact h.cb (m + j) (by omega)⟩

set_option maxRecDepth 100000 in
theorem value_any (q o k cp a : Nat) (f : Nat → Nat) (w : World) (hk : k ≤ 64) (h : BS w q o k a f) :
    Calls Try.prog 49 #[.slice (some ⟨q, o, none⟩) k cp] w fun e w' => e = .returned (.int .u64 ((gv f a k : Nat) : Int)) ∧ w = w' := by
  have HB := Lib.hid h
  clear h
  go_enter Try.func49, Try.ntmps49
  go_wp2
  go_loopw [3, 5, 8] (fun x _ i wr => ∃ t : Nat, t ≤ k ∧ i = .int .i64 (t : Int) ∧ x = .int .u64 ((gv f a t : Nat) : Int) ∧ w = wr) (fun _ _ i _ => k - (intOf i).toNat)
  case atStart => exact ⟨0, Nat.zero_le _, rfl, rfl, rfl⟩
  case round =>
    obtain ⟨t, ht, rfl, rfl, rfl⟩ := hrel
    by_cases hlt : t < k
    · have c1 := HB.out.cb t hlt
      have hx : gv f a t < 9223372036854775808 := Nat.lt_of_lt_of_le (gv_lt f a t) (Nat.pow_le_pow_right (by decide) (by omega : t ≤ 63))
      have hb := bitAt_lt f (a + t)
      have HE : Hid (gv f a (t + 1) = 2 * gv f a t + bitAt f (a + t)) := Lib.hid rfl
      generalize gv f a t = x at *
      generalize bitAt f (a + t) = b at *
      go_wp2
      go_roundw
      case rel => exact ⟨t + 1, by omega, by go_num, val_int (by rw [HE.out]; omega), by first | rfl | trivial⟩
      case measure => simp [intOf]; omega
    · obtain rfl : t = k := by omega
      go_wp2
      go_ret
      exact ⟨rfl, rfl⟩

end Go.Proofs.Ytccpfoimedjdgaa

namespace Go.Proofs.Ytccpfoimedjdgaa
open Go.ChangeShapes Go.WideShapes Go.ChangeAt Go.RowKit

set_option maxRecDepth 100000 in
theorem rnumw (x : Nat) (w : World) (hx : x < 18446744073709551616) : Calls Try.prog 20 #[.int .u64 (x : Int)] w (ListPost (numBits x) (2 * nz x + 1) w) := by
  by_cases h : x + 1 < 18446744073709551616
  · exact rnumw_any x w h
  · obtain rfl : x = 18446744073709551615 := by omega
    rw [nz_top]
    exact rnumw_top w

set_option maxRecDepth 100000 in
theorem gv_byte (F : Nat → Nat) (t : Nat) (h : F t < 256) : gv F (8 * t) 8 = F t := by
  have e := gv_of F (8 * t) (F t) 8 8 (Nat.le_refl _) (fun j hj => by unfold bitAt; rw [show (8 * t + j) / 8 = t from by omega, show (8 * t + j) % 8 = j from by omega])
  rw [e, Nat.sub_self, Nat.pow_zero, Nat.div_one, Nat.mod_eq_of_lt h]

set_option maxRecDepth 100000 in
set_option maxHeartbeats 2000000 in
theorem rbytes_any (q L cp : Nat) (F : Nat → Nat) (w : World) (h : BS w q 0 L 0 F) (hE : Ends F L) (hL : L ≤ 8000000) :
    Calls Try.prog 22 #[.slice (some ⟨q, 0, none⟩) L cp] w (ListPost F ((L + 7) / 8) w) := by
  have HB := Lib.hid h
  have HE := Lib.hid hE
  clear h hE
  obtain ⟨i0, hi, hz0, hz1, hz2⟩ := info_parts info5
  go_enter Try.func22, Try.ntmps22
  go_wp2
  go_loopw [3, 4] (fun v i wr => ∃ t g cap : Nat, t ≤ (L + 7) / 8 ∧ i = .int .i64 ((8 * t : Nat) : Int) ∧ v = .slice (some ⟨g, 0, none⟩) t cap ∧ Hid (w.heap.size ≤ g ∧ wr.ownsRow w.heap.size 5 1 (.slice (some ⟨g, 0, none⟩) t cap) t (rowB F t) ∧ Below w.heap.size w wr)) (fun _ i _ => 8 * ((L + 7) / 8) - (intOf i).toNat)
  case atStart => exact ⟨0, w.heap.size, 0, Nat.zero_le _, rfl, rfl, Lib.hid ⟨Nat.le_refl _, World.ownsRow_lit w #[] 0 (Nat.le_refl _) (Nat.zero_le _) rfl, (Below.refl _ _).alloc (Nat.le_refl _) _⟩⟩
  case round =>
    obtain ⟨t, g, cap, ht, rfl, rfl, HA⟩ := hrel
    by_cases hlt : 8 * t < L
    · have hlt' : (((8 * t : Nat) : Int)) < (L : Int) := by omega
      go_wp2
      go_loopw [5, 6] (fun c k wx => ∃ s : Nat, s ≤ 8 ∧ k = .int .i64 (s : Int) ∧ c = .int .i64 ((gv F (8 * t) s : Nat) : Int) ∧ wr = wx) (fun _ k _ => 8 - (intOf k).toNat)
      case atStart => exact ⟨0, by omega, rfl, rfl, rfl⟩
      case round =>
        obtain ⟨s, hs, rfl, rfl, rfl⟩ := hrel
        by_cases hs8 : s < 8
        · have hx : gv F (8 * t) s < 256 := Nat.lt_of_lt_of_le (gv_lt F (8 * t) s) (Nat.pow_le_pow_right (by decide) (by omega : s ≤ 8))
          have hb := bitAt_lt F (8 * t + s)
          have HG : Hid (gv F (8 * t) (s + 1) = 2 * gv F (8 * t) s + bitAt F (8 * t + s)) := Lib.hid rfl
          by_cases hin : 8 * t + s < L
          · have hin' : (((8 * t : Nat) : Int)) + (s : Int) < (L : Int) := by omega
            have c1 := (HA.out.2.2.cell (p := ⟨q, 0 + (8 * t + s), none⟩) HB.out.lt).trans (HB.out.cb (8 * t + s) hin)
            simp only [Nat.zero_add] at c1
            generalize gv F (8 * t) s = x at *
            generalize bitAt F (8 * t + s) = b at *
            go_wp2
            go_roundw
            case rel => exact ⟨s + 1, by omega, by go_num, val_int (by rw [HG.out]; omega), by first | rfl | trivial⟩
            case measure => simp [intOf]; omega
          · have hin' : ¬ (((8 * t : Nat) : Int)) + (s : Int) < (L : Int) := by omega
            have HN : Hid (bitAt F (8 * t + s) = 0) := Lib.hid (HE.out.nought _ (by omega) (by omega))
            generalize gv F (8 * t) s = x at *
            generalize bitAt F (8 * t + s) = b at *
            go_wp2
            go_roundw
            case rel => exact ⟨s + 1, by omega, by go_num, val_int (by rw [HG.out, HN.out]; omega), by first | rfl | trivial⟩
            case measure => simp [intOf]; omega
        · obtain rfl : s = 8 := by omega
          have hb := HE.out.1 t
          rw [gv_byte F t hb]
          have hwr : w.heap.size ≤ wr.heap.size := HA.out.2.2.size
          obtain ⟨y, ey⟩ : ∃ y, y = F t := ⟨_, rfl⟩
          have EY := Lib.hid ey
          rw [← ey] at hb ⊢
          clear ey
          go_wp2_with (at_builtin; refine wpList_append_own _ rfl _ _ 23 rfl w.heap.size 5 i0 (.int .u8 0) 1 1 Try.underlying23 hi hz0 hz1 hz2 rfl (by decide) _ t (rowB F t) rfl ?c0 ⟨wr.heap.size, 0, none⟩ 1 1 [.int .u8 (y : Int)] rfl ?cl ?c1 ?c2 ?c3 ?c4 ?c5 ?_)
          case c0 => exact HA.out.2.1.alloc _
          case cl => rfl
          case c1 =>
            intro j u hj
            rcases j with _ | j
            · simp at hj; subst hj; simp [Addr.add]
            · simp at hj
          case c2 => intro u hu; simp at hu; subst hu; rfl
          case c3 => unfold maxLen; omega
          case c4 => omega
          case c5 => simp; omega
          intro v5 w5 hown5 hgrow5 _
          have HB5 : Hid (Below w.heap.size w w5) := Lib.hid ((HA.out.2.2.alloc HA.out.2.2.size _).grown hgrow5 (by simp; omega) (fun q hq => by have := (HA.out.2.1.lt q hq).1; omega))
          rw [show [Value.int .u8 (y : Int)] = rowB (fun _ => y) 1 from rfl, rowB_app F (fun _ => y) t 1 F (fun _ _ => rfl) (fun j hj => by obtain rfl : j = 0 := by omega
                                                                                                                                            exact EY.out.symm)] at hown5
          obtain ⟨g5, cap5, rfl, hg1, hg2⟩ := hown5.form (by omega)
          have HO5 := Lib.hid (⟨hg1, hown5, HB5.out⟩ : _ ∧ _ ∧ _)
          clear hown5 hgrow5
          go_wp2
          go_roundw
          case rel => exact ⟨t + 1, g5, cap5, by omega, by go_num, rfl, HO5⟩
          case measure => simp [intOf]; omega
    · have hlt' : ¬ (((8 * t : Nat) : Int)) < (L : Int) := by omega
      obtain rfl : t = (L + 7) / 8 := by omega
      go_wp2
      go_ret
      exact ⟨g, cap, rfl, HA.out.1, HA.out.2.1, HA.out.2.2⟩

end Go.Proofs.Ytccpfoimedjdgaa

namespace Go.Proofs.Ytccpfoimedjdgaa
open Go.ChangeShapes Go.WideShapes Go.ChangeAt Go.RowKit

/-- what the reference's ReadNum answers -/
def RNumPost (w : World) (n : Nat) (f : Nat → Nat) (a : Nat) (e : Ending) (w' : World) : Prop :=
  w = w' ∧
  ((∃ z, IsNum f n a z ∧ e = .returned (.tuple #[.int .u64 ((2 ^ z + gv f (a + z + 1) z - 1 : Nat) : Int), .int .i64 ((2 * z + 1 : Nat) : Int), .int .i64 0])) ∨
   (IsShort f n a ∧ e = .returned (.tuple #[.int .u64 0, .int .i64 0, .int .i64 10])) ∨ (IsForm f n a ∧ e = .returned (.tuple #[.int .u64 0, .int .i64 0, .int .i64 11])))

set_option maxRecDepth 100000 in
set_option maxHeartbeats 2000000 in
theorem rnum_any (q o L cp n a : Nat) (f : Nat → Nat) (w : World) (h : BS w q o L a f) (hc : L ≤ cp) (hL : a + L = 8 * n) :
    Calls Try.prog 30 #[.slice (some ⟨q, o, none⟩) L cp] w (RNumPost w n f a) := by
  have HB := Lib.hid h
  clear h
  go_enter Try.func30, Try.ntmps30
  go_wp2
  go_loopw [5] (fun i wr => ∃ k : Nat, k ≤ 64 ∧ k ≤ L ∧ i = .int .i64 (k : Int) ∧ w = wr ∧ Hid (∀ i, i < k → bitAt f (a + i) = 0)) (fun i _ => 65 - (intOf i).toNat)
  case atStart => exact ⟨0, by omega, by omega, rfl, rfl, Lib.hid (fun i hi => by omega)⟩
  case round =>
    obtain ⟨k, hk, hkL, rfl, rfl, HZ⟩ := hrel
    by_cases hlt : k < L
    · have c1 := HB.out.cb k hlt
      have hb := bitAt_lt f (a + k)
      obtain ⟨b, eb⟩ : ∃ b, b = bitAt f (a + k) := ⟨_, rfl⟩
      rw [← eb] at hb c1
      have HE := Lib.hid eb
      clear eb
      by_cases hb0 : b = 0
      · have b1 : ((b : Int) == 0) = true := by rw [hb0]; rfl
        have HZ2 : Hid (∀ i, i < k + 1 → bitAt f (a + i) = 0) := Lib.hid (fun i hi => by
          by_cases e : i = k
          · subst e; rw [← HE.out]; exact hb0
          · exact HZ.out i (by omega))
        clear hb0
        by_cases h64 : k = 64
        · subst h64
          have HF : Hid (IsForm f n a) := Lib.hid (.inl ⟨by omega, HZ2.out⟩)
          go_wp2
          go_ret3
          exact ⟨rfl, .inr (.inr ⟨HF.out, rfl⟩)⟩
        · have t1 : ¬ 64 < k + 1 := by omega
          have t2 : ¬ (64 : Int) < (k : Int) + 1 := by omega
          go_wp2
          go_roundw
          case rel => exact ⟨k + 1, by omega, by omega, by go_num, by first | rfl | trivial, HZ2⟩
          case measure => simp [intOf]; omega
      · have b1 : ((b : Int) == 0) = false := by rw [beq_eq_false_iff_ne]; omega
        have HL : Hid (Lead f n a k) := Lib.hid ⟨hk, HZ.out, by omega, by rw [← HE.out]; omega⟩
        clear hb0
        by_cases hs : L < 2 * k + 1
        · have HS : Hid (IsShort f n a) := Lib.hid (.inr ⟨k, HL.out, by omega⟩)
          go_wp2
          go_ret3
          exact ⟨rfl, .inr (.inl ⟨HS.out, rfl⟩)⟩
        · have HP := Lib.hid (HB.out.part (k + 1) k (by omega))
          rw [show a + (k + 1) = a + k + 1 from by omega] at HP
          by_cases h64 : k = 64
          · have b3 : ((k : Int) == 64) = true := by rw [h64]; rfl
            have t7 : ¬ cp = k + 1 := by omega
            have H64 := Lib.hid h64
            clear h64
            go_wp2_with fail
            rw [show 2 * k - k = k from by omega]
            refine (value_any q (o + (k + 1)) k _ (a + k + 1) f w hk HP.out).mono ?_
            rintro e w' ⟨rfl, rfl⟩
            by_cases hv : gv f (a + k + 1) k = 0
            · have HN : Hid (IsNum f n a k) := Lib.hid ⟨HL.out, by omega, fun _ => hv⟩
              have HV := Lib.hid hv
              have b2 : (((gv f (a + k + 1) k : Nat) : Int) != 0) = false := by rw [hv]; rfl
              clear hv
              obtain ⟨x, ex⟩ : ∃ x, x = gv f (a + k + 1) k := ⟨_, rfl⟩
              rw [← ex] at b2 ⊢
              have EX := Lib.hid ex
              clear ex
              go_wp2
              go_ret3
              exact ⟨rfl, .inl ⟨k, HN.out, by rw [HV.out, H64.out]; rfl⟩⟩
            · have HF : Hid (IsForm f n a) := Lib.hid (.inr (by have := H64.out; subst this; exact ⟨HL.out, by omega, hv⟩))
              have b2 : (((gv f (a + k + 1) k : Nat) : Int) != 0) = true := by simp; omega
              clear hv
              obtain ⟨x, ex⟩ : ∃ x, x = gv f (a + k + 1) k := ⟨_, rfl⟩
              rw [← ex] at b2 ⊢
              clear ex
              go_wp2
              go_ret3
              exact ⟨rfl, .inr (.inr ⟨HF.out, rfl⟩)⟩
          · have b3 : ((k : Int) == 64) = false := by rw [beq_eq_false_iff_ne]; omega
            have HN : Hid (IsNum f n a k) := Lib.hid ⟨HL.out, by omega, fun h => absurd h h64⟩
            by_cases hcp : cp = k + 1
            · obtain rfl : k = 0 := by omega
              obtain rfl : L = 1 := by omega
              subst hcp
              clear HP
              rw [Nat.add_zero] at c1
              rw [show ((0 : Nat) : Int) = 0 from rfl]
              go_wp2
              refine wp_loop_rounds 1 ?_
              rw [rounds_succ]
              go_wp2
              go_ret3
              exact ⟨rfl, .inl ⟨0, HN.out, rfl⟩⟩
            go_wp2
            rw [show 2 * k - k = k from by omega]
            go_loopw [7, 9, 45] (fun x _ i wr => ∃ t : Nat, t ≤ k ∧ i = .int .i64 (t : Int) ∧ x = .int .u64 ((2 ^ t + gv f (a + k + 1) t : Nat) : Int) ∧ w = wr) (fun _ _ i _ => k - (intOf i).toNat)
            case atStart => exact ⟨0, Nat.zero_le _, rfl, rfl, rfl⟩
            case round =>
              obtain ⟨t, ht, rfl, rfl, rfl⟩ := hrel
              by_cases hlt2 : t < k
              · have c2 := HP.out.cb t hlt2
                have hx : 2 ^ t + gv f (a + k + 1) t < 9223372036854775808 := by
                  have h1 := gv_lt f (a + k + 1) t
                  have h2 : 2 ^ t ≤ 2 ^ 62 := Nat.pow_le_pow_right (by decide) (by omega : t ≤ 62)
                  omega
                have hb2 := bitAt_lt f (a + k + 1 + t)
                have HE2 : Hid (2 ^ (t + 1) + gv f (a + k + 1) (t + 1) = 2 * (2 ^ t + gv f (a + k + 1) t) + bitAt f (a + k + 1 + t)) := Lib.hid (by
                  show 2 ^ (t + 1) + (2 * gv f (a + k + 1) t + bitAt f (a + k + 1 + t)) = _
                  rw [Nat.pow_succ]; omega)
                generalize 2 ^ t + gv f (a + k + 1) t = x at *
                generalize bitAt f (a + k + 1 + t) = b2 at *
                go_wp2
                go_roundw
                case rel => exact ⟨t + 1, by omega, by go_num, val_int (by rw [HE2.out]; omega), by first | rfl | trivial⟩
                case measure => simp [intOf]; omega
              · obtain rfl : t = k := by omega
                have hx : 0 < 2 ^ t + gv f (a + t + 1) t := by have := Nat.two_pow_pos t; omega
                have HX : Hid (((2 ^ t + gv f (a + t + 1) t - 1 : Nat) : Int) = ((2 ^ t + gv f (a + t + 1) t : Nat) : Int) - 1) := Lib.hid (by omega)
                have hx2 : 2 ^ t + gv f (a + t + 1) t < 18446744073709551616 := by
                  have h1 := gv_lt f (a + t + 1) t
                  have h2 : 2 ^ t ≤ 2 ^ 63 := Nat.pow_le_pow_right (by decide) (by omega : t ≤ 63)
                  omega
                obtain ⟨x, ex⟩ : ∃ x, x = 2 ^ t + gv f (a + t + 1) t := ⟨_, rfl⟩
                rw [← ex] at hx hx2 HX ⊢
                have EX := Lib.hid ex
                clear ex
                go_wp2
                go_ret3
                refine ⟨rfl, .inl ⟨t, HN.out, ?_⟩⟩
                rw [← EX.out, HX.out]
                rfl
    · obtain rfl : k = L := by omega
      have HS : Hid (IsShort f n a) := Lib.hid (.inl ⟨by omega, fun i hi => HZ.out i (by omega)⟩)
      have t3 : k < 2 * k + 1 := by omega
      go_wp2
      go_ret3
      exact ⟨rfl, .inr (.inl ⟨HS.out, rfl⟩)⟩

end Go.Proofs.Ytccpfoimedjdgaa

