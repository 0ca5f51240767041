/-
  Operations and events in memory; the reference's Same, Copy; the laws' big.
  Events that came in, opened.
  Bits as lists; a writer that has a list; fits.
  put: an event's bits.
  Encode: a history's bytes.
  The references' Same and SameEvents, whatever they answer.
  Unlike histories have unlike bits (mathematics).
  The laws' head; BookSizes' walk.
  Reading a number: what is read is what stands there; a number that is cut off is too short (mathematics and contract).
  takeOp.
  An event that does not stand there (mathematics), ahead of take.
  take: the reader in one form, a round of its loop (mathematics of the memory).
  take.
  Contracts of the reference's Copy and of the Reader's End, whatever is left.
  Bytes that are no history's (mathematics), ahead of Decode.
  Decode: a round of its loop in memory, and what it answers.
  Decode.
  The reference's Copy as a row of our own; what BookForm asks (mathematics).
  What is wrong with bytes is one thing (mathematics).
-/
import Derived.Test.YtccpfoimedjdgaaJ01
import Derived.WalkKit
import Derived.ProofKit
import Derived.OpenShut
import Derived.Below
import Derived.Lib.Hide
import Derived.Deep.AppendLies
import Derived.WalkArith
import Derived.BigQuiet
import Derived.Laws.StructEq
import Derived.Deep.RegionHeld3
import Derived.WalkSpells
import Derived.Deep.Slices
import Derived.Deep.Fields
import Derived.ChangeSame
import Derived.ChangeSlices
import Derived.IntWalk

namespace Go.Proofs.Ytccpfoimedjdgaa
open Go.ChangeShapes Go.WideShapes Go.ChangeAt Go.RowKit

set_option maxRecDepth 100000 in
/-- three cells of a block -/
theorem cells3 {w : World} {b t : Nat} {v0 v1 v2 : Value} (h : w.heap[b]? = some (.cells #[v0, v1, v2] t (0, 0))) :
    (w.cell? ⟨b, 0, none⟩ = some v0 ∧ w.cell? ⟨b, 1, none⟩ = some v1 ∧ w.cell? ⟨b, 2, none⟩ = some v2) ∧ ∀ j, w.frozen? ⟨b, j, none⟩ = false :=
  ⟨⟨by simp [World.cell?, h], by simp [World.cell?, h], by simp [World.cell?, h]⟩, fun j => by simp [World.frozen?, h]⟩

/-- who tells whether something holds -/
def Tells (p : Prop) (w : World) (e : Ending) (w' : World) : Prop := ∃ b : Bool, e = .returned (.bool b) ∧ (b = true ↔ p) ∧ Below w.heap.size w w'

set_option maxRecDepth 100000 in
theorem own_keep {w w' : World} {base e size n : Nat} {v : Value} {xs : List Value} (h : w.ownsRow base e size v n xs) (hk : ∀ g, v.ownBlock = some g → w'.heap[g]? = w.heap[g]?) : w'.ownsRow base e size v n xs := by
  refine ⟨h.1, ?_⟩
  rcases h.2 with h0 | ⟨g, cap, cur, hv, hg, hh, hrest⟩
  · exact .inl h0
  · exact .inr ⟨g, cap, cur, hv, hg, (hk g (by rw [hv]; rfl)).trans hh, hrest⟩

set_option maxRecDepth 100000 in
theorem own_cells {w : World} {base e size n : Nat} {v : Value} {xs : List Value} (h : w.ownsRow base e size v n xs) {g : Nat} (hg : v.ownBlock = some g) : ∃ cur, w.heap[g]? = some (.cells cur e (0, 0)) := by
  rcases h.2 with ⟨h0, _⟩ | ⟨g', cap, cur, hv, _, hh, _⟩
  · rw [h0] at hg; cases hg
  · rw [hv] at hg
    have e' : g' = g := Option.some.inj hg
    exact ⟨cur, e' ▸ hh⟩

set_option maxRecDepth 100000 in
theorem own_form' {w : World} {base e size n : Nat} {v : Value} {xs : List Value} (h : w.ownsRow base e size v n xs) : ∃ sp cp, v = .slice sp n cp := by
  rcases h.2 with ⟨e, rfl⟩ | ⟨g, cp, cur, e, _⟩
  · exact ⟨_, _, e⟩
  · exact ⟨_, _, e⟩

end Go.Proofs.Ytccpfoimedjdgaa

namespace Go.Proofs.Ytccpfoimedjdgaa
open Go.ChangeShapes Go.WideShapes Go.ChangeAt Go.RowKit

/-- the bits L stand from place c on -/
def Sp (F : Nat → Nat) (c : Nat) (L : List Nat) : Prop := ∀ i, i < L.length → bitAt F (c + i) = L.getD i 0

def bitsL (x m : Nat) : List Nat := (List.range m).map fun i => x / 2 ^ (m - 1 - i) % 2

def numL (x : Nat) : List Nat := (List.range (2 * nz x + 1)).map (numBits x)

set_option maxRecDepth 100000 in
theorem bitsL_length (x m : Nat) : (bitsL x m).length = m := by unfold bitsL; simp

set_option maxRecDepth 100000 in
theorem numL_length (x : Nat) : (numL x).length = 2 * nz x + 1 := by unfold numL; simp

set_option maxRecDepth 100000 in
theorem bitsL_get (x m i : Nat) (h : i < m) : (bitsL x m).getD i 0 = x / 2 ^ (m - 1 - i) % 2 := by unfold bitsL; simp [h]

set_option maxRecDepth 100000 in
theorem numL_get (x i : Nat) (h : i < 2 * nz x + 1) : (numL x).getD i 0 = numBits x i := by unfold numL; simp [h]

set_option maxRecDepth 100000 in
theorem getD_left (L M : List Nat) (i : Nat) (h : i < L.length) : (L ++ M).getD i 0 = L.getD i 0 := by simp [List.getD_eq_getElem?_getD, List.getElem?_append_left h]

set_option maxRecDepth 100000 in
theorem getD_right (L M : List Nat) (i : Nat) : (L ++ M).getD (L.length + i) 0 = M.getD i 0 := by simp [List.getD_eq_getElem?_getD, List.getElem?_append_right]

set_option maxRecDepth 100000 in
theorem Sp.app {F : Nat → Nat} {c : Nat} {L M : List Nat} : Sp F c (L ++ M) ↔ (Sp F c L ∧ Sp F (c + L.length) M) := by
  constructor
  · intro h
    refine ⟨fun i hi => ?_, fun i hi => ?_⟩
    · rw [h i (by rw [List.length_append]; omega), getD_left _ _ _ hi]
    · rw [Nat.add_assoc, h (L.length + i) (by rw [List.length_append]; omega), getD_right]
  · rintro ⟨h1, h2⟩ i hi
    rw [List.length_append] at hi
    by_cases hl : i < L.length
    · rw [h1 i hl, getD_left _ _ _ hl]
    · obtain ⟨j, rfl⟩ : ∃ j, i = L.length + j := ⟨i - L.length, by omega⟩
      rw [getD_right, ← Nat.add_assoc]
      exact h2 j (by omega)

/-- a writer that has the bits L -/
def WSt (w : World) (base wb : Nat) (L : List Nat) (v : Value) : Prop := ∃ F, WR w base wb v F L.length ∧ Sp F 0 L

def PutP (base wb : Nat) (L M : List Nat) (v : Value) (w : World) (e : Ending) (w' : World) : Prop :=
  e = .returned (.tuple #[]) ∧ ∃ v', WSt w' base wb (L ++ M) v' ∧ WStep wb w v.ownBlock w' v'.ownBlock

set_option maxRecDepth 100000 in
theorem WSt.wrote {w w' : World} {base wb m : Nat} {L M : List Nat} {v : Value} {F B : Nat → Nat} (hs : Sp F 0 L) (hm : m = M.length) (hB : ∀ i, i < M.length → B i = M.getD i 0) (h : Wrote w base wb v F L.length m B w') :
    ∃ v', WSt w' base wb (L ++ M) v' ∧ WStep wb w v.ownBlock w' v'.ownBlock := by
  obtain ⟨v', F', h1, h2, h3, h4⟩ := h
  subst hm
  refine ⟨v', ⟨F', by rw [List.length_append]; exact h1, Sp.app.2 ⟨fun i hi => ?_, fun i hi => ?_⟩⟩, h4⟩
  · rw [Nat.zero_add, h2 i hi]
    have := hs i hi
    rwa [Nat.zero_add] at this
  · rw [Nat.zero_add, h3 i hi, hB i hi]

set_option maxRecDepth 100000 in
theorem put_L (w : World) (base wb : Nat) (L : List Nat) (v : Value) (x : Nat) (X z : Int) (hX : X = (x : Int)) (m : Nat) (hm : wn z = m) (h : WSt w base wb L v) (hx : x < 18446744073709551616) (hc : L.length ≤ 9000000) :
    Calls Try.prog 51 #[.pointer (some ⟨wb, 0, none⟩), .int .u64 X, .int .i64 z] w (PutP base wb L (bitsL x m) v w) := by
  obtain ⟨F, h1, h2⟩ := h
  refine (put_lit w base wb v F L.length x X z hX m hm h1 hx hc).mono ?_
  rintro e w' ⟨rfl, hw⟩
  exact ⟨rfl, WSt.wrote h2 (bitsL_length x m).symm (fun i hi => by rw [bitsL_length] at hi; rw [bitsL_get x m i hi]) hw⟩

set_option maxRecDepth 100000 in
theorem num_L (w : World) (base wb : Nat) (L : List Nat) (v : Value) (x : Nat) (h : WSt w base wb L v) (hx : x < 18446744073709551616) (hc : L.length ≤ 8000000) :
    Calls Try.prog 33 #[.pointer (some ⟨wb, 0, none⟩), .int .u64 (x : Int)] w (PutP base wb L (numL x) v w) := by
  obtain ⟨F, h1, h2⟩ := h
  refine (wnum_any w base wb v F L.length x h1 hx hc).mono ?_
  rintro e w' ⟨rfl, hw⟩
  exact ⟨rfl, WSt.wrote h2 (numL_length x).symm (fun i hi => by rw [numL_length] at hi; rw [numL_get x i hi]) hw⟩

set_option maxRecDepth 100000 in
theorem WSt.below {w w' : World} {base wb : Nat} {L : List Nat} {v : Value} (h : WSt w base wb L v) (hb : Below w.heap.size w w') : WSt w' base wb L v := by
  obtain ⟨F, h1, h2⟩ := h
  exact ⟨F, h1.below hb, h2⟩

set_option maxRecDepth 100000 in
theorem WStep.alloc (wb : Nat) (w : World) (o : Option Nat) (ob : Obj) : WStep wb w o (w.alloc ob) o :=
  ⟨rfl, rfl, rfl, by simp, fun k hk _ _ => heap_alloc_old _ _ hk, .inl rfl⟩

set_option maxRecDepth 100000 in
/-- another's block stays -/
theorem WSt.other {w w' : World} {base wb : Nat} {L : List Nat} {v : Value} {o' : Option Nat} (h : WSt w base wb L v) (s : WStep wb w v.ownBlock w' o') {k t : Nat} {cs : Array Value} (hk : w.heap[k]? = some (.cells cs t (0, 0))) (ht : t ≠ 5) (hne : k ≠ wb) : w'.heap[k]? = some (.cells cs t (0, 0)) := by
  obtain ⟨F, h1, _⟩ := h
  refine (s.block k ?_ hne (fun e => ?_)).trans hk
  · rcases Nat.lt_or_ge k w.heap.size with h' | h'
    · exact h'
    · rw [Array.getElem?_eq_none h'] at hk; cases hk
  · obtain ⟨cur, e1⟩ := own_cells h1.own e.symm
    rw [hk] at e1
    injection e1 with e1
    injection e1 with _ e1 _
    exact ht e1

set_option maxRecDepth 100000 in
theorem WSt.belowB {w w' : World} {base wb : Nat} {L : List Nat} {v : Value} {o' : Option Nat} (h : WSt w base wb L v) (s : WStep wb w v.ownBlock w' o') (hwb : base ≤ wb) : Below base w w' := by
  obtain ⟨F, h1, _⟩ := h
  exact s.below hwb h1.hb (fun k hk => (h1.own.lt k hk).1)

/-! may an event have bytes? -/

end Go.Proofs.Ytccpfoimedjdgaa

namespace Go.Proofs.Ytccpfoimedjdgaa
open Go.ChangeShapes Go.WideShapes Go.ChangeAt Go.RowKit

set_option maxRecDepth 100000 in
theorem numL_le (x : Nat) (h : x < 18446744073709551616) : (numL x).length ≤ 129 := by rw [numL_length]; have := nz_le x h; omega

/-- the bytes that Encode answers -/
def EncB (L : List Nat) (w w' : World) (g n : Nat) (F : Nat → Nat) : Prop :=
  w'.heap[g]? = some (.cells (rowB F n).toArray 5 (0, 0)) ∧ w.heap.size ≤ g ∧ n = (L.length + 7) / 8 ∧ Ends F L.length ∧ Sp F 0 L

end Go.Proofs.Ytccpfoimedjdgaa

namespace Go.Proofs.Ytccpfoimedjdgaa
open Go.ChangeShapes Go.WideShapes Go.ChangeAt Go.RowKit

set_option maxRecDepth 100000 in
theorem nums_inj (f g : Nat → Nat) (n m : Nat) (hf : ∀ j, f j < 256) (hg : ∀ j, g j < 256) (h : strOfNums (numsOf f n) = strOfNums (numsOf g m)) : n = m ∧ ∀ j, j < n → f j = g j := by
  have h1 : (strOfNums (numsOf f n)).data.toList = (strOfNums (numsOf g m)).data.toList := by rw [h]
  rw [strOfNums_data, strOfNums_data] at h1
  have hl : n = m := by
    have := congrArg List.length h1
    simpa [numsOf] using this
  subst hl
  refine ⟨rfl, fun j hj => ?_⟩
  have h2 := congrArg (fun l : List UInt8 => l[j]?.map UInt8.toNat) h1
  simp [numsOf, hj] at h2
  have a := hf j
  have b := hg j
  omega

set_option maxRecDepth 100000 in
theorem sameB_any (w : World) (sp1 sp2 : Option Addr) (n m cap1 cap2 : Nat) (f g : Nat → Nat) (b : Bool) (hf : ∀ j, f j < 256) (hg : ∀ j, g j < 256) (h1 : Src w sp1 n f) (h2 : Src w sp2 m g) (he : b = true ↔ (n = m ∧ ∀ j, j < n → f j = g j)) :
    Calls Try.prog 13 #[.slice sp1 n cap1, .slice sp2 m cap2] w fun e w' => e = .returned (.bool b) ∧ w = w' := by
  have r1 := conv_any w sp1 n cap1 f h1
  have r2 := conv_any w sp2 m cap2 g h2
  have e : (strOfNums (numsOf f n) = strOfNums (numsOf g m)) ↔ b = true := by
    rw [he]
    constructor
    · exact fun h => nums_inj f g n m hf hg h
    · rintro ⟨rfl, h⟩
      congr 1
      unfold numsOf; apply List.map_congr_left; intro j hj; rw [h j (by simpa using hj)]
  generalize strOfNums (numsOf g m) = s at *
  generalize strOfNums (numsOf f n) = t at *
  have hb : (t.toList == s.toList) = b := by
    rw [ByteArray.toList_eq, ByteArray.toList_eq]
    by_cases h : t = s
    · rw [e.1 h, h]; exact beq_self_eq_true _
    · cases b
      · refine beq_eq_false_iff_ne.mpr fun h' => h ?_
        cases t; cases s
        exact congrArg _ (Array.toList_inj.mp h')
      · exact absurd (e.2 rfl) h
  clear h1 h2 he e hf hg
  go_enter Try.func13, Try.ntmps13
  go_wp2
  go_ret
  exact ⟨by first | rfl | rw [hb], rfl⟩

end Go.Proofs.Ytccpfoimedjdgaa

namespace Go.Proofs.Ytccpfoimedjdgaa
open Go.ChangeShapes Go.WideShapes Go.ChangeAt Go.RowKit

set_option maxRecDepth 100000 in
theorem bits_gv {F : Nat → Nat} {a x m : Nat} (h : Sp F a (bitsL x m)) (hx : x < 2 ^ m) : gv F a m = x := by
  rw [gv_of F a x m m (Nat.le_refl _) fun t ht => ?_, Nat.sub_self, Nat.pow_zero, Nat.div_one, Nat.mod_eq_of_lt hx]
  rw [h t (by rw [bitsL_length]; exact ht), bitsL_get x m t ht]

set_option maxRecDepth 100000 in
theorem bits_inj {F : Nat → Nat} {a x y m : Nat} (h : Sp F a (bitsL x m)) (h' : Sp F a (bitsL y m)) (hx : x < 2 ^ m) (hy : y < 2 ^ m) : x = y :=
  (bits_gv h hx).symm.trans (bits_gv h' hy)

set_option maxRecDepth 100000 in
theorem num_at {F : Nat → Nat} {a x i : Nat} (h : Sp F a (numL x)) (hi : i < 2 * nz x + 1) : bitAt F (a + i) = numBits x i := by
  rw [h i (by rw [numL_length]; exact hi), numL_get x i hi]

set_option maxRecDepth 100000 in
theorem num_nz_le {F : Nat → Nat} {a x y : Nat} (h : Sp F a (numL x)) (h' : Sp F a (numL y)) : nz y ≤ nz x := by
  rcases Nat.lt_or_ge (nz x) (nz y) with hlt | hge
  · have h1 := num_at h (show nz x < 2 * nz x + 1 by omega)
    have h2 := num_at h' (show nz x < 2 * nz y + 1 by omega)
    rw [numBits_lead] at h1
    rw [numBits_low y (nz x) hlt] at h2
    omega
  · exact hge

set_option maxRecDepth 100000 in
theorem num_gv {F : Nat → Nat} {a x : Nat} (h : Sp F a (numL x)) : gv F (a + nz x) (nz x + 1) = x + 1 := by
  have hx := (nz_spec x).2
  rw [gv_of F (a + nz x) (x + 1) (nz x + 1) (nz x + 1) (Nat.le_refl _) fun t ht => ?_, Nat.sub_self, Nat.pow_zero, Nat.div_one, Nat.mod_eq_of_lt hx]
  rw [Nat.add_assoc, num_at h (by omega)]
  unfold numBits
  rw [if_neg (by omega), show 2 * nz x - (nz x + t) = nz x + 1 - 1 - t by omega]

set_option maxRecDepth 100000 in
theorem num_inj {F : Nat → Nat} {a x y : Nat} (h : Sp F a (numL x)) (h' : Sp F a (numL y)) : x = y := by
  have e : nz x = nz y := Nat.le_antisymm (num_nz_le h' h) (num_nz_le h h')
  have h1 := num_gv h
  have h2 := num_gv h'
  rw [e] at h1
  omega

set_option maxRecDepth 100000 in
/-- the bits of bytes that agree agree -/
theorem bitAt_congr {F G : Nat → Nat} {n i : Nat} (h : ∀ j, j < n → F j = G j) (hi : i < 8 * n) : bitAt F i = bitAt G i := by
  unfold bitAt
  rw [h (i / 8) (by omega)]

end Go.Proofs.Ytccpfoimedjdgaa

namespace Go.Proofs.Ytccpfoimedjdgaa
open Go.ChangeShapes Go.WideShapes Go.ChangeAt Go.RowKit

set_option maxRecDepth 100000 in
theorem enc_src {L : List Nat} {w w' : World} {g n : Nat} {F : Nat → Nat} (h : EncB L w w' g n F) : Src w' (some ⟨g, 0, none⟩) n F := row_src h.1

end Go.Proofs.Ytccpfoimedjdgaa

namespace Go.Proofs.Ytccpfoimedjdgaa
open Go.ChangeShapes Go.WideShapes Go.ChangeAt Go.RowKit

/-- the bits L stand from place a on, as far as there are bits -/
def Al (f : Nat → Nat) (n a : Nat) (L : List Nat) : Prop := ∀ i, i < L.length → a + i < 8 * n → bitAt f (a + i) = L.getD i 0

set_option maxRecDepth 100000 in
theorem Al.sp {f : Nat → Nat} {n a : Nat} {L : List Nat} (h : Al f n a L) (hl : a + L.length ≤ 8 * n) : Sp f a L := fun i hi => h i hi (by omega)

set_option maxRecDepth 100000 in
theorem Sp.al {f : Nat → Nat} {n a : Nat} {L : List Nat} (h : Sp f a L) : Al f n a L := fun i hi _ => h i hi

set_option maxRecDepth 100000 in
theorem Al.app {f : Nat → Nat} {n a : Nat} {L M : List Nat} (h : Al f n a (L ++ M)) : Al f n a L ∧ Al f n (a + L.length) M := by
  refine ⟨fun i hi hn => ?_, fun i hi hn => ?_⟩
  · rw [h i (by rw [List.length_append]; omega) hn, getD_left _ _ _ hi]
  · have := h (L.length + i) (by rw [List.length_append]; omega) (by omega)
    rw [getD_right, ← Nat.add_assoc] at this
    exact this

set_option maxRecDepth 100000 in
theorem gv_split (f : Nat → Nat) (a p q : Nat) : gv f a (p + q) = 2 ^ q * gv f a p + gv f (a + p) q := by
  induction q with
  | zero => simp [gv]
  | succ q ih =>
    show 2 * gv f a (p + q) + bitAt f (a + (p + q)) = 2 ^ (q + 1) * gv f a p + (2 * gv f (a + p) q + bitAt f (a + p + q))
    rw [ih, Nat.pow_succ, Nat.add_assoc a p q, Nat.mul_add, Nat.mul_comm (2 ^ q) 2, Nat.mul_assoc, Nat.add_assoc]

set_option maxRecDepth 100000 in
theorem gv_bit (f : Nat → Nat) (a m t : Nat) (h : t < m) : gv f a m / 2 ^ (m - 1 - t) % 2 = bitAt f (a + t) := by
  obtain ⟨q, rfl⟩ : ∃ q, m = (t + 1) + q := ⟨m - (t + 1), by omega⟩
  rw [show t + 1 + q - 1 - t = q by omega, gv_split, Nat.mul_add_div (Nat.two_pow_pos q), Nat.div_eq_of_lt (gv_lt f (a + (t + 1)) q), Nat.add_zero]
  show (2 * gv f a t + bitAt f (a + t)) % 2 = _
  have := bitAt_lt f (a + t)
  omega

set_option maxRecDepth 100000 in
theorem gv_sp (f : Nat → Nat) (a m : Nat) : Sp f a (bitsL (gv f a m) m) := fun i hi => by
  rw [bitsL_length] at hi
  rw [bitsL_get _ _ _ hi, gv_bit f a m i hi]

set_option maxRecDepth 100000 in
theorem nz_of {x z : Nat} (h1 : 2 ^ z ≤ x + 1) (h2 : x + 1 < 2 ^ (z + 1)) : nz x = z := by
  obtain ⟨g1, g2⟩ := nz_spec x
  rcases Nat.lt_trichotomy (nz x) z with h | h | h
  · have := Nat.pow_le_pow_right (show 0 < 2 by decide) (show nz x + 1 ≤ z by omega)
    omega
  · exact h
  · have := Nat.pow_le_pow_right (show 0 < 2 by decide) (show z + 1 ≤ nz x by omega)
    omega

set_option maxRecDepth 100000 in
theorem is_num {f : Nat → Nat} {n a z : Nat} (h : IsNum f n a z) : ∃ x, x = 2 ^ z + gv f (a + z + 1) z - 1 ∧ x < 18446744073709551616 ∧ nz x = z ∧ Sp f a (numL x) := by
  obtain ⟨⟨hz, hlo, _, h1⟩, _, h64⟩ := h
  have hg := gv_lt f (a + z + 1) z
  have hp := Nat.two_pow_pos z
  have hx1 : 2 ^ z + gv f (a + z + 1) z - 1 + 1 = 2 ^ z + gv f (a + z + 1) z := by omega
  have hnz : nz (2 ^ z + gv f (a + z + 1) z - 1) = z := nz_of (by rw [hx1]; omega) (by rw [hx1, Nat.pow_succ]; omega)
  refine ⟨_, rfl, ?_, hnz, fun i hi => ?_⟩
  · rcases Nat.lt_or_ge z 64 with h | h
    · have := Nat.pow_le_pow_right (show 0 < 2 by decide) (show z + 1 ≤ 64 by omega)
      rw [Nat.pow_succ] at this
      omega
    · obtain rfl : z = 64 := by omega
      rw [h64 rfl]; omega
  · rw [numL_length, hnz] at hi
    rw [numL_get _ _ (by rw [hnz]; exact hi)]
    unfold numBits
    rw [hnz, hx1]
    by_cases hi1 : i < z
    · rw [if_pos hi1, hlo i hi1]
    · rw [if_neg hi1]
      by_cases hi2 : i = z
      · subst hi2
        rw [show 2 * i - i = i by omega, Nat.add_div_left _ hp, Nat.div_eq_of_lt hg, h1]
      · obtain ⟨t, rfl⟩ : ∃ t, i = z + 1 + t := ⟨i - (z + 1), by omega⟩
        have hb := gv_bit f (a + z + 1) z t (by omega)
        rw [show 2 * z - (z + 1 + t) = z - 1 - t by omega]
        have e : 2 ^ z = 2 ^ (z - 1 - t) * (2 * 2 ^ t) := by
          rw [← Nat.mul_assoc, Nat.mul_comm (2 ^ (z - 1 - t)) 2, Nat.mul_assoc, ← Nat.pow_add, ← Nat.pow_succ', show (z - 1 - t + t).succ = z by omega]
        have e2 : (2 ^ z + gv f (a + z + 1) z) / 2 ^ (z - 1 - t) = 2 * 2 ^ t + gv f (a + z + 1) z / 2 ^ (z - 1 - t) := by
          have := Nat.mul_add_div (Nat.two_pow_pos (z - 1 - t)) (2 * 2 ^ t) (gv f (a + z + 1) z)
          rw [← e] at this
          exact this
        rw [e2, show a + (z + 1 + t) = a + z + 1 + t by omega, ← hb]
        omega

/-- why no number stands there -/
def ErrN (f : Nat → Nat) (n a : Nat) (er : Int) : Prop := (IsShort f n a ∧ er = 10) ∨ (IsForm f n a ∧ er = 11)

/-- no number stands there; one that would is cut off -/
def NoNum (f : Nat → Nat) (n a : Nat) (er : Int) : Prop := ErrN f n a er ∧ ∀ x, x < 18446744073709551616 → Al f n a (numL x) → er = 10 ∧ 8 * n < a + (numL x).length

set_option maxRecDepth 100000 in
theorem lead_al {f : Nat → Nat} {n a z x : Nat} (h : Lead f n a z) (hx : Al f n a (numL x)) : z = nz x := by
  have hat : ∀ i, i < 2 * nz x + 1 → a + i < 8 * n → bitAt f (a + i) = numBits x i := fun i hi hn => by
    rw [hx i (by rw [numL_length]; exact hi) hn, numL_get x i hi]
  rcases Nat.lt_trichotomy z (nz x) with h' | h' | h'
  · have h1 := hat z (by omega) h.2.2.1
    rw [numBits_low x z h', h.2.2.2] at h1
    cases h1
  · exact h'
  · have h1 := hat (nz x) (by omega) (by have := h.2.2.1; omega)
    rw [numBits_lead, h.2.1 (nz x) h'] at h1
    cases h1

set_option maxRecDepth 100000 in
theorem short_no {f : Nat → Nat} {n a : Nat} (h : IsShort f n a) : NoNum f n a 10 := by
  refine ⟨.inl ⟨h, rfl⟩, ?_⟩
  intro x hx hal
  refine ⟨rfl, ?_⟩
  rw [numL_length]
  rcases Nat.lt_or_ge (8 * n) (a + (2 * nz x + 1)) with h' | h'
  · exact h'
  · exfalso
    rcases h with ⟨_, h0⟩ | ⟨z, hz, hs⟩
    · have h1 := hal (nz x) (by rw [numL_length]; omega) (by omega)
      rw [numL_get x _ (by omega), numBits_lead, h0 (nz x) (by omega)] at h1
      cases h1
    · have := lead_al hz hal
      omega

set_option maxRecDepth 100000 in
theorem form_no {f : Nat → Nat} {n a : Nat} (h : IsForm f n a) : NoNum f n a 11 := by
  refine ⟨.inr ⟨h, rfl⟩, ?_⟩
  intro x hx hal
  exfalso
  have hnz := nz_le x hx
  rcases h with ⟨h65, h0⟩ | ⟨hz, h129, hne⟩
  · have h1 := hal (nz x) (by rw [numL_length]; omega) (by omega)
    rw [numL_get x _ (by omega), numBits_lead, h0 (nz x) (by omega)] at h1
    cases h1
  · have e := lead_al hz hal
    apply hne
    have hsp : Sp f a (numL x) := hal.sp (by rw [numL_length]; omega)
    have hg := num_gv hsp
    rw [← e, show 64 + 1 = 1 + 64 by omega, gv_split] at hg
    have h1 : gv f (a + 64) 1 = 1 := by
      show 2 * gv f (a + 64) 0 + bitAt f (a + 64 + 0) = 1
      rw [Nat.add_zero, hz.2.2.2]; rfl
    rw [h1] at hg
    rw [show a + 65 = a + 64 + 1 by omega]
    omega

/-- what a reader's Num answers, by the bits that stand there -/
def NumQ (w : World) (g rb n : Nat) (f : Nat → Nat) (a : Nat) (e : Ending) (w' : World) : Prop :=
  w.grownBy w' (some rb) ∧
  ((∃ x, x < 18446744073709551616 ∧ Sp f a (numL x) ∧ a + (numL x).length ≤ 8 * n ∧ e = .returned (.int .u64 (x : Int)) ∧ RD w' g rb n f (a + (numL x).length)) ∨
   (∃ er : Int, (er = 10 ∨ er = 11) ∧ e = .returned (.int .u64 0) ∧ RS w' rb er ∧ NoNum f n a er))

set_option maxRecDepth 100000 in
theorem num_q (w : World) (g rb n a : Nat) (f : Nat → Nat) (h : RD w g rb n f a) : Calls Try.prog 53 #[.pointer (some ⟨rb, 0, none⟩)] w (NumQ w g rb n f a) := by
  refine (num_any w g rb n a f h).mono ?_
  rintro e w' ⟨hg, ⟨z, hz, rfl, hr⟩ | ⟨hs, rfl, hr⟩ | ⟨hf, rfl, hr⟩⟩
  · obtain ⟨x, ex, hx, hnz, hsp⟩ := is_num hz
    have hl : (numL x).length = 2 * z + 1 := by rw [numL_length, hnz]
    exact ⟨hg, .inl ⟨x, hx, hsp, by rw [hl]; exact hz.2.1, by rw [ex], by rw [hl]; exact hr⟩⟩
  · exact ⟨hg, .inr ⟨10, .inl rfl, rfl, hr, short_no hs⟩⟩
  · exact ⟨hg, .inr ⟨11, .inr rfl, rfl, hr, form_no hf⟩⟩

end Go.Proofs.Ytccpfoimedjdgaa

namespace Go.Proofs.Ytccpfoimedjdgaa
open Go.ChangeShapes Go.WideShapes Go.ChangeAt Go.RowKit

set_option maxRecDepth 100000 in
theorem sp_al_num {f : Nat → Nat} {n a x y : Nat} (h : Sp f a (numL x)) (hl : a + (numL x).length ≤ 8 * n) (h' : Al f n a (numL y)) : x = y := by
  rw [numL_length] at hl
  have hat : ∀ i, i < 2 * nz y + 1 → a + i < 8 * n → bitAt f (a + i) = numBits y i := fun i hi hn => by
    rw [h' i (by rw [numL_length]; exact hi) hn, numL_get y i hi]
  have e : nz y = nz x := by
    rcases Nat.lt_trichotomy (nz y) (nz x) with h1 | h1 | h1
    · have g1 := hat (nz y) (by omega) (by omega)
      rw [numBits_lead, num_at h (by omega), numBits_low x (nz y) h1] at g1
      cases g1
    · exact h1
    · have g1 := hat (nz x) (by omega) (by omega)
      rw [numBits_low y (nz x) h1, num_at h (by omega), numBits_lead] at g1
      cases g1
  exact num_inj h (h'.sp (by rw [numL_length, e]; exact hl))

def GetQ (w : World) (g rb n : Nat) (f : Nat → Nat) (a m : Nat) (e : Ending) (w' : World) : Prop :=
  w.grownBy w' (some rb) ∧ ((a + m ≤ 8 * n ∧ e = .returned (.int .u64 ((gv f a m : Nat) : Int)) ∧ RD w' g rb n f (a + m)) ∨ (8 * n < a + m ∧ e = .returned (.int .u64 0) ∧ RS w' rb 10))

set_option maxRecDepth 100000 in
theorem get_q (w : World) (g rb n a : Nat) (f : Nat → Nat) (z : Int) (m : Nat) (hm : wn z = m) (h : RD w g rb n f a) : Calls Try.prog 55 #[.pointer (some ⟨rb, 0, none⟩), .int .i64 z] w (GetQ w g rb n f a m) := by
  rcases Nat.lt_or_ge (8 * n) (a + m) with hl | hl
  · refine (get_short w g rb n a f z m hm h hl).mono ?_
    rintro e w' ⟨rfl, hr, hg⟩
    exact ⟨hg, .inr ⟨hl, rfl, hr⟩⟩
  · refine (get_ok w g rb n a f z m hm h hl).mono ?_
    rintro e w' ⟨rfl, hr, hg⟩
    exact ⟨hg, .inl ⟨hl, rfl, hr⟩⟩

set_option maxRecDepth 100000 in
theorem grown_new {w w1 w2 : World} {rb Q : Nat} (h : w.grownBy w1 (some rb)) (k : w1.grownBy w2 (some Q)) (hQ : w.heap.size ≤ Q) : w.grownBy w2 (some rb) :=
  ⟨k.os.trans h.os, k.tape.trans h.tape, k.output.trans h.output, Nat.le_trans h.size k.size, fun q hq hne => (k.block q (Nat.lt_of_lt_of_le hq h.size) (fun e => by injection e with e; omega)).trans (h.block q hq hne)⟩

set_option maxRecDepth 100000 in
theorem RS.kept {w w' : World} {rb q : Nat} {e : Int} (h : RS w rb e) (k : w.grownBy w' (some q)) (h1 : rb ≠ q) : RS w' rb e := by
  have hw : w'.heap[rb]? = w.heap[rb]? := k.block rb h.lt (fun e => by injection e with e; exact h1 e)
  exact ⟨(World.cell?_of_block hw).trans h.c0, (World.cell?_of_block hw).trans h.c1, (World.cell?_of_block hw).trans h.c2, (World.cell?_of_block hw).trans h.c3, fun j => (World.frozen?_of_block (a := ⟨rb, j, none⟩) hw).trans (h.fz j), Nat.lt_of_lt_of_le h.lt k.size⟩

end Go.Proofs.Ytccpfoimedjdgaa

namespace Go.Proofs.Ytccpfoimedjdgaa
open Go.ChangeShapes Go.WideShapes Go.ChangeAt Go.RowKit

/-- the reader at a place, or stopped for want of bytes -/
def RR (w : World) (g rb n : Nat) (f : Nat → Nat) (a : Nat) : Prop := (a ≤ 8 * n ∧ RD w g rb n f a) ∨ (8 * n < a ∧ RS w rb 10)

set_option maxRecDepth 100000 in
theorem RS.below {w w' : World} {rb : Nat} {e : Int} (h : RS w rb e) (k : Below w.heap.size w w') : RS w' rb e where
  c0 := (k.cell h.lt).trans h.c0
  c1 := (k.cell h.lt).trans h.c1
  c2 := (k.cell h.lt).trans h.c2
  c3 := (k.cell h.lt).trans h.c3
  fz := fun j => (k.frozen (p := ⟨rb, j, none⟩) h.lt).trans (h.fz j)
  lt := Nat.lt_of_lt_of_le h.lt k.size

set_option maxRecDepth 100000 in
theorem RR.below {w w' : World} {g rb n a : Nat} {f : Nat → Nat} (h : RR w g rb n f a) (k : Below w.heap.size w w') : RR w' g rb n f a :=
  h.imp (fun h => ⟨h.1, h.2.below k⟩) (fun h => ⟨h.1, h.2.below k⟩)

def GetR (w : World) (g rb n : Nat) (f : Nat → Nat) (a m : Nat) (e : Ending) (w' : World) : Prop :=
  w.grownBy w' (some rb) ∧ ∃ X : Nat, X < 2 ^ m ∧ (a + m ≤ 8 * n → X = gv f a m) ∧ (8 * n < a + m → X = 0) ∧ e = .returned (.int .u64 (X : Int)) ∧ RR w' g rb n f (a + m)

set_option maxRecDepth 100000 in
theorem get_r (w : World) (g rb n a : Nat) (f : Nat → Nat) (z : Int) (m : Nat) (hm : wn z = m) (h : RR w g rb n f a) : Calls Try.prog 55 #[.pointer (some ⟨rb, 0, none⟩), .int .i64 z] w (GetR w g rb n f a m) := by
  rcases h with ⟨_, h⟩ | ⟨hl, h⟩
  · refine (get_q w g rb n a f z m hm h).mono ?_
    rintro e w' ⟨hg, ⟨h1, rfl, h2⟩ | ⟨h1, rfl, h2⟩⟩
    · exact ⟨hg, gv f a m, gv_lt f a m, fun _ => rfl, fun h => absurd h (by omega), rfl, .inl ⟨h1, h2⟩⟩
    · exact ⟨hg, 0, Nat.two_pow_pos m, fun h => absurd h (by omega), fun _ => rfl, rfl, .inr ⟨h1, h2⟩⟩
  · refine (get_stop w rb 10 z h).mono ?_
    rintro e w' ⟨rfl, h2, hg⟩
    exact ⟨hg, 0, Nat.two_pow_pos m, fun h => absurd h (by omega), fun _ => rfl, rfl, .inr ⟨by omega, h2⟩⟩

set_option maxRecDepth 100000 in
theorem grown_news {w w1 w2 : World} {rb : Nat} {o : Option Nat} (h : w.grownBy w1 (some rb)) (k : w1.grownBy w2 o) (ho : ∀ q, o = some q → w.heap.size ≤ q) : w.grownBy w2 (some rb) :=
  ⟨k.os.trans h.os, k.tape.trans h.tape, k.output.trans h.output, Nat.le_trans h.size k.size, fun q hq hne => (k.block q (Nat.lt_of_lt_of_le hq h.size) (fun e => by have := ho q e.symm; omega)).trans (h.block q hq hne)⟩

set_option maxRecDepth 100000 in
theorem own_low {w : World} {base base' e size n : Nat} {v : Value} {xs : List Value} (h : w.ownsRow base e size v n xs) (hb : base' ≤ base) : w.ownsRow base' e size v n xs :=
  ⟨h.1, h.2.imp id fun ⟨g, cap, cur, h1, h2, h3⟩ => ⟨g, cap, cur, h1, Nat.le_trans hb h2, h3⟩⟩

end Go.Proofs.Ytccpfoimedjdgaa

namespace Go.Proofs.Ytccpfoimedjdgaa
open Go.ChangeShapes Go.WideShapes Go.ChangeAt Go.RowKit

set_option maxRecDepth 100000 in
theorem filled_yes (w : World) (g rb n a : Nat) (f : Nat → Nat) (h : RD w g rb n f a) (hl : 8 * n < a + 8) (hr : ¬ a % 8 = 0) (he : ¬ f (a / 8) % 2 ^ (8 - a % 8) = 0) :
    Calls Try.prog 48 #[.pointer (some ⟨rb, 0, none⟩)] w fun e w' => e = .returned (.bool true) ∧ ∃ q, w' = w.drewN q := by
  have c0 := h.c0
  have c1 := h.c1
  have hat := h.hat
  have hn := h.hn
  have b1 : ((a : Int) % 8 != 0) = true := by simp; omega
  have hi : a / 8 < n := by omega
  have cb := h.cb (a / 8) hi
  have hb := h.hf (a / 8)
  have ez : (((f (a / 8) : Nat) : Int) * 2 ^ (a % 8) % 256 != 0) = true := by
    have e2 : f (a / 8) * 2 ^ (a % 8) % 256 = f (a / 8) % 2 ^ (8 - a % 8) * 2 ^ (a % 8) := by
      rw [show 256 = 2 ^ (8 - a % 8) * 2 ^ (a % 8) from by rw [← Nat.pow_add, show 8 - a % 8 + a % 8 = 8 from by omega], Nat.mul_mod_mul_right]
    have e3 : (((f (a / 8) : Nat) : Int) * 2 ^ (a % 8)) = ((f (a / 8) * 2 ^ (a % 8) : Nat) : Int) := by rw [Int.natCast_mul, Int.natCast_pow]; rfl
    have e4 : 0 < f (a / 8) % 2 ^ (8 - a % 8) * 2 ^ (a % 8) := Nat.mul_pos (by omega) (Nat.two_pow_pos _)
    rw [e3, bne_iff_ne]; omega
  generalize f (a / 8) = y at cb hb ez
  clear h he
  go_enter Try.func48, Try.ntmps48
  go_wp2
  go_quiet (fail)
  go_wp2
  go_ret
  exact ⟨rfl, _, rfl⟩

set_option maxRecDepth 100000 in
theorem gv_tail (f : Nat → Nat) (n a L : Nat) (hL : a + L = 8 * n) (hl : L < 8) (hr : ¬ a % 8 = 0) : gv f a L = f (a / 8) % 2 ^ (8 - a % 8) := by
  have e : L = 8 - a % 8 := by omega
  have h := gv_of f a (f (a / 8)) L L (Nat.le_refl _) (fun t ht => by unfold bitAt; rw [show (a + t) / 8 = a / 8 from by omega]; congr 3; omega)
  rw [h, Nat.sub_self, Nat.pow_zero, Nat.div_one, e]

/-- what End answers to a reader that goes on: L bits are left -/
def endOf (f : Nat → Nat) (a L : Nat) : Nat := if 7 < L ∨ ¬ gv f a L = 0 then 12 else 0

set_option maxRecDepth 100000 in
theorem end_any (w : World) (g rb n a L : Nat) (f : Nat → Nat) (h : RD w g rb n f a) (hL : a + L = 8 * n) :
    Calls Try.prog 29 #[.pointer (some ⟨rb, 0, none⟩)] w fun e w' => e = .returned (.int .i64 ((endOf f a L : Nat) : Int)) ∧ ∃ q, w.drewN q = w' := by
  by_cases h7 : 7 < L
  · have e : endOf f a L = 12 := by unfold endOf; rw [if_pos (.inl h7)]
    rw [e]
    have HD := Lib.hid h
    have c3 := h.c3
    have hn := h.hn
    clear h
    go_enter Try.func29, Try.ntmps29
    go_wp2_with fail
    refine (left_any w g rb n a f HD.out).mono ?_
    rintro e w1 ⟨rfl, q, rfl⟩
    have b1 : (8 : Int) ≤ ((8 * n - a : Nat) : Int) := by omega
    have b2 : 8 ≤ 8 * n - a := by omega
    go_wp2
    go_ret
    exact ⟨rfl, _, rfl⟩
  · by_cases hr : a % 8 = 0
    · have e0 : L = 0 := by omega
      have e : endOf f a L = 0 := by unfold endOf; rw [if_neg (by rw [e0]; simp [gv])]
      rw [e]
      exact end_ok w g rb n a f h (by omega) (fun c => absurd hr c)
    · have et := gv_tail f n a L hL (by omega) hr
      by_cases hg : gv f a L = 0
      · have e : endOf f a L = 0 := by unfold endOf; rw [if_neg (by simp [hg]; omega)]
        rw [e]
        exact end_ok w g rb n a f h (by omega) (fun _ => by rw [← et]; exact hg)
      · have e : endOf f a L = 12 := by unfold endOf; rw [if_pos (.inr hg)]
        rw [e]
        have HE : Hid (¬ f (a / 8) % 2 ^ (8 - a % 8) = 0) := Lib.hid (by rw [← et]; exact hg)
        have HD := Lib.hid h
        have c3 := h.c3
        have hn := h.hn
        clear h hg et e
        go_enter Try.func29, Try.ntmps29
        go_wp2_with fail
        refine (left_any w g rb n a f HD.out).mono ?_
        rintro e w1 ⟨rfl, q, rfl⟩
        have b1 : ¬ (8 : Int) ≤ ((8 * n - a : Nat) : Int) := by omega
        have b2 : ¬ 8 ≤ 8 * n - a := by omega
        go_wp2_with fail
        refine (filled_yes _ g rb n a f (HD.out.drewN q) (by omega) hr HE.out).mono ?_
        rintro e w2 ⟨rfl, q2, rfl⟩
        go_wp2
        go_ret
        exact ⟨rfl, _, rfl⟩

end Go.Proofs.Ytccpfoimedjdgaa

namespace Go.Proofs.Ytccpfoimedjdgaa
open Go.ChangeShapes Go.WideShapes Go.ChangeAt Go.RowKit

set_option maxRecDepth 100000 in
theorem end_zero {f : Nat → Nat} {n a L : Nat} (hf : ∀ j, f j < 256) (hL : a + L = 8 * n) (h : endOf f a L = 0) : 8 * n < a + 8 ∧ Ends f a := by
  unfold endOf at h
  split at h
  · cases h
  · rename_i hn
    have h1 : ¬ 7 < L := fun e => hn (.inl e)
    have h2 : gv f a L = 0 := Decidable.byContradiction fun e => hn (.inr e)
    exact ⟨by omega, hf, fun hr => by rw [← gv_tail f n a L hL (by omega) hr]; exact h2⟩

set_option maxRecDepth 100000 in
theorem end_bad {f : Nat → Nat} {n a L : Nat} (hL : a + L = 8 * n) (h : endOf f a L = 12) : ¬ (8 * n < a + 8 ∧ Ends f a) := fun ⟨h1, h2⟩ => by
  have hg : gv f a L = 0 := by
    by_cases hr : a % 8 = 0
    · obtain rfl : L = 0 := by omega
      rfl
    · rw [gv_tail f n a L hL (by omega) hr]
      exact h2.2 hr
  unfold endOf at h
  rw [if_neg (fun e => by rcases e with e | e; omega; exact e hg)] at h
  cases h

set_option maxRecDepth 100000 in
theorem end_cases (f : Nat → Nat) (a L : Nat) : endOf f a L = 0 ∨ endOf f a L = 12 := by
  unfold endOf
  split
  · exact .inr rfl
  · exact .inl rfl

end Go.Proofs.Ytccpfoimedjdgaa

namespace Go.Proofs.Ytccpfoimedjdgaa
open Go.ChangeShapes Go.WideShapes Go.ChangeAt Go.RowKit

set_option maxRecDepth 100000 in
theorem rcopy_own (sp : Option Addr) (n cap : Nat) (f : Nat → Nat) (w : World) (hn : n ≤ 1000000) (hs : Src w sp n f) (hsp : sp = none → n = 0 ∧ cap = 0) :
    Calls Try.prog 17 #[.slice sp n cap] w fun e w' => ∃ sp' cap', e = .returned (.slice sp' n cap') ∧ w'.ownsRow w.heap.size 5 1 (.slice sp' n cap') n (rowB f n) ∧ Below w.heap.size w w' := by
  obtain ⟨i0, hi, hz0, hz1, hz2⟩ := info_parts info5
  cases sp with
  | none =>
    obtain ⟨rfl, rfl⟩ := hsp rfl
    clear hsp hs
    go_enter Try.func17, Try.ntmps17
    go_wp2
    go_ret
    exact ⟨_, _, rfl, World.ownsRow_lit w #[] 0 (Nat.le_refl _) (Nat.zero_le _) rfl, (Below.refl _ _).alloc (Nat.le_refl _) _⟩
  | some ad =>
    have HS := Lib.hid hs
    clear hs hsp
    go_enter Try.func17, Try.ntmps17
    go_wp2_with (at_builtin; refine wpList_append_own _ rfl _ _ 23 rfl w.heap.size 5 i0 (.int .u8 0) 1 1 Try.underlying23 hi hz0 hz1 hz2 rfl (by decide) _ 0 [] rfl ?c0 ad n cap (rowB f n) rfl ?cl ?c1 ?c2 ?c3 ?c4 ?c5 ?_)
    case c0 => exact World.ownsRow_lit w #[] 0 (Nat.le_refl _) (Nat.zero_le _) rfl
    case cl => rw [rowB_length]; omega
    case c1 =>
      intro j u hj
      have hjn : j < n := by
        rcases Nat.lt_or_ge j n with h' | h'
        · exact h'
        · rw [List.getElem?_eq_none (by rw [rowB_length]; exact h')] at hj; cases hj
      rw [rowB_get f n j hjn] at hj
      injection hj with hj
      obtain ⟨ad', e', hlt, hc⟩ := HS.out (by omega)
      injection e' with e'
      subst e'
      rw [World.cell?_alloc_lt _ _ _ (by rw [block_add]; exact hlt), ← hj]
      exact hc j hjn
    case c2 => exact rowB_one _ _
    case c3 => unfold maxLen; omega
    case c4 => omega
    case c5 => simp
    intro v5 w5 hown5 hgrow5 _
    have HB5 : Hid (Below w.heap.size w w5) := Lib.hid (((Below.refl _ _).alloc (Nat.le_refl _) _).grown hgrow5 (by simp) (fun q hq => by simp [Value.ownBlock] at hq; omega))
    have HO : Hid (∃ sp' cap', v5 = .slice sp' n cap' ∧ w5.ownsRow w.heap.size 5 1 (.slice sp' n cap') n (rowB f n)) := by
      have ho : w5.ownsRow w.heap.size 5 1 v5 n (rowB f n) := by simpa using hown5
      obtain ⟨s5, c5, e5⟩ := own_form' ho
      exact Lib.hid ⟨s5, c5, e5, e5 ▸ ho⟩
    clear hown5 hgrow5
    go_wp2
    go_ret
    obtain ⟨sp', cap', e, hs'⟩ := HO.out
    subst e
    exact ⟨sp', cap', rfl, hs', HB5.out⟩

def addB (f : Nat → Nat) (n z : Nat) (i : Nat) : Nat := if i = n then z else f i

set_option maxRecDepth 100000 in
theorem addB_low (f : Nat → Nat) (n z : Nat) : ∀ j, j < n → addB f n z j = f j := fun j hj => by unfold addB; rw [if_neg (by omega)]

set_option maxRecDepth 100000 in
theorem rowB_add (f : Nat → Nat) (n z : Nat) : rowB f n ++ [Value.int .u8 ((z : Nat) : Int)] = rowB (addB f n z) (n + 1) := by
  unfold rowB
  rw [List.range_succ, List.map_append]
  congr 1
  · exact List.map_congr_left fun j hj => by rw [addB_low f n z j (by simpa using hj)]
  · simp [addB]

end Go.Proofs.Ytccpfoimedjdgaa

namespace Go.Proofs.Ytccpfoimedjdgaa
open Go.ChangeShapes Go.WideShapes Go.ChangeAt Go.RowKit

set_option maxRecDepth 100000 in
theorem lead_one {f : Nat → Nat} {n a z z' : Nat} (h : Lead f n a z) (h' : Lead f n a z') : z = z' := by
  rcases Nat.lt_trichotomy z z' with e | e | e
  · have h1 := h'.2.1 z e
    rw [h.2.2.2] at h1; cases h1
  · exact e
  · have h1 := h.2.1 z' e
    rw [h'.2.2.2] at h1; cases h1

set_option maxRecDepth 100000 in
theorem errN_no {f : Nat → Nat} {n a : Nat} {er : Int} (h : ErrN f n a er) : NoNum f n a er := by
  rcases h with ⟨h, rfl⟩ | ⟨h, rfl⟩
  · exact short_no h
  · exact form_no h

set_option maxRecDepth 100000 in
theorem short_form {f : Nat → Nat} {n a : Nat} (h : IsShort f n a) (h' : IsForm f n a) : False := by
  rcases h with ⟨h1, h2⟩ | ⟨z, h1, h2⟩ <;> rcases h' with ⟨g1, g2⟩ | ⟨g1, g2, g3⟩
  · omega
  · omega
  · have := g2 z (by have := h1.1; omega)
    rw [h1.2.2.2] at this; cases this
  · have := lead_one h1 g1
    omega

set_option maxRecDepth 100000 in
theorem errN_one {f : Nat → Nat} {n a : Nat} {er er' : Int} (h : ErrN f n a er) (h' : ErrN f n a er') : er = er' := by
  rcases h with ⟨h, rfl⟩ | ⟨h, rfl⟩ <;> rcases h' with ⟨h', rfl⟩ | ⟨h', rfl⟩
  · rfl
  · exact (short_form h h').elim
  · exact (short_form h' h).elim
  · rfl

set_option maxRecDepth 100000 in
theorem errN_num {f : Nat → Nat} {n a x : Nat} {er : Int} (h : ErrN f n a er) (hx : x < 18446744073709551616) (hs : Sp f a (numL x)) (hl : a + (numL x).length ≤ 8 * n) : False := by
  have := ((errN_no h).2 x hx hs.al).2
  omega

end Go.Proofs.Ytccpfoimedjdgaa

