/-
  slices.Backward over operations.
-/
import Derived.RangeFuncNested
import Derived.RangeFuncBound
import Derived.RangeFuncCalls
import Derived.RangeFuncLeaves
import Derived.RangeFuncBox
import Derived.Shelf.Abstract
import Derived.Shelf.RegionOpen
import Derived.WalkKit
import Derived.OwnWalkIn
import Derived.TacticsInMore
import Derived.LoopNIn
import Derived.LoopIn
import Derived.Maps.OwnIn
import Derived.IntWalk
import Derived.Test.YteobndfkkpfnlaaHWc
namespace Go.Proofs.Yteobndfkkpfnlaa
open Go.RowKit Go.Shelf

attribute [local go_sem] Oper.semAt_some

/-- a place within -/
abbrev Pl (n : Nat) := { i : Nat // i < n }

/-- the places from behind -/
def pf (n : Nat) (h : 0 < n) (j : Nat) : Pl n := ⟨n - 1 - j, by omega⟩

def upto {β : Type} (f : Nat → β) (k : Nat) : List β := (List.range k).map f

set_option maxRecDepth 100000 in
theorem upto_succ {β : Type} (f : Nat → β) (k : Nat) : upto f k ++ [f k] = upto f (k + 1) := by unfold upto; rw [List.range_succ, List.map_append]; rfl

set_option maxRecDepth 100000 in
theorem upto_length {β : Type} (f : Nat → β) (k : Nat) : (upto f k).length = k := by unfold upto; simp

def encs (n : Nat) (o : Nat → O3) (i : Pl n) : Array Value := #[.int .i64 (i.1 : Int), .agg #[.int .i64 (o i.1).k, .int .i64 (o i.1).key, .int .i64 (o i.1).v]]

/-- what a round keeps: whatever lay below, and the slice's own box -/
def Kp (n₀ Bs : Nat) (W W' : World) : Prop := Below n₀ W W' ∧ W'.heap[Bs]? = W.heap[Bs]?

set_option maxRecDepth 100000 in
theorem Kp.refl (n₀ Bs : Nat) (W : World) : Kp n₀ Bs W W := ⟨Below.refl _ _, rfl⟩

set_option maxRecDepth 100000 in
theorem Kp.trans {n₀ Bs : Nat} {A B C : World} (h : Kp n₀ Bs A B) (h' : Kp n₀ Bs B C) : Kp n₀ Bs A C := ⟨h.1.trans h'.1, h'.2.trans h.2⟩

set_option maxRecDepth 100000 in
theorem Kp.cell {n₀ Bs : Nat} {A B : World} (h : Kp n₀ Bs A B) : B.cell? ⟨Bs, 0, none⟩ = A.cell? ⟨Bs, 0, none⟩ := by
  simp [World.cell?, h.2]

set_option maxRecDepth 100000 in
theorem kp_b {n₀ Bs : Nat} {w : World} (hn : n₀ ≤ w.heap.size) (hB : Bs < w.heap.size) (W : World) (l : Nat) (o o' : Obj) (hl : w.heap.size ≤ l) (ho : W.heap[l]? = some o) (hc : o.isCells = false) (hk : o.isWalk = false) : Kp n₀ Bs W (W.putObj l o') :=
  ⟨belowK_b (w := w) hn W l o o' hl ho hc hk, by
    show (W.heap.setIfInBounds l o')[Bs]? = _
    rw [Array.getElem?_setIfInBounds_ne (by omega)]⟩

set_option maxRecDepth 100000 in
set_option maxHeartbeats 1000000 in
theorem bw1_in (F : Fence) (n : Nat) (h34 : F.fn 90) (hro : F.round = none) (hn : 1 ≤ n) (l Bs n₀ b off len cap : Nat) (o : Nat → O3) (hl0 : 0 < len) (hlen : len ≤ 1000) (hb : b < n₀) (J Jx : List (Pl len) → World → Prop)
    (hY : ∀ pre x W, J pre W → pre.length < len → YieldAt F (n - 1) Try.prog l (encs len o x) W fun e W' =>
      (e = .returned (.bool true) ∧ J (pre ++ [x]) W' ∧ Kp n₀ Bs W W') ∨ (e = .returned (.bool false) ∧ Jx (pre ++ [x]) W'))
    (W : World) (hcb : W.cell? ⟨Bs, 0, none⟩ = some (.slice (some ⟨b, off, none⟩) len cap)) (hc : ∀ i, i < len → W.cell? ⟨b, off + i * 3, none⟩ = some (.int .i64 (o i).k) ∧ W.cell? ⟨b, off + i * 3 + 1, none⟩ = some (.int .i64 (o i).key) ∧ W.cell? ⟨b, off + i * 3 + 2, none⟩ = some (.int .i64 (o i).v)) (h0 : J [] W) :
    CallsIn F n Try.prog 90 #[.func (.yield l) #[] #[], .pointer (some ⟨Bs, 0, none⟩)] W fun e W' => (∃ v, e = .returned v) ∧
      ((∃ ys, ys = upto (pf len hl0) len ∧ J ys W') ∨ (∃ pre, (∃ k, k ≤ len ∧ pre = upto (pf len hl0) k) ∧ Jx pre W')) := by
  have HC := Lib.hid hc
  clear hc
  refine callsIn_of_wp Try.func90 rfl h34 ?_ hro
  simp only [Try.ntmps90, List.size_toArray, List.length_cons, List.length_nil, Nat.reduceAdd, Nat.reduceSub, Array.replicate_succ, Array.replicate_zero, List.push_toArray, List.append_toArray, List.nil_append, List.cons_append]
  have hw0 : IntKind.i64.wrap ((len : Int) - 1) = (len : Int) - 1 := IntWalk.i64_in _ (by omega)
  gi_wp2
  gi_loopw [3] (fun iv wr => ∃ k : Nat, k ≤ len ∧ iv = .int .i64 (((len - k : Nat) : Int) - 1) ∧ Hid (J (upto (pf len hl0) k) wr ∧ Kp n₀ Bs W wr)) (fun iv _ => (intOf iv + 1).toNat)
  case atStart => exact ⟨0, Nat.zero_le _, by rw [Nat.sub_zero], Lib.hid ⟨h0, Kp.refl _ _ _⟩⟩
  case round =>
    obtain ⟨k, hk, rfl, HK⟩ := hrel
    by_cases hlt : k < len
    · obtain ⟨u, eu⟩ : ∃ u, u = len - 1 - k := ⟨_, rfl⟩
      have hpf : pf len hl0 k = ⟨u, by omega⟩ := Subtype.ext eu.symm
      obtain ⟨fn, tmps, assign, body, hy, hR⟩ := hY _ (pf len hl0 k) wr HK.out.1 (by rw [upto_length]; exact hlt)
      rw [hpf] at hy
      unfold encs at hy
      dsimp only at hy
      rw [show (((len - k : Nat) : Int) - 1) = (u : Int) by omega]
      obtain ⟨c0, c1, c2⟩ := HC.out u (by omega)
      have y0 := (HK.out.2.1.cell (p := ⟨b, off + u * 3, none⟩) hb).trans c0
      have y1 := (HK.out.2.1.cell (p := ⟨b, off + u * 3 + 1, none⟩) hb).trans c1
      have y2 := (HK.out.2.1.cell (p := ⟨b, off + u * 3 + 2, none⟩) hb).trans c2
      have yb := HK.out.2.cell.trans hcb
      have hul : (u : Int) < (len : Int) := by omega
      have HR := Lib.hid hR
      have HEU := Lib.hid eu
      clear c0 c1 c2 hR hpf eu
      gi_wp2
      refine HR.out.mono ?_
      rintro e W3 (⟨rfl, hJ3, hk3⟩ | ⟨rfl, hJx3⟩)
      · gi_wp2
        go_roundw
        case rel => exact ⟨k + 1, by omega, by have := HEU.out; exact congrArg _ (by omega), Lib.hid ⟨by rw [← upto_succ]; exact hJ3, HK.out.2.trans hk3⟩⟩
        case measure => simp [intOf]
      · gi_wp2
        refine bodyPost_ret (results_none rfl _ _ _) rfl ?_
        exact ⟨⟨_, rfl⟩, .inr ⟨_, ⟨k + 1, by omega, upto_succ _ _⟩, hJx3⟩⟩
    · obtain rfl : k = len := by omega
      rw [show (((k - k : Nat) : Int) - 1) = -1 by omega]
      gi_wp2
      go_end0
      exact ⟨⟨_, rfl⟩, .inl ⟨_, rfl, HK.out.1⟩⟩

set_option maxRecDepth 100000 in
set_option maxHeartbeats 1000000 in
theorem bw1_nil_in (F : Fence) (n : Nat) (h34 : F.fn 90) (hro : F.round = none) (l Bs : Nat) (sp : Option Addr) (cap : Nat) (W : World) (hcb : W.cell? ⟨Bs, 0, none⟩ = some (.slice sp 0 cap)) (Q : World → Prop) (h0 : Q W) :
    CallsIn F n Try.prog 90 #[.func (.yield l) #[] #[], .pointer (some ⟨Bs, 0, none⟩)] W fun e W' => (∃ v, e = .returned v) ∧ Q W' := by
  have HQ := Lib.hid h0
  clear h0
  refine callsIn_of_wp Try.func90 rfl h34 ?_ hro
  simp only [Try.ntmps90, List.size_toArray, List.length_cons, List.length_nil, Nat.reduceAdd, Nat.reduceSub, Array.replicate_succ, Array.replicate_zero, List.push_toArray, List.append_toArray, List.nil_append, List.cons_append]
  gi_wp2
  gi_loopw [3] (fun iv wr => iv = .int .i64 (-1) ∧ Hid (Q wr)) (fun _ _ => 0)
  case atStart => exact ⟨rfl, HQ⟩
  case round =>
    obtain ⟨rfl, HK⟩ := hrel
    gi_wp2
    go_end0
    exact ⟨⟨_, rfl⟩, HK.out⟩

set_option maxRecDepth 100000 in
set_option maxHeartbeats 1000000 in
theorem bw_in (F : Fence) (n : Nat) (h27 : F.fn 80) (hro : F.round = none) (sp : Option Addr) (len cap : Nat) (w : World) :
    CallsIn F n Try.prog 80 #[.slice sp len cap] w fun e w' => e = .returned (.func (.func 90) #[] #[.pointer (some ⟨w.heap.size, 0, none⟩)]) ∧ w' = w.alloc (.cells #[.slice sp len cap] 45) := by
  refine callsIn_of_wp Try.func80 rfl h27 ?_ hro
  simp only [Try.ntmps80, List.size_toArray, List.length_cons, List.length_nil, Nat.reduceAdd, Nat.reduceSub, Array.replicate_succ, Array.replicate_zero, List.push_toArray, List.append_toArray, List.nil_append, List.cons_append]
  gi_wp2
  go_ret
  exact ⟨rfl, rfl⟩

/-- the places from behind, none where there is none -/
def Comes (n : Nat) (ys : List (Pl n)) (k : Nat) : Prop := ∀ h : 0 < n, ys = upto (pf n h) k

set_option maxRecDepth 100000 in
theorem bw_stops (F : Fence) (n : Nat) (h34 : F.fn 90) (hro : F.round = none) (hn : 1 ≤ n) (Bs n₀ : Nat) (sp : Option Addr) (len cap : Nat) (o : Nat → O3) (hlen : len ≤ 1000) (w : World) (hBs : Bs < w.heap.size) (hn₀ : n₀ ≤ w.heap.size)
    (hc : w.cell? ⟨Bs, 0, none⟩ = some (.slice sp len cap)) (hs : 0 < len → ∃ b off, sp = some ⟨b, off, none⟩ ∧ b < n₀ ∧ ∀ i, i < len → w.cell? ⟨b, off + i * 3, none⟩ = some (.int .i64 (o i).k) ∧ w.cell? ⟨b, off + i * 3 + 1, none⟩ = some (.int .i64 (o i).key) ∧ w.cell? ⟨b, off + i * 3 + 2, none⟩ = some (.int .i64 (o i).v)) :
    SeqStopsK F n Try.prog 90 #[.pointer (some ⟨Bs, 0, none⟩)] (encs len o) (Kp n₀ Bs) (fun ys => Comes len ys len ∧ ys.length = len) (fun _ => True) len w := fun l J Jx W hW _ _ hY h0 => by
  have hc' := (hW.cell (p := ⟨Bs, 0, none⟩) hBs).trans hc
  by_cases hl : 0 < len
  · obtain ⟨b, off, rfl, hb, hcs⟩ := hs hl
    refine (bw1_in F n h34 hro hn l Bs n₀ b off len cap o hl hlen hb J Jx hY W hc' (fun i hi => ?_) h0).mono ?_
    · obtain ⟨c0, c1, c2⟩ := hcs i hi
      exact ⟨(hW.cell (p := ⟨b, off + i * 3, none⟩) (Nat.lt_of_lt_of_le hb hn₀)).trans c0, (hW.cell (p := ⟨b, off + i * 3 + 1, none⟩) (Nat.lt_of_lt_of_le hb hn₀)).trans c1, (hW.cell (p := ⟨b, off + i * 3 + 2, none⟩) (Nat.lt_of_lt_of_le hb hn₀)).trans c2⟩
    · rintro e W' ⟨he, ⟨ys, rfl, hJ⟩ | ⟨pre, _, hJ⟩⟩
      · exact ⟨he, .inl ⟨_, ⟨fun _ => rfl, upto_length _ _⟩, hJ⟩⟩
      · exact ⟨he, .inr ⟨pre, trivial, hJ⟩⟩
  · obtain rfl : len = 0 := by omega
    refine (bw1_nil_in F n h34 hro l Bs sp cap W hc' (J []) h0).mono ?_
    rintro e W' ⟨he, hJ⟩
    exact ⟨he, .inl ⟨[], ⟨fun h => absurd h (Nat.lt_irrefl 0), rfl⟩, hJ⟩⟩

end Go.Proofs.Yteobndfkkpfnlaa
