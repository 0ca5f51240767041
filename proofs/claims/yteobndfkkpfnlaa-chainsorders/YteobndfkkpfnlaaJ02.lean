/-
  slices.Backward over operations.
  The library's contracts of slices.SortFunc and cmp.Compare, laid at this program (the text comes of the kit's lay-plain).
  slices.SortFunc over operations, by their keys.
  The last writes by rising keys (mathematics).
  The program's Writes.
  As many transactions as Invokes, as many done as Oks, as many that failed as Fails.
  For HistOne: Same of the same; one event more.
  HistParts' walk; a transaction that came in by value.
  For HistOne: what one event more makes; an event of another's behind a copy.
  Clients are nothing but names (mathematics); a client's name written anew.
  What Of answers, whatever it is; two answers that differ in names alone.
  For HistEnds: what holds of a history's operations; where what was read and written stands.
  The reference's last.
  The reference's twice.
  The reference's way and the program's (mathematics).
-/
import Derived.Test.YteobndfkkpfnlaaJ01
import Derived.RangeFuncNested
import Derived.RangeFuncBound
import Derived.RangeFuncCalls
import Derived.RangeFuncLeaves
import Derived.RangeFuncBox
import Derived.Shelf.Abstract
import Derived.Shelf.RegionOpen
import Derived.WalkKit
import Derived.OwnWalkIn
import Derived.TacticsInMore
import Derived.LoopNIn
import Derived.LoopIn
import Derived.Maps.OwnIn
import Derived.IntWalk
import Derived.Shelf.SlSortCmp.WholeK
import Derived.Shelf.SlicesG.Cmp
import Derived.Ground.SlsfProg
import Derived.Ground.SlgcProg
import Derived.Test.YteobndfkkpfnlaaProg
import Derived.Shelf.SlSortCmp.NoneTotal
import Derived.Deep.RegionHeld3

namespace Go.Proofs.Yteobndfkkpfnlaa
open Go.RowKit Go.Shelf

attribute [local go_sem] Oper.semAt_some

/-- a place within -/
abbrev Pl (n : Nat) := { i : Nat // i < n }

/-- the places from behind -/
def pf (n : Nat) (h : 0 < n) (j : Nat) : Pl n := ⟨n - 1 - j, by omega⟩

def upto {β : Type} (f : Nat → β) (k : Nat) : List β := (List.range k).map f

set_option maxRecDepth 100000 in
theorem upto_succ {β : Type} (f : Nat → β) (k : Nat) : upto f k ++ [f k] = upto f (k + 1) := by unfold upto; rw [List.range_succ, List.map_append]; rfl

set_option maxRecDepth 100000 in
theorem upto_length {β : Type} (f : Nat → β) (k : Nat) : (upto f k).length = k := by unfold upto; simp

def encs (n : Nat) (o : Nat → O3) (i : Pl n) : Array Value := #[.int .i64 (i.1 : Int), .agg #[.int .i64 (o i.1).k, .int .i64 (o i.1).key, .int .i64 (o i.1).v]]

/-- what a round keeps: whatever lay below, and the slice's own box -/
def Kp (n₀ Bs : Nat) (W W' : World) : Prop := Below n₀ W W' ∧ W'.heap[Bs]? = W.heap[Bs]?

set_option maxRecDepth 100000 in
theorem Kp.refl (n₀ Bs : Nat) (W : World) : Kp n₀ Bs W W := ⟨Below.refl _ _, rfl⟩

set_option maxRecDepth 100000 in
theorem Kp.trans {n₀ Bs : Nat} {A B C : World} (h : Kp n₀ Bs A B) (h' : Kp n₀ Bs B C) : Kp n₀ Bs A C := ⟨h.1.trans h'.1, h'.2.trans h.2⟩

set_option maxRecDepth 100000 in
theorem Kp.cell {n₀ Bs : Nat} {A B : World} (h : Kp n₀ Bs A B) : B.cell? ⟨Bs, 0, none⟩ = A.cell? ⟨Bs, 0, none⟩ := by
  simp [World.cell?, h.2]

set_option maxRecDepth 100000 in
theorem kp_b {n₀ Bs : Nat} {w : World} (hn : n₀ ≤ w.heap.size) (hB : Bs < w.heap.size) (W : World) (l : Nat) (o o' : Obj) (hl : w.heap.size ≤ l) (ho : W.heap[l]? = some o) (hc : o.isCells = false) (hk : o.isWalk = false) : Kp n₀ Bs W (W.putObj l o') :=
  ⟨belowK_b (w := w) hn W l o o' hl ho hc hk, by
    show (W.heap.setIfInBounds l o')[Bs]? = _
    rw [Array.getElem?_setIfInBounds_ne (by omega)]⟩

set_option maxRecDepth 100000 in
set_option maxHeartbeats 1000000 in
theorem bw1_in (F : Fence) (n : Nat) (h34 : F.fn 90) (hro : F.round = none) (hn : 1 ≤ n) (l Bs n₀ b off len cap : Nat) (o : Nat → O3) (hl0 : 0 < len) (hlen : len ≤ 1000) (hb : b < n₀) (J Jx : List (Pl len) → World → Prop)
    (hY : ∀ pre x W, J pre W → pre.length < len → YieldAt F (n - 1) Try.prog l (encs len o x) W fun e W' =>
      (e = .returned (.bool true) ∧ J (pre ++ [x]) W' ∧ Kp n₀ Bs W W') ∨ (e = .returned (.bool false) ∧ Jx (pre ++ [x]) W'))
    (W : World) (hcb : W.cell? ⟨Bs, 0, none⟩ = some (.slice (some ⟨b, off, none⟩) len cap)) (hc : ∀ i, i < len → W.cell? ⟨b, off + i * 3, none⟩ = some (.int .i64 (o i).k) ∧ W.cell? ⟨b, off + i * 3 + 1, none⟩ = some (.int .i64 (o i).key) ∧ W.cell? ⟨b, off + i * 3 + 2, none⟩ = some (.int .i64 (o i).v)) (h0 : J [] W) :
    CallsIn F n Try.prog 90 #[.func (.yield l) #[] #[], .pointer (some ⟨Bs, 0, none⟩)] W fun e W' => (∃ v, e = .returned v) ∧
      ((∃ ys, ys = upto (pf len hl0) len ∧ J ys W') ∨ (∃ pre, (∃ k, k ≤ len ∧ pre = upto (pf len hl0) k) ∧ Jx pre W')) := by
  have HC := Lib.hid hc
  clear hc
  refine callsIn_of_wp Try.func90 rfl h34 ?_ hro
  simp only [Try.ntmps90, List.size_toArray, List.length_cons, List.length_nil, Nat.reduceAdd, Nat.reduceSub, Array.replicate_succ, Array.replicate_zero, List.push_toArray, List.append_toArray, List.nil_append, List.cons_append]
  have hw0 : IntKind.i64.wrap ((len : Int) - 1) = (len : Int) - 1 := IntWalk.i64_in _ (by omega)
  gi_wp2
  gi_loopw [3] (fun iv wr => ∃ k : Nat, k ≤ len ∧ iv = .int .i64 (((len - k : Nat) : Int) - 1) ∧ Hid (J (upto (pf len hl0) k) wr ∧ Kp n₀ Bs W wr)) (fun iv _ => (intOf iv + 1).toNat)
  case atStart => exact ⟨0, Nat.zero_le _, by rw [Nat.sub_zero], Lib.hid ⟨h0, Kp.refl _ _ _⟩⟩
  case round =>
    obtain ⟨k, hk, rfl, HK⟩ := hrel
    by_cases hlt : k < len
    · obtain ⟨u, eu⟩ : ∃ u, u = len - 1 - k := ⟨_, rfl⟩
      have hpf : pf len hl0 k = ⟨u, by omega⟩ := Subtype.ext eu.symm
      obtain ⟨fn, tmps, assign, body, hy, hR⟩ := hY _ (pf len hl0 k) wr HK.out.1 (by rw [upto_length]; exact hlt)
      rw [hpf] at hy
      unfold encs at hy
      dsimp only at hy
      rw [show (((len - k : Nat) : Int) - 1) = (u : Int) by omega]
      obtain ⟨c0, c1, c2⟩ := HC.out u (by omega)
      have y0 := (HK.out.2.1.cell (p := ⟨b, off + u * 3, none⟩) hb).trans c0
      have y1 := (HK.out.2.1.cell (p := ⟨b, off + u * 3 + 1, none⟩) hb).trans c1
      have y2 := (HK.out.2.1.cell (p := ⟨b, off + u * 3 + 2, none⟩) hb).trans c2
      have yb := HK.out.2.cell.trans hcb
      have hul : (u : Int) < (len : Int) := by omega
      have HR := Lib.hid hR
      have HEU := Lib.hid eu
      clear c0 c1 c2 hR hpf eu
      gi_wp2
      refine HR.out.mono ?_
      rintro e W3 (⟨rfl, hJ3, hk3⟩ | ⟨rfl, hJx3⟩)
      · gi_wp2
        go_roundw
        case rel => exact ⟨k + 1, by omega, by have := HEU.out; exact congrArg _ (by omega), Lib.hid ⟨by rw [← upto_succ]; exact hJ3, HK.out.2.trans hk3⟩⟩
        case measure => simp [intOf]
      · gi_wp2
        refine bodyPost_ret (results_none rfl _ _ _) rfl ?_
        exact ⟨⟨_, rfl⟩, .inr ⟨_, ⟨k + 1, by omega, upto_succ _ _⟩, hJx3⟩⟩
    · obtain rfl : k = len := by omega
      rw [show (((k - k : Nat) : Int) - 1) = -1 by omega]
      gi_wp2
      go_end0
      exact ⟨⟨_, rfl⟩, .inl ⟨_, rfl, HK.out.1⟩⟩

set_option maxRecDepth 100000 in
set_option maxHeartbeats 1000000 in
theorem bw1_nil_in (F : Fence) (n : Nat) (h34 : F.fn 90) (hro : F.round = none) (l Bs : Nat) (sp : Option Addr) (cap : Nat) (W : World) (hcb : W.cell? ⟨Bs, 0, none⟩ = some (.slice sp 0 cap)) (Q : World → Prop) (h0 : Q W) :
    CallsIn F n Try.prog 90 #[.func (.yield l) #[] #[], .pointer (some ⟨Bs, 0, none⟩)] W fun e W' => (∃ v, e = .returned v) ∧ Q W' := by
  have HQ := Lib.hid h0
  clear h0
  refine callsIn_of_wp Try.func90 rfl h34 ?_ hro
  simp only [Try.ntmps90, List.size_toArray, List.length_cons, List.length_nil, Nat.reduceAdd, Nat.reduceSub, Array.replicate_succ, Array.replicate_zero, List.push_toArray, List.append_toArray, List.nil_append, List.cons_append]
  gi_wp2
  gi_loopw [3] (fun iv wr => iv = .int .i64 (-1) ∧ Hid (Q wr)) (fun _ _ => 0)
  case atStart => exact ⟨rfl, HQ⟩
  case round =>
    obtain ⟨rfl, HK⟩ := hrel
    gi_wp2
    go_end0
    exact ⟨⟨_, rfl⟩, HK.out⟩

set_option maxRecDepth 100000 in
set_option maxHeartbeats 1000000 in
theorem bw_in (F : Fence) (n : Nat) (h27 : F.fn 80) (hro : F.round = none) (sp : Option Addr) (len cap : Nat) (w : World) :
    CallsIn F n Try.prog 80 #[.slice sp len cap] w fun e w' => e = .returned (.func (.func 90) #[] #[.pointer (some ⟨w.heap.size, 0, none⟩)]) ∧ w' = w.alloc (.cells #[.slice sp len cap] 45) := by
  refine callsIn_of_wp Try.func80 rfl h27 ?_ hro
  simp only [Try.ntmps80, List.size_toArray, List.length_cons, List.length_nil, Nat.reduceAdd, Nat.reduceSub, Array.replicate_succ, Array.replicate_zero, List.push_toArray, List.append_toArray, List.nil_append, List.cons_append]
  gi_wp2
  go_ret
  exact ⟨rfl, rfl⟩

/-- the places from behind, none where there is none -/
def Comes (n : Nat) (ys : List (Pl n)) (k : Nat) : Prop := ∀ h : 0 < n, ys = upto (pf n h) k

set_option maxRecDepth 100000 in
theorem bw_stops (F : Fence) (n : Nat) (h34 : F.fn 90) (hro : F.round = none) (hn : 1 ≤ n) (Bs n₀ : Nat) (sp : Option Addr) (len cap : Nat) (o : Nat → O3) (hlen : len ≤ 1000) (w : World) (hBs : Bs < w.heap.size) (hn₀ : n₀ ≤ w.heap.size)
    (hc : w.cell? ⟨Bs, 0, none⟩ = some (.slice sp len cap)) (hs : 0 < len → ∃ b off, sp = some ⟨b, off, none⟩ ∧ b < n₀ ∧ ∀ i, i < len → w.cell? ⟨b, off + i * 3, none⟩ = some (.int .i64 (o i).k) ∧ w.cell? ⟨b, off + i * 3 + 1, none⟩ = some (.int .i64 (o i).key) ∧ w.cell? ⟨b, off + i * 3 + 2, none⟩ = some (.int .i64 (o i).v)) :
    SeqStopsK F n Try.prog 90 #[.pointer (some ⟨Bs, 0, none⟩)] (encs len o) (Kp n₀ Bs) (fun ys => Comes len ys len ∧ ys.length = len) (fun _ => True) len w := fun l J Jx W hW _ _ hY h0 => by
  have hc' := (hW.cell (p := ⟨Bs, 0, none⟩) hBs).trans hc
  by_cases hl : 0 < len
  · obtain ⟨b, off, rfl, hb, hcs⟩ := hs hl
    refine (bw1_in F n h34 hro hn l Bs n₀ b off len cap o hl hlen hb J Jx hY W hc' (fun i hi => ?_) h0).mono ?_
    · obtain ⟨c0, c1, c2⟩ := hcs i hi
      exact ⟨(hW.cell (p := ⟨b, off + i * 3, none⟩) (Nat.lt_of_lt_of_le hb hn₀)).trans c0, (hW.cell (p := ⟨b, off + i * 3 + 1, none⟩) (Nat.lt_of_lt_of_le hb hn₀)).trans c1, (hW.cell (p := ⟨b, off + i * 3 + 2, none⟩) (Nat.lt_of_lt_of_le hb hn₀)).trans c2⟩
    · rintro e W' ⟨he, ⟨ys, rfl, hJ⟩ | ⟨pre, _, hJ⟩⟩
      · exact ⟨he, .inl ⟨_, ⟨fun _ => rfl, upto_length _ _⟩, hJ⟩⟩
      · exact ⟨he, .inr ⟨pre, trivial, hJ⟩⟩
  · obtain rfl : len = 0 := by omega
    refine (bw1_nil_in F n h34 hro l Bs sp cap W hc' (J []) h0).mono ?_
    rintro e W' ⟨he, hJ⟩
    exact ⟨he, .inl ⟨[], ⟨fun h => absurd h (Nat.lt_irrefl 0), rfl⟩, hJ⟩⟩

end Go.Proofs.Yteobndfkkpfnlaa

namespace Go.Proofs
open Go.Shelf
def Try.sortOps_ren : Go.Shelf.Ren := ⟨fun | 6 => 81 | 15 => 92 | 14 => 91 | 28 => 104 | 29 => 105 | 20 => 96 | 21 => 97 | 22 => 98 | 23 => 99 | 24 => 100 | 25 => 101 | 26 => 102 | 27 => 103 | 46 => 115 | 47 => 116 | 48 => 117 | 49 => 118 | 50 => 119 | 57 => 123 | n => n, fun | 22 => 45 | 24 => 44 | 25 => 142 | 3 => 3 | 39 => 86 | 0 => 0 | 53 => 146 | 55 => 149 | 4 => 4 | 46 => 159 | 45 => 158 | 50 => 37 | 5 => 5 | 9 => 9 | 66 => 172 | 70 => 176 | 76 => 180 | 77 => 181 | n => n, fun | n => n⟩
theorem Try.sortOps : Go.Proofs.SlLaysF0.n6 Try.prog Try.sortOps_ren := {
  mixed := by kernel_rfl
  f6 := ⟨Try.f81.name, by decide, Try.func81.trans (congrArg some (by kernel_rfl))⟩
  f14 := ⟨Try.f91.name, by decide, Try.func91.trans (congrArg some (by kernel_rfl))⟩
  f15 := Try.func92.trans (congrArg some (by kernel_rfl))
  f20 := ⟨Try.f96.name, by decide, Try.func96.trans (congrArg some (by kernel_rfl))⟩
  f21 := ⟨Try.f97.name, by decide, Try.func97.trans (congrArg some (by kernel_rfl))⟩
  f22 := ⟨Try.f98.name, by decide, Try.func98.trans (congrArg some (by kernel_rfl))⟩
  f23 := ⟨Try.f99.name, by decide, Try.func99.trans (congrArg some (by kernel_rfl))⟩
  f24 := ⟨Try.f100.name, by decide, Try.func100.trans (congrArg some (by kernel_rfl))⟩
  f25 := ⟨Try.f101.name, by decide, Try.func101.trans (congrArg some (by kernel_rfl))⟩
  f26 := ⟨Try.f102.name, by decide, Try.func102.trans (congrArg some (by kernel_rfl))⟩
  f27 := ⟨Try.f103.name, by decide, Try.func103.trans (congrArg some (by kernel_rfl))⟩
  f28 := Try.func104.trans (congrArg some (by kernel_rfl))
  f29 := Try.func105.trans (congrArg some (by kernel_rfl))
  f46 := ⟨Try.f115.name, by decide, Try.func115.trans (congrArg some (by kernel_rfl))⟩
  f47 := Try.func116.trans (congrArg some (by kernel_rfl))
  f48 := Try.func117.trans (congrArg some (by kernel_rfl))
  f49 := ⟨Try.f118.name, by decide, Try.func118.trans (congrArg some (by kernel_rfl))⟩
  f50 := ⟨Try.f119.name, by decide, Try.func119.trans (congrArg some (by kernel_rfl))⟩
  f57 := ⟨Try.f123.name, by decide, Try.func123.trans (congrArg some (by kernel_rfl))⟩
  t0 := Try.underlying0
  a0 := Try.isAgg0
  z0 := Try.sizeOf0
  v0 := Try.zeroValue0
  t3 := Try.underlying3
  a3 := Try.isAgg3
  z3 := Try.sizeOf3
  v3 := Try.zeroValue3
  t4 := Try.underlying4
  a4 := Try.isAgg4
  z4 := Try.sizeOf4
  v4 := Try.zeroValue4
  t5 := Try.underlying5
  a5 := Try.isAgg5
  z5 := Try.sizeOf5
  v5 := Try.zeroValue5
  t9 := Try.underlying9
  a9 := Try.isAgg9
  z9 := Try.sizeOf9
  v9 := Try.zeroValue9
  t22 := Try.underlying45
  a22 := Try.isAgg45
  z22 := Try.sizeOf45
  v22 := Try.zeroValue45
  t25 := Try.underlying142
  a25 := Try.isAgg142
  z25 := Try.sizeOf142
  v25 := Try.zeroValue142
  t39 := Try.underlying86
  a39 := Try.isAgg86
  z39 := Try.sizeOf86
  v39 := Try.zeroValue86
  t45 := Try.underlying158
  a45 := Try.isAgg158
  z45 := Try.sizeOf158
  v45 := Try.zeroValue158
  t46 := Try.underlying159
  a46 := Try.isAgg159
  z46 := Try.sizeOf159
  v46 := Try.zeroValue159
  t50 := Try.underlying37
  a50 := Try.isAgg37
  z50 := Try.sizeOf37
  v50 := Try.zeroValue37
  t53 := Try.underlying146
  a53 := Try.isAgg146
  z53 := Try.sizeOf146
  v53 := Try.zeroValue146
  t55 := Try.underlying149
  a55 := Try.isAgg149
  z55 := Try.sizeOf149
  v55 := Try.zeroValue149
  t66 := Try.underlying172
  a66 := Try.isAgg172
  z66 := Try.sizeOf172
  v66 := Try.zeroValue172
  t70 := Try.underlying176
  a70 := Try.isAgg176
  z70 := Try.sizeOf176
  v70 := Try.zeroValue176
  t76 := Try.underlying180
  a76 := Try.isAgg180
  z76 := Try.sizeOf180
  v76 := Try.zeroValue180
  t77 := Try.underlying181
  a77 := Try.isAgg181
  z77 := Try.sizeOf181
  v77 := Try.zeroValue181 }
def Try.cmpInt_ren : Go.Shelf.Ren := ⟨fun | 5 => 83 | 7 => 93 | n => n, fun | 22 => 3 | 3 => 3 | 4 => 4 | n => n, fun | n => n⟩
theorem Try.cmpInt : Go.Proofs.SlLaysC2.n5 Try.prog Try.cmpInt_ren := {
  mixed := by kernel_rfl
  f5 := ⟨Try.f83.name, by decide, Try.func83.trans (congrArg some (by kernel_rfl))⟩
  f7 := ⟨Try.f93.name, by decide, Try.func93.trans (congrArg some (by kernel_rfl))⟩
  t3 := Try.underlying3
  a3 := Try.isAgg3
  z3 := Try.sizeOf3
  v3 := Try.zeroValue3
  t4 := Try.underlying4
  a4 := Try.isAgg4
  z4 := Try.sizeOf4
  v4 := Try.zeroValue4
  t22 := Try.underlying3
  a22 := Try.isAgg3
  z22 := Try.sizeOf3
  v22 := Try.zeroValue3 }
end Go.Proofs

namespace Go.Proofs.Yteobndfkkpfnlaa
open Go.Shelf Go.RowKit Go.Lib Go.Sort

instance : Inhabited O3 := ⟨⟨0, 0, 0⟩⟩

/-- an operation's cells -/
def encO (x : O3) : List Value := [.int .i64 x.k, .int .i64 x.key, .int .i64 x.v]

set_option maxRecDepth 100000 in
set_option maxHeartbeats 1000000 in
theorem closure29 (x y : O3) (W : World) : Calls Try.prog 82 #[.agg #[.int .i64 x.k, .int .i64 x.key, .int .i64 x.v], .agg #[.int .i64 y.k, .int .i64 y.key, .int .i64 y.v]] W fun e w' => e = .returned (.int .i64 (Lib.compareInt x.key y.key)) ∧ ∃ q os', w' = grow (W.drewN q) os' := by
  have hcon := fun W' => AnyG.cmp_Compare_int Try.cmpInt x.key y.key W'
  change ∀ W', Calls Try.prog 83 _ _ _ at hcon
  generalize Lib.compareInt x.key y.key = r at hcon ⊢
  go_enter Try.func82, Try.ntmps82
  go_wp2_with (go_at_call 83; refine (hcon _).mono ?_; rintro e w' ⟨rfl, rfl⟩)
  go_ret
  exact ⟨rfl, 0, _, by rw [alloc_eq_grow, alloc_eq_grow, grow_grow]; rfl⟩

set_option maxRecDepth 100000 in
theorem ltKey (x y : O3) : ltOf (fun x y : O3 => Lib.compareInt x.key y.key) x y = decide (x.key < y.key) := by
  unfold ltOf Lib.compareInt
  by_cases h1 : x.key < y.key
  · simp [h1]
  · by_cases h2 : y.key < x.key <;> simp [h1, h2]

set_option maxRecDepth 100000 in
theorem swoKey : SWO (ltOf fun x y : O3 => Lib.compareInt x.key y.key) where
  irrefl x := by rw [ltKey]; simp
  trans x y z h1 h2 := by rw [ltKey] at *; simp at *; omega
  ntrans x y z h1 h2 := by rw [ltKey] at *; simp at *; omega

set_option maxRecDepth 100000 in
theorem cmpLays29 (blk off size : Nat) (w : World) : CmpLays Try.prog 82 #[] encO 3 (fun x y => Lib.compareInt x.key y.key) blk off size w :=
  fun _ _ _ _ x y => closure29 x y _

set_option maxRecDepth 100000 in
theorem rowO_at (o : Nat → O3) (n j : Nat) (hj : j < n * 3) : (rowO o n)[j]? = some ((encO (o (j / 3)))[j % 3]!) := by
  obtain ⟨h0, h1, h2⟩ := rowO_get o n (j / 3) (by omega)
  have hm : j % 3 = 0 ∨ j % 3 = 1 ∨ j % 3 = 2 := by omega
  rcases hm with hm | hm | hm
  · rw [hm]; rw [show j / 3 * 3 = j by omega] at h0; exact h0
  · rw [hm]; rw [show j / 3 * 3 + 1 = j by omega] at h1; exact h1
  · rw [hm]; rw [show j / 3 * 3 + 2 = j by omega] at h2; exact h2

set_option maxRecDepth 100000 in
theorem lf_get (l : List O3) (i : Nat) : lf l i = l.toArray[i]! := by
  unfold lf; simp [List.getD_eq_getElem?_getD, getElem!_def]; rfl

set_option maxRecDepth 100000 in
theorem flat_size (l : List O3) : (flatK encO 3 l.toArray).size = l.length * 3 := by unfold flatK; simp

set_option maxRecDepth 100000 in
theorem flat_at (l : List O3) (j : Nat) (hj : j < l.length * 3) : (flatK encO 3 l.toArray)[j]? = some ((encO (lf l (j / 3)))[j % 3]!) := by
  unfold flatK
  rw [Array.getElem?_map, Array.getElem?_range, if_pos (by simpa using hj), lf_get]
  rfl

set_option maxRecDepth 100000 in
theorem flat_row (l : List O3) : (flatK encO 3 l.toArray).toList = rowO (lf l) l.length := by
  apply List.ext_getElem?
  intro j
  by_cases hj : j < l.length * 3
  · rw [rowO_at _ _ _ hj, ← flat_at l j hj, Array.getElem?_toList]
  · rw [List.getElem?_eq_none (by rw [Array.length_toList, flat_size]; omega), List.getElem?_eq_none (by rw [rowO_length]; omega)]

/-- the same operations, by rising keys -/
def SortP (l : List O3) (sp : Option Addr) (cp base : Nat) (w : World) (e : Ending) (w' : World) : Prop :=
  e = .returned (.tuple #[]) ∧ ∃ l' : List O3, l'.Perm l ∧ (∀ i j, i < j → j < l.length → ¬ (lf l' j).key < (lf l' i).key) ∧ w'.ownsRow base 44 3 (.slice sp l.length cp) l.length (rowO (lf l') l.length) ∧ w.grownBy w' (Value.ownBlock (.slice sp l.length cp))

set_option maxRecDepth 100000 in
set_option maxHeartbeats 1000000 in
theorem sort_some (l : List O3) (g cp base : Nat) (w : World) (hl : l.length ≤ 1000) (h : w.ownsRow base 44 3 (.slice (some ⟨g, 0, none⟩) l.length cp) l.length (rowO (lf l) l.length)) :
    Calls Try.prog 81 #[.slice (some ⟨g, 0, none⟩) l.length cp, .func (.func 82) #[] #[]] w (SortP l (some ⟨g, 0, none⟩) cp base w) := by
  have eg : ∀ args w, (callFunc 82 args).run Try.prog w = .ok (.enter 82 args) w := enters_of Try.func82 (by kernel_rfl) rfl
  obtain ⟨g', cap', cur, e1, hb, hh, hc1, hc2, hcs, htk⟩ : ∃ g' cap' cur, Value.slice (some ⟨g, 0, none⟩) l.length cp = .slice (some ⟨g', 0, none⟩) l.length cap' ∧ base ≤ g' ∧ w.heap[g']? = some (.cells cur 44 (0, 0)) ∧ l.length ≤ cap' ∧ cap' ≤ maxLen ∧ cur.size = cap' * 3 ∧ cur.toList.take (l.length * 3) = rowO (lf l) l.length := by
    rcases h.2 with ⟨e, _⟩ | h
    · cases e
    · exact h
  have eg' : g = g' := by injection e1 with e1; injection e1 with e1; injection e1
  have ec' : cp = cap' := by injection e1
  subst eg' ec'
  have hgl : g < w.heap.size := (h.lt g rfl).2
  have hH : HoldsK encO 3 w g 0 l.toArray := by
    intro j hj
    rw [flat_size] at hj
    rw [Nat.zero_add]
    have h1 := (h.cellAt j hj).trans (rowO_at _ _ _ hj)
    refine ⟨?_, h.frozenAt j⟩
    have h2 := flat_at l j hj
    have h3 : (flatK encO 3 l.toArray)[j]! = (encO (lf l (j / 3)))[j % 3]! := by
      generalize flatK encO 3 l.toArray = F at *
      rw [getElem!_def, h2]
    rw [h1, h3]
    rfl
  have hcon := AnyQ.slices_SortFunc Try.sortOps 3 Try.isAgg44 Try.sizeOf44 encO (fun _ => rfl) (fun x v hv => by simp [encO] at hv; rcases hv with rfl | rfl | rfl <;> rfl) (fun x y => Lib.compareInt x.key y.key) swoKey 82 #[] g 0 cp l.toArray w eg (cmpLays29 g 0 l.toArray.size w) hH hgl (by simp; omega)
  change Calls Try.prog 81 _ _ _ at hcon
  rw [List.size_toArray] at hcon
  refine hcon.mono ?_
  rintro e w' ⟨rfl, d', n, os, ⟨hp1, _, hp3⟩, hs, rfl⟩
  have hsz : d'.size = l.length := by rw [hp1, List.size_toArray]
  have hperm : d'.toList.Perm l := by
    have h' := hp3
    rw [← hsz] at h'
    simp only [Array.extract_size] at h'
    rw [hsz] at h'
    simpa using h'
  refine ⟨rfl, d'.toList, hperm, fun i j hij hj hlt => ?_, ?_, ?_⟩
  · have h' := hs i j (Nat.zero_le _) hij (by simpa using hj)
    rw [ltKey, decide_eq_false_iff_not] at h'
    rw [lf_get, lf_get] at hlt
    exact h' hlt
  · refine ⟨by rw [rowO_length], .inr ⟨g, cp, putCells id 0 (flatK encO 3 d') cur, rfl, hb, ?_, hc1, hc2, ?_, ?_⟩⟩
    · show ((w.heap.modify g (onCells (putCells id 0 (flatK encO 3 d')))) ++ os)[g]? = _
      rw [Array.getElem?_append_left (by simpa using hgl), Array.getElem?_modify, if_pos rfl, hh]
      rfl
    · unfold putCells; rw [Array.size_mapIdx]; exact hcs
    · have hf := flat_row d'.toList
      rw [Array.toArray_toList] at hf
      rw [Array.length_toList, hsz] at hf
      rw [← hf]
      have hfs : (flatK encO 3 d').size = l.length * 3 := by have := flat_size d'.toList; rw [Array.toArray_toList, Array.length_toList, hsz] at this; exact this
      apply List.ext_getElem?
      intro j
      by_cases hj : j < l.length * 3
      · rw [List.getElem?_take, if_pos hj, Array.getElem?_toList, Array.getElem?_toList]
        unfold putCells
        rw [Array.getElem?_mapIdx, Array.getElem?_eq_getElem (h := by omega)]
        simp [hfs, hj]
      · rw [List.getElem?_eq_none (by simp; omega), List.getElem?_eq_none (by rw [Array.length_toList, hfs]; omega)]
  · refine ⟨rfl, rfl, rfl, ?_, fun k hk hne => ?_⟩
    · show w.heap.size ≤ ((w.heap.modify g (onCells (putCells id 0 (flatK encO 3 d')))) ++ os).size
      simp
    · show ((w.heap.modify g (onCells (putCells id 0 (flatK encO 3 d')))) ++ os)[k]? = _
      have hkg : ¬ g = k := fun e => hne (by rw [e]; rfl)
      rw [Array.getElem?_append_left (by simpa using hk), Array.getElem?_modify, if_neg hkg]

end Go.Proofs.Yteobndfkkpfnlaa

namespace Go.Proofs.Yteobndfkkpfnlaa
/-- what is kept of a place -/
def stp (o : Nat → O3) (s : List O3 × (Int → Option Int)) (i : Nat) : List O3 × (Int → Option Int) :=
  if (o i).k = 2 ∧ (s.2 (o i).key).isSome = false then (s.1 ++ [o i], fun y => if y = (o i).key then some (i : Int) else s.2 y) else s

def colS (o : Nat → O3) {n : Nat} (pre : List (Pl n)) : List O3 × (Int → Option Int) := (pre.map (·.1)).foldl (stp o) ([], fun _ => none)

set_option maxRecDepth 100000 in
theorem colS_snoc (o : Nat → O3) {n : Nat} (pre : List (Pl n)) (x : Pl n) : colS o (pre ++ [x]) = stp o (colS o pre) x.1 := by
  unfold colS; rw [List.map_append, List.foldl_append]; rfl

set_option maxRecDepth 100000 in
theorem colS_le (o : Nat → O3) {n : Nat} (pre : List (Pl n)) : (colS o pre).1.length ≤ pre.length := by
  have h : ∀ (q : List Nat) (s : List O3 × (Int → Option Int)), (q.foldl (stp o) s).1.length ≤ s.1.length + q.length := by
    intro q
    induction q with
    | nil => intro s; exact Nat.le_refl _
    | cons i q ih =>
      intro s
      have h1 := ih (stp o s i)
      have h2 : (stp o s i).1.length ≤ s.1.length + 1 := by
        unfold stp
        split
        · simp
        · omega
      rw [List.foldl_cons, List.length_cons]
      omega
  have := h (pre.map (·.1)) ([], fun _ => none)
  rw [List.length_map] at this
  simpa [colS] using this

set_option maxRecDepth 100000 in
theorem strict_eq : ∀ (l1 l2 : List O3), l1.Pairwise (fun a b => a.key < b.key) → l2.Pairwise (fun a b => a.key < b.key) → (∀ x, x ∈ l1 ↔ x ∈ l2) → l1 = l2
  | [], [], _, _, _ => rfl
  | [], b :: l2, _, _, h => by have := (h b).2 (List.mem_cons_self ..); cases this
  | a :: l1, [], _, _, h => by have := (h a).1 (List.mem_cons_self ..); cases this
  | a :: l1, b :: l2, h1, h2, h => by
    rw [List.pairwise_cons] at h1 h2
    have hab : a = b := by
      rcases List.mem_cons.1 ((h a).1 (List.mem_cons_self ..)) with e | e
      · exact e
      · rcases List.mem_cons.1 ((h b).2 (List.mem_cons_self ..)) with e' | e'
        · exact e'.symm
        · have := h2.1 a e
          have := h1.1 b e'
          omega
    subst hab
    rw [strict_eq l1 l2 h1.2 h2.2 fun x => ?_]
    constructor
    · intro hx
      rcases List.mem_cons.1 ((h x).1 (List.mem_cons_of_mem _ hx)) with e | e
      · have := h1.1 x hx; rw [e] at this; omega
      · exact e
    · intro hx
      rcases List.mem_cons.1 ((h x).2 (List.mem_cons_of_mem _ hx)) with e | e
      · have := h2.1 x hx; rw [e] at this; omega
      · exact e

set_option maxRecDepth 100000 in
theorem lastIx_iff (o : Nat → O3) (key : Int) : ∀ n i, lastIx o key n = some i ↔ (i < n ∧ (o i).k = 2 ∧ (o i).key = key ∧ ∀ j, i < j → j < n → ¬ ((o j).k = 2 ∧ (o j).key = key)) := by
  intro n
  induction n with
  | zero => intro i; exact ⟨fun h => (by cases h), fun h => absurd h.1 (Nat.not_lt_zero _)⟩
  | succ n ih =>
    intro i
    unfold lastIx
    by_cases hc : (o n).k = 2 ∧ (o n).key = key
    · rw [if_pos hc]
      constructor
      · intro h
        injection h with h
        subst h
        exact ⟨Nat.lt_succ_self _, hc.1, hc.2, fun j h1 h2 => by omega⟩
      · rintro ⟨h1, _, _, h4⟩
        by_cases hin : i = n
        · rw [hin]
        · exact absurd hc (h4 n (by omega) (Nat.lt_succ_self _))
    · rw [if_neg hc, ih]
      constructor
      · rintro ⟨h1, h2, h3, h4⟩
        refine ⟨by omega, h2, h3, fun j hj1 hj2 => ?_⟩
        by_cases hjn : j = n
        · rw [hjn]; exact hc
        · exact h4 j hj1 (by omega)
      · rintro ⟨h1, h2, h3, h4⟩
        have hin : i ≠ n := fun e => hc (by rw [← e]; exact ⟨h2, h3⟩)
        exact ⟨by omega, h2, h3, fun j hj1 hj2 => h4 j hj1 (by omega)⟩

set_option maxRecDepth 100000 in
theorem wrl_spec (o : Nat → O3) (n : Nat) : ∀ K, (wrl o n K).Pairwise (fun a b => a.key < b.key) ∧ (∀ x, x ∈ wrl o n K ↔ ∃ kk i, kk < K ∧ lastIx o ((kk : Nat) : Int) n = some i ∧ x = o i) := by
  intro K
  induction K with
  | zero => exact ⟨List.Pairwise.nil, fun x => ⟨fun h => (by cases h), fun ⟨kk, i, h, _⟩ => absurd h (Nat.not_lt_zero _)⟩⟩
  | succ K ih =>
    obtain ⟨h1, h2⟩ := ih
    cases hl : lastIx o (K : Int) n with
    | none =>
      have e : wrl o n (K + 1) = wrl o n K := by
        show (match lastIx o (K : Int) n with | some i => wrl o n K ++ [o i] | none => wrl o n K) = _
        rw [hl]
      rw [e]
      refine ⟨h1, fun x => ?_⟩
      rw [h2]
      constructor
      · rintro ⟨kk, i, a, b, c⟩; exact ⟨kk, i, by omega, b, c⟩
      · rintro ⟨kk, i, a, b, c⟩
        by_cases hk : kk = K
        · subst hk; rw [hl] at b; cases b
        · exact ⟨kk, i, by omega, b, c⟩
    | some j =>
      have e : wrl o n (K + 1) = wrl o n K ++ [o j] := by
        show (match lastIx o (K : Int) n with | some i => wrl o n K ++ [o i] | none => wrl o n K) = _
        rw [hl]
      rw [e]
      have hj := (lastIx_iff o K n j).1 hl
      refine ⟨?_, fun x => ?_⟩
      · rw [List.pairwise_append]
        refine ⟨h1, List.pairwise_singleton _ _, fun a ha b hb => ?_⟩
        rw [List.mem_singleton] at hb
        subst hb
        obtain ⟨kk, i, h3, h4, rfl⟩ := (h2 a).1 ha
        have hi := (lastIx_iff o kk n i).1 h4
        rw [hi.2.2.1, hj.2.2.1]
        omega
      · rw [List.mem_append, h2, List.mem_singleton]
        constructor
        · rintro (⟨kk, i, a, b, c⟩ | h)
          · exact ⟨kk, i, by omega, b, c⟩
          · exact ⟨K, j, by omega, hl, h⟩
        · rintro ⟨kk, i, a, b, c⟩
          by_cases hk : kk = K
          · subst hk; rw [hl] at b; injection b with b; subst b; exact .inr c
          · exact .inl ⟨kk, i, by omega, b, c⟩

set_option maxRecDepth 100000 in
/-- behind k places from behind -/
theorem col_spec (o : Nat → O3) (len : Nat) (h : 0 < len) : ∀ k, k ≤ len → (colS o (upto (pf len h) k)).1.Pairwise (fun a b => ¬ a.key = b.key) ∧
    (∀ x, x ∈ (colS o (upto (pf len h) k)).1 ↔ ∃ i, len - k ≤ i ∧ lastIx o (o i).key len = some i ∧ x = o i) ∧
    (∀ key, ((colS o (upto (pf len h) k)).2 key).isSome = true ↔ ∃ i, len - k ≤ i ∧ i < len ∧ (o i).k = 2 ∧ (o i).key = key) := by
  intro k
  induction k with
  | zero =>
    intro _
    refine ⟨List.Pairwise.nil, fun x => ⟨fun h => (by cases h), fun ⟨i, h1, h2, _⟩ => ?_⟩, fun key => ⟨fun h => (by cases h), fun ⟨i, h1, h2, _⟩ => by omega⟩⟩
    have := ((lastIx_iff o _ len i).1 h2).1
    omega
  | succ k ih =>
    intro hk
    obtain ⟨h1, h2, h3⟩ := ih (by omega)
    rw [← upto_succ, colS_snoc]
    have ev : (pf len h k).1 = len - 1 - k := rfl
    rw [ev]
    obtain ⟨u, eu⟩ : ∃ u, u = len - 1 - k := ⟨_, rfl⟩
    rw [← eu]
    generalize colS o (upto (pf len h) k) = s at *
    have hcase : ((o u).k = 2 ∧ (s.2 (o u).key).isSome = false) ↔ lastIx o (o u).key len = some u := by
      rw [lastIx_iff]
      constructor
      · rintro ⟨a, b⟩
        refine ⟨by omega, a, rfl, fun j hj1 hj2 hj3 => ?_⟩
        have := (h3 (o u).key).2 ⟨j, by omega, hj2, hj3.1, hj3.2⟩
        rw [b] at this; cases this
      · rintro ⟨a, b, _, d⟩
        refine ⟨b, ?_⟩
        cases hs : (s.2 (o u).key).isSome with
        | false => rfl
        | true =>
          obtain ⟨i, hi1, hi2, hi3, hi4⟩ := (h3 (o u).key).1 hs
          exact absurd ⟨hi3, hi4⟩ (d i (by omega) hi2)
    unfold stp
    by_cases hc : (o u).k = 2 ∧ (s.2 (o u).key).isSome = false
    · rw [if_pos hc]
      have hlu := hcase.1 hc
      refine ⟨?_, fun x => ?_, fun key => ?_⟩
      · dsimp only
        rw [List.pairwise_append]
        refine ⟨h1, List.pairwise_singleton _ _, fun a ha b hb he => ?_⟩
        rw [List.mem_singleton] at hb
        subst hb
        obtain ⟨i, hi1, hi2, rfl⟩ := (h2 a).1 ha
        have hi := (lastIx_iff o _ len i).1 hi2
        have := (h3 (o u).key).2 ⟨i, hi1, hi.1, hi.2.1, he⟩
        rw [hc.2] at this; cases this
      · dsimp only
        rw [List.mem_append, h2, List.mem_singleton]
        constructor
        · rintro (⟨i, a, b, c⟩ | h)
          · exact ⟨i, by omega, b, c⟩
          · exact ⟨u, by omega, hlu, h⟩
        · rintro ⟨i, a, b, c⟩
          by_cases hi : i = u
          · subst hi; exact .inr c
          · exact .inl ⟨i, by omega, b, c⟩
      · dsimp only
        by_cases hkey : key = (o u).key
        · rw [if_pos hkey]
          exact ⟨fun _ => ⟨u, by omega, by omega, hc.1, hkey.symm⟩, fun _ => rfl⟩
        · rw [if_neg hkey, h3]
          constructor
          · rintro ⟨i, a, b, c, d⟩; exact ⟨i, by omega, b, c, d⟩
          · rintro ⟨i, a, b, c, d⟩
            by_cases hi : i = u
            · subst hi; exact absurd d.symm hkey
            · exact ⟨i, by omega, b, c, d⟩
    · rw [if_neg hc]
      refine ⟨h1, fun x => ?_, fun key => ?_⟩
      · rw [h2]
        constructor
        · rintro ⟨i, a, b, c⟩; exact ⟨i, by omega, b, c⟩
        · rintro ⟨i, a, b, c⟩
          by_cases hi : i = u
          · subst hi; exact absurd (hcase.2 b) hc
          · exact ⟨i, by omega, b, c⟩
      · rw [h3]
        constructor
        · rintro ⟨i, a, b, c, d⟩; exact ⟨i, by omega, b, c, d⟩
        · rintro ⟨i, a, b, c, d⟩
          by_cases hi : i = u
          · subst hi
            have hs : (s.2 (o i).key).isSome = true := by
              cases hs : (s.2 (o i).key).isSome with
              | true => rfl
              | false => exact absurd ⟨c, hs⟩ hc
            obtain ⟨j, a', b', c', d'⟩ := (h3 (o i).key).1 hs
            exact ⟨j, a', b', c', d'.trans d⟩
          · exact ⟨i, by omega, b, c, d⟩

set_option maxRecDepth 100000 in
theorem cols_wrl (o : Nat → O3) (len : Nat) (hk : ∀ i, i < len → 0 ≤ (o i).key ∧ (o i).key ≤ 15) (ys : List (Pl len)) (hC : Comes len ys len) (hl : ys.length = len) (l' : List O3) (hp : l'.Perm (colS o ys).1)
    (hs : ∀ i j, i < j → j < (colS o ys).1.length → ¬ (lf l' j).key < (lf l' i).key) : l' = wrl o len 16 := by
  obtain ⟨w1, w2⟩ := wrl_spec o len 16
  by_cases h0 : 0 < len
  · rw [hC h0] at hp hs
    obtain ⟨h1, h2, _⟩ := col_spec o len h0 len (Nat.le_refl _)
    have hd : l'.Pairwise (fun a b => ¬ a.key = b.key) := (hp.pairwise_iff (fun {x y} h e => h e.symm)).2 h1
    refine strict_eq _ _ ?_ w1 fun x => ?_
    · rw [List.pairwise_iff_getElem] at hd ⊢
      intro i j hi hj hij
      have ha := hd i j hi hj hij
      have hb := hs i j hij (by rw [← hp.length_eq]; exact hj)
      have e1 : lf l' i = l'[i] := by unfold lf; rw [List.getD_eq_getElem?_getD, List.getElem?_eq_getElem hi]; rfl
      have e2 : lf l' j = l'[j] := by unfold lf; rw [List.getD_eq_getElem?_getD, List.getElem?_eq_getElem hj]; rfl
      rw [e1, e2] at hb
      omega
    · rw [hp.mem_iff, h2, w2]
      constructor
      · rintro ⟨i, _, b, c⟩
        have hi := (lastIx_iff o _ len i).1 b
        have hkr := hk i hi.1
        refine ⟨(o i).key.toNat, i, by omega, ?_, c⟩
        rw [show (((o i).key.toNat : Nat) : Int) = (o i).key by omega]
        exact b
      · rintro ⟨kk, i, _, b, c⟩
        have hi := (lastIx_iff o _ len i).1 b
        exact ⟨i, by omega, by rw [hi.2.2.1]; exact b, c⟩
  · obtain rfl : len = 0 := by omega
    have hy : ys = [] := List.length_eq_zero_iff.1 hl
    subst hy
    have e : l' = [] := hp.eq_nil
    rw [e]
    symm
    cases hw : wrl o 0 16 with
    | nil => rfl
    | cons a t =>
      have := (w2 a).1 (by rw [hw]; exact List.mem_cons_self ..)
      obtain ⟨kk, i, _, b, _⟩ := this
      cases b

end Go.Proofs.Yteobndfkkpfnlaa

namespace Go.Proofs.Yteobndfkkpfnlaa
open Go.RowKit Go.Shelf

attribute [local go_sem] Oper.semAt_some

set_option maxRecDepth 100000 in
theorem sort_any (l : List O3) (sp : Option Addr) (cp base : Nat) (w : World) (hl : l.length ≤ 1000) (h : w.ownsRow base 44 3 (.slice sp l.length cp) l.length (rowO (lf l) l.length)) :
    Calls Try.prog 81 #[.slice sp l.length cp, .func (.func 82) #[] #[]] w (SortP l sp cp base w) := by
  rcases Nat.eq_zero_or_pos l.length with h0 | h0
  · obtain rfl : l = [] := List.length_eq_zero_iff.1 h0
    have hcon := AnyF.slices_SortFunc_none Try.sortOps sp cp (.func (.func 82) #[] #[]) w
    change Calls Try.prog 81 _ _ _ at hcon
    refine hcon.mono ?_
    rintro e w' ⟨rfl, rfl⟩
    exact ⟨rfl, [], List.Perm.refl _, fun i j _ hj => absurd hj (Nat.not_lt_zero _), h, ⟨rfl, rfl, rfl, Nat.le_refl _, fun _ _ _ => rfl⟩⟩
  · obtain ⟨g, cp', e, _, _⟩ := h.form h0
    injection e with e1 _ _
    subst e1
    exact sort_some l g cp base w hl h

/-- between two rounds -/
structure WI (w : World) (o : Nat → O3) (sp : Option Addr) (len cap : Nat) (pre : List (Pl len)) (W : World) : Prop where
  box : ∃ v, Boxed W (w.heap.size + 1) 45 v ∧ W.ownsRow w.heap.size 44 3 v (colS o pre).1.length (rowO (lf (colS o pre).1) (colS o pre).1.length)
  lbox : Boxed W (w.heap.size + 1 + 1 + 1) 120 (.map (some (w.heap.size + 1 + 1)))
  sbox : Boxed W (w.heap.size + 1 + 1 + 1 + 1) 45 (.slice sp len cap)
  mp : MapS W (w.heap.size + 1 + 1) pre.length (colS o pre).2
  bel : Below w.heap.size w W

set_option maxRecDepth 100000 in
theorem WI.own (w : World) (o : Nat → O3) (sp : Option Addr) (len cap B : Nat) (hB : w.heap.size + 5 ≤ B) : OwnFrom B (WI w o sp len cap) := by
  intro pre W W' row h hg hr
  have ne : ∀ b, b < B → some b ≠ row := fun b hb e => by have := (hr b e.symm).1; omega
  obtain ⟨v, hv, hrow⟩ := h.box
  refine ⟨⟨v, hv.kept hg (ne _ (by omega)), own_keep hrow fun g hg' => ?_⟩, h.lbox.kept hg (ne _ (by omega)), h.sbox.kept hg (ne _ (by omega)), h.mp.kept (hg.block _ h.mp.lt (ne _ (by omega))), h.bel.grown hg h.bel.size (fun k e => by have := (hr k e).1; omega)⟩
  obtain ⟨cur, e⟩ := own_cells hrow hg'
  refine hg.block g (hrow.lt g hg').2 (fun e' => ?_)
  obtain ⟨_, ob, h1, h2⟩ := hr g e'.symm
  rw [e] at h1
  injection h1 with h1
  rw [← h1] at h2
  cases h2

/-- the box of a round's operation -/
def Ax (B : Nat) (w : World) (c st : Int) (sp : Option Addr) (len cap : Nat) (o : Nat → O3) (x : Pl len) (a' : Act) (W : World) : Prop :=
  ∃ Bx, B ≤ Bx ∧ W.heap[Bx]? = some (.cells #[.int .i64 (o x.1).k, .int .i64 (o x.1).key, .int .i64 (o x.1).v] 44 (0, 0)) ∧
    a' = { tmps := #[.agg #[.int .i64 c, .int .i64 st, .slice sp len cap], .pointer (some ⟨w.heap.size, 0, none⟩), .slice none 0 0, .pointer (some ⟨w.heap.size + 1, 0, none⟩), .pointer (some ⟨w.heap.size + 1 + 1 + 1, 0, none⟩), .int .i64 (x.1 : Int), .pointer (some ⟨Bx, 0, none⟩), undef, undef, .map (some (w.heap.size + 1 + 1)), .pointer (some ⟨w.heap.size, 2, none⟩), .slice sp len cap, .func (.func 90) #[] #[.pointer (some ⟨w.heap.size + 1 + 1 + 1 + 1, 0, none⟩)], .int .i64 (x.1 : Int), .agg #[.int .i64 (o x.1).k, .int .i64 (o x.1).key, .int .i64 (o x.1).v], undef, undef, undef, undef, undef, undef, undef, undef, undef, undef, undef, undef, undef, undef, undef, undef, undef, undef, undef, undef, undef, undef], defers := [] }

set_option maxRecDepth 100000 in
theorem Ax.own (B B' : Nat) (w : World) (c st : Int) (sp : Option Addr) (len cap : Nat) (o : Nat → O3) (x : Pl len) (a' : Act) : OwnFrom B' (fun (_ : Unit) W => Ax B w c st sp len cap o x a' W) := by
  intro _ W W' row ⟨Bx, h1, h2, h3⟩ hg hr
  refine ⟨Bx, h1, (hg.block Bx (Array.getElem?_eq_some_iff.1 h2).1 (fun e => ?_)).trans h2, h3⟩
  obtain ⟨_, ob, e1, e2⟩ := hr Bx e.symm
  rw [h2] at e1
  injection e1 with e1
  rw [← e1] at e2
  cases e2

set_option maxRecDepth 100000 in
set_option maxHeartbeats 4000000 in
theorem hwrites_any (c st : Int) (sp : Option Addr) (len cap : Nat) (o : Nat → O3) (w : World) (hlen : len ≤ 1000) (hk : ∀ i, i < len → 0 ≤ (o i).key ∧ (o i).key ≤ 15) (hs : OpS w sp len o) :
    Calls Try.prog 67 #[.agg #[.int .i64 c, .int .i64 st, .slice sp len cap]] w (OpsP (wrl o len 16) w) := by
  refine (callsIn_wide (n := 4)).1 ?_
  have HS := Lib.hid hs
  have HK := Lib.hid hk
  clear hs hk
  have hmm := @run_makeMap Try.prog
  obtain ⟨i8, hi8, hx0, hx1, hx2⟩ := info_parts info38
  refine callsIn_of_wp_marks Try.func67 rfl trivial ?_ rfl
  simp only [Try.ntmps67, List.size_toArray, List.length_cons, List.length_nil, Nat.reduceAdd, Nat.reduceSub, Array.replicate_succ, Array.replicate_zero, List.push_toArray, List.append_toArray, List.nil_append, List.cons_append]
  gi_wp2_with (refine ⟨trivial, ?_⟩; gi_at_call 80; refine (bw_in Fence.wide 3 trivial rfl _ _ _ _).mono ?_; rintro e w' ⟨rfl, rfl⟩)
  obtain ⟨W0, hW0⟩ : ∃ W0, ((((w.alloc (.cells #[.int .i64 c, .int .i64 st, .slice sp len cap] 47)).alloc (.cells #[.slice none 0 0] 45)).alloc (.map #[] 0)).alloc (.cells #[.map (some (w.heap.size + 1 + 1))] 120)).alloc (.cells #[.slice sp len cap] 45) = W0 := ⟨_, rfl⟩
  have hsz : W0.heap.size = w.heap.size + 5 := by rw [← hW0]; simp
  have hB0 : Below w.heap.size w W0 := by
    rw [← hW0]
    exact (((((Below.refl _ w).alloc (Nat.le_refl _) _).alloc (by simp) _).alloc (by simp; omega) _).alloc (by simp; omega) _).alloc (by simp; omega) _
  have b1 : Boxed W0 (w.heap.size + 1) 45 (.slice none 0 0) := by
    have h := (((Boxed.new (w.alloc (.cells #[.int .i64 c, .int .i64 st, .slice sp len cap] 47)) 45 (.slice none 0 0)).alloc (.map #[] 0)).alloc (.cells #[.map (some (w.heap.size + 1 + 1))] 120)).alloc (.cells #[.slice sp len cap] 45)
    simp only [World.size_alloc] at h
    rw [hW0] at h; exact h
  have m1 : MapS W0 (w.heap.size + 1 + 1) 0 (fun _ => none) := by
    have h := MapS.made ((w.alloc (.cells #[.int .i64 c, .int .i64 st, .slice sp len cap] 47)).alloc (.cells #[.slice none 0 0] 45))
    simp only [World.size_alloc] at h
    rw [← hW0]
    exact (h.kept (Below.heap_alloc _ _ _ (by simp))).kept (Below.heap_alloc _ _ _ (by simp))
  have b3 : Boxed W0 (w.heap.size + 1 + 1 + 1) 120 (.map (some (w.heap.size + 1 + 1))) := by
    have h := (Boxed.new (((w.alloc (.cells #[.int .i64 c, .int .i64 st, .slice sp len cap] 47)).alloc (.cells #[.slice none 0 0] 45)).alloc (.map #[] 0)) 120 (.map (some (w.heap.size + 1 + 1)))).alloc (.cells #[.slice sp len cap] 45)
    simp only [World.size_alloc] at h
    rw [hW0] at h; exact h
  have b4 : Boxed W0 (w.heap.size + 1 + 1 + 1 + 1) 45 (.slice sp len cap) := by
    have h := Boxed.new ((((w.alloc (.cells #[.int .i64 c, .int .i64 st, .slice sp len cap] 47)).alloc (.cells #[.slice none 0 0] 45)).alloc (.map #[] 0)).alloc (.cells #[.map (some (w.heap.size + 1 + 1))] 120)) 45 (.slice sp len cap)
    simp only [World.size_alloc] at h
    rw [hW0] at h; exact h
  rw [hW0]
  clear hW0
  have hsrc : 0 < len → ∃ b off, sp = some ⟨b, off, none⟩ ∧ b < w.heap.size ∧ ∀ i, i < len → W0.cell? ⟨b, off + i * 3, none⟩ = some (.int .i64 (o i).k) ∧ W0.cell? ⟨b, off + i * 3 + 1, none⟩ = some (.int .i64 (o i).key) ∧ W0.cell? ⟨b, off + i * 3 + 2, none⟩ = some (.int .i64 (o i).v) := fun hl => by
    obtain ⟨b, off, e, hb, hc⟩ := HS.out hl
    refine ⟨b, off, e, hb, fun i hi => ?_⟩
    obtain ⟨c0, c1, c2⟩ := hc i hi
    exact ⟨(hB0.cell hb).trans c0, (hB0.cell hb).trans c1, (hB0.cell hb).trans c2⟩
  refine wpIn_rangeFunc_ownH rfl (by decide) (gf := 90) (lb := #[.pointer (some ⟨w.heap.size + 1 + 1 + 1 + 1, 0, none⟩)]) rfl trivial (enters_of Try.func90 (by kernel_rfl) rfl)
    (bw_stops Fence.wide 3 trivial rfl (by decide) (w.heap.size + 1 + 1 + 1 + 1) w.heap.size sp len cap o hlen W0 (by omega) (by omega) b4.cell hsrc) Kp.trans (kp_b (by omega) (by omega)) (Below.refl _ _) (fun _ => rfl)
    (WI w o sp len cap) (fun _ _ _ => False) (WI.own w o sp len cap _ (by omega)) (fun _ _ _ _ _ hs _ _ => hs)
    ⟨⟨_, b1, World.ownsRow_nil _ _ _ _⟩, b3, b4, m1, hB0⟩
    (Ax W0.heap.size w c st sp len cap o) (Ax.own _ _ w c st sp len cap o)
    ?assign ?body ?done ?stop
  case assign =>
    rintro l pre x W K hI hK
    have hWs : w.heap.size + 5 ≤ W.heap.size := by have := hI.sbox.lt; omega
    have hR := hI.bel.size
    unfold encs
    gi_wp2
    refine hK _ _ ((KeepsOthers.alloc _ _).from _) ⟨(Below.refl _ W).alloc hR _, ?_⟩ ?_ ⟨W.heap.size, by omega, ?_, rfl⟩
    · exact Below.heap_alloc _ _ _ (by omega)
    · have hal : Below W.heap.size W (W.alloc (.cells #[.int .i64 (o x.1).k, .int .i64 (o x.1).key, .int .i64 (o x.1).v] 44)) := (Below.refl _ _).alloc (Nat.le_refl _) _
      obtain ⟨v, hv, hrow⟩ := hI.box
      exact ⟨⟨v, hv.alloc _, own_keep hrow fun g hg => hal.block g (hrow.lt g hg).2⟩, hI.lbox.alloc _, hI.sbox.alloc _, hI.mp.kept (hal.block _ hI.mp.lt), hI.bel.trans (hal.mono hR)⟩
    · exact World.alloc_heap_new W _
  case body =>
    rintro l pre x a' W hl ⟨r, hr⟩ hI ⟨Bx, hBx, hX, rfl⟩ hlt
    obtain ⟨v, hv, hrow⟩ := hI.box
    obtain ⟨⟨x0, x1, x2⟩, _⟩ := cells3 hX
    have cl := hI.lbox.cell
    have hkr := HK.out x.1 x.2
    have hxi := x.2
    have hpl := colS_le o pre
    have HSN := Lib.hid (colS_snoc o pre x)
    have HMP := Lib.hid hI.mp
    have HI := Lib.hid hI
    have HROW := Lib.hid hrow
    have HBOX := Lib.hid hv
    have hR := hI.bel.size
    have hBxl : Bx < W.heap.size := (Array.getElem?_eq_some_iff.1 hX).1
    have HX := Lib.hid hX
    clear hI hrow hX
    unfold stp at HSN
    obtain ⟨ok, eok⟩ : ∃ z, z = (o x.1).k := ⟨_, rfl⟩
    obtain ⟨okey, eokey⟩ : ∃ z, z = (o x.1).key := ⟨_, rfl⟩
    obtain ⟨ov, eov⟩ : ∃ z, z = (o x.1).v := ⟨_, rfl⟩
    have HOT : Hid (o x.1 = ⟨ok, okey, ov⟩) := Lib.hid (by rw [eok, eokey, eov])
    rw [← eok] at x0 HX HSN ⊢
    rw [← eokey] at x1 HX HSN hkr ⊢
    rw [← eov] at x2 HX ⊢
    clear eok eokey eov
    have HSAME : Hid (colS o (pre ++ [x]) = colS o pre → WI w o sp len cap (pre ++ [x]) W) := Lib.hid fun e => ⟨by rw [e]; exact HI.out.box, HI.out.lbox, HI.out.sbox, by rw [e, List.length_append]; exact HI.out.mp.mono (by omega), HI.out.bel⟩
    by_cases hk2 : ok = 2
    · subst hk2
      have hlook := HMP.out.look okey (by omega)
      cases hm : (colS o pre).2 okey with
      | some z =>
        rw [hm] at hlook HSN
        simp only [Option.getD_some, Option.isSome_some] at hlook
        rw [if_neg (fun h => by cases h.2)] at HSN
        have HW := Lib.hid (HSAME.out HSN.out)
        clear hm
        gi_wp2
        exact ⟨KeepsFrom.refl _ _, Kp.refl _ _ _, HW.out⟩
      | none =>
        rw [hm] at hlook HSN
        simp only [Option.getD_none, Option.isSome_none] at hlook
        rw [if_pos ⟨rfl, rfl⟩] at HSN
        obtain ⟨w1, hrun, hm1, hg1⟩ := HMP.out.update okey (x.1 : Int) (by omega) (by omega) (by omega)
        obtain ⟨es, cm, hmap⟩ := HMP.out.isMap
        have hX1 : w1.heap[Bx]? = some (.cells #[.int .i64 2, .int .i64 okey, .int .i64 ov] 44 (0, 0)) := (hg1.block Bx hBxl (fun e => by injection e with e; omega)).trans HX.out
        obtain ⟨⟨z0, z1, z2⟩, _⟩ := cells3 hX1
        have hv1 : Boxed w1 (w.heap.size + 1) 45 v := hv.kept hg1 (fun e => by injection e with e; omega)
        have hl1 : Boxed w1 (w.heap.size + 1 + 1 + 1) 120 (.map (some (w.heap.size + 1 + 1))) := HI.out.lbox.kept hg1 (fun e => by injection e with e; omega)
        have hs1 : Boxed w1 (w.heap.size + 1 + 1 + 1 + 1) 45 (.slice sp len cap) := HI.out.sbox.kept hg1 (fun e => by injection e with e; omega)
        have hrow1 : w1.ownsRow w.heap.size 44 3 v (colS o pre).1.length (rowO (lf (colS o pre).1) (colS o pre).1.length) := own_keep HROW.out fun g hg => hg1.block g (HROW.out.lt g hg).2 (fun e => by
          injection e with e
          obtain ⟨cur, e1⟩ := own_cells HROW.out hg
          rw [e, hmap] at e1; cases e1)
        have hB1 : Below w.heap.size W w1 := (Below.refl _ W).grown hg1 hR (fun q hq => by injection hq with hq; omega)
        have HBW1 := Lib.hid (HI.out.bel.trans hB1)
        have hR1 : w.heap.size ≤ w1.heap.size := HBW1.out.size
        obtain ⟨sv, cv, rfl⟩ := own_form' hrow1
        have cw := hv1.cell
        have HNW : Hid (∀ (j : Nat) (u : Value), [Value.int .i64 2, .int .i64 okey, .int .i64 ov][j]? = some u → (w1.alloc (.cells #[.int .i64 2, .int .i64 okey, .int .i64 ov] 44)).cell? ((⟨w1.heap.size, 0, none⟩ : Addr).add j) = some u) := Lib.hid fun j u hj => by
          rw [Go.WideShapes.add_plain, cell_of_row _ _ _ _ 44 (0, 0) (World.alloc_heap_new w1 _), Nat.zero_add]
          simpa using hj
        have HROW1 := Lib.hid hrow1
        have HV1 := Lib.hid hv1
        have HS1 := Lib.hid hs1
        have HL1 := Lib.hid hl1
        have HM1 := Lib.hid hm1
        have HG1 := Lib.hid hg1
        have HB1 := Lib.hid hB1
        have HCLE := Lib.hid hpl
        have hcl : (colS o pre).1.length ≤ 1000 := by omega
        generalize hLL : (colS o pre).1.length = LL at *
        have HLL := Lib.hid hLL
        clear hm hX1 hv1 hl1 hs1 hm1 hg1 hB1 hmap hLL hrow1
        gi_wp2_with (gi_at_builtin; refine wpListIn_append_own _ rfl _ _ 45 rfl w.heap.size 44 i8 (.agg #[.int .i64 0, .int .i64 0, .int .i64 0]) 3 24 Try.underlying45 hi8 hx0 hx1 hx2 rfl (by decide) _ _ _ rfl (HROW1.out.alloc _) ⟨w1.heap.size, 0, none⟩ 1 1 [.int .i64 2, .int .i64 okey, .int .i64 ov] rfl rfl HNW.out (by intro u hu; simp at hu; rcases hu with rfl | rfl | rfl <;> rfl) (by unfold maxLen; omega) (by omega) (by simp; omega) ?_; intro v' w2 hown' hgrow hnn; obtain ⟨g', cap', rfl⟩ := ownsRow_succ hown'; obtain ⟨hv1, hv2, hr2, hk2, hb2⟩ := HV1.out.appended (by decide) HROW1.out hR1 (by omega) hown' hgrow; have hc1 := hv1.cell; have hf1 := hv1.frozen)
        have hs2 := ((HS1.out.alloc _).kept hgrow (HS1.out.not_row (by decide) HROW1.out)).other (B' := w.heap.size + 1) (by omega) (.slice (some ⟨g', 0, none⟩) (LL + 1) cap')
        have hl2 := ((HL1.out.alloc _).kept hgrow (HL1.out.not_row (by decide) HROW1.out)).other (B' := w.heap.size + 1) (by omega) (.slice (some ⟨g', 0, none⟩) (LL + 1) cap')
        obtain ⟨es1, cm1, hmap1⟩ := HM1.out.isMap
        have hm2 := ((HM1.out.kept (Below.heap_alloc _ (.cells #[.int .i64 2, .int .i64 okey, .int .i64 ov] 44) _ HM1.out.lt)).kept (hgrow.block _ (Nat.lt_of_lt_of_le HM1.out.lt (by simp)) (fun e => by
          obtain ⟨cur, e1⟩ := own_cells HROW1.out e.symm
          rw [hmap1] at e1; cases e1))).kept (heap_setCell_other w2 ⟨w.heap.size + 1, 0, none⟩ (w.heap.size + 1 + 1) (.slice (some ⟨g', 0, none⟩) (LL + 1) cap') (fun e => by dsimp only at e; omega))
        refine ⟨(KeepsFrom.of_grownBy HG1.out (fun j e => by injection e with e; omega)).trans (hk2.from _), ⟨HB1.out.trans hb2, (show _ = _ from hs2).trans (show _ = _ from HI.out.sbox).symm⟩, ?_⟩
        refine ⟨⟨_, hv2, ?_⟩, hl2, hs2, ?_, HBW1.out.trans hb2⟩
        · rw [HSN.out, HOT.out]
          rw [rowO_snoc, List.length_append, List.length_singleton, HLL.out]
          exact hr2
        · rw [HSN.out, List.length_append]
          exact hm2
    · have hkb : (ok != 2) = true := by rw [bne_iff_ne]; exact hk2
      rw [if_neg (fun h => hk2 h.1)] at HSN
      have HW := Lib.hid (HSAME.out HSN.out)
      clear hk2
      gi_wp2
      exact ⟨KeepsFrom.refl _ _, Kp.refl _ _ _, HW.out⟩
  case done =>
    rintro D ys W hD ⟨hC, hyl⟩ hI hK
    obtain ⟨v, hv, hrow⟩ := hI.box
    obtain ⟨sv, cv, rfl⟩ := own_form' hrow
    have cw := hv.cell
    have hle := colS_le o ys
    have HROW := Lib.hid hrow
    have HV := Lib.hid hv
    have HI := Lib.hid hI
    have HKD := Lib.hid hK
    clear hrow hv hI hK
    gi_wp2_with (refine ⟨trivial, ?_⟩; gi_at_call 81; refine (callsIn_wide.2 (sort_any (colS o ys).1 sv cv w.heap.size W (by omega) HROW.out)).mono ?_; rintro e W5 ⟨rfl, l', hp, hss, hown5, hg5⟩; have cw5 := (HV.out.kept hg5 (HV.out.not_row (by decide) HROW.out)).cell)
    have hK5 : W5.heap[D]? = some (.deferred (some [])) := (hg5.block D (Array.getElem?_eq_some_iff.1 HKD.out).1 (fun e => by
      obtain ⟨cur, e1⟩ := own_cells HROW.out e.symm
      rw [HKD.out] at e1; cases e1)).trans HKD.out
    have hl' : l' = wrl o len 16 := cols_wrl o len HK.out ys hC hyl l' hp (fun i j h1 h2 => by have := hss i j h1 h2; omega)
    have hlen' : (colS o ys).1.length = (wrl o len 16).length := by rw [← hl', hp.length_eq]
    refine ⟨by simp, .inl ⟨_, _, rfl, run_takeDeferred hK5, ?_⟩⟩
    have hB5 : Below w.heap.size w W5 := HI.out.bel.grown hg5 HI.out.bel.size (fun q hq => (HROW.out.lt q hq).1)
    refine ⟨_, results_tmp rfl _ _ _, sv, cv, ?_, ?_, hB5.trans (belowK_b (w := w) (Nat.le_refl _) W5 D _ _ (by omega) hK5 rfl rfl)⟩
    · rw [← hlen']; rfl
    · rw [← hlen', ← hl']
      exact ownsRow_putObj hown5 _ hK5 rfl
  case stop =>
    rintro D c pre W _ _ h _
    exact h.elim

end Go.Proofs.Yteobndfkkpfnlaa

namespace Go.Proofs.Yteobndfkkpfnlaa
/-- how many of the first i events are of a kind -/
def cnt (E : Nat → Ev) (k : Int) : Nat → Nat
  | 0 => 0
  | i + 1 => cnt E k i + (if (E i).k = k then 1 else 0)

/-- how many of the first m transactions are in a state -/
def cst (T : Nat → Tx) (st : Int) : Nat → Nat
  | 0 => 0
  | j + 1 => cst T st j + (if (T j).st = st then 1 else 0)

set_option maxRecDepth 100000 in
theorem cst_congr (T T' : Nat → Tx) (st : Int) (m : Nat) (h : ∀ j, j < m → (T j).st = (T' j).st) : cst T st m = cst T' st m := by
  induction m with
  | zero => rfl
  | succ m ih => show cst T st m + _ = cst T' st m + _; rw [ih fun j hj => h j (by omega), h m (by omega)]

set_option maxRecDepth 100000 in
theorem cst_upd (T : Nat → Tx) (st : Int) (t : Tx) (j : Nat) : ∀ m, j < m → cst (fun x => if x = j then t else T x) st m + (if (T j).st = st then 1 else 0) = cst T st m + (if t.st = st then 1 else 0) := by
  intro m
  induction m with
  | zero => intro h; omega
  | succ m ih =>
    intro hj
    show cst (fun x => if x = j then t else T x) st m + (if (if m = j then t else T m).st = st then 1 else 0) + _ = cst T st m + (if (T m).st = st then 1 else 0) + _
    by_cases h : m = j
    · subst h
      rw [if_pos rfl, cst_congr (fun x => if x = m then t else T x) T st m fun x hx => by rw [if_neg (by omega)]]
      omega
    · rw [if_neg h]
      have := ih (by omega)
      omega

/-- what a good history keeps -/
structure Kept (E : Nat → Ev) (s : St) (i : Nat) : Prop where
  m : s.m = cnt E 1 i
  done : cst s.T 1 s.m = cnt E 2 i
  gone : cst s.T 2 s.m = cnt E 3 i
  bz : ∀ c x, s.bz c = some x → ∃ j : Nat, x = (j : Int) ∧ j < s.m ∧ (s.T j).st = 0 ∧ (s.T j).c = c

set_option maxRecDepth 100000 in
theorem kept_at (E : Nat → Ev) (i : Nat) (h : Good E i) : Kept E (stateAt E i) i := by
  induction i with
  | zero => exact ⟨rfl, rfl, rfl, fun c x hx => (by cases hx)⟩
  | succ i ih =>
    have hk := ih fun j hj => h j (by omega)
    have he := h i (by omega)
    have c1 : cnt E 1 (i + 1) = cnt E 1 i + (if (E i).k = 1 then 1 else 0) := rfl
    have c2 : cnt E 2 (i + 1) = cnt E 2 i + (if (E i).k = 2 then 1 else 0) := rfl
    have c3 : cnt E 3 (i + 1) = cnt E 3 i + (if (E i).k = 3 then 1 else 0) := rfl
    show Kept E (nextS (stateAt E i) (E i)) (i + 1)
    generalize stateAt E i = s at *
    generalize hev : E i = e at *
    by_cases hk1 : e.k = 1
    · have hb : s.bz e.c = none := by
        rcases he with ⟨_, h⟩ | ⟨_, _, h⟩ | ⟨_, _, h, _⟩ | ⟨_, _, h, _⟩ | ⟨_, h, _⟩
        · cases h
        · cases h
        · exact h
        · exact h
        · exact absurd hk1 h
      unfold nextS
      rw [if_pos hk1]
      rw [if_pos hk1] at c1
      rw [if_neg (by omega)] at c2 c3
      have hc : ∀ st : Int, ¬ st = 0 → cst (fun i => if i = s.m then (⟨e.c, 0, e.n, e.o⟩ : Tx) else s.T i) st (s.m + 1) = cst s.T st s.m := fun st hst => by
        show cst (fun i => if i = s.m then (⟨e.c, 0, e.n, e.o⟩ : Tx) else s.T i) st s.m + (if (if s.m = s.m then (⟨e.c, 0, e.n, e.o⟩ : Tx) else s.T s.m).st = st then 1 else 0) = _
        rw [if_pos rfl, if_neg (fun h => hst h.symm), Nat.add_zero]
        exact cst_congr _ _ st s.m fun j hj => by rw [if_neg (by omega)]
      refine ⟨by rw [c1, ← hk.m], (hc 1 (by decide)).trans (hk.done.trans c2.symm), (hc 2 (by decide)).trans (hk.gone.trans c3.symm), fun c x hx => ?_⟩
      simp only at hx
      by_cases hcc : c = e.c
      · rw [if_pos hcc] at hx
        injection hx with hx
        exact ⟨s.m, hx.symm, Nat.lt_succ_self _, by simp, by simp [hcc]⟩
      · rw [if_neg hcc] at hx
        obtain ⟨j, e1, e2, e3, e4⟩ := hk.bz c x hx
        refine ⟨j, e1, Nat.lt_succ_of_lt e2, ?_, ?_⟩
        · show (if j = s.m then (⟨e.c, 0, e.n, e.o⟩ : Tx) else s.T j).st = 0
          rw [if_neg (by omega)]; exact e3
        · show (if j = s.m then (⟨e.c, 0, e.n, e.o⟩ : Tx) else s.T j).c = c
          rw [if_neg (by omega)]; exact e4
    · have hb : (s.bz e.c).isSome = true := by
        rcases he with ⟨_, h⟩ | ⟨_, _, h⟩ | ⟨_, h, _⟩ | ⟨_, h, _⟩ | ⟨_, _, h, _⟩
        · cases h
        · cases h
        · exact absurd h hk1
        · exact absurd h hk1
        · exact h
      obtain ⟨x, hx⟩ := Option.isSome_iff_exists.1 hb
      obtain ⟨j, rfl, hjm, hj0, hjc⟩ := hk.bz e.c x hx
      have hix : idx s e = j := by unfold idx; simp [hx]
      unfold nextS
      rw [if_neg hk1, hix]
      rw [if_neg hk1] at c1
      have hu1 := cst_upd s.T 1 (endT (s.T j) e.k e.n e.o) j s.m hjm
      have hu2 := cst_upd s.T 2 (endT (s.T j) e.k e.n e.o) j s.m hjm
      rw [hj0, if_neg (by decide), Nat.add_zero] at hu1 hu2
      have hst : (endT (s.T j) e.k e.n e.o).st = if e.k = 2 then 1 else if e.k = 3 then 2 else 0 := by
        unfold endT
        split
        · rfl
        · split
          · rfl
          · exact hj0
      have hcc : (endT (s.T j) e.k e.n e.o).c = (s.T j).c := by
        unfold endT
        split
        · rfl
        · split <;> rfl
      refine ⟨hk.m.trans c1.symm, ?_, ?_, fun c x hxx => ?_⟩
      · show cst (fun x => if x = j then endT (s.T j) e.k e.n e.o else s.T x) 1 s.m = cnt E 2 (i + 1)
        rw [hu1, hk.done, c2, hst]
        by_cases h2 : e.k = 2
        · simp [h2]
        · by_cases h3 : e.k = 3 <;> simp [h2, h3]
      · show cst (fun x => if x = j then endT (s.T j) e.k e.n e.o else s.T x) 2 s.m = cnt E 3 (i + 1)
        rw [hu2, hk.gone, c3, hst]
        by_cases h2 : e.k = 2
        · simp [h2]
        · by_cases h3 : e.k = 3 <;> simp [h2, h3]
      · simp only at hxx
        by_cases hce : c = e.c
        · rw [if_pos hce] at hxx; cases hxx
        · rw [if_neg hce] at hxx
          obtain ⟨y, e1, e2, e3, e4⟩ := hk.bz c x hxx
          have hyj : ¬ y = j := fun h => hce (by rw [← e4, h, hjc])
          exact ⟨y, e1, e2, by show (if y = j then _ else s.T y).st = 0; rw [if_neg hyj]; exact e3, by show (if y = j then _ else s.T y).c = c; rw [if_neg hyj]; exact e4⟩

end Go.Proofs.Yteobndfkkpfnlaa

namespace Go.Proofs.Yteobndfkkpfnlaa
open Go.ChangeShapes Go.WideShapes Go.ChangeAt Go.RowKit

set_option maxRecDepth 100000 in
theorem OpS.drewN {w : World} {sp : Option Addr} {n : Nat} {o : Nat → O3} (h : OpS w sp n o) (q : Nat) : OpS (w.drewN q) sp n o := h

section

variable {H : Type} {enc : TypeId × Value → H} {w : World} {base : Nat} {spare : Nat → Bool} {held : Bool}

end

end Go.Proofs.Yteobndfkkpfnlaa

namespace Go.Proofs.Yteobndfkkpfnlaa
open Go.ChangeShapes Go.WideShapes Go.ChangeAt Go.RowKit

section

variable {H : Type} {enc : TypeId × Value → H} {w : World} {base : Nat} {spare : Nat → Bool} {held : Bool}

end

/-- an operation of a history, as the law asks -/
def LOp (t : O3) : Prop := (t.k = 1 ∨ t.k = 2) ∧ 0 ≤ t.key ∧ t.key ≤ 15

end Go.Proofs.Yteobndfkkpfnlaa

namespace Go.Proofs.Yteobndfkkpfnlaa
open Go.ChangeShapes Go.WideShapes Go.ChangeAt Go.RowKit

end Go.Proofs.Yteobndfkkpfnlaa

namespace Go.Proofs.Yteobndfkkpfnlaa
open Go.ChangeShapes Go.WideShapes Go.ChangeAt Go.RowKit

set_option maxRecDepth 100000 in
theorem EvO.congr {w : World} {B len : Nat} {v : Value} {E E' : Nat → Ev} {V : Nat → Value} (h : EvO w B v len E V) (he : ∀ j, j < len → E j = E' j) : EvO w B v len E' V := by
  refine ⟨?_, fun i hi => by rw [← he i hi]; exact h.ops i hi⟩
  rw [rowT_congr (fun i => asT (E' i)) (fun i => asT (E i)) V V len fun i hi => by rw [he i hi]; exact ⟨rfl, rfl, rfl⟩]
  exact h.row

end Go.Proofs.Yteobndfkkpfnlaa

namespace Go.Proofs.Yteobndfkkpfnlaa
open Go.ChangeShapes Go.WideShapes Go.ChangeAt Go.RowKit

/-- what Of answers -/
def Fact (E : Nat → Ev) (len m : Nat) (T : Nat → Tx) (i : Nat) (er : Int) : Prop :=
  (400 < len ∧ m = 0 ∧ i = 400 ∧ er = 4) ∨ (len ≤ 400 ∧ ((i < len ∧ Good E i ∧ ErrOf (stateAt E i) (E i) er ∧ ¬ er = 0 ∧ m = 0) ∨ (Good E len ∧ i = 0 ∧ er = 0 ∧ m = (stateAt E len).m ∧ T = (stateAt E len).T)))

def OfQ (E : Nat → Ev) (len : Nat) (w : World) (e : Ending) (w' : World) : Prop :=
  ∃ (m : Nat) (sp : Option Addr) (cp i : Nat) (er : Int) (T : Nat → Tx) (V : Nat → Value), e = .returned (.tuple #[.slice sp m cp, .int .i64 (i : Int), .int .i64 er]) ∧ m ≤ 400 ∧ i ≤ 400 ∧ w'.ownsRow w.heap.size 47 3 (.slice sp m cp) m (rowT T V m) ∧
    (∀ j, j < m → ∃ sp cap, V j = .slice sp (T j).n cap ∧ OpS w' sp (T j).n (T j).o ∧ (T j).n ≤ 1000) ∧ Below w.heap.size w w' ∧ Fact E len m T i er

end Go.Proofs.Yteobndfkkpfnlaa

namespace Go.Proofs.Yteobndfkkpfnlaa
open Go.ChangeShapes Go.WideShapes Go.ChangeAt Go.RowKit

/-- an operation of a history -/
def HOp (t : O3) : Prop := LOp t ∧ 0 ≤ t.v ∧ t.v < 1099511627776

set_option maxRecDepth 100000 in
theorem sop_hop {t : O3} {k : Int} (h : SOp t k) : HOp t := by
  obtain ⟨h1, h2, h3, h4, h5⟩ := h
  refine ⟨⟨?_, h1, h2⟩, h3, h4⟩
  rcases h5 with h | h
  · exact .inl h.1
  · exact .inr h.1

set_option maxRecDepth 100000 in
theorem hops_at (E : Nat → Ev) : ∀ i, Good E i → ∀ j, j < (stateAt E i).m → ∀ x, x < ((stateAt E i).T j).n → HOp (((stateAt E i).T j).o x) := by
  intro i
  induction i with
  | zero => intro _ j hj; exact absurd hj (Nat.not_lt_zero _)
  | succ i ih =>
    intro hg
    have h0 := ih fun j hj => hg j (by omega)
    have he := err0_snd (hg i (by omega))
    have hs : ∀ x, x < (E i).n → HOp ((E i).o x) := fun x hx => sop_hop (he.2.2.2.2.2.2 x hx)
    show ∀ j, j < (nextS (stateAt E i) (E i)).m → ∀ x, x < ((nextS (stateAt E i) (E i)).T j).n → HOp (((nextS (stateAt E i) (E i)).T j).o x)
    generalize stateAt E i = s at *
    unfold nextS
    by_cases hk : (E i).k = 1
    · rw [if_pos hk]
      intro j hj
      have hj' : j < s.m + 1 := hj
      show ∀ x, x < (if j = s.m then (⟨(E i).c, 0, (E i).n, (E i).o⟩ : Tx) else s.T j).n → HOp ((if j = s.m then (⟨(E i).c, 0, (E i).n, (E i).o⟩ : Tx) else s.T j).o x)
      by_cases hjm : j = s.m
      · rw [if_pos hjm]; exact hs
      · rw [if_neg hjm]; exact h0 j (by omega)
    · rw [if_neg hk]
      intro j hj
      have hj' : j < s.m := hj
      show ∀ x, x < (if j = idx s (E i) then endT (s.T (idx s (E i))) (E i).k (E i).n (E i).o else s.T j).n → HOp ((if j = idx s (E i) then endT (s.T (idx s (E i))) (E i).k (E i).n (E i).o else s.T j).o x)
      by_cases hji : j = idx s (E i)
      · rw [if_pos hji]
        unfold endT
        split
        · exact hs
        · split
          · rw [← hji]; exact h0 j hj'
          · rw [← hji]; exact h0 j hj'
      · rw [if_neg hji]; exact h0 j hj'

set_option maxRecDepth 100000 in
theorem lastW_none {o : Nat → O3} {key : Int} : ∀ {i : Nat}, (lastW o i key).isSome = false → ∀ j, j < i → ¬ ((o j).k = 2 ∧ (o j).key = key) := by
  intro i
  induction i with
  | zero => intro _ j hj; exact absurd hj (Nat.not_lt_zero _)
  | succ i ih =>
    intro h j hj hc
    unfold lastW at h
    by_cases hi : (o i).k = 2 ∧ key = (o i).key
    · rw [if_pos hi] at h; cases h
    · rw [if_neg hi] at h
      by_cases hji : j = i
      · subst hji; exact hi ⟨hc.1, hc.2.symm⟩
      · exact ih h j (by omega) hc

set_option maxRecDepth 100000 in
theorem rd_mem {o : Nat → O3} : ∀ {n : Nat} {x : O3}, x ∈ rd o n → ∃ i, i < n ∧ x = o i ∧ (o i).k = 1 ∧ ∀ j, j < i → ¬ ((o j).k = 2 ∧ (o j).key = x.key) := by
  intro n
  induction n with
  | zero => intro x h; cases h
  | succ n ih =>
    intro x h
    unfold rd at h
    split at h
    · rename_i hc
      rcases List.mem_append.1 h with h | h
      · obtain ⟨i, h1, h2⟩ := ih h; exact ⟨i, by omega, h2⟩
      · rw [List.mem_singleton] at h
        subst h
        exact ⟨n, by omega, rfl, hc.1, lastW_none hc.2⟩
    · obtain ⟨i, h1, h2⟩ := ih h; exact ⟨i, by omega, h2⟩

set_option maxRecDepth 100000 in
theorem wrl_mem {o : Nat → O3} {n : Nat} {x : O3} (h : x ∈ wrl o n 16) : ∃ i, i < n ∧ o i = x ∧ (o i).k = 2 := by
  obtain ⟨kk, i, _, h2, rfl⟩ := ((wrl_spec o n 16).2 x).1 h
  have := (lastIx_iff o kk n i).1 h2
  exact ⟨i, this.1, rfl, this.2.1⟩

set_option maxRecDepth 100000 in
theorem lf_mem {l : List O3} {i : Nat} (h : i < l.length) : lf l i ∈ l := by
  unfold lf; rw [List.getD_eq_getElem?_getD, List.getElem?_eq_getElem h]; exact List.getElem_mem h

set_option maxRecDepth 100000 in
theorem eqlO (k key v k' key' v' : Int) (u : World) : (binOp .eql 44 (.agg #[.int .i64 k, .int .i64 key, .int .i64 v]) (.agg #[.int .i64 k', .int .i64 key', .int .i64 v'])).run Try.prog u = .ok (.bool (k == k' && (key == key' && v == v'))) u := by
  rw [run_eql_struct, eqO]; rfl

set_option maxRecDepth 100000 in
theorem guardO (u : World) (x y : Operand) (xs ys : Array Value) : (eqGuard .eql 44 x y (.agg xs) (.agg ys)).run Try.prog u = .ok () u := run_eqGuard_agg u .eql 44 x y xs ys (by kernel_rfl)

end Go.Proofs.Yteobndfkkpfnlaa

namespace Go.Proofs.Yteobndfkkpfnlaa
open Go.ChangeShapes Go.WideShapes Go.ChangeAt Go.RowKit

/-- a client's last event ahead of the i-th -/
def lst (E : Nat → Ev) (c : Int) : Nat → Option Nat
  | 0 => none
  | i + 1 => if (E i).c = c then some i else lst E c i

def lstI (E : Nat → Ev) (c : Int) (i : Nat) : Int := match lst E c i with
  | some j => (j : Int)
  | none => -1

set_option maxRecDepth 100000 in
theorem lst_skip (E : Nat → Ev) (c : Int) (t : Nat) : ∀ i, t ≤ i → (∀ j, t ≤ j → j < i → ¬ (E j).c = c) → lst E c i = lst E c t := by
  intro i
  induction i with
  | zero => intro h _; rw [show t = 0 by omega]
  | succ i ih =>
    intro h hj
    by_cases ht : t = i + 1
    · rw [ht]
    · show (if (E i).c = c then some i else lst E c i) = _
      rw [if_neg (hj i (by omega) (by omega)), ih (by omega) fun j h1 h2 => hj j h1 (by omega)]

set_option maxRecDepth 100000 in
theorem lst_lt (E : Nat → Ev) (c : Int) : ∀ i j, lst E c i = some j → j < i ∧ (E j).c = c := by
  intro i
  induction i with
  | zero => intro j h; cases h
  | succ i ih =>
    intro j h
    unfold lst at h
    split at h
    · rename_i hc
      injection h with h
      subst h
      exact ⟨Nat.lt_succ_self _, hc⟩
    · have := ih j h
      exact ⟨by omega, this.2⟩

def LastP (E : Nat → Ev) (i : Nat) (w : World) (e : Ending) (w' : World) : Prop := e = .returned (.int .i64 (lstI E (E i).c i)) ∧ Below w.heap.size w w'

set_option maxRecDepth 100000 in
set_option maxHeartbeats 2000000 in
theorem last_any (a : Option Addr) (len cap : Nat) (E : Nat → Ev) (i : Nat) (w : World) (hlen : len ≤ 400) (hi : i < len) (hs : EvS w a len E) :
    Calls Try.prog 41 #[.slice a len cap, .int .i64 (i : Int)] w (LastP E i w) := by
  obtain ⟨b, off, rfl, hbl, hci⟩ := hs (by omega)
  have HC := Lib.hid hci
  obtain ⟨_, _, _, d1, _⟩ := hci i hi
  have HD := Lib.hid d1
  clear hci hs d1
  have hi0 : (i : Int) < (len : Int) := by omega
  have hw1 : IntKind.i64.wrap ((i : Int) - 1) = (i : Int) - 1 := IntWalk.i64_in _ (by omega)
  go_enter Try.func41, Try.ntmps41
  go_wp2
  go_loopw [5] (fun x wr => ∃ t : Nat, t ≤ i ∧ x = .int .i64 ((t : Int) - 1) ∧ Hid (Below w.heap.size w wr ∧ ∀ j, t ≤ j → j < i → ¬ (E j).c = (E i).c)) (fun x _ => (intOf x + 1).toNat)
  case atStart => exact ⟨i, Nat.le_refl _, rfl, Lib.hid ⟨Below.refl _ _, fun j h1 h2 => by omega⟩⟩
  case round =>
    obtain ⟨t, ht, rfl, HT⟩ := hrel
    by_cases h0 : t = 0
    · subst h0
      have HR : Hid (lstI E (E i).c i = -1) := Lib.hid (by unfold lstI; rw [lst_skip E _ 0 i (Nat.zero_le _) HT.out.2]; rfl)
      go_wp2
      go_ret
      exact ⟨ret_int HR.out.symm, HT.out.1⟩
    · obtain ⟨u, rfl⟩ : ∃ u, t = u + 1 := ⟨t - 1, by omega⟩
      rw [show (((u + 1 : Nat) : Int) - 1) = (u : Int) by omega]
      obtain ⟨_, _, _, c1, _⟩ := HC.out u (by omega)
      have x1 := (HT.out.1.cell (p := ⟨b, off + u * 3 + 1, none⟩) hbl).trans c1
      have y1 := (HT.out.1.cell (p := ⟨b, off + i * 3 + 1, none⟩) hbl).trans HD.out
      have hu1 : (u : Int) < (len : Int) := by omega
      clear c1
      have HF : Hid ((E u).c = (E i).c → lstI E (E i).c i = (u : Int)) := Lib.hid fun h => by
        unfold lstI
        rw [lst_skip E _ (u + 1) i (by omega) HT.out.2]
        unfold lst
        rw [if_pos h]
      have HN : Hid (¬ (E u).c = (E i).c → ∀ j, u ≤ j → j < i → ¬ (E j).c = (E i).c) := Lib.hid fun h j h1 h2 => by
        by_cases hj : j = u
        · subst hj; exact h
        · exact HT.out.2 j (by omega) h2
      by_cases hc : (E u).c = (E i).c
      · have HR := Lib.hid (HF.out hc)
        have hcb : ((E u).c == (E i).c) = true := by rw [beq_iff_eq]; exact hc
        clear hc HF HN
        generalize (E u).c = cu at *
        go_wp2
        go_quiet (fail)
        go_wp2
        go_ret
        exact ⟨ret_int HR.out.symm, below_drewN HT.out.1 _⟩
      · have HR := Lib.hid (HN.out hc)
        have hcb : ((E u).c == (E i).c) = false := by rw [beq_eq_false_iff_ne]; exact hc
        clear hc HF HN
        go_wp2
        go_quiet (fail)
        go_wp2
        go_roundw
        case rel => exact ⟨u, by omega, by go_num, Lib.hid ⟨below_drewN HT.out.1 _, HR.out⟩⟩
        case measure => simp [intOf]

end Go.Proofs.Yteobndfkkpfnlaa

namespace Go.Proofs.Yteobndfkkpfnlaa
open Go.ChangeShapes Go.WideShapes Go.ChangeAt Go.RowKit

/-- the y-th operation of the q-th event writes ahead what the x-th of the i-th writes -/
def Hit (E : Nat → Ev) (i x q y : Nat) : Prop := q ≤ i ∧ (E q).k = 1 ∧ y < (E q).n ∧ (q < i ∨ y < x) ∧ ((E q).o y).k = 2 ∧ ((E q).o y).v = ((E i).o x).v

def Tw (E : Nat → Ev) (i : Nat) : Prop := ∃ x q y, x < (E i).n ∧ ((E i).o x).k = 2 ∧ Hit E i x q y

set_option maxRecDepth 100000 in
set_option maxHeartbeats 4000000 in
theorem twice_any (a : Option Addr) (len cap : Nat) (E : Nat → Ev) (i : Nat) (w : World) (hlen : len ≤ 400) (hi : i < len) (hs : EvS w a len E) :
    Calls Try.prog 42 #[.slice a len cap, .int .i64 (i : Int)] w (Tells (Tw E i) w) := by
  obtain ⟨b, off, rfl, hbl, hci⟩ := hs (by omega)
  have HC := Lib.hid hci
  obtain ⟨spi, cpi, d0, d1, d2, hoi, hpi, hni⟩ := hci i hi
  have HOI := Lib.hid hoi
  have hi0 : (i : Int) < (len : Int) := by omega
  clear hci hs d0 d1 hoi hpi
  go_enter Try.func42, Try.ntmps42
  go_wp2
  clear d2
  go_loopw [5, 6, 7, 8, 9, 16] (fun _ _ _ _ _ x wr => ∃ t : Nat, t ≤ (E i).n ∧ x = .int .i64 (t : Int) ∧ Hid (Below w.heap.size w wr ∧ ∀ x, x < t → ((E i).o x).k = 2 → ∀ q y, ¬ Hit E i x q y)) (fun _ _ _ _ _ x _ => (E i).n - (intOf x).toNat)
  case atStart => exact ⟨0, Nat.zero_le _, rfl, Lib.hid ⟨Below.refl _ _, fun j h1 => absurd h1 (Nat.not_lt_zero _)⟩⟩
  case round =>
    obtain ⟨t, ht, rfl, HT⟩ := hrel
    by_cases hlt : t < (E i).n
    · obtain ⟨bi, offi, rfl, hbi, hcio⟩ := HOI.out (by omega)
      obtain ⟨c0, c1, c2⟩ := hcio t hlt
      have x0 := (HT.out.1.cell (p := ⟨bi, offi + t * 3, none⟩) hbi).trans c0
      have x1 := (HT.out.1.cell (p := ⟨bi, offi + t * 3 + 1, none⟩) hbi).trans c1
      have x2 := (HT.out.1.cell (p := ⟨bi, offi + t * 3 + 2, none⟩) hbi).trans c2
      have hlt' : (t : Int) < ((E i).n : Int) := by omega
      have HNX : Hid ((((E i).o t).k = 2 → ∀ q y, ¬ Hit E i t q y) → ∀ x, x < t + 1 → ((E i).o x).k = 2 → ∀ q y, ¬ Hit E i x q y) := Lib.hid fun h x hx => by
        by_cases hxt : x = t
        · subst hxt; exact h
        · exact HT.out.2 x (by omega)
      clear c0 c1 c2 hcio
      obtain ⟨ok, eok⟩ : ∃ ok, ok = ((E i).o t).k := ⟨_, rfl⟩
      obtain ⟨ov, eov⟩ : ∃ ov, ov = ((E i).o t).v := ⟨_, rfl⟩
      rw [← eok] at x0 HNX
      rw [← eov] at x2
      generalize ((E i).o t).key = okey at *
      have EOK := Lib.hid eok
      have EOV := Lib.hid eov
      clear eok eov
      by_cases hk : ok = 2
      · subst hk
        obtain ⟨wz, ewz⟩ : ∃ wz, wz = wr.alloc (.cells #[.int .i64 2, .int .i64 okey, .int .i64 ov] 44) := ⟨_, rfl⟩
        have hZ : wz.heap[wr.heap.size]? = some (.cells #[.int .i64 2, .int .i64 okey, .int .i64 ov] 44 (0, 0)) := by rw [ewz]; exact heap_alloc_new wr _
        have hZl : wr.heap.size < wz.heap.size := by rw [ewz]; simp
        have HBZ : Hid (Below w.heap.size w wz) := Lib.hid (by rw [ewz]; exact HT.out.1.alloc HT.out.1.size _)
        obtain ⟨Z, eZ⟩ : ∃ Z, Z = wr.heap.size := ⟨_, rfl⟩
        rw [← eZ] at hZ hZl
        have HZ := Lib.hid hZ
        clear hZ
        go_wp2
        rw [← ewz, ← eZ]
        clear ewz eZ x0 x1 x2
        go_loopw [7, 8, 9] (fun kk _ _ ws => ∃ u : Nat, u ≤ i + 1 ∧ kk = .int .i64 (u : Int) ∧ Hid (Below wz.heap.size wz ws ∧ ∀ q, q < u → ∀ y, ¬ Hit E i t q y)) (fun kk _ _ _ => i + 1 - (intOf kk).toNat)
        case atStart => exact ⟨0, Nat.zero_le _, rfl, Lib.hid ⟨Below.refl _ _, fun j h1 => absurd h1 (Nat.not_lt_zero _)⟩⟩
        case round =>
          obtain ⟨u, hu, rfl, HU⟩ := hrel
          by_cases hul : u ≤ i
          · have hul' : (u : Int) ≤ (i : Int) := by omega
            have hu0 : (u : Int) < (len : Int) := by omega
            obtain ⟨spu, cpu, e0, e1, e2, hou, hpu, hnu⟩ := HC.out u (by omega)
            have HBU := Lib.hid (HBZ.out.trans (HU.out.1.mono HBZ.out.size))
            have y0 := (HBU.out.cell (p := ⟨b, off + u * 3, none⟩) hbl).trans e0
            have y2 := (HBU.out.cell (p := ⟨b, off + u * 3 + 2, none⟩) hbl).trans e2
            have HOU := Lib.hid hou
            have HNU : Hid ((∀ y, ¬ Hit E i t u y) → ∀ q, q < u + 1 → ∀ y, ¬ Hit E i t q y) := Lib.hid fun h q hq => by
              by_cases hqu : q = u
              · subst hqu; exact h
              · exact HU.out.2 q (by omega)
            clear e0 e1 e2 hou hpu
            by_cases hk1 : (E u).k = 1
            · rw [hk1] at y0
              have HK1 := Lib.hid hk1
              clear hk1
              obtain ⟨wv, ewv⟩ : ∃ wv, wv = wr := ⟨_, rfl⟩
              subst ewv
              go_wp2
              clear y0 y2
              go_loopw [8, 9, 41] (fun _ _ x wt => ∃ z : Nat, z ≤ (E u).n ∧ x = .int .i64 (z : Int) ∧ Hid (Below wv.heap.size wv wt ∧ ∀ y, y < z → ¬ Hit E i t u y)) (fun _ _ x _ => (E u).n - (intOf x).toNat)
              case atStart => exact ⟨0, Nat.zero_le _, rfl, Lib.hid ⟨Below.refl _ _, fun j h1 => absurd h1 (Nat.not_lt_zero _)⟩⟩
              case round =>
                obtain ⟨z, hz, rfl, HZ3⟩ := hrel
                have HV := Lib.hid HZ3.out.1
                by_cases hzl : z < (E u).n
                · obtain ⟨bu, offu, rfl, hbu, hcu⟩ := HOU.out (by omega)
                  obtain ⟨c0, c1, c2⟩ := hcu z hzl
                  have hBV := HBU.out.trans (HV.out.mono HBU.out.size)
                  have x0 := (hBV.cell (p := ⟨bu, offu + z * 3, none⟩) hbu).trans c0
                  have x1 := (hBV.cell (p := ⟨bu, offu + z * 3 + 1, none⟩) hbu).trans c1
                  have x2 := (hBV.cell (p := ⟨bu, offu + z * 3 + 2, none⟩) hbu).trans c2
                  have hzl' : (z : Int) < ((E u).n : Int) := by omega
                  have HNZ : Hid (¬ Hit E i t u z → ∀ y, y < z + 1 → ¬ Hit E i t u y) := Lib.hid fun h y hy => by
                    by_cases hyz : y = z
                    · subst hyz; exact h
                    · exact HZ3.out.2 y (by omega)
                  obtain ⟨pk, epk⟩ : ∃ pk, pk = ((E u).o z).k := ⟨_, rfl⟩
                  obtain ⟨pv, epv⟩ : ∃ pv, pv = ((E u).o z).v := ⟨_, rfl⟩
                  rw [← epk] at x0
                  rw [← epv] at x2
                  generalize ((E u).o z).key = pkey at *
                  have EPK := Lib.hid epk
                  have EPV := Lib.hid epv
                  have HV1 : Hid (Below wv.heap.size wv (wr.alloc (.cells #[.int .i64 pk, .int .i64 pkey, .int .i64 pv] 44))) := Lib.hid (HV.out.alloc HV.out.size _)
                  have HB1 : Hid (Below w.heap.size w (wr.alloc (.cells #[.int .i64 pk, .int .i64 pkey, .int .i64 pv] 44))) := Lib.hid (hBV.alloc hBV.size _)
                  have HZU := Lib.hid (HU.out.1.trans (HV1.out.mono HU.out.1.size))
                  obtain ⟨⟨_, _, f2⟩, _⟩ := cells3 ((HZU.out.block _ hZl).trans HZ.out)
                  clear c0 c1 c2 hcu epk epv hBV
                  by_cases hui : u < i
                  · have hui' : (u : Int) < (i : Int) := by omega
                    by_cases hpk : pk = 2
                    · subst hpk
                      by_cases hpv : pv = ov
                      · have HHT : Hid (Hit E i t u z) := Lib.hid ⟨hul, HK1.out, hzl, .inl hui, EPK.out.symm, by rw [← EPV.out, hpv, EOV.out]⟩
                        have hpb : (pv == ov) = true := by rw [beq_iff_eq]; exact hpv
                        subst hpv
                        go_wp2
                        go_ret
                        exact ⟨true, rfl, ⟨fun _ => ⟨t, u, z, hlt, EOK.out.symm, HHT.out⟩, fun _ => rfl⟩, HB1.out⟩
                      · have HR := Lib.hid (HNZ.out fun h => hpv (by rw [EPV.out, h.2.2.2.2.2, EOV.out]))
                        have hpb : (pv == ov) = false := by rw [beq_eq_false_iff_ne]; exact hpv
                        clear hpv
                        go_wp2
                        go_roundw
                        case rel => exact ⟨z + 1, by omega, by go_num, Lib.hid ⟨HV1.out, HR.out⟩⟩
                        case measure => simp [intOf]; omega
                    · have HR := Lib.hid (HNZ.out fun h => hpk (by rw [EPK.out, h.2.2.2.2.1]))
                      have hpb : (pk == 2) = false := by rw [beq_eq_false_iff_ne]; exact hpk
                      clear hpk
                      go_wp2
                      go_roundw
                      case rel => exact ⟨z + 1, by omega, by go_num, Lib.hid ⟨HV1.out, HR.out⟩⟩
                      case measure => simp [intOf]; omega
                  · have hui' : ¬ (u : Int) < (i : Int) := by omega
                    have hui2 : decide (u < i) = false := decide_eq_false hui
                    by_cases hzt : z < t
                    · have hzt' : (z : Int) < (t : Int) := by omega
                      by_cases hpk : pk = 2
                      · subst hpk
                        by_cases hpv : pv = ov
                        · have HHT : Hid (Hit E i t u z) := Lib.hid ⟨hul, HK1.out, hzl, .inr hzt, EPK.out.symm, by rw [← EPV.out, hpv, EOV.out]⟩
                          have hpb : (pv == ov) = true := by rw [beq_iff_eq]; exact hpv
                          subst hpv
                          go_wp2
                          go_ret
                          exact ⟨true, rfl, ⟨fun _ => ⟨t, u, z, hlt, EOK.out.symm, HHT.out⟩, fun _ => rfl⟩, HB1.out⟩
                        · have HR := Lib.hid (HNZ.out fun h => hpv (by rw [EPV.out, h.2.2.2.2.2, EOV.out]))
                          have hpb : (pv == ov) = false := by rw [beq_eq_false_iff_ne]; exact hpv
                          clear hpv
                          go_wp2
                          go_roundw
                          case rel => exact ⟨z + 1, by omega, by go_num, Lib.hid ⟨HV1.out, HR.out⟩⟩
                          case measure => simp [intOf]; omega
                      · have HR := Lib.hid (HNZ.out fun h => hpk (by rw [EPK.out, h.2.2.2.2.1]))
                        have hpb : (pk == 2) = false := by rw [beq_eq_false_iff_ne]; exact hpk
                        clear hpk
                        go_wp2
                        go_roundw
                        case rel => exact ⟨z + 1, by omega, by go_num, Lib.hid ⟨HV1.out, HR.out⟩⟩
                        case measure => simp [intOf]; omega
                    · have hzt' : ¬ (z : Int) < (t : Int) := by omega
                      have hzt2 : decide (z < t) = false := decide_eq_false hzt
                      have HR := Lib.hid (HNZ.out fun h => by rcases h.2.2.2.1 with h | h; exact hui h; exact hzt h)
                      go_wp2
                      go_roundw
                      case rel => exact ⟨z + 1, by omega, by go_num, Lib.hid ⟨HV1.out, HR.out⟩⟩
                      case measure => simp [intOf]; omega
                · obtain rfl : z = (E u).n := by omega
                  have HR := Lib.hid (HNU.out fun y h => HZ3.out.2 y h.2.2.1 h)
                  have HZV := Lib.hid (HU.out.1.trans (HV.out.mono HU.out.1.size))
                  go_wp2
                  go_roundw
                  case rel => exact ⟨u + 1, by omega, by go_num, Lib.hid ⟨HZV.out, HR.out⟩⟩
                  case measure => simp [intOf]; omega
            · have hkb : ((E u).k != 1) = true := by rw [bne_iff_ne]; exact hk1
              have HR := Lib.hid (HNU.out fun y h => hk1 h.2.1)
              clear hk1
              generalize (E u).k = ek at *
              go_wp2
              go_roundw
              case rel => exact ⟨u + 1, by omega, by go_num, Lib.hid ⟨HU.out.1, HR.out⟩⟩
              case measure => simp [intOf]; omega
          · have hul' : ¬ (u : Int) ≤ (i : Int) := by omega
            have HR := Lib.hid (HNX.out fun _ q y h => HU.out.2 q (by have := h.1; omega) y h)
            have HBU := Lib.hid (HBZ.out.trans (HU.out.1.mono HBZ.out.size))
            go_wp2
            go_roundw
            case rel => exact ⟨t + 1, by omega, by go_num, Lib.hid ⟨HBU.out, HR.out⟩⟩
            case measure => simp [intOf]; omega
      · have hkb : (ok != 2) = true := by rw [bne_iff_ne]; exact hk
        have HR := Lib.hid (HNX.out fun h => absurd h hk)
        have HB1 : Hid (∀ ob, Below w.heap.size w (wr.alloc ob)) := Lib.hid fun ob => HT.out.1.alloc HT.out.1.size _
        clear hk
        go_wp2
        go_roundw
        case rel => exact ⟨t + 1, by omega, by go_num, Lib.hid ⟨HB1.out _, HR.out⟩⟩
        case measure => simp [intOf]; omega
    · obtain rfl : t = (E i).n := by omega
      have HR : Hid (¬ Tw E i) := Lib.hid fun ⟨x, q, y, hx, hk, hh⟩ => HT.out.2 x hx hk q y hh
      go_wp2
      go_ret
      exact ⟨false, rfl, ⟨fun h => (by cases h), fun h => absurd h HR.out⟩, HT.out.1⟩

end Go.Proofs.Yteobndfkkpfnlaa

namespace Go.Proofs.Yteobndfkkpfnlaa
/-- the event that began the j-th transaction -/
def frm (E : Nat → Ev) : Nat → Nat → Nat
  | 0 => fun _ => 0
  | i + 1 => if (E i).k = 1 then (fun j => if j = (stateAt E i).m then i else frm E i j) else frm E i

/-- what holds of it -/
structure Fr (E : Nat → Ev) (s : St) (F : Nat → Nat) (i : Nat) : Prop where
  lt : ∀ j, j < s.m → F j < i
  inj : ∀ j j', j < s.m → j' < s.m → F j = F j' → j = j'
  cl : ∀ j, j < s.m → (E (F j)).c = (s.T j).c
  some : ∀ c x, s.bz c = some x → ∃ j : Nat, x = (j : Int) ∧ j < s.m ∧ lst E c i = some (F j) ∧ (E (F j)).k = 1 ∧ (s.T j).n = (E (F j)).n ∧ (s.T j).o = (E (F j)).o
  none : ∀ c, s.bz c = none → ∀ p, lst E c i = Option.some p → ¬ (E p).k = 1
  wm : ∀ v, (s.wm v).isSome = true ↔ ∃ q y, q < i ∧ (E q).k = 1 ∧ y < (E q).n ∧ ((E q).o y).k = 2 ∧ ((E q).o y).v = v

set_option maxRecDepth 100000 in
theorem wmI_some (o : Nat → O3) (m : Nat) (wm : Int → Option Int) (v : Int) : ∀ n, (wmI o m wm n v).isSome = true ↔ ((wm v).isSome = true ∨ ∃ y, y < n ∧ (o y).k = 2 ∧ (o y).v = v) := by
  intro n
  induction n with
  | zero => exact ⟨fun h => .inl h, fun h => by rcases h with h | ⟨y, hy, _⟩; exact h; omega⟩
  | succ n ih =>
    show (((if (o n).k = 2 then (fun y => if y = (o n).v then some (m : Int) else wmI o m wm n y) else wmI o m wm n) v)).isSome = true ↔ _
    by_cases hk : (o n).k = 2
    · rw [if_pos hk]
      by_cases hv : v = (o n).v
      · (try dsimp only)
        rw [if_pos hv]
        exact ⟨fun _ => .inr ⟨n, by omega, hk, hv.symm⟩, fun _ => rfl⟩
      · (try dsimp only)
        rw [if_neg hv, ih]
        constructor
        · rintro (h | ⟨y, hy, h1, h2⟩)
          · exact .inl h
          · exact .inr ⟨y, by omega, h1, h2⟩
        · rintro (h | ⟨y, hy, h1, h2⟩)
          · exact .inl h
          · by_cases hyn : y = n
            · subst hyn; exact absurd h2.symm hv
            · exact .inr ⟨y, by omega, h1, h2⟩
    · rw [if_neg hk, ih]
      constructor
      · rintro (h | ⟨y, hy, h1, h2⟩)
        · exact .inl h
        · exact .inr ⟨y, by omega, h1, h2⟩
      · rintro (h | ⟨y, hy, h1, h2⟩)
        · exact .inl h
        · by_cases hyn : y = n
          · subst hyn; exact absurd h1 hk
          · exact .inr ⟨y, by omega, h1, h2⟩

set_option maxRecDepth 100000 in
theorem fr_at (E : Nat → Ev) : ∀ i, Good E i → Fr E (stateAt E i) (frm E i) i := by
  intro i
  induction i with
  | zero => exact fun _ => ⟨fun j hj => absurd hj (Nat.not_lt_zero _), fun j _ hj => absurd hj (Nat.not_lt_zero _), fun j hj => absurd hj (Nat.not_lt_zero _), fun c x hx => (by cases hx), fun c _ p hp => (by cases hp), fun v => ⟨fun h => (by cases h), fun ⟨q, y, hq, _⟩ => absurd hq (Nat.not_lt_zero _)⟩⟩
  | succ i ih =>
    intro hg
    have hf := ih fun j hj => hg j (by omega)
    have he := hg i (by omega)
    have hkk := kept_at E i fun j hj => hg j (by omega)
    have hF : frm E (i + 1) = if (E i).k = 1 then (fun j => if j = (stateAt E i).m then i else frm E i j) else frm E i := rfl
    have hL : ∀ c, lst E c (i + 1) = if (E i).c = c then some i else lst E c i := fun c => rfl
    show Fr E (nextS (stateAt E i) (E i)) (frm E (i + 1)) (i + 1)
    rw [hF]
    generalize frm E i = F at *
    generalize stateAt E i = s at *
    by_cases hk : (E i).k = 1
    · rw [if_pos hk]
      unfold nextS
      rw [if_pos hk]
      have hlo : ∀ j, j < s.m → (if j = s.m then i else F j) = F j := fun j hj => if_neg (by omega)
      refine ⟨fun j hj => ?_, fun j j' hj hj' h => ?_, fun j hj => ?_, fun c x hx => ?_, fun c hx p hp => ?_, fun v => ?_⟩
      · (try dsimp only)
        have hj2 : j < s.m + 1 := hj
        split
        · omega
        · have := hf.lt j (by omega); omega
      · have hj2 : j < s.m + 1 := hj
        have hj3 : j' < s.m + 1 := hj'
        (try dsimp only at h)
        by_cases h1 : j = s.m
        · by_cases h2 : j' = s.m
          · omega
          · rw [if_pos h1, if_neg h2] at h
            have := hf.lt j' (by omega); omega
        · by_cases h2 : j' = s.m
          · rw [if_neg h1, if_pos h2] at h
            have := hf.lt j (by omega); omega
          · rw [if_neg h1, if_neg h2] at h
            exact hf.inj j j' (by omega) (by omega) h
      · have hj2 : j < s.m + 1 := hj
        (try dsimp only)
        by_cases h1 : j = s.m
        · rw [if_pos h1, if_pos h1]
        · rw [if_neg h1, if_neg h1]; exact hf.cl j (by omega)
      · (try dsimp only at hx)
        by_cases hc : c = (E i).c
        · rw [if_pos hc] at hx
          injection hx with hx
          refine ⟨s.m, hx.symm, Nat.lt_succ_self _, ?_, ?_, ?_, ?_⟩
          · (try dsimp only); rw [hL, if_pos hc.symm, if_pos rfl]
          · (try dsimp only); rw [if_pos rfl]; exact hk
          · (try dsimp only); rw [if_pos rfl, if_pos rfl]
          · (try dsimp only); rw [if_pos rfl, if_pos rfl]
        · rw [if_neg hc] at hx
          obtain ⟨j, e1, hj, e2, e3, e4, e5⟩ := hf.some c x hx
          refine ⟨j, e1, Nat.lt_succ_of_lt hj, ?_, ?_, ?_, ?_⟩
          · (try dsimp only); rw [hL, if_neg (fun h => hc h.symm), hlo j hj]; exact e2
          · (try dsimp only); rw [hlo j hj]; exact e3
          · (try dsimp only); rw [if_neg (by omega), hlo j hj]; exact e4
          · (try dsimp only); rw [if_neg (by omega), hlo j hj]; exact e5
      · (try dsimp only at hx)
        by_cases hc : c = (E i).c
        · rw [if_pos hc] at hx; cases hx
        · rw [if_neg hc] at hx
          rw [hL, if_neg (fun h => hc h.symm)] at hp
          exact hf.none c hx p hp
      · (try dsimp only)
        rw [wmI_some, hf.wm]
        constructor
        · rintro (⟨q, y, h1, h2, h3, h4, h5⟩ | ⟨y, h3, h4, h5⟩)
          · exact ⟨q, y, by omega, h2, h3, h4, h5⟩
          · exact ⟨i, y, by omega, hk, h3, h4, h5⟩
        · rintro ⟨q, y, h1, h2, h3, h4, h5⟩
          by_cases hq : q = i
          · subst hq; exact .inr ⟨y, h3, h4, h5⟩
          · exact .inl ⟨q, y, by omega, h2, h3, h4, h5⟩
    · rw [if_neg hk]
      have hb : (s.bz (E i).c).isSome = true := by
        rcases he with ⟨_, h⟩ | ⟨_, _, h⟩ | ⟨_, h, _⟩ | ⟨_, h, _⟩ | ⟨_, _, h, _⟩
        · cases h
        · cases h
        · exact absurd h hk
        · exact absurd h hk
        · exact h
      obtain ⟨x0, hx0⟩ := Option.isSome_iff_exists.1 hb
      obtain ⟨z, rfl, hzm, hz0, hzc⟩ := hkk.bz (E i).c x0 hx0
      have hix : idx s (E i) = z := by unfold idx; simp [hx0]
      have hcc : ∀ t : Tx, (endT t (E i).k (E i).n (E i).o).c = t.c := fun t => by
        unfold endT
        split
        · rfl
        · split <;> rfl
      unfold nextS
      rw [if_neg hk, hix]
      refine ⟨fun j hj => ?_, fun j j' hj hj' h => hf.inj j j' hj hj' h, fun j hj => ?_, fun c x hx => ?_, fun c hx p hp => ?_, fun v => ?_⟩
      · have := hf.lt j hj; omega
      · (try dsimp only)
        by_cases h1 : j = z
        · rw [if_pos h1, hcc, ← h1]; exact hf.cl j hj
        · rw [if_neg h1]; exact hf.cl j hj
      · (try dsimp only at hx)
        by_cases hc : c = (E i).c
        · rw [if_pos hc] at hx; cases hx
        · rw [if_neg hc] at hx
          obtain ⟨j, e1, hj, e2, e3, e4, e5⟩ := hf.some c x hx
          have hjz : ¬ j = z := fun h => hc (by have h1 := (lst_lt E c i _ e2).2; rw [hf.cl j hj, h, hzc] at h1; exact h1.symm)
          refine ⟨j, e1, hj, ?_, e3, ?_, ?_⟩
          · rw [hL, if_neg (fun h => hc h.symm)]; exact e2
          · (try dsimp only); rw [if_neg hjz]; exact e4
          · (try dsimp only); rw [if_neg hjz]; exact e5
      · (try dsimp only at hx)
        rw [hL] at hp
        by_cases hc : c = (E i).c
        · rw [if_pos hc.symm] at hp
          injection hp with hp
          rw [← hp]; exact hk
        · rw [if_neg hc] at hx
          rw [if_neg (fun h => hc h.symm)] at hp
          exact hf.none c hx p hp
      · (try dsimp only)
        rw [hf.wm]
        constructor
        · rintro ⟨q, y, h1, h2, h3, h4, h5⟩
          exact ⟨q, y, by omega, h2, h3, h4, h5⟩
        · rintro ⟨q, y, h1, h2, h3, h4, h5⟩
          by_cases hq : q = i
          · subst hq; exact absurd h2 hk
          · exact ⟨q, y, by omega, h2, h3, h4, h5⟩

set_option maxRecDepth 100000 in
/-- the reference's twice is the program's -/
theorem tw_dup {E : Nat → Ev} {i : Nat} {s : St} {F : Nat → Nat} (h : Fr E s F i) (hk : (E i).k = 1) : Tw E i ↔ ∃ x, x < (E i).n ∧ Dup (E i).o s.m s.wm x := by
  constructor
  · rintro ⟨x, q, y, hx, h2, hq, hq1, hy, hor, hy2, hyv⟩
    refine ⟨x, hx, h2, ?_⟩
    rw [wmI_some, h.wm]
    by_cases hqi : q < i
    · exact .inl ⟨q, y, hqi, hq1, hy, hy2, hyv⟩
    · obtain rfl : q = i := by omega
      exact .inr ⟨y, by omega, hy2, hyv⟩
  · rintro ⟨x, hx, h2, hs⟩
    rw [wmI_some, h.wm] at hs
    rcases hs with ⟨q, y, h1, h3, h4, h5, h6⟩ | ⟨y, h4, h5, h6⟩
    · exact ⟨x, q, y, hx, h2, by omega, h3, h4, .inl h1, h5, h6⟩
    · exact ⟨x, i, y, hx, h2, Nat.le_refl _, hk, by omega, .inr h4, h5, h6⟩

end Go.Proofs.Yteobndfkkpfnlaa

