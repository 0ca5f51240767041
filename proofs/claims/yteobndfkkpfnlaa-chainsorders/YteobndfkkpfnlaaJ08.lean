/-
  The library's contracts of maps.Keys, slices.Sorted and slices.Sort, laid at this program (the text comes of the kit's lay-plain).
  Maps of our own from versions (a key and a value) to numbers; versionOf.
  Transactions in memory; who wrote a version (mathematics).
  writersOf.
-/
import Derived.Test.YteobndfkkpfnlaaJ01
import Derived.Shelf.SlIterI.Nil
import Derived.Shelf.SortM.Plain
import Derived.Shelf.SortM.SortNone
import Derived.Ground.GgzProg
import Derived.Ground.SlgmProg
import Derived.Test.YteobndfkkpfnlaaProg
import Derived.DeepKeys4
import Derived.Deep.RegionHeld3

namespace Go.Proofs
open Go.Shelf
def Try.keysA_ren : Go.Shelf.Ren := ⟨fun | 7 => 76 | 10 => 87 | n => n, fun | 23 => 82 | 26 => 3 | 3 => 41 | 28 => 132 | 0 => 0 | 27 => 131 | 33 => 145 | 4 => 4 | n => n, fun | n => n⟩
theorem Try.keysA : Go.Proofs.SlLaysZI.n7 Try.prog Try.keysA_ren := {
  mixed := by kernel_rfl
  f7 := ⟨Try.f76.name, by decide, Try.func76.trans (congrArg some (by kernel_rfl))⟩
  f10 := ⟨Try.f87.name, by decide, Try.func87.trans (congrArg some (by kernel_rfl))⟩
  t0 := Try.underlying0
  a0 := Try.isAgg0
  z0 := Try.sizeOf0
  v0 := Try.zeroValue0
  t4 := Try.underlying4
  a4 := Try.isAgg4
  z4 := Try.sizeOf4
  v4 := Try.zeroValue4
  t23 := Try.underlying82
  a23 := Try.isAgg82
  z23 := Try.sizeOf82
  v23 := Try.zeroValue82
  t26 := Try.underlying3
  a26 := Try.isAgg3
  z26 := Try.sizeOf3
  v26 := Try.zeroValue3
  t27 := Try.underlying131
  a27 := Try.isAgg131
  z27 := Try.sizeOf131
  v27 := Try.zeroValue131
  t28 := Try.underlying132
  a28 := Try.isAgg132
  z28 := Try.sizeOf132
  v28 := Try.zeroValue132
  t33 := Try.underlying145
  a33 := Try.isAgg145
  z33 := Try.sizeOf145
  v33 := Try.zeroValue145 }
def Try.sortedA_ren : Go.Shelf.Ren := ⟨fun | 6 => 75 | 8 => 85 | 9 => 86 | 11 => 94 | 13 => 92 | 12 => 95 | 23 => 104 | 24 => 105 | 14 => 106 | 15 => 107 | 16 => 108 | 17 => 109 | 18 => 110 | 19 => 111 | 20 => 112 | 21 => 113 | 22 => 114 | 25 => 120 | 26 => 116 | 27 => 117 | 28 => 121 | 29 => 122 | 30 => 93 | 31 => 124 | n => n, fun | 26 => 3 | 28 => 132 | 24 => 41 | 0 => 0 | 3 => 3 | 37 => 86 | 48 => 146 | 50 => 149 | 4 => 4 | 40 => 159 | 39 => 158 | 45 => 37 | 5 => 5 | 9 => 9 | 51 => 172 | 55 => 176 | 57 => 180 | 58 => 181 | 33 => 145 | n => n, fun | n => n⟩
theorem Try.sortedA : Go.Proofs.SlLaysZI.n6 Try.prog Try.sortedA_ren := {
  mixed := by kernel_rfl
  f6 := ⟨Try.f75.name, by decide, Try.func75.trans (congrArg some (by kernel_rfl))⟩
  f8 := ⟨Try.f85.name, by decide, Try.func85.trans (congrArg some (by kernel_rfl))⟩
  f11 := ⟨Try.f94.name, by decide, Try.func94.trans (congrArg some (by kernel_rfl))⟩
  t0 := Try.underlying0
  a0 := Try.isAgg0
  z0 := Try.sizeOf0
  v0 := Try.zeroValue0
  t24 := Try.underlying41
  a24 := Try.isAgg41
  z24 := Try.sizeOf41
  v24 := Try.zeroValue41
  t26 := Try.underlying3
  a26 := Try.isAgg3
  z26 := Try.sizeOf3
  v26 := Try.zeroValue3
  t28 := Try.underlying132
  a28 := Try.isAgg132
  z28 := Try.sizeOf132
  v28 := Try.zeroValue132
  i26 := by kernel_rfl }
def Try.sortA_ren : Go.Shelf.Ren := ⟨fun | 5 => 86 | 8 => 92 | 7 => 95 | 19 => 104 | 20 => 105 | 10 => 106 | 11 => 107 | 12 => 108 | 13 => 109 | 14 => 110 | 15 => 111 | 16 => 112 | 17 => 113 | 18 => 114 | 30 => 120 | 31 => 116 | 32 => 117 | 33 => 121 | 34 => 122 | 35 => 93 | 40 => 124 | n => n, fun | 23 => 41 | 25 => 3 | 3 => 3 | 32 => 86 | 22 => 41 | 0 => 0 | 44 => 146 | 46 => 149 | 4 => 4 | 36 => 159 | 35 => 158 | 41 => 37 | 5 => 5 | 9 => 9 | 53 => 172 | 57 => 176 | 63 => 180 | 64 => 181 | n => n, fun | n => n⟩
theorem Try.sortA : Go.Proofs.SlLaysM.n5 Try.prog Try.sortA_ren := {
  mixed := by kernel_rfl
  f5 := ⟨Try.f86.name, by decide, Try.func86.trans (congrArg some (by kernel_rfl))⟩
  f7 := ⟨Try.f95.name, by decide, Try.func95.trans (congrArg some (by kernel_rfl))⟩
  f8 := Try.func92.trans (congrArg some (by kernel_rfl))
  f10 := ⟨Try.f106.name, by decide, Try.func106.trans (congrArg some (by kernel_rfl))⟩
  f11 := ⟨Try.f107.name, by decide, Try.func107.trans (congrArg some (by kernel_rfl))⟩
  f12 := ⟨Try.f108.name, by decide, Try.func108.trans (congrArg some (by kernel_rfl))⟩
  f13 := ⟨Try.f109.name, by decide, Try.func109.trans (congrArg some (by kernel_rfl))⟩
  f14 := ⟨Try.f110.name, by decide, Try.func110.trans (congrArg some (by kernel_rfl))⟩
  f15 := ⟨Try.f111.name, by decide, Try.func111.trans (congrArg some (by kernel_rfl))⟩
  f16 := ⟨Try.f112.name, by decide, Try.func112.trans (congrArg some (by kernel_rfl))⟩
  f17 := ⟨Try.f113.name, by decide, Try.func113.trans (congrArg some (by kernel_rfl))⟩
  f18 := ⟨Try.f114.name, by decide, Try.func114.trans (congrArg some (by kernel_rfl))⟩
  f19 := Try.func104.trans (congrArg some (by kernel_rfl))
  f20 := Try.func105.trans (congrArg some (by kernel_rfl))
  f30 := ⟨Try.f120.name, by decide, Try.func120.trans (congrArg some (by kernel_rfl))⟩
  f31 := Try.func116.trans (congrArg some (by kernel_rfl))
  f32 := Try.func117.trans (congrArg some (by kernel_rfl))
  f33 := ⟨Try.f121.name, by decide, Try.func121.trans (congrArg some (by kernel_rfl))⟩
  f34 := ⟨Try.f122.name, by decide, Try.func122.trans (congrArg some (by kernel_rfl))⟩
  f35 := ⟨Try.f93.name, by decide, Try.func93.trans (congrArg some (by kernel_rfl))⟩
  f40 := ⟨Try.f124.name, by decide, Try.func124.trans (congrArg some (by kernel_rfl))⟩
  t0 := Try.underlying0
  a0 := Try.isAgg0
  z0 := Try.sizeOf0
  v0 := Try.zeroValue0
  t3 := Try.underlying3
  a3 := Try.isAgg3
  z3 := Try.sizeOf3
  v3 := Try.zeroValue3
  t4 := Try.underlying4
  a4 := Try.isAgg4
  z4 := Try.sizeOf4
  v4 := Try.zeroValue4
  t5 := Try.underlying5
  a5 := Try.isAgg5
  z5 := Try.sizeOf5
  v5 := Try.zeroValue5
  t9 := Try.underlying9
  a9 := Try.isAgg9
  z9 := Try.sizeOf9
  v9 := Try.zeroValue9
  t22 := Try.underlying41
  a22 := Try.isAgg41
  z22 := Try.sizeOf41
  v22 := Try.zeroValue41
  t23 := Try.underlying41
  a23 := Try.isAgg41
  z23 := Try.sizeOf41
  v23 := Try.zeroValue41
  t25 := Try.underlying3
  a25 := Try.isAgg3
  z25 := Try.sizeOf3
  v25 := Try.zeroValue3
  t32 := Try.underlying86
  a32 := Try.isAgg86
  z32 := Try.sizeOf86
  v32 := Try.zeroValue86
  t35 := Try.underlying158
  a35 := Try.isAgg158
  z35 := Try.sizeOf158
  v35 := Try.zeroValue158
  t36 := Try.underlying159
  a36 := Try.isAgg159
  z36 := Try.sizeOf159
  v36 := Try.zeroValue159
  t41 := Try.underlying37
  a41 := Try.isAgg37
  z41 := Try.sizeOf37
  v41 := Try.zeroValue37
  t44 := Try.underlying146
  a44 := Try.isAgg146
  z44 := Try.sizeOf146
  v44 := Try.zeroValue146
  t46 := Try.underlying149
  a46 := Try.isAgg149
  z46 := Try.sizeOf149
  v46 := Try.zeroValue149
  t53 := Try.underlying172
  a53 := Try.isAgg172
  z53 := Try.sizeOf172
  v53 := Try.zeroValue172
  t57 := Try.underlying176
  a57 := Try.isAgg176
  z57 := Try.sizeOf176
  v57 := Try.zeroValue176
  t63 := Try.underlying180
  a63 := Try.isAgg180
  z63 := Try.sizeOf180
  v63 := Try.zeroValue180
  t64 := Try.underlying181
  a64 := Try.isAgg181
  z64 := Try.sizeOf181
  v64 := Try.zeroValue181 }
end Go.Proofs

namespace Go.Proofs.Yteobndfkkpfnlaa
open Go.ChangeShapes Go.WideShapes Go.ChangeAt Go.RowKit Go.Maps
set_option linter.unusedVariables false

theorem laidV : laidOutB Try.prog = true := by kernel_rfl
theorem sizeT : Try.prog.types.size = 200 := by kernel_rfl
theorem rowV : (102 : TypeId) < Try.prog.types.size := by rw [sizeT]; decide
theorem wideV : (match Try.prog.underlying 102 with | some (.array _ _) | some (.struct _) => true | _ => false) = true := by kernel_rfl
set_option maxRecDepth 100000 in
theorem keyedV : Keyed Try.prog 102 := Keyed.of_law (deep_law_laid laidV (m := 2) (by omega) rowV (by kernel_rfl) wideV)
/-- a number that fits -/
def In64 (z : Int) : Prop := -9223372036854775808 ≤ z ∧ z ≤ 9223372036854775807
/-- a version, as a value and as a key -/
def ver (k v : Int) : Value := .agg #[.int .i64 k, .int .i64 v]
def verL (k v : Int) : Lit := .string (keyBytes [.int .i64 k, .int .i64 v])
theorem keyTypeV : Try.prog.keyType 102 = true := by kernel_rfl
theorem cellsV : Try.prog.cellsOf 102 = 2 := by kernel_rfl
theorem cells3' : Try.prog.cellsOf 3 = 1 := by kernel_rfl
set_option maxRecDepth 100000 in
theorem keyOf_ver {k v : Int} (hk : In64 k) (hv : In64 v) : keyOf Try.prog 102 (ver k v) = some (verL k v) := by
  have w1 : (Lit.int .i64 k).wf = true := wf64 hk
  have w2 : (Lit.int .i64 v).wf = true := wf64 hv
  have h3 : ∀ (z : Int), (Lit.int .i64 z).wf = true → Try.prog.keyLits 200 3 [.int .i64 z] = some [.int .i64 z] := fun z hz => by
    show Program.keyLits Try.prog (199 + 1) 3 _ = _
    unfold Program.keyLits
    simp [Try.underlying3, hz]
  have e : Try.prog.keyLits (200 + 1) 102 [.int .i64 k, .int .i64 v] = some [.int .i64 k, .int .i64 v] := by
    unfold Program.keyLits
    simp [Try.underlying102, cellsV, cells3', h3 k w1, h3 v w2]
  unfold keyOf ver verL
  simp [Try.underlying102, keyTypeV, Value.formed, cellsV, Value.cells, e]
set_option maxRecDepth 100000 in
theorem verL_inj {x y k v : Int} (hx : In64 x) (hy : In64 y) (hk : In64 k) (hv : In64 v) (h : verL x y = verL k v) : x = k ∧ y = v := by
  have := keyedV.inj (keyOf_ver hx hy) (h ▸ keyOf_ver hk hv)
  unfold ver at this
  injection this with this
  simp at this
  exact this
/-- block b is a map that has m's entries, at most n -/
def MapV (w : World) (b n : Nat) (m : Int → Int → Option Int) : Prop :=
  ∃ D : DataW Unit, w.ownsMap Try.prog 102 (plainElem Try.prog 3) b n D ∧ ∀ x y, In64 x → In64 y → Maps.has D (verL x y) = (m x y).isSome ∧ D.atKey (verL x y) (.lit (.int .i64 0)) = .lit (.int .i64 ((m x y).getD 0))
theorem MapV.made (w : World) : MapV (w.alloc (.map #[] 0)) w.heap.size 0 (fun _ _ => none) :=
  ⟨.map [], World.ownsMap_made w Try.prog 102 _, fun _ _ _ _ => ⟨rfl, rfl⟩⟩
theorem MapV.lt {w : World} {b n : Nat} {m : Int → Int → Option Int} (h : MapV w b n m) : b < w.heap.size := by
  obtain ⟨D, ho, _⟩ := h; exact ho.lt
theorem MapV.kept {w w' : World} {b n : Nat} {m : Int → Int → Option Int} (h : MapV w b n m) (hb : w'.heap[b]? = w.heap[b]?) : MapV w' b n m := by
  obtain ⟨D, ⟨es, clock, hb', F, hs, hD⟩, hv⟩ := h
  exact ⟨D, ⟨es, clock, hb.trans hb', F, hs, hD⟩, hv⟩
theorem MapV.below {w w' : World} {b n : Nat} {m : Int → Int → Option Int} (h : MapV w b n m) (hb : Below w.heap.size w w') : MapV w' b n m := h.kept (hb.block _ h.lt)
theorem MapV.mono {w : World} {b n n' : Nat} {m : Int → Int → Option Int} (h : MapV w b n m) (hn : n ≤ n') : MapV w b n' m := by
  obtain ⟨D, ho, hv⟩ := h; exact ⟨D, ho.mono hn, hv⟩
theorem MapV.isMap {w : World} {b n : Nat} {m : Int → Int → Option Int} (h : MapV w b n m) : ∃ es cl, w.heap[b]? = some (.map es cl) := by
  obtain ⟨D, ⟨es, clock, hb, _⟩, _⟩ := h
  exact ⟨es, clock, hb⟩
set_option maxRecDepth 100000 in
theorem MapV.look {w : World} {b n : Nat} {m : Int → Int → Option Int} (h : MapV w b n m) (x y : Int) (hx : In64 x) (hy : In64 y) :
    (Instr.lookup 94 (.map (some b)) (.agg #[.int .i64 x, .int .i64 y]) true).run Try.prog w = .ok (.tuple #[.int .i64 ((m x y).getD 0), .bool (m x y).isSome]) w := by
  obtain ⟨D, ho, hv⟩ := h
  obtain ⟨v, ps, hrun, hR⟩ := ho.look_ok keyedV Try.underlying94 (zero3 w) (plainElem_int Try.underlying3 (by decide)) (keyOf_ver hx hy)
  obtain ⟨c, rfl, hc, _⟩ := plainElem_int_inv Try.underlying3 hR
  simp only [Prod.mk.injEq] at hc
  have e := hc.1
  rw [(hv x y hx hy).2] at e
  injection e with e
  injection e with _ e
  unfold ver at hrun
  rw [hrun, (hv x y hx hy).1, e]
set_option maxRecDepth 100000 in
theorem MapV.update {w : World} {b n : Nat} {m : Int → Int → Option Int} (h : MapV w b n m) (x y v : Int) (hn : n < 1000000) (hx : In64 x) (hy : In64 y) (hv : In64 v) :
    ∃ w', (Instr.mapUpdate 94 (.map (some b)) (.agg #[.int .i64 x, .int .i64 y]) (.int .i64 v)).run Try.prog w = .ok () w' ∧ MapV w' b (n + 1) (fun k z => if k = x ∧ z = y then some v else m k z) ∧ w.grownBy w' (some b) := by
  obtain ⟨D, ho, hD⟩ := h
  obtain ⟨w', hrun, ho', hg⟩ := ho.update keyedV Try.underlying94 (by unfold maxLen; omega) (keyOf_ver hx hy) (plainElem_int Try.underlying3 (wf64 hv))
  refine ⟨w', hrun, ⟨_, ho', fun k z hk hz => ?_⟩, hg⟩
  by_cases he : k = x ∧ z = y
  · obtain ⟨rfl, rfl⟩ := he
    dsimp only
    rw [if_pos ⟨rfl, rfl⟩]
    exact ⟨has_put_same (k := verL k z) ho.isMap (keyedV.key (keyOf_ver hx hy)) _, atKey_put_same (k := verL k z) ho.isMap (keyedV.key (keyOf_ver hx hy)) _ _⟩
  · dsimp only
    rw [if_neg he]
    have hne : verL k z ≠ verL x y := fun e => he (verL_inj hk hz hx hy e)
    rw [has_put_other hne, atKey_put_other hne]
    exact hD k z hk hz

/-- operations' versions, in new memory -/
theorem version_any (k key v : Int) (w : World) :
    Calls Try.prog 49 #[.agg #[.int .i64 k, .int .i64 key, .int .i64 v]] w (fun e w' => e = .returned (.agg #[.int .i64 key, .int .i64 v]) ∧ Below w.heap.size w w') := by
  go_enter Try.func49, Try.ntmps49
  go_wp2
  have hx := heap_alloc_new (w.alloc (.cells #[.int .i64 k, .int .i64 key, .int .i64 v] 44)) (.cells #[.int .i64 key, .int .i64 v] 102)
  have hs : (w.alloc (.cells #[.int .i64 k, .int .i64 key, .int .i64 v] 44)).heap.size = w.heap.size + 1 := by simp
  rw [hs] at hx
  have p0 := cell_of_row _ _ 0 _ _ _ hx
  have p1 := cell_of_row _ _ 1 _ _ _ hx
  exact bodyPost_ret (v := ver key v) (by unfold ver; simp [results, Try.results49, go_sem, p0, p1]) rfl ⟨rfl, ((Below.refl _ _).alloc (Nat.le_refl _) _).alloc (by simp) _⟩
end Go.Proofs.Yteobndfkkpfnlaa

namespace Go.Proofs.Yteobndfkkpfnlaa
open Go.ChangeShapes Go.WideShapes Go.ChangeAt Go.RowKit Go.Maps
set_option linter.unusedVariables false

/-- transactions in a slice that may be anybody's -/
def TxS (w : World) (a : Option Addr) (m : Nat) (T : Nat → Tx) : Prop :=
  0 < m → ∃ b off, a = some ⟨b, off, none⟩ ∧ b < w.heap.size ∧ ∀ j, j < m → ∃ sp cap, w.cell? ⟨b, off + j * 3, none⟩ = some (.int .i64 (T j).c) ∧ w.cell? ⟨b, off + j * 3 + 1, none⟩ = some (.int .i64 (T j).st) ∧ w.cell? ⟨b, off + j * 3 + 2, none⟩ = some (.slice sp (T j).n cap) ∧ OpS w sp (T j).n (T j).o
theorem TxS.below {w w' : World} {a : Option Addr} {m : Nat} {T : Nat → Tx} (h : TxS w a m T) (hb : Below w.heap.size w w') : TxS w' a m T := by
  intro hl
  obtain ⟨b, off, e, hbl, hc⟩ := h hl
  refine ⟨b, off, e, Nat.lt_of_lt_of_le hbl hb.size, fun j hj => ?_⟩
  obtain ⟨sp, cap, c0, c1, c2, ho⟩ := hc j hj
  exact ⟨sp, cap, (hb.cell (p := ⟨b, off + j * 3, none⟩) hbl).trans c0, (hb.cell (p := ⟨b, off + j * 3 + 1, none⟩) hbl).trans c1, (hb.cell (p := ⟨b, off + j * 3 + 2, none⟩) hbl).trans c2, ho.below hb⟩
/-- transactions that may be looked at -/
structure TOk (m : Nat) (T : Nat → Tx) : Prop where
  cnt : m ≤ 400
  n : ∀ j, j < m → (T j).n ≤ 100
  key : ∀ j, j < m → ∀ x, x < (T j).n → 0 ≤ ((T j).o x).key ∧ ((T j).o x).key ≤ 15
  val : ∀ j, j < m → ∀ x, x < (T j).n → In64 ((T j).o x).v

/-- versions' writers -/
abbrev VM := Int → Int → Option Int
def updV (m : VM) (x y v : Int) : VM := fun k z => if k = x ∧ z = y then some v else m k z
def opsV (o : Nat → O3) (at_ : Int) (m : VM) : Nat → VM
  | 0 => m
  | i + 1 => if (o i).k = 2 then updV (opsV o at_ m i) (o i).key (o i).v at_ else opsV o at_ m i
def lstV (l : List O3) (at_ : Int) (m : VM) : Nat → VM
  | 0 => m
  | i + 1 => updV (lstV l at_ m i) (lf l i).key (lf l i).v at_
def allV (T : Nat → Tx) : Nat → VM
  | 0 => fun _ _ => none
  | t + 1 => opsV (T t).o (t : Int) (allV T t) (T t).n
def endV (T : Nat → Tx) : Nat → VM
  | 0 => fun _ _ => none
  | t + 1 => lstV (wrl (T t).o (T t).n 16) (t : Int) (endV T t) (wrl (T t).o (T t).n 16).length

/-- writersOf's memory -/
structure WrS (w : World) (B R M1 M2 X : Nat) (wr : World) (n1 n2 : Nat) (A E : VM) : Prop where
  low : B ≤ wr.heap.size
  bel : Below B w wr
  all : MapV wr M1 n1 A
  fin : MapV wr M2 n2 E
  box : wr.heap[X]? = some (.cells #[.map (some M1), .map (some M2)] 96 (0, 0))
  res : wr.heap[R]? = some (.cells #[.map none, .map none] 96 (0, 0))
  rlow : B ≤ R
  ne : B ≤ M1 ∧ B ≤ M2 ∧ M1 ≠ M2 ∧ X ≠ M1 ∧ X ≠ M2 ∧ R ≠ M1 ∧ R ≠ M2
theorem hlt_of {w : World} {q : Nat} {o : Obj} (e : w.heap[q]? = some o) : q < w.heap.size := by
  rcases Nat.lt_or_ge q w.heap.size with h' | h'
  · exact h'
  · rw [Array.getElem?_eq_none h'] at e; cases e
theorem cells2 {w : World} {b t : Nat} {v0 v1 : Value} (h : w.heap[b]? = some (.cells #[v0, v1] t (0, 0))) :
    w.cell? ⟨b, 0, none⟩ = some v0 ∧ w.cell? ⟨b, 1, none⟩ = some v1 :=
  ⟨by simp [World.cell?, h], by simp [World.cell?, h]⟩
variable {w wr wr' : World} {B R M1 M2 X n1 n2 : Nat} {A E A' E' : VM}
theorem WrS.keep (h : WrS w B R M1 M2 X wr n1 n2 A E) (hb : Below wr.heap.size wr wr') : WrS w B R M1 M2 X wr' n1 n2 A E :=
  ⟨Nat.le_trans h.low hb.size, h.bel.trans (hb.mono h.low), h.all.below hb, h.fin.below hb, (hb.block _ (hlt_of h.box)).trans h.box, (hb.block _ (hlt_of h.res)).trans h.res, h.rlow, h.ne⟩
theorem WrS.wroteA (h : WrS w B R M1 M2 X wr n1 n2 A E) (hm : MapV wr' M1 (n1 + 1) A') (hg : wr.grownBy wr' (some M1)) : WrS w B R M1 M2 X wr' (n1 + 1) n2 A' E := by
  have hne := h.ne
  exact ⟨Nat.le_trans h.low hg.size, h.bel.grown hg h.low (fun q e => by injection e with e; omega), hm, h.fin.kept (hg.block _ h.fin.lt (fun e => by injection e with e; omega)), (hg.block _ (hlt_of h.box) (fun e => by injection e with e; omega)).trans h.box, (hg.block _ (hlt_of h.res) (fun e => by injection e with e; omega)).trans h.res, h.rlow, h.ne⟩
theorem WrS.wroteE (h : WrS w B R M1 M2 X wr n1 n2 A E) (hm : MapV wr' M2 (n2 + 1) E') (hg : wr.grownBy wr' (some M2)) : WrS w B R M1 M2 X wr' n1 (n2 + 1) A E' := by
  have hne := h.ne
  exact ⟨Nat.le_trans h.low hg.size, h.bel.grown hg h.low (fun q e => by injection e with e; omega), h.all.kept (hg.block _ h.all.lt (fun e => by injection e with e; omega)), hm, (hg.block _ (hlt_of h.box) (fun e => by injection e with e; omega)).trans h.box, (hg.block _ (hlt_of h.res) (fun e => by injection e with e; omega)).trans h.res, h.rlow, h.ne⟩
theorem WrS.mono {n1' n2' : Nat} (h : WrS w B R M1 M2 X wr n1 n2 A E) (h1 : n1 ≤ n1') (h2 : n2 ≤ n2') : WrS w B R M1 M2 X wr n1' n2' A E :=
  ⟨h.low, h.bel, h.all.mono h1, h.fin.mono h2, h.box, h.res, h.rlow, h.ne⟩
theorem WrS.start (w : World) : WrS w w.heap.size w.heap.size (w.heap.size + 1) (w.heap.size + 1 + 1) (w.heap.size + 1 + 1 + 1) ((((w.alloc (.cells #[.map none, .map none] 96)).alloc (.map #[] 0)).alloc (.map #[] 0)).alloc (.cells #[.map (some (w.heap.size + 1)), .map (some (w.heap.size + 1 + 1))] 96)) 0 0 (fun _ _ => none) (fun _ _ => none) := by
  have s1 : (w.alloc (.cells #[.map none, .map none] 96)).heap.size = w.heap.size + 1 := by simp
  have s2 : ((w.alloc (.cells #[.map none, .map none] 96)).alloc (.map #[] 0)).heap.size = w.heap.size + 1 + 1 := by simp
  have s3 : (((w.alloc (.cells #[.map none, .map none] 96)).alloc (.map #[] 0)).alloc (.map #[] 0)).heap.size = w.heap.size + 1 + 1 + 1 := by simp
  have m1 := MapV.made (w.alloc (.cells #[.map none, .map none] 96))
  have m2 := MapV.made ((w.alloc (.cells #[.map none, .map none] 96)).alloc (.map #[] 0))
  rw [s1] at m1
  rw [s2] at m2
  have b0 : Below w.heap.size w (w.alloc (.cells #[.map none, .map none] 96)) := (Below.refl _ _).alloc (Nat.le_refl _) _
  refine ⟨by simp; omega, ((b0.alloc (by simp) _).alloc (by simp; omega) _).alloc (by simp; omega) _, ?_, ?_, ?_, ?_, Nat.le_refl _, by omega⟩
  · exact (m1.kept (heap_alloc_old _ _ (by simp))).kept (heap_alloc_old _ _ (by simp))
  · exact m2.kept (heap_alloc_old _ _ (by simp))
  · have := heap_alloc_new (((w.alloc (.cells #[.map none, .map none] 96)).alloc (.map #[] 0)).alloc (.map #[] 0)) (.cells #[.map (some (w.heap.size + 1)), .map (some (w.heap.size + 1 + 1))] 96)
    rw [s3] at this
    exact this
  · rw [heap_alloc_old _ _ (by simp; omega), heap_alloc_old _ _ (by simp; omega), heap_alloc_old _ _ (by simp)]
    exact heap_alloc_new w _
theorem setC2 {w : World} {Q t : Nat} {x y A B : Value} (h : w.heap[Q]? = some (.cells #[x, y] t (0, 0))) :
    ((w.setCell ⟨Q, 0, none⟩ A).setCell ⟨Q, 1, none⟩ B).cell? ⟨Q, 0, none⟩ = some A ∧ ((w.setCell ⟨Q, 0, none⟩ A).setCell ⟨Q, 1, none⟩ B).cell? ⟨Q, 1, none⟩ = some B := by
  have h1 := heap_setCell_same w Q 0 _ t A h
  have h2 := heap_setCell_same (w.setCell ⟨Q, 0, none⟩ A) Q 1 _ t B h1
  rw [cell_of_row _ _ _ _ _ _ h2, cell_of_row _ _ _ _ _ _ h2]
  exact ⟨rfl, rfl⟩
theorem OpS.mapped {W W' : World} {sp : Option Addr} {n M : Nat} {o : Nat → O3} (h : OpS W sp n o) (hm : ∃ es cl, W.heap[M]? = some (.map es cl)) (hg : W.grownBy W' (some M)) : OpS W' sp n o := by
  intro hn
  obtain ⟨b, off, e, hb, hc⟩ := h hn
  obtain ⟨es, cl, hm⟩ := hm
  have hbM : b ≠ M := fun e2 => by
    have := (hc 0 hn).1
    subst e2
    simp [World.cell?, hm] at this
  have hbl := hg.block b hb (fun e => by injection e with e; exact hbM e)
  have hcc : ∀ k, W'.cell? ⟨b, k, none⟩ = W.cell? ⟨b, k, none⟩ := fun k => by simp [World.cell?, hbl]
  exact ⟨b, off, e, Nat.lt_of_lt_of_le hb hg.size, fun i hi => by rw [hcc, hcc, hcc]; exact hc i hi⟩
end Go.Proofs.Yteobndfkkpfnlaa

namespace Go.Proofs.Yteobndfkkpfnlaa
open Go.ChangeShapes Go.WideShapes Go.ChangeAt Go.RowKit Go.Maps
set_option linter.unusedVariables false

/-- what the program's Writes answers -/
def HWr (k : Nat) : Prop := ∀ (c st : Int) (sp : Option Addr) (len cap : Nat) (o : Nat → O3) (w : World) (hlen : len ≤ 1000) (hk : ∀ i, i < len → 0 ≤ (o i).key ∧ (o i).key ≤ 15) (hs : OpS w sp len o),
    Calls Try.prog k #[.agg #[.int .i64 c, .int .i64 st, .slice sp len cap]] w (OpsP (wrl o len 16) w)
def WrP (T : Nat → Tx) (m : Nat) (w : World) (e : Ending) (w' : World) : Prop :=
  ∃ b1 b2, e = .returned (.agg #[.map (some b1), .map (some b2)]) ∧ MapV w' b1 (100 * m) (allV T m) ∧ MapV w' b2 (16 * m) (endV T m) ∧ Below w.heap.size w w'
theorem wrl_16 (o : Nat → O3) (n : Nat) : (wrl o n 16).length ≤ 16 := wrl_le o n 16
theorem wrl_of {o : Nat → O3} {n : Nat} {x : O3} : ∀ K, x ∈ wrl o n K → ∃ i, i < n ∧ x = o i := by
  intro K
  induction K with
  | zero => intro h; cases h
  | succ K ih =>
    intro h
    unfold wrl at h
    cases hl : lastIx o (K : Int) n with
    | none => rw [hl] at h; exact ih h
    | some i =>
      rw [hl] at h
      rcases List.mem_append.1 h with h | h
      · exact ih h
      · simp at h
        exact ⟨i, (lastIx_lt hl).1, h⟩
theorem wrl_in {o : Nat → O3} {n : Nat} {P : O3 → Prop} (h : ∀ i, i < n → P (o i)) {i : Nat} (hi : i < (wrl o n 16).length) : P (lf (wrl o n 16) i) := by
  have hm : lf (wrl o n 16) i ∈ wrl o n 16 := by
    unfold lf
    rw [List.getD_eq_getElem?_getD, List.getElem?_eq_getElem hi]
    exact List.getElem_mem hi
  obtain ⟨j, hj, e⟩ := wrl_of 16 hm
  rw [e]
  exact h j hj

set_option maxRecDepth 100000 in
set_option maxHeartbeats 4000000 in
theorem writers_any (HW67 : HWr 67) (a : Option Addr) (m cap : Nat) (T : Nat → Tx) (w : World) (hs : TxS w a m T) (ok : TOk m T) :
    Calls Try.prog 44 #[.slice a m cap] w (WrP T m w) := by
  have HS := Lib.hid hs
  have HOK := Lib.hid ok
  have hm4 := ok.cnt
  have HHW := Lib.hid HW67
  clear hs ok HW67
  have hmm := @run_makeMap Try.prog
  have hst := WrS.start w
  obtain ⟨M1, eM1⟩ : ∃ M1, M1 = w.heap.size + 1 := ⟨_, rfl⟩
  obtain ⟨M2, eM2⟩ : ∃ M2, M2 = w.heap.size + 1 + 1 := ⟨_, rfl⟩
  obtain ⟨X, eX⟩ : ∃ X, X = w.heap.size + 1 + 1 + 1 := ⟨_, rfl⟩
  obtain ⟨wi, ewi⟩ : ∃ wi, wi = ((((w.alloc (.cells #[.map none, .map none] 96)).alloc (.map #[] 0)).alloc (.map #[] 0)).alloc (.cells #[.map (some (w.heap.size + 1)), .map (some (w.heap.size + 1 + 1))] 96)) := ⟨_, rfl⟩
  rw [← ewi, ← eX, ← eM2, ← eM1] at hst
  have HST := Lib.hid hst
  clear hst
  go_enter Try.func44, Try.ntmps44
  go_wp2
  rw [← ewi, ← eX, ← eM2, ← eM1]
  obtain ⟨R, eR⟩ : ∃ R, R = w.heap.size := ⟨_, rfl⟩
  have HST2 : Hid (WrS w w.heap.size R M1 M2 X wi 0 0 (fun _ _ => none) (fun _ _ => none)) := Lib.hid (by rw [eR]; exact HST.out)
  rw [← eR]
  clear ewi eX eM2 eM1 eR hmm HST
  go_loopw [4, 5, 7, 9, 15] (fun _ _ _ _ x wr => ∃ t : Nat, t ≤ m ∧ x = .int .i64 (t : Int) ∧ Hid (WrS w w.heap.size R M1 M2 X wr (100 * t) (16 * t) (allV T t) (endV T t))) (fun _ _ _ _ x _ => m - (intOf x).toNat)
  case atStart => exact ⟨0, Nat.zero_le _, rfl, HST2⟩
  case round =>
    obtain ⟨t, ht, rfl, HW⟩ := hrel
    clear HST2
    by_cases hlt : t < m
    · obtain ⟨b, off, rfl, hbl, hci⟩ := HS.out (by omega)
      obtain ⟨sp, cp, c0, c1, c2, ho⟩ := hci t hlt
      have x0 := (HW.out.bel.cell (p := ⟨b, off + t * 3, none⟩) hbl).trans c0
      have x1 := (HW.out.bel.cell (p := ⟨b, off + t * 3 + 1, none⟩) hbl).trans c1
      have x2 := (HW.out.bel.cell (p := ⟨b, off + t * 3 + 2, none⟩) hbl).trans c2
      have hlt' : (t : Int) < (m : Int) := by omega
      have hn1 := HOK.out.n t hlt
      have HKR := Lib.hid (HOK.out.key t hlt)
      have HVR := Lib.hid (HOK.out.val t hlt)
      have HOP := Lib.hid (ho.below HW.out.bel)
      have HOPB := Lib.hid ho
      have HAT : Hid (allV T (t + 1) = opsV (T t).o (t : Int) (allV T t) (T t).n) := Lib.hid rfl
      have HET : Hid (endV T (t + 1) = lstV (wrl (T t).o (T t).n 16) (t : Int) (endV T t) (wrl (T t).o (T t).n 16).length) := Lib.hid rfl
      clear c0 c1 c2 ho hci
      generalize allV T t = A at *
      generalize endV T t = E at *
      generalize (T t).c = tc at *
      generalize (T t).st = tst at *
      generalize (T t).n = tn at *
      generalize (T t).o = to_ at *
      obtain ⟨wx, ewx⟩ : ∃ wx, wx = wr.alloc (.cells #[.int .i64 tc, .int .i64 tst, .slice sp tn cp] 47) := ⟨_, rfl⟩
      have hbx : Below wr.heap.size wr wx := by rw [ewx]; exact (Below.refl _ _).alloc (Nat.le_refl _) _
      have hxx : wx.heap[wr.heap.size]? = some (.cells #[.int .i64 tc, .int .i64 tst, .slice sp tn cp] 47 (0, 0)) := by rw [ewx]; exact heap_alloc_new wr _
      obtain ⟨Q, eQ⟩ : ∃ Q, Q = wr.heap.size := ⟨_, rfl⟩
      have HWX := Lib.hid (HW.out.keep hbx)
      have HOX := Lib.hid (HOP.out.below hbx)
      have hQM : Q ≠ M1 ∧ Q ≠ M2 := by have := HW.out.all.lt; have := HW.out.fin.lt; omega
      rw [← eQ] at hxx
      have HXX := Lib.hid hxx
      obtain ⟨⟨q0, q1, q2⟩, _⟩ := cells3 hxx
      go_wp2
      rw [← ewx, ← eQ]
      have hQX : Below w.heap.size w wx := HWX.out.bel
      clear ewx eQ q0 q1 q2 hxx hbx x0 x1 x2 HW HOP
      go_loopw [7, 23] (fun _ x ws => ∃ i : Nat, i ≤ tn ∧ x = .int .i64 (i : Int) ∧ Hid (WrS w w.heap.size R M1 M2 X ws (100 * t + i) (16 * t) (opsV to_ (t : Int) A i) E ∧ ws.heap[Q]? = some (.cells #[.int .i64 tc, .int .i64 tst, .slice sp tn cp] 47 (0, 0)))) (fun _ x _ => tn - (intOf x).toNat)
      case atStart => exact ⟨0, Nat.zero_le _, rfl, Lib.hid ⟨HWX.out, HXX.out⟩⟩
      case round =>
        obtain ⟨i, hi, rfl, HI⟩ := hrel
        have HWI := Lib.hid HI.out.1
        have HQI := Lib.hid HI.out.2
        have hQs := hlt_of HI.out.2
        clear HI
        by_cases hin : i < tn
        · obtain ⟨b2, off2, rfl, hb2, hc2⟩ := HOPB.out (by omega)
          obtain ⟨d0, d1, d2⟩ := hc2 i hin
          have x0 := (HWI.out.bel.cell (p := ⟨b2, off2 + i * 3, none⟩) hb2).trans d0
          have x1 := (HWI.out.bel.cell (p := ⟨b2, off2 + i * 3 + 1, none⟩) hb2).trans d1
          have x2 := (HWI.out.bel.cell (p := ⟨b2, off2 + i * 3 + 2, none⟩) hb2).trans d2
          have hin' : (i : Int) < (tn : Int) := by omega
          have hkr := HKR.out i hin
          have hvr := HVR.out i hin
          have HOI : Hid (opsV to_ (t : Int) A (i + 1) = if (to_ i).k = 2 then updV (opsV to_ (t : Int) A i) (to_ i).key (to_ i).v (t : Int) else opsV to_ (t : Int) A i) := Lib.hid rfl
          clear d0 d1 d2 hc2
          generalize opsV to_ (t : Int) A i = Ai at *
          generalize to_ i = oi at *
          obtain ⟨ok, okey, ov⟩ := oi
          dsimp only at x0 x1 x2 hkr hvr HOI
          have hwx : Below wr.heap.size wr (wr.alloc (.cells #[.int .i64 ok, .int .i64 okey, .int .i64 ov] 44)) := (Below.refl _ _).alloc (Nat.le_refl _) _
          have HWY := Lib.hid (HWI.out.keep hwx)
          have HQY := Lib.hid ((hwx.block _ hQs).trans HQI.out)
          by_cases h2 : ok = 2
          · subst h2
            rw [if_pos rfl] at HOI
            obtain ⟨wy, ewy⟩ : ∃ wy, wy = wr.alloc (.cells #[.int .i64 2, .int .i64 okey, .int .i64 ov] 44) := ⟨_, rfl⟩
            obtain ⟨P, eP⟩ : ∃ P, P = wr.heap.size := ⟨_, rfl⟩
            have hPP : wy.heap[P]? = some (.cells #[.int .i64 2, .int .i64 okey, .int .i64 ov] 44 (0, 0)) := by rw [ewy, eP]; exact heap_alloc_new wr _
            have hpl := hlt_of hPP
            have hPM : P ≠ M1 := by have := HWI.out.all.lt; omega
            have hPM2 : P ≠ M2 := by have := HWI.out.fin.lt; omega
            obtain ⟨⟨p0, p1, p2⟩, _⟩ := cells3 hPP
            rw [← ewy] at HWY HQY hwx
            have HKK : Hid (∀ W, Below wy.heap.size wy W → W.cell? ⟨X, 0, none⟩ = some (.map (some M1)) ∧ W.cell? ⟨P, 0, none⟩ = some (.int .i64 2) ∧ W.cell? ⟨P, 1, none⟩ = some (.int .i64 okey) ∧ W.cell? ⟨P, 2, none⟩ = some (.int .i64 ov)) := Lib.hid fun W hb => ⟨(cells2 ((hb.block _ (hlt_of HWY.out.box)).trans HWY.out.box)).1, (cells3 ((hb.block _ hpl).trans hPP)).1⟩
            have HKG : Hid (∀ W W', Below wy.heap.size wy W → W.grownBy W' (some M1) → W'.cell? ⟨X, 0, none⟩ = some (.map (some M1)) ∧ W'.cell? ⟨P, 0, none⟩ = some (.int .i64 2) ∧ W'.cell? ⟨P, 1, none⟩ = some (.int .i64 okey) ∧ W'.cell? ⟨P, 2, none⟩ = some (.int .i64 ov)) := Lib.hid fun W W' hb hg => ⟨(cells2 ((hg.block _ (Nat.lt_of_lt_of_le (hlt_of HWY.out.box) hb.size) (fun e => by injection e with e; exact HWY.out.ne.2.2.2.1 e)).trans ((hb.block _ (hlt_of HWY.out.box)).trans HWY.out.box))).1, (cells3 ((hg.block _ (Nat.lt_of_lt_of_le hpl hb.size) (fun e => by injection e with e; exact hPM e)).trans ((hb.block _ hpl).trans hPP))).1⟩
            have hB0 : Below wy.heap.size wy wy.drew := (Below.refl _ _).drew
            have hb00 : Below wy.heap.size wy wy := Below.refl _ _
            go_wp2
            rw [← ewy, ← eP]
            clear ewy eP p0 p1 p2 hwx HWI HQI x0 x1 x2
            go_region_held3 (fun W => W.cell? ⟨X, 0, none⟩ = some (.map (some M1)) ∧ W.cell? ⟨P, 0, none⟩ = some (.int .i64 2) ∧ W.cell? ⟨P, 1, none⟩ = some (.int .i64 okey) ∧ W.cell? ⟨P, 2, none⟩ = some (.int .i64 ov))
              (first | exact HKK.out _ hb00 | exact HKK.out _ hB0 | exact HKK.out _ hB6 | exact HKG.out _ _ hB6 hg7)
              (first
                | (go_at_call 49; refine (version_any _ _ _ _).mono ?_; rintro e w6 ⟨rfl, hb6⟩; have hB6 : Below wy.heap.size wy w6 := hB0.trans hb6; obtain ⟨w7, hrun7, hm7, hg7⟩ := (HWY.out.all.below hB6).update okey ov (t : Int) (by omega) (by unfold In64; omega) hvr (by unfold In64; omega)))
            have HW7 : Hid (WrS w w.heap.size R M1 M2 X w7 (100 * t + (i + 1)) (16 * t) (opsV to_ (t : Int) A (i + 1)) E) := Lib.hid (by
              rw [HOI.out]
              exact (HWY.out.keep hB6).wroteA hm7 hg7)
            have HQ7 : Hid (w7.heap[Q]? = some (.cells #[.int .i64 tc, .int .i64 tst, .slice (some ⟨b2, off2, none⟩) tn cp] 47 (0, 0))) := Lib.hid ((hg7.block _ (Nat.lt_of_lt_of_le (hlt_of HQY.out) hB6.size) (fun e => by injection e with e; exact hQM.1 e)).trans ((hB6.block _ (hlt_of HQY.out)).trans HQY.out))
            clear hm7 hg7 hB6 hb6 hB0 hb00 hrun7 HKK HKG hPP
            go_wp2
            go_roundw
            case rel => exact ⟨i + 1, by omega, by go_num, Lib.hid ⟨HW7.out, HQ7.out⟩⟩
            case measure => simp [intOf]; omega
          · have h2b : (ok == 2) = false := by rw [beq_eq_false_iff_ne]; exact h2
            rw [if_neg h2] at HOI
            clear h2
            go_wp2
            go_roundw
            case rel => exact ⟨i + 1, by omega, by go_num, Lib.hid ⟨by rw [HOI.out]; exact HWY.out.mono (by omega) (Nat.le_refl _), HQY.out⟩⟩
            case measure => simp [intOf]; omega
        · obtain rfl : i = tn := by omega
          clear HWX HXX
          obtain ⟨wz, ewz⟩ : ∃ wz, wz = wr := ⟨_, rfl⟩
          rw [← ewz] at HWI HQI hQs ⊢
          clear ewz
          obtain ⟨⟨q0, q1, q2⟩, _⟩ := cells3 HQI.out
          have HCW := Lib.hid (HHW.out tc tst sp i cp to_ wz (by omega) HKR.out (HOPB.out.below HWI.out.bel))
          go_wp2_with fail
          refine HCW.out.mono ?_
          rintro e w8 ⟨sp2, cp2, rfl, ho2, hb2⟩
          have HO2 := Lib.hid (own38_ops ho2)
          have HW8 := Lib.hid (HWI.out.keep hb2)
          have hl16 := wrl_16 to_ i
          have HKL := Lib.hid (fun (j : Nat) (hj : j < (wrl to_ i 16).length) => wrl_in (P := fun o => 0 ≤ o.key ∧ o.key ≤ 15) HKR.out hj)
          have HVL := Lib.hid (fun (j : Nat) (hj : j < (wrl to_ i 16).length) => wrl_in (P := fun o => In64 o.v) HVR.out hj)
          clear ho2 hb2 HCW HWI HQI q0 q1 q2
          generalize wrl to_ i 16 = l at *
          go_wp2
          go_loopw [9, 39] (fun _ x ws => ∃ j : Nat, j ≤ l.length ∧ x = .int .i64 (j : Int) ∧ Hid (WrS w w.heap.size R M1 M2 X ws (100 * t + i) (16 * t + j) (opsV to_ (t : Int) A i) (lstV l (t : Int) E j) ∧ OpS ws sp2 l.length (lf l))) (fun _ x _ => l.length - (intOf x).toNat)
          case atStart => exact ⟨0, Nat.zero_le _, rfl, Lib.hid ⟨HW8.out, HO2.out⟩⟩
          case round =>
            obtain ⟨j, hj, rfl, HJ⟩ := hrel
            have HWJ := Lib.hid HJ.out.1
            have HBJ := Lib.hid HJ.out.2
            clear HJ
            by_cases hjl : j < l.length
            · have HOJ := HBJ
              obtain ⟨b3, off3, rfl, hb3, hc3⟩ := HBJ.out (by omega)
              obtain ⟨d0, d1, d2⟩ := hc3 j hjl
              have x0 := d0
              have x1 := d1
              have x2 := d2
              have hjl' : (j : Int) < (l.length : Int) := by omega
              have hkr := HKL.out j hjl
              have hvr := HVL.out j hjl
              have HOI : Hid (lstV l (t : Int) E (j + 1) = updV (lstV l (t : Int) E j) (lf l j).key (lf l j).v (t : Int)) := Lib.hid rfl
              clear d0 d1 d2 hc3
              generalize lstV l (t : Int) E j = Ej at *
              generalize lf l j = oj at *
              obtain ⟨ok, okey, ov⟩ := oj
              dsimp only at x0 x1 x2 hkr hvr HOI
              obtain ⟨wy, ewy⟩ : ∃ wy, wy = wr.alloc (.cells #[.int .i64 ok, .int .i64 okey, .int .i64 ov] 44) := ⟨_, rfl⟩
              have hwx : Below wr.heap.size wr wy := by rw [ewy]; exact (Below.refl _ _).alloc (Nat.le_refl _) _
              have HWY := Lib.hid (HWJ.out.keep hwx)
              have HBY := Lib.hid (HOJ.out.below hwx)
              obtain ⟨P, eP⟩ : ∃ P, P = wr.heap.size := ⟨_, rfl⟩
              have hPP : wy.heap[P]? = some (.cells #[.int .i64 ok, .int .i64 okey, .int .i64 ov] 44 (0, 0)) := by rw [ewy, eP]; exact heap_alloc_new wr _
              have hpl := hlt_of hPP
              have hPM : P ≠ M2 := by have := HWJ.out.fin.lt; omega
              have HKK : Hid (∀ W, Below wy.heap.size wy W → W.cell? ⟨X, 1, none⟩ = some (.map (some M2)) ∧ W.cell? ⟨P, 0, none⟩ = some (.int .i64 ok) ∧ W.cell? ⟨P, 1, none⟩ = some (.int .i64 okey) ∧ W.cell? ⟨P, 2, none⟩ = some (.int .i64 ov)) := Lib.hid fun W hb => ⟨(cells2 ((hb.block _ (hlt_of HWY.out.box)).trans HWY.out.box)).2, (cells3 ((hb.block _ hpl).trans hPP)).1⟩
              have HKG : Hid (∀ W W', Below wy.heap.size wy W → W.grownBy W' (some M2) → W'.cell? ⟨X, 1, none⟩ = some (.map (some M2)) ∧ W'.cell? ⟨P, 0, none⟩ = some (.int .i64 ok) ∧ W'.cell? ⟨P, 1, none⟩ = some (.int .i64 okey) ∧ W'.cell? ⟨P, 2, none⟩ = some (.int .i64 ov)) := Lib.hid fun W W' hb hg => ⟨(cells2 ((hg.block _ (Nat.lt_of_lt_of_le (hlt_of HWY.out.box) hb.size) (fun e => by injection e with e; exact HWY.out.ne.2.2.2.2.1 e)).trans ((hb.block _ (hlt_of HWY.out.box)).trans HWY.out.box))).2, (cells3 ((hg.block _ (Nat.lt_of_lt_of_le hpl hb.size) (fun e => by injection e with e; exact hPM e)).trans ((hb.block _ hpl).trans hPP))).1⟩
              have hB0 : Below wy.heap.size wy wy.drew := (Below.refl _ _).drew
              have hb00 : Below wy.heap.size wy wy := Below.refl _ _
              go_wp2
              rw [← ewy, ← eP]
              clear ewy eP hwx HWJ HBJ HOJ x0 x1 x2
              go_region_held3 (fun W => W.cell? ⟨X, 1, none⟩ = some (.map (some M2)) ∧ W.cell? ⟨P, 0, none⟩ = some (.int .i64 ok) ∧ W.cell? ⟨P, 1, none⟩ = some (.int .i64 okey) ∧ W.cell? ⟨P, 2, none⟩ = some (.int .i64 ov))
                (first | exact HKK.out _ hb00 | exact HKK.out _ hB0 | exact HKK.out _ hB6 | exact HKG.out _ _ hB6 hg7)
                (first
                  | (go_at_call 49; refine (version_any _ _ _ _).mono ?_; rintro e w6 ⟨rfl, hb6⟩; have hB6 : Below wy.heap.size wy w6 := hB0.trans hb6; obtain ⟨w7, hrun7, hm7, hg7⟩ := (HWY.out.fin.below hB6).update okey ov (t : Int) (by omega) (by unfold In64; omega) hvr (by unfold In64; omega)))
              have HW7 : Hid (WrS w w.heap.size R M1 M2 X w7 (100 * t + i) (16 * t + (j + 1)) (opsV to_ (t : Int) A i) (lstV l (t : Int) E (j + 1))) := Lib.hid (by
                rw [HOI.out]
                exact (HWY.out.keep hB6).wroteE hm7 hg7)
              have HO7 := Lib.hid ((HBY.out.below hB6).mapped (HWY.out.fin.below hB6).isMap hg7)
              clear hm7 hg7 hB6 hb6 hB0 hb00 hrun7 HKK HKG hPP
              go_wp2
              go_roundw
              case rel => exact ⟨j + 1, by omega, by go_num, Lib.hid ⟨HW7.out, HO7.out⟩⟩
              case measure => simp [intOf]; omega
            · obtain rfl : j = l.length := by omega
              have HWN : Hid (WrS w w.heap.size R M1 M2 X wr (100 * (t + 1)) (16 * (t + 1)) (allV T (t + 1)) (endV T (t + 1))) := Lib.hid (by
                rw [HAT.out, HET.out]
                exact HWJ.out.mono (by omega) (by omega))
              clear HWJ HBJ HW8
              go_wp2
              go_roundw
              case rel => exact ⟨t + 1, by omega, by go_num, HWN⟩
              case measure => simp [intOf]; omega
    · obtain rfl : t = m := by omega
      obtain ⟨x0, x1⟩ := cells2 HW.out.box
      obtain ⟨r0, r1⟩ := cells2 HW.out.res
      have f0 : wr.frozen? ⟨R, 0, none⟩ = false := by simp [World.frozen?, HW.out.res]
      have f1 : wr.frozen? ⟨R, 1, none⟩ = false := by simp [World.frozen?, HW.out.res]
      go_wp2
      obtain ⟨p0, p1⟩ := setC2 (A := .map (some M1)) (B := .map (some M2)) HW.out.res
      refine bodyPost_ret (v := .agg #[.map (some M1), .map (some M2)]) (by simp [results, Try.results44, go_sem, p0, p1]) rfl ⟨M1, M2, rfl, ?_, ?_, (HW.out.bel.setCell (p := ⟨R, 0, none⟩) HW.out.rlow _).setCell (p := ⟨R, 1, none⟩) HW.out.rlow _⟩
      · exact HW.out.all.kept ((heap_setCell_other _ _ _ _ (fun e => HW.out.ne.2.2.2.2.2.1 e.symm)).trans (heap_setCell_other _ _ _ _ (fun e => HW.out.ne.2.2.2.2.2.1 e.symm)))
      · exact HW.out.fin.kept ((heap_setCell_other _ _ _ _ (fun e => HW.out.ne.2.2.2.2.2.2 e.symm)).trans (heap_setCell_other _ _ _ _ (fun e => HW.out.ne.2.2.2.2.2.2 e.symm)))
end Go.Proofs.Yteobndfkkpfnlaa

