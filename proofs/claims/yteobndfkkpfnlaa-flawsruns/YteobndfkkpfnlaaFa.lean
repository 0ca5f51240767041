/-
  Maps of our own from versions (a key and a value) to numbers; versionOf.
-/
import Derived.Test.YteobndfkkpfnlaaHWc
import Derived.DeepKeys4
namespace Go.Proofs.Yteobndfkkpfnlaa
open Go.ChangeShapes Go.WideShapes Go.ChangeAt Go.RowKit Go.Maps
set_option linter.unusedVariables false

theorem laidV : laidOutB Try.prog = true := by kernel_rfl
theorem sizeT : Try.prog.types.size = 200 := by kernel_rfl
theorem rowV : (102 : TypeId) < Try.prog.types.size := by rw [sizeT]; decide
theorem wideV : (match Try.prog.underlying 102 with | some (.array _ _) | some (.struct _) => true | _ => false) = true := by kernel_rfl
set_option maxRecDepth 100000 in
theorem keyedV : Keyed Try.prog 102 := Keyed.of_law (deep_law_laid laidV (m := 2) (by omega) rowV (by kernel_rfl) wideV)
/-- a number that fits -/
def In64 (z : Int) : Prop := -9223372036854775808 ≤ z ∧ z ≤ 9223372036854775807
/-- a version, as a value and as a key -/
def ver (k v : Int) : Value := .agg #[.int .i64 k, .int .i64 v]
def verL (k v : Int) : Lit := .string (keyBytes [.int .i64 k, .int .i64 v])
theorem keyTypeV : Try.prog.keyType 102 = true := by kernel_rfl
theorem cellsV : Try.prog.cellsOf 102 = 2 := by kernel_rfl
theorem cells3' : Try.prog.cellsOf 3 = 1 := by kernel_rfl
set_option maxRecDepth 100000 in
theorem keyOf_ver {k v : Int} (hk : In64 k) (hv : In64 v) : keyOf Try.prog 102 (ver k v) = some (verL k v) := by
  have w1 : (Lit.int .i64 k).wf = true := wf64 hk
  have w2 : (Lit.int .i64 v).wf = true := wf64 hv
  have h3 : ∀ (z : Int), (Lit.int .i64 z).wf = true → Try.prog.keyLits 200 3 [.int .i64 z] = some [.int .i64 z] := fun z hz => by
    show Program.keyLits Try.prog (199 + 1) 3 _ = _
    unfold Program.keyLits
    simp [Try.underlying3, hz]
  have e : Try.prog.keyLits (200 + 1) 102 [.int .i64 k, .int .i64 v] = some [.int .i64 k, .int .i64 v] := by
    unfold Program.keyLits
    simp [Try.underlying102, cellsV, cells3', h3 k w1, h3 v w2]
  unfold keyOf ver verL
  simp [Try.underlying102, keyTypeV, Value.formed, cellsV, Value.cells, e]
set_option maxRecDepth 100000 in
theorem verL_inj {x y k v : Int} (hx : In64 x) (hy : In64 y) (hk : In64 k) (hv : In64 v) (h : verL x y = verL k v) : x = k ∧ y = v := by
  have := keyedV.inj (keyOf_ver hx hy) (h ▸ keyOf_ver hk hv)
  unfold ver at this
  injection this with this
  simp at this
  exact this
/-- block b is a map that has m's entries, at most n -/
def MapV (w : World) (b n : Nat) (m : Int → Int → Option Int) : Prop :=
  ∃ D : DataW Unit, w.ownsMap Try.prog 102 (plainElem Try.prog 3) b n D ∧ ∀ x y, In64 x → In64 y → Maps.has D (verL x y) = (m x y).isSome ∧ D.atKey (verL x y) (.lit (.int .i64 0)) = .lit (.int .i64 ((m x y).getD 0))
theorem MapV.made (w : World) : MapV (w.alloc (.map #[] 0)) w.heap.size 0 (fun _ _ => none) :=
  ⟨.map [], World.ownsMap_made w Try.prog 102 _, fun _ _ _ _ => ⟨rfl, rfl⟩⟩
theorem MapV.lt {w : World} {b n : Nat} {m : Int → Int → Option Int} (h : MapV w b n m) : b < w.heap.size := by
  obtain ⟨D, ho, _⟩ := h; exact ho.lt
theorem MapV.kept {w w' : World} {b n : Nat} {m : Int → Int → Option Int} (h : MapV w b n m) (hb : w'.heap[b]? = w.heap[b]?) : MapV w' b n m := by
  obtain ⟨D, ⟨es, clock, hb', F, hs, hD⟩, hv⟩ := h
  exact ⟨D, ⟨es, clock, hb.trans hb', F, hs, hD⟩, hv⟩
theorem MapV.below {w w' : World} {b n : Nat} {m : Int → Int → Option Int} (h : MapV w b n m) (hb : Below w.heap.size w w') : MapV w' b n m := h.kept (hb.block _ h.lt)
theorem MapV.mono {w : World} {b n n' : Nat} {m : Int → Int → Option Int} (h : MapV w b n m) (hn : n ≤ n') : MapV w b n' m := by
  obtain ⟨D, ho, hv⟩ := h; exact ⟨D, ho.mono hn, hv⟩
theorem MapV.isMap {w : World} {b n : Nat} {m : Int → Int → Option Int} (h : MapV w b n m) : ∃ es cl, w.heap[b]? = some (.map es cl) := by
  obtain ⟨D, ⟨es, clock, hb, _⟩, _⟩ := h
  exact ⟨es, clock, hb⟩
set_option maxRecDepth 100000 in
theorem MapV.look {w : World} {b n : Nat} {m : Int → Int → Option Int} (h : MapV w b n m) (x y : Int) (hx : In64 x) (hy : In64 y) :
    (Instr.lookup 94 (.map (some b)) (.agg #[.int .i64 x, .int .i64 y]) true).run Try.prog w = .ok (.tuple #[.int .i64 ((m x y).getD 0), .bool (m x y).isSome]) w := by
  obtain ⟨D, ho, hv⟩ := h
  obtain ⟨v, ps, hrun, hR⟩ := ho.look_ok keyedV Try.underlying94 (zero3 w) (plainElem_int Try.underlying3 (by decide)) (keyOf_ver hx hy)
  obtain ⟨c, rfl, hc, _⟩ := plainElem_int_inv Try.underlying3 hR
  simp only [Prod.mk.injEq] at hc
  have e := hc.1
  rw [(hv x y hx hy).2] at e
  injection e with e
  injection e with _ e
  unfold ver at hrun
  rw [hrun, (hv x y hx hy).1, e]
set_option maxRecDepth 100000 in
theorem MapV.update {w : World} {b n : Nat} {m : Int → Int → Option Int} (h : MapV w b n m) (x y v : Int) (hn : n < 1000000) (hx : In64 x) (hy : In64 y) (hv : In64 v) :
    ∃ w', (Instr.mapUpdate 94 (.map (some b)) (.agg #[.int .i64 x, .int .i64 y]) (.int .i64 v)).run Try.prog w = .ok () w' ∧ MapV w' b (n + 1) (fun k z => if k = x ∧ z = y then some v else m k z) ∧ w.grownBy w' (some b) := by
  obtain ⟨D, ho, hD⟩ := h
  obtain ⟨w', hrun, ho', hg⟩ := ho.update keyedV Try.underlying94 (by unfold maxLen; omega) (keyOf_ver hx hy) (plainElem_int Try.underlying3 (wf64 hv))
  refine ⟨w', hrun, ⟨_, ho', fun k z hk hz => ?_⟩, hg⟩
  by_cases he : k = x ∧ z = y
  · obtain ⟨rfl, rfl⟩ := he
    dsimp only
    rw [if_pos ⟨rfl, rfl⟩]
    exact ⟨has_put_same (k := verL k z) ho.isMap (keyedV.key (keyOf_ver hx hy)) _, atKey_put_same (k := verL k z) ho.isMap (keyedV.key (keyOf_ver hx hy)) _ _⟩
  · dsimp only
    rw [if_neg he]
    have hne : verL k z ≠ verL x y := fun e => he (verL_inj hk hz hx hy e)
    rw [has_put_other hne, atKey_put_other hne]
    exact hD k z hk hz

/-- operations' versions, in new memory -/
theorem version_any (k key v : Int) (w : World) :
    Calls Try.prog 49 #[.agg #[.int .i64 k, .int .i64 key, .int .i64 v]] w (fun e w' => e = .returned (.agg #[.int .i64 key, .int .i64 v]) ∧ Below w.heap.size w w') := by
  go_enter Try.func49, Try.ntmps49
  go_wp2
  have hx := heap_alloc_new (w.alloc (.cells #[.int .i64 k, .int .i64 key, .int .i64 v] 44)) (.cells #[.int .i64 key, .int .i64 v] 102)
  have hs : (w.alloc (.cells #[.int .i64 k, .int .i64 key, .int .i64 v] 44)).heap.size = w.heap.size + 1 := by simp
  rw [hs] at hx
  have p0 := cell_of_row _ _ 0 _ _ _ hx
  have p1 := cell_of_row _ _ 1 _ _ _ hx
  exact bodyPost_ret (v := ver key v) (by unfold ver; simp [results, Try.results49, go_sem, p0, p1]) rfl ⟨rfl, ((Below.refl _ _).alloc (Nat.le_refl _) _).alloc (by simp) _⟩
end Go.Proofs.Yteobndfkkpfnlaa
