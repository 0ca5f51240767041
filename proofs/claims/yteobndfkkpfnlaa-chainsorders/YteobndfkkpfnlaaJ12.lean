/-
  chains: maps of our own from choices to bools (facts); commitOf.
  chains: unsettled; notGone.
  chains: notGone, done, Is.
  chains: a choice; who writes a key.
  chains: done.
  The reference of chains: writes, Get, Is.
  The reference's Choices: lists of choices; mathematics, memory.
  The reference's Choices: its walk.
-/
import Derived.Test.YteobndfkkpfnlaaJ09
import Derived.Test.YteobndfkkpfnlaaJ08
import Derived.Test.YteobndfkkpfnlaaJ11

namespace Go.Proofs.Yteobndfkkpfnlaa
open Go.ChangeShapes Go.WideShapes Go.ChangeAt Go.RowKit Go.Maps
set_option linter.unusedVariables false

theorem rowC_ : (58 : TypeId) < Try.prog.types.size := by rw [sizeT]; decide
theorem wideC : (match Try.prog.underlying 58 with | some (.array _ _) | some (.struct _) => true | _ => false) = true := by kernel_rfl
set_option maxRecDepth 100000 in
theorem keyedC : Keyed Try.prog 58 := Keyed.of_law (deep_law_laid laidV (m := 2) (by omega) rowC_ (by kernel_rfl) wideC)
/-- a choice, as a value and as a key -/
def cho (k y a b : Int) : Value := .agg #[.int .i64 k, .int .i64 y, .int .i64 a, .int .i64 b]
def choL (k y a b : Int) : Lit := .string (keyBytes [.int .i64 k, .int .i64 y, .int .i64 a, .int .i64 b])
/-- .. that fits -/
def InC (k y a b : Int) : Prop := In64 k ∧ In64 y ∧ In64 a ∧ In64 b
theorem keyTypeC : Try.prog.keyType 58 = true := by kernel_rfl
theorem cellsC : Try.prog.cellsOf 58 = 4 := by kernel_rfl
set_option maxRecDepth 100000 in
theorem keyOf_cho {k y a b : Int} (h : InC k y a b) : keyOf Try.prog 58 (cho k y a b) = some (choL k y a b) := by
  obtain ⟨h1, h2, h3, h4⟩ := h
  have w1 : (Lit.int .i64 k).wf = true := wf64 h1
  have w2 : (Lit.int .i64 y).wf = true := wf64 h2
  have w3 : (Lit.int .i64 a).wf = true := wf64 h3
  have w4 : (Lit.int .i64 b).wf = true := wf64 h4
  have h3 : ∀ (z : Int), (Lit.int .i64 z).wf = true → Try.prog.keyLits 200 3 [.int .i64 z] = some [.int .i64 z] := fun z hz => by
    show Program.keyLits Try.prog (199 + 1) 3 _ = _
    unfold Program.keyLits
    simp [Try.underlying3, hz]
  have e : Try.prog.keyLits (200 + 1) 58 [.int .i64 k, .int .i64 y, .int .i64 a, .int .i64 b] = some [.int .i64 k, .int .i64 y, .int .i64 a, .int .i64 b] := by
    unfold Program.keyLits
    simp [Try.underlying58, cellsC, cells3', h3 k w1, h3 y w2, h3 a w3, h3 b w4]
  unfold keyOf cho choL
  simp [Try.underlying58, keyTypeC, Value.formed, cellsC, Value.cells, e]
set_option maxRecDepth 100000 in
theorem choL_inj {k y a b k' y' a' b' : Int} (h : InC k y a b) (h' : InC k' y' a' b') (e : choL k y a b = choL k' y' a' b') : k = k' ∧ y = y' ∧ a = a' ∧ b = b' := by
  have := keyedC.inj (keyOf_cho h) (e ▸ keyOf_cho h')
  unfold cho at this
  injection this with this
  simp at this
  exact this
abbrev CM := Int → Int → Int → Int → Option Bool
/-- one more is said -/
def updC (m : CM) (k y a b : Int) (v : Bool) : CM := fun k' y' a' b' => if k' = k ∧ y' = y ∧ a' = a ∧ b' = b then some v else m k' y' a' b'
/-- block b is a map that has m's entries, at most n -/
def MapC (w : World) (b n : Nat) (m : CM) : Prop :=
  ∃ D : DataW Unit, w.ownsMap Try.prog 58 (plainElem Try.prog 4) b n D ∧ ∀ k y i j, InC k y i j → Maps.has D (choL k y i j) = (m k y i j).isSome ∧ D.atKey (choL k y i j) (.lit (.bool false)) = .lit (.bool ((m k y i j).getD false))
theorem zero4 (w : World) : (zeroValue 4).run Try.prog w = .ok (.bool false) w := by kernel_rfl
theorem plainB {e : TypeId} (he : Try.prog.underlying e = some .bool) {v : Value} {z : DataW Unit × List MemPlace} (h : plainElem Try.prog e v = some z) : ∃ x, v = .bool x ∧ z = (.lit (.bool x), []) := by
  unfold plainElem at h
  rw [he] at h
  cases v <;> simp at h
  subst h
  exact ⟨_, rfl, rfl⟩
theorem MapC.made (w : World) : MapC (w.alloc (.map #[] 0)) w.heap.size 0 (fun _ _ _ _ => none) :=
  ⟨.map [], World.ownsMap_made w Try.prog 58 _, fun _ _ _ _ _ => ⟨rfl, rfl⟩⟩
theorem MapC.lt {w : World} {b n : Nat} {m : CM} (h : MapC w b n m) : b < w.heap.size := by
  obtain ⟨D, ho, _⟩ := h; exact ho.lt
theorem MapC.kept {w w' : World} {b n : Nat} {m : CM} (h : MapC w b n m) (hb : w'.heap[b]? = w.heap[b]?) : MapC w' b n m := by
  obtain ⟨D, ⟨es, clock, hb', F, hs, hD⟩, hv⟩ := h
  exact ⟨D, ⟨es, clock, hb.trans hb', F, hs, hD⟩, hv⟩
theorem MapC.below {w w' : World} {b n : Nat} {m : CM} (h : MapC w b n m) (hb : Below w.heap.size w w') : MapC w' b n m := h.kept (hb.block _ h.lt)
theorem MapC.mono {w : World} {b n n' : Nat} {m : CM} (h : MapC w b n m) (hn : n ≤ n') : MapC w b n' m := by
  obtain ⟨D, ho, hv⟩ := h; exact ⟨D, ho.mono hn, hv⟩
theorem MapC.isMap {w : World} {b n : Nat} {m : CM} (h : MapC w b n m) : ∃ es cl, w.heap[b]? = some (.map es cl) := by
  obtain ⟨D, ⟨es, clock, hb, _⟩, _⟩ := h
  exact ⟨es, clock, hb⟩
set_option maxRecDepth 100000 in
theorem MapC.look {w : World} {b n : Nat} {m : CM} (h : MapC w b n m) (k y i j : Int) (hc : InC k y i j) :
    (Instr.lookup 62 (.map (some b)) (cho k y i j) true).run Try.prog w = .ok (.tuple #[.bool ((m k y i j).getD false), .bool (m k y i j).isSome]) w := by
  obtain ⟨D, ho, hv⟩ := h
  obtain ⟨v, ps, hrun, hR⟩ := ho.look_ok keyedC Try.underlying62 (zero4 w) (plainElem_bool Try.underlying4 false) (keyOf_cho hc)
  obtain ⟨c, rfl, hz⟩ := plainB Try.underlying4 hR
  simp only [Prod.mk.injEq] at hz
  have e := hz.1
  rw [(hv k y i j hc).2] at e
  injection e with e
  injection e with e
  rw [hrun, (hv k y i j hc).1, e]
set_option maxRecDepth 100000 in
theorem MapC.get {w : World} {b n : Nat} {m : CM} (h : MapC w b n m) (k y i j : Int) (hc : InC k y i j) :
    (Instr.lookup 62 (.map (some b)) (cho k y i j) false).run Try.prog w = .ok (.bool ((m k y i j).getD false)) w := by
  obtain ⟨D, ho, hv⟩ := h
  obtain ⟨v, ps, hrun, hR⟩ := ho.lookup keyedC Try.underlying62 (zero4 w) (plainElem_bool Try.underlying4 false) (keyOf_cho hc)
  obtain ⟨c, rfl, hz⟩ := plainB Try.underlying4 hR
  simp only [Prod.mk.injEq] at hz
  have e := hz.1
  rw [(hv k y i j hc).2] at e
  injection e with e
  injection e with e
  rw [hrun, e]
set_option maxRecDepth 100000 in
theorem MapC.update {w : World} {b n : Nat} {m : CM} (h : MapC w b n m) (k y i j : Int) (v : Bool) (hn : n < 1000000) (hc : InC k y i j) :
    ∃ w', (Instr.mapUpdate 62 (.map (some b)) (cho k y i j) (.bool v)).run Try.prog w = .ok () w' ∧ MapC w' b (n + 1) (updC m k y i j v) ∧ w.grownBy w' (some b) := by
  obtain ⟨D, ho, hD⟩ := h
  obtain ⟨w', hrun, ho', hg⟩ := ho.update keyedC Try.underlying62 (by unfold maxLen; omega) (keyOf_cho hc) (plainElem_bool Try.underlying4 v)
  refine ⟨w', hrun, ⟨_, ho', fun k' y' i' j' hc' => ?_⟩, hg⟩
  unfold updC
  by_cases he : k' = k ∧ y' = y ∧ i' = i ∧ j' = j
  · obtain ⟨rfl, rfl, rfl, rfl⟩ := he
    rw [if_pos ⟨rfl, rfl, rfl, rfl⟩]
    exact ⟨has_put_same (k := choL k' y' i' j') ho.isMap (keyedC.key (keyOf_cho hc)) _, atKey_put_same (k := choL k' y' i' j') ho.isMap (keyedC.key (keyOf_cho hc)) _ _⟩
  · rw [if_neg he]
    have hne : choL k' y' i' j' ≠ choL k y i j := fun e => he (choL_inj hc' hc e)
    rw [has_put_other hne, atKey_put_other hne]
    exact hD k' y' i' j' hc'
/-- facts as they are read: nil, too -/
def FacS (w : World) (v : Value) (m : CM) : Prop := (v = .map none ∧ m = fun _ _ _ _ => none) ∨ ∃ b n, v = .map (some b) ∧ MapC w b n m
theorem FacS.below {w w' : World} {v : Value} {m : CM} (h : FacS w v m) (hb : Below w.heap.size w w') : FacS w' v m := by
  rcases h with h | ⟨b, n, e, h⟩
  · exact .inl h
  · exact .inr ⟨b, n, e, h.below hb⟩
set_option maxRecDepth 100000 in
theorem nil_look (w : World) (k y i j : Int) (hc : InC k y i j) : (Instr.lookup 62 (.map none) (cho k y i j) true).run Try.prog w = .ok (.tuple #[.bool false, .bool false]) w := by
  exact Maps.look_nil true keyedC Try.underlying62 (zero4 w) (keyOf_cho hc)
set_option maxRecDepth 100000 in
theorem nil_get (w : World) (k y i j : Int) (hc : InC k y i j) : (Instr.lookup 62 (.map none) (cho k y i j) false).run Try.prog w = .ok (.bool false) w := by
  exact Maps.look_nil false keyedC Try.underlying62 (zero4 w) (keyOf_cho hc)
theorem FacS.look {w : World} {v : Value} {m : CM} (h : FacS w v m) (k y i j : Int) (hc : InC k y i j) :
    (Instr.lookup 62 v (cho k y i j) true).run Try.prog w = .ok (.tuple #[.bool ((m k y i j).getD false), .bool (m k y i j).isSome]) w := by
  rcases h with ⟨rfl, rfl⟩ | ⟨b, n, rfl, h⟩
  · exact nil_look w k y i j hc
  · exact h.look k y i j hc
theorem FacS.get {w : World} {v : Value} {m : CM} (h : FacS w v m) (k y i j : Int) (hc : InC k y i j) :
    (Instr.lookup 62 v (cho k y i j) false).run Try.prog w = .ok (.bool ((m k y i j).getD false)) w := by
  rcases h with ⟨rfl, rfl⟩ | ⟨b, n, rfl, h⟩
  · exact nil_get w k y i j hc
  · exact h.get k y i j hc

set_option maxRecDepth 100000 in
set_option maxHeartbeats 2000000 in
theorem commitOf_any (i : Int) (w : World) :
    Calls Try.prog 55 #[.int .i64 i] w (fun e w' => e = .returned (cho 1 0 i 0) ∧ Below w.heap.size w w') := by
  go_enter Try.func55, Try.ntmps55
  go_wp2
  have hx := heap_alloc_new w (.cells #[.int .i64 1, .int .i64 0, .int .i64 i, .int .i64 0] 58)
  have p0 := cell_of_row _ _ 0 _ _ _ hx
  have p1 := cell_of_row _ _ 1 _ _ _ hx
  have p2 := cell_of_row _ _ 2 _ _ _ hx
  have p3 := cell_of_row _ _ 3 _ _ _ hx
  exact bodyPost_ret (v := cho 1 0 i 0) (by unfold cho; simp [results, Try.results55, go_sem, p0, p1, p2, p3]) rfl ⟨rfl, (Below.refl _ _).alloc (Nat.le_refl _) _⟩
end Go.Proofs.Yteobndfkkpfnlaa

namespace Go.Proofs.Yteobndfkkpfnlaa
open Go.ChangeShapes Go.WideShapes Go.ChangeAt Go.RowKit Go.Maps
set_option linter.unusedVariables false

/-- does it write -/
def wrT (t : Tx) : Prop := ∃ i, i < t.n ∧ (t.o i).k = 2
/-- .. and is it open -/
def unT (t : Tx) : Prop := t.st = 0 ∧ wrT t

set_option maxRecDepth 100000 in
set_option maxHeartbeats 2000000 in
theorem wpred_any (k key v : Int) (b : Bool) (hb : b = true ↔ k = 2) (w : World) :
    Calls Try.prog 71 #[.agg #[.int .i64 k, .int .i64 key, .int .i64 v]] w (fun e w' => e = .returned (.bool b) ∧ Below w.heap.size w w') := by
  cases b with
  | true =>
    obtain rfl := hb.1 rfl
    clear hb
    go_enter Try.func71, Try.ntmps71
    go_wp2
    go_ret
    exact ⟨rfl, (Below.refl _ _).alloc (Nat.le_refl _) _⟩
  | false =>
    have hk : (k == 2) = false := beq_eq_false_iff_ne.2 (fun h => by have := hb.2 h; cases this)
    clear hb
    go_enter Try.func71, Try.ntmps71
    go_wp2
    go_ret
    exact ⟨rfl, (Below.refl _ _).alloc (Nat.le_refl _) _⟩

set_option maxRecDepth 100000 in
set_option maxHeartbeats 4000000 in
theorem windex_any (sp : Option Addr) (n c : Nat) (o : Nat → O3) (w : World) (hn : n ≤ 100000) (hs : OpS w sp n o) :
    Calls Try.prog 84 #[.slice sp n c, .func (.func 71) #[] #[]] w (fun e w' => ∃ r : Int, e = .returned (.int .i64 r) ∧ (0 ≤ r ↔ ∃ i, i < n ∧ (o i).k = 2) ∧ Below w.heap.size w w') := by
  have HS := Lib.hid hs
  clear hs
  go_enter Try.func84, Try.ntmps84
  go_wp2
  go_loopw [5, 8] (fun _ x wr => ∃ t : Nat, t ≤ n ∧ x = .int .i64 (t : Int) ∧ Hid (Below w.heap.size w wr ∧ ∀ j, j < t → (o j).k ≠ 2)) (fun _ x _ => n - (intOf x).toNat)
  case atStart => exact ⟨0, Nat.zero_le _, rfl, Lib.hid ⟨Below.refl _ _, fun j hj => absurd hj (Nat.not_lt_zero _)⟩⟩
  case round =>
    obtain ⟨t, ht, rfl, HT⟩ := hrel
    have HBT := Lib.hid HT.out.1
    have HNT := Lib.hid HT.out.2
    clear HT
    by_cases hlt : t < n
    · obtain ⟨b, off, rfl, hbl, hci⟩ := HS.out (by omega)
      obtain ⟨c0, c1, c2⟩ := hci t hlt
      have x0 := (HBT.out.cell (p := ⟨b, off + t * 3, none⟩) hbl).trans c0
      have x1 := (HBT.out.cell (p := ⟨b, off + t * 3 + 1, none⟩) hbl).trans c1
      have x2 := (HBT.out.cell (p := ⟨b, off + t * 3 + 2, none⟩) hbl).trans c2
      have hlt' : (t : Int) < (n : Int) := by omega
      have HNX : Hid ((o t).k ≠ 2 → ∀ j, j < t + 1 → (o j).k ≠ 2) := Lib.hid fun h j hj => by
        by_cases e : j < t
        · exact HNT.out j e
        · obtain rfl : j = t := by omega
          exact h
      have HYS : Hid ((o t).k = 2 → ∃ i, i < n ∧ (o i).k = 2) := Lib.hid fun h => ⟨t, hlt, h⟩
      clear hci c0 c1 c2
      generalize (o t) = ot at *
      obtain ⟨ok, okey, ov⟩ := ot
      dsimp only at *
      by_cases hk : ok = 2
      · have HP := Lib.hid (wpred_any ok okey ov true (by simp [hk]) wr)
        have HZ := Lib.hid (HYS.out hk)
        clear hk HYS HNX
        go_wp2_with fail
        refine HP.out.mono ?_
        rintro e w2 ⟨rfl, hb⟩
        have HB2 := Lib.hid (HBT.out.trans (hb.mono HBT.out.size))
        clear hb HP
        go_wp2
        go_ret
        exact ⟨t, rfl, ⟨fun _ => HZ.out, fun _ => by omega⟩, HB2.out⟩
      · have HP := Lib.hid (wpred_any ok okey ov false (by simp [hk]) wr)
        have HZ := Lib.hid (HNX.out hk)
        clear hk HYS HNX
        go_wp2_with fail
        refine HP.out.mono ?_
        rintro e w2 ⟨rfl, hb⟩
        have HB2 := Lib.hid (HBT.out.trans (hb.mono HBT.out.size))
        clear hb HP
        go_wp2
        go_roundw
        case rel => exact ⟨t + 1, by omega, by go_num, Lib.hid ⟨HB2.out, HZ.out⟩⟩
        case measure => simp [intOf]; omega
    · obtain rfl : t = n := by omega
      have HZ : Hid (¬ ∃ i, i < t ∧ (o i).k = 2) := Lib.hid fun ⟨i, hi, h⟩ => HNT.out i hi h
      clear HNT
      go_wp2
      go_ret
      exact ⟨-1, rfl, ⟨fun h => by omega, fun h => absurd h HZ.out⟩, HBT.out⟩

set_option maxRecDepth 100000 in
set_option maxHeartbeats 2000000 in
theorem wcontains_any (sp : Option Addr) (n c : Nat) (o : Nat → O3) (b : Bool) (w : World) (hn : n ≤ 100000) (hs : OpS w sp n o) (hb : b = true ↔ ∃ i, i < n ∧ (o i).k = 2) :
    Calls Try.prog 72 #[.slice sp n c, .func (.func 71) #[] #[]] w (fun e w' => e = .returned (.bool b) ∧ Below w.heap.size w w') := by
  have HI := Lib.hid (windex_any sp n c o w hn hs)
  clear hs
  go_enter Try.func72, Try.ntmps72
  go_wp2_with fail
  refine HI.out.mono ?_
  rintro e w2 ⟨r, rfl, hr, hbl⟩
  have HB := Lib.hid hbl
  have hd : decide (0 ≤ r) = b := by
    rw [Bool.eq_iff_iff, decide_eq_true_iff, hb]; exact hr
  clear hbl HI hr hb
  go_wp2
  go_ret
  exact ⟨by rw [← hd]; rfl, HB.out⟩

set_option maxRecDepth 100000 in
set_option maxHeartbeats 2000000 in
theorem unsettled_any (c st : Int) (sp : Option Addr) (n cp : Nat) (o : Nat → O3) (b : Bool) (w : World) (hn : n ≤ 100000) (hs : OpS w sp n o) (hb : b = true ↔ unT ⟨c, st, n, o⟩) :
    Calls Try.prog 54 #[.agg #[.int .i64 c, .int .i64 st, .slice sp n cp]] w (fun e w' => e = .returned (.bool b) ∧ Below w.heap.size w w') := by
  have HX : Hid (Below w.heap.size w (w.alloc (.cells #[.int .i64 c, .int .i64 st, .slice sp n cp] 47))) := Lib.hid ((Below.refl _ _).alloc (Nat.le_refl _) _)
  by_cases h0 : st = 0
  · have HC := Lib.hid (wcontains_any sp n cp o b _ hn (hs.below HX.out) (by rw [hb]; exact ⟨fun h => h.2, fun h => ⟨h0, h⟩⟩))
    clear hb hs
    subst h0
    go_enter Try.func54, Try.ntmps54
    go_wp2_with fail
    refine HC.out.mono ?_
    rintro e w2 ⟨rfl, hbl⟩
    have HB := Lib.hid (HX.out.trans (hbl.mono HX.out.size))
    clear hbl HC HX
    go_wp2
    go_ret
    exact ⟨rfl, HB.out⟩
  · obtain rfl : b = false := by
      cases b with
      | false => rfl
      | true => exact absurd (hb.1 rfl).1 h0
    have h0b : (st == 0) = false := beq_eq_false_iff_ne.2 h0
    clear hb hs
    go_enter Try.func54, Try.ntmps54
    go_wp2_with fail
    go_ret
    exact ⟨rfl, HX.out⟩
end Go.Proofs.Yteobndfkkpfnlaa

namespace Go.Proofs.Yteobndfkkpfnlaa
open Go.ChangeShapes Go.WideShapes Go.ChangeAt Go.RowKit Go.Maps
set_option linter.unusedVariables false

/-- the first t ones -/
def upT (G : Nat → Bool) (t : Nat) : Nat → Bool := fun i => decide (i < t) && G i
theorem upT_zero (G : Nat → Bool) : upT G 0 = fun _ => false := by funext i; simp [upT]
theorem upT_succ (G : Nat → Bool) (t : Nat) : (fun x => if x = t then G t else upT G t x) = upT G (t + 1) := by
  funext x
  unfold upT
  by_cases h : x = t
  · subst h; simp
  · rw [if_neg h]
    by_cases h2 : x < t
    · have : x < t + 1 := by omega
      simp [h2, this]
    · have : ¬ x < t + 1 := by omega
      simp [h2, this]
theorem upT_all {G : Nat → Bool} {m i : Nat} (hi : i < m) : upT G m i = G i := by unfold upT; simp [hi]
/-- a row of bools is answered -/
def RowP (G : Nat → Bool) (m : Nat) (w : World) (e : Ending) (w' : World) : Prop :=
  ∃ g, e = .returned (.slice (some ⟨g, 0, none⟩) m m) ∧ MetS w' w.heap.size g m (upT G m) ∧ Below w.heap.size w w'
/-- the row's memory -/
structure RoS (w : World) (B g m : Nat) (wr : World) (M : Nat → Bool) : Prop where
  low : B ≤ wr.heap.size
  bel : Below B w wr
  met : MetS wr B g m M
section
variable {w wr w' : World} {B g m : Nat} {M : Nat → Bool}
theorem RoS.keep (h : RoS w B g m wr M) (hb : Below wr.heap.size wr w') : RoS w B g m w' M :=
  ⟨Nat.le_trans h.low hb.size, h.bel.trans (hb.mono h.low), h.met.keep (hb.block _ h.met.lt.2)⟩
theorem RoS.set (h : RoS w B g m wr M) (i : Nat) (u : Bool) : RoS w B g m (wr.setCell ⟨g, i, none⟩ (.bool u)) (fun x => if x = i then u else M x) :=
  ⟨by rw [World.size_setCell]; exact h.low, h.bel.setCell h.met.lt.1 _, h.met.set i u⟩
end

set_option maxRecDepth 100000 in
set_option maxHeartbeats 4000000 in
theorem notGone_any (a : Option Addr) (m cap : Nat) (T : Nat → Tx) (w : World) (hs : TxS w a m T) (hm : m ≤ 400) :
    Calls Try.prog 70 #[.slice a m cap] w (RowP (fun i => decide ((T i).st ≠ 2)) m w) := by
  have HS := Lib.hid hs
  obtain ⟨mc, hmc⟩ : ∃ mc, mc = madeCells #[.bool false] m := ⟨_, rfl⟩
  have hmk := makeB m (by omega) mc hmc
  have HG0 : Hid (RoS w w.heap.size w.heap.size m (w.alloc (.cells mc 4)) (upT (fun i => decide ((T i).st ≠ 2)) 0)) := Lib.hid (by
    refine ⟨?_, (Below.refl _ _).alloc (Nat.le_refl _) _, ?_⟩
    · exact ((Below.refl w.heap.size w).alloc (Nat.le_refl _) _).size
    · rw [upT_zero, hmc]
      exact MetS.made hm (Nat.le_refl _))
  clear hs hmc
  go_enter Try.func70, Try.ntmps70
  go_wp2
  obtain ⟨g, eg⟩ : ∃ g, g = w.heap.size := ⟨_, rfl⟩
  obtain ⟨wy, ewy⟩ : ∃ wy, wy = w.alloc (.cells mc 4) := ⟨_, rfl⟩
  have HG1 : Hid (RoS w w.heap.size g m wy (upT (fun i => decide ((T i).st ≠ 2)) 0)) := Lib.hid (by rw [ewy, eg]; exact HG0.out)
  rw [← ewy, ← eg]
  clear ewy eg HG0 hmk
  go_loopw [4, 5, 11] (fun _ _ x wr => ∃ t : Nat, t ≤ m ∧ x = .int .i64 (t : Int) ∧ Hid (RoS w w.heap.size g m wr (upT (fun i => decide ((T i).st ≠ 2)) t))) (fun _ _ x _ => m - (intOf x).toNat)
  case atStart => exact ⟨0, Nat.zero_le _, rfl, HG1⟩
  case round =>
    obtain ⟨t, ht, rfl, HT⟩ := hrel
    clear HG1
    by_cases hlt : t < m
    · obtain ⟨b, off, rfl, hbl, hci⟩ := HS.out (by omega)
      obtain ⟨sp, cp, c0, c1, c2, ho⟩ := hci t hlt
      have x0 := (HT.out.bel.cell (p := ⟨b, off + t * 3, none⟩) hbl).trans c0
      have x1 := (HT.out.bel.cell (p := ⟨b, off + t * 3 + 1, none⟩) hbl).trans c1
      have x2 := (HT.out.bel.cell (p := ⟨b, off + t * 3 + 2, none⟩) hbl).trans c2
      have hlt' : (t : Int) < (m : Int) := by omega
      have HNX := Lib.hid (upT_succ (fun i => decide ((T i).st ≠ 2)) t)
      clear hci c0 c1 c2 ho
      generalize (T t).c = tc at *
      generalize (T t).st = tst at *
      generalize (T t).n = tn at *
      have HWX := Lib.hid (HT.out.keep ((Below.refl _ _).alloc (Nat.le_refl _) (.cells #[.int .i64 tc, .int .i64 tst, .slice sp tn cp] 47)))
      have hfz := HWX.out.met.fz t
      have hcl := HWX.out.met.cell hlt
      have hgl : g < wr.heap.size := HT.out.met.lt.2
      by_cases h2 : tst = 2
      · have hb2 : (tst != 2) = false := by simp [h2]
        have HY := Lib.hid ((HT.out.set t false).keep ((Below.refl _ _).alloc (Nat.le_refl _) (.cells #[.int .i64 tc, .int .i64 tst, .slice sp tn cp] 47)))
        have HZ : Hid (RoS w w.heap.size g m _ (upT (fun i => decide ((T i).st ≠ 2)) (t + 1))) := Lib.hid (by rw [← HNX.out, show decide (tst ≠ 2) = false by simp [h2]]; exact HY.out)
        clear HY HNX HT h2 HWX
        go_wp2
        go_roundw
        case rel => exact ⟨t + 1, by omega, by go_num, HZ⟩
        case measure => simp [intOf]; omega
      · have hb2 : (tst != 2) = true := by simp [h2]
        have HY := Lib.hid ((HT.out.set t true).keep ((Below.refl _ _).alloc (Nat.le_refl _) (.cells #[.int .i64 tc, .int .i64 tst, .slice sp tn cp] 47)))
        have HZ : Hid (RoS w w.heap.size g m _ (upT (fun i => decide ((T i).st ≠ 2)) (t + 1))) := Lib.hid (by rw [← HNX.out, show decide (tst ≠ 2) = true by simp [h2]]; exact HY.out)
        clear HY HNX HT h2 HWX
        go_wp2
        go_roundw
        case rel => exact ⟨t + 1, by omega, by go_num, HZ⟩
        case measure => simp [intOf]; omega
    · obtain rfl : t = m := by omega
      go_wp2
      go_ret
      exact ⟨g, rfl, HT.out.met, HT.out.bel⟩

/-- who is done, by facts -/
def dnF (T : Nat → Tx) (m : Nat) (F : CM) (i : Nat) : Prop := suL T m i = true ∨ unT (T i) ∧ F 1 0 (i : Int) 0 = some true

set_option maxRecDepth 100000 in
set_option maxHeartbeats 4000000 in
theorem is_any (a : Option Addr) (m cap : Nat) (T : Nat → Tx) (f : Value) (F : CM) (i : Int) (so kn : Bool) (w : World) (hs : TxS w a m T) (ok : TOk m T) (hf : FacS w f F)
    (hso : so = true ↔ ∃ k : Nat, i = (k : Int) ∧ k < m ∧ ((T k).st = 1 ∨ unT (T k) ∧ (suL T m k = true ∨ F 1 0 (k : Int) 0 = some true)))
    (hkn : kn = true ↔ ∃ k : Nat, i = (k : Int) ∧ k < m ∧ (¬ unT (T k) ∨ suL T m k = true ∨ (F 1 0 (k : Int) 0).isSome = true)) :
    Calls Try.prog 28 #[.slice a m cap, f, .int .i64 i] w (fun e w' => e = .returned (.tuple #[.bool so, .bool kn]) ∧ Below w.heap.size w w') := by
  have HS := Lib.hid hs
  have HOK := Lib.hid ok
  have HF := Lib.hid hf
  have HSO := Lib.hid hso
  have HKN := Lib.hid hkn
  clear hs ok hf hso hkn
  by_cases hin : 0 ≤ i ∧ i < (m : Int)
  · obtain ⟨k, rfl⟩ : ∃ k : Nat, i = (k : Int) := ⟨i.toNat, by omega⟩
    have hkm : k < m := by omega
    have hkm' : (k : Int) < (m : Int) := hin.2
    have hk0 : ((k : Int) < 0) = False := by simp
    have hk1 : decide ((m : Int) ≤ (k : Int)) = false := by simp; omega
    have hSO : so = true ↔ ((T k).st = 1 ∨ unT (T k) ∧ (suL T m k = true ∨ F 1 0 (k : Int) 0 = some true)) := by
      rw [HSO.out]
      exact ⟨fun ⟨k', e, _, h⟩ => by obtain rfl : k = k' := by omega
                                     exact h, fun h => ⟨k, rfl, hkm, h⟩⟩
    have hKN : kn = true ↔ (¬ unT (T k) ∨ suL T m k = true ∨ (F 1 0 (k : Int) 0).isSome = true) := by
      rw [HKN.out]
      exact ⟨fun ⟨k', e, _, h⟩ => by obtain rfl : k = k' := by omega
                                     exact h, fun h => ⟨k, rfl, hkm, h⟩⟩
    have hn := HOK.out.n k hkm
    have hm4 := HOK.out.cnt
    have hSU := sure_any a m cap T
    obtain ⟨b, off, rfl, hbl, hci⟩ := HS.out (by omega)
    obtain ⟨sp, cp, x0, x1, x2, ho⟩ := hci k hkm
    clear hci HSO HKN hin
    have hU : ∀ bb : Bool, (bb = true ↔ unT (T k)) → Hid (Calls Try.prog 54 #[.agg #[.int .i64 (T k).c, .int .i64 (T k).st, .slice sp (T k).n cp]] w (fun e w' => e = .returned (.bool bb) ∧ Below w.heap.size w w')) := fun bb h => Lib.hid (unsettled_any _ _ sp _ cp _ bb w (by omega) ho h)
    by_cases hu : unT (T k)
    · have HU := hU true (by simp [hu])
      have HCO := fun w => Lib.hid (commitOf_any (k : Int) w)
      have hst0 : (T k).st = 0 := hu.1
      have HSU := fun (w : World) (h : TxS w (some ⟨b, off, none⟩) m T) => Lib.hid (hSU w h HOK.out)
      have hlk := fun (w' : World) (h : Below w.heap.size w w') => (HF.out.below h).look 1 0 (k : Int) 0 ⟨by unfold In64; omega, by unfold In64; omega, by unfold In64; omega, by unfold In64; omega⟩
      have h1 : so = true ↔ (suL T m k = true ∨ F 1 0 (k : Int) 0 = some true) := by rw [hSO]; simp [hu, hst0]
      have h2 : kn = true ↔ (suL T m k = true ∨ (F 1 0 (k : Int) 0).isSome = true) := by rw [hKN]; simp [hu]
      clear hSO hKN hU hSU ho
      generalize (T k).c = tc at *
      generalize (T k).n = tn at *
      have HH1 := Lib.hid h1
      have HH2 := Lib.hid h2
      have HST := Lib.hid hst0
      have HLK := Lib.hid hlk
      clear h1 h2 hlk hu
      rw [hst0] at HU x1
      clear hst0
      generalize F 1 0 (k : Int) 0 = fv at *
      go_enter Try.func28, Try.ntmps28
      go_wp2_with fail
      refine HU.out.mono ?_
      rintro e w2 ⟨rfl, hb2⟩
      have HB2 := Lib.hid hb2
      have HC2 := HCO w2
      clear hb2 HU
      go_wp2_with fail
      refine HC2.out.mono ?_
      rintro e w3 ⟨rfl, hb3⟩
      have HB3 := Lib.hid (HB2.out.trans (hb3.mono HB2.out.size))
      clear hb3 HC2
      have hlook := HLK.out w3 HB3.out
      have HS3 := HSU w3 (HS.out.below HB3.out)
      clear HSU HCO HLK
      have fin : ∀ (sv : Bool) (w4 : World) (x : Ending), suL T m k = sv → True := fun _ _ _ _ => trivial
      clear fin
      by_cases hf1 : fv = some true
      · subst hf1
        simp only [Option.getD_some, Option.isSome_some] at hlook
        obtain rfl : so = true := HH1.out.2 (.inr rfl)
        obtain rfl : kn = true := HH2.out.2 (.inr rfl)
        clear HS3 HH1 HH2
        go_wp2_with fail
        go_ret2
        exact ⟨rfl, HB3.out⟩
      · have hgd : fv.getD false = false := by
          rcases fv with _ | _ | _
          · rfl
          · rfl
          · exact absurd rfl hf1
        rw [hgd] at hlook
        have HH3 : Hid (so = suL T m k) := Lib.hid (by rw [Bool.eq_iff_iff, HH1.out]; exact ⟨fun h => h.resolve_right hf1, .inl⟩)
        clear hgd hf1 HH1
        generalize fv.isSome = fk at *
        go_wp2_with fail
        refine HS3.out.mono ?_
        rintro e w4 ⟨g, rfl, hM, hb4⟩
        have HB4 := Lib.hid (HB3.out.trans (hb4.mono HB3.out.size))
        have hcl := hM.cell hkm
        clear hb4 HS3 hM hlook
        generalize suL T m k = sv at *
        obtain rfl := HH3.out
        cases so with
        | true =>
          obtain rfl : kn = true := HH2.out.2 (.inl rfl)
          clear HH2 HH3
          go_wp2_with fail
          go_ret2
          exact ⟨rfl, HB4.out⟩
        | false =>
          have hk2 : fk = kn := by
            rw [Bool.eq_iff_iff, HH2.out]
            exact ⟨.inr, fun h => h.resolve_left (by simp)⟩
          subst hk2
          clear HH2 HH3
          go_wp2_with fail
          go_ret2
          exact ⟨rfl, HB4.out⟩
    · have HU := hU false (by simp [hu])
      have hkt : kn = true := hKN.2 (.inl hu)
      subst hkt
      have hs1 : ((T k).st == 1) = so := by
        rw [Bool.eq_iff_iff, beq_iff_eq, hSO]
        exact ⟨.inl, fun h => h.resolve_right fun h => hu h.1⟩
      clear hSO hKN hU hSU ho
      have y1 := fun (w' : World) (h : Below w.heap.size w w') => (h.cell (p := ⟨b, off + k * 3 + 1, none⟩) hbl).trans x1
      generalize (T k).c = tc at *
      generalize (T k).st = tst at *
      generalize (T k).n = tn at *
      clear hu
      have HS1 := Lib.hid hs1
      clear hs1
      go_enter Try.func28, Try.ntmps28
      go_wp2_with fail
      refine HU.out.mono ?_
      rintro e w2 ⟨rfl, hb2⟩
      have HB2 := Lib.hid hb2
      have z1 := y1 w2 hb2
      clear hb2 HU y1
      go_wp2
      go_ret2
      exact ⟨by rw [← HS1.out]; rfl, HB2.out⟩
  · obtain rfl : so = false := by
      cases so with
      | false => rfl
      | true => obtain ⟨k, e, h, _⟩ := HSO.out.1 rfl; omega
    obtain rfl : kn = false := by
      cases kn with
      | false => rfl
      | true => obtain ⟨k, e, h, _⟩ := HKN.out.1 rfl; omega
    clear HSO HKN
    by_cases h0 : i < 0
    · go_enter Try.func28, Try.ntmps28
      go_wp2_with fail
      go_ret2
      exact ⟨rfl, Below.refl _ _⟩
    · have h0' : decide (i < 0) = false := by simp; omega
      have h1 : (m : Int) ≤ i := by omega
      go_enter Try.func28, Try.ntmps28
      go_wp2_with fail
      go_ret2
      exact ⟨rfl, Below.refl _ _⟩
end Go.Proofs.Yteobndfkkpfnlaa

namespace Go.Proofs.Yteobndfkkpfnlaa
/-- a choice -/
structure C4 where
  k : Int
  y : Int
  a : Int
  b : Int
/-- a transaction writes a key -/
def wkT (t : Tx) (y : Int) : Prop := ∃ i, i < t.n ∧ (t.o i).k = 2 ∧ (t.o i).key = y
open Go.ChangeShapes Go.WideShapes Go.ChangeAt Go.RowKit Go.Maps in
/-- a row of bools as it is read -/
def BoS (w : World) (g m : Nat) (S : Nat → Bool) : Prop := g < w.heap.size ∧ ∀ i, i < m → w.cell? ⟨g, i, none⟩ = some (.bool (S i))
open Go.ChangeShapes Go.WideShapes Go.ChangeAt Go.RowKit Go.Maps in
theorem BoS.below {w w' : World} {g m : Nat} {S : Nat → Bool} (h : BoS w g m S) (hb : Below w.heap.size w w') : BoS w' g m S :=
  ⟨Nat.lt_of_lt_of_le h.1 hb.size, fun i hi => (hb.cell (p := ⟨g, i, none⟩) h.1).trans (h.2 i hi)⟩
end Go.Proofs.Yteobndfkkpfnlaa

namespace Go.Proofs.Yteobndfkkpfnlaa
open Go.ChangeShapes Go.WideShapes Go.ChangeAt Go.RowKit Go.Maps
set_option linter.unusedVariables false

theorem MetS.bools {w : World} {B g m : Nat} {S : Nat → Bool} (h : MetS w B g m S) : BoS w g m S := ⟨h.lt.2, fun i hi => h.cell hi⟩
theorem BoS.congr {w : World} {g m : Nat} {S S' : Nat → Bool} (h : BoS w g m S) (e : ∀ i, i < m → S i = S' i) : BoS w g m S' := ⟨h.1, fun i hi => by rw [← e i hi]; exact h.2 i hi⟩

set_option maxRecDepth 100000 in
set_option maxHeartbeats 4000000 in
theorem done_any (a : Option Addr) (m cap : Nat) (T : Nat → Tx) (f : Value) (F : CM) (gs : Nat) (S G : Nat → Bool) (w : World) (hs : TxS w a m T) (ok : TOk m T) (hf : FacS w f F) (hS : BoS w gs m S)
    (hG : ∀ i, i < m → (G i = true ↔ S i = true ∨ unT (T i) ∧ F 1 0 (i : Int) 0 = some true)) :
    Calls Try.prog 61 #[f, .slice a m cap, .slice (some ⟨gs, 0, none⟩) m m] w (RowP G m w) := by
  have HS := Lib.hid hs
  have HOK := Lib.hid ok
  have HF := Lib.hid hf
  have HBS := Lib.hid hS
  have HG := Lib.hid hG
  have hm4 := ok.cnt
  obtain ⟨mc, hmc⟩ : ∃ mc, mc = madeCells #[.bool false] m := ⟨_, rfl⟩
  have hmk := makeB m (by omega) mc hmc
  have HG0 : Hid (RoS w w.heap.size w.heap.size m (w.alloc (.cells mc 4)) (upT G 0)) := Lib.hid (by
    refine ⟨?_, (Below.refl _ _).alloc (Nat.le_refl _) _, ?_⟩
    · exact ((Below.refl w.heap.size w).alloc (Nat.le_refl _) _).size
    · rw [upT_zero, hmc]
      exact MetS.made hm4 (Nat.le_refl _))
  clear hs hmc hS hG ok hf
  go_enter Try.func61, Try.ntmps61
  go_wp2
  obtain ⟨g, eg⟩ : ∃ g, g = w.heap.size := ⟨_, rfl⟩
  obtain ⟨wy, ewy⟩ : ∃ wy, wy = w.alloc (.cells mc 4) := ⟨_, rfl⟩
  have HG1 : Hid (RoS w w.heap.size g m wy (upT G 0)) := Lib.hid (by rw [ewy, eg]; exact HG0.out)
  rw [← ewy, ← eg]
  clear ewy eg HG0 hmk
  go_loopw [8, 9, 15] (fun _ _ x wr => ∃ t : Nat, t ≤ m ∧ x = .int .i64 (t : Int) ∧ Hid (RoS w w.heap.size g m wr (upT G t))) (fun _ _ x _ => m - (intOf x).toNat)
  case atStart => exact ⟨0, Nat.zero_le _, rfl, HG1⟩
  case round =>
    obtain ⟨t, ht, rfl, HT⟩ := hrel
    clear HG1
    by_cases hlt : t < m
    · obtain ⟨b, off, rfl, hbl, hci⟩ := (HS.out.below HT.out.bel) (by omega)
      obtain ⟨sp, cp, x0, x1, x2, ho⟩ := hci t hlt
      have hlt' : (t : Int) < (m : Int) := by omega
      have HNX := Lib.hid (upT_succ G t)
      have hn := HOK.out.n t hlt
      have hsc := (HBS.out.below HT.out.bel).2 t hlt
      have HGT := Lib.hid (HG.out t hlt)
      have HHO := Lib.hid ho
      clear hci ho
      have hbx : Below wr.heap.size wr (wr.alloc (.cells #[.int .i64 (T t).c, .int .i64 (T t).st, .slice sp (T t).n cp] 47)) := (Below.refl _ _).alloc (Nat.le_refl _) _
      have hsx := (hbx.cell (p := ⟨gs, t, none⟩) (HBS.out.below HT.out.bel).1).trans hsc
      have HX := Lib.hid hbx
      have HWX := Lib.hid (HT.out.keep hbx)
      have hrow := heap_alloc_new wr (.cells #[.int .i64 (T t).c, .int .i64 (T t).st, .slice sp (T t).n cp] 47)
      have HRW := Lib.hid hrow
      clear hbx hrow
      cases hSt : S t with
      | true =>
        rw [hSt] at hsx hsc
        have hgt : G t = true := HGT.out.2 (.inl hSt)
        rw [hgt] at HNX
        have hfz := HWX.out.met.fz t
        have hcl := HWX.out.met.cell hlt
        have HZ : Hid (RoS w w.heap.size g m _ (upT G (t + 1))) := Lib.hid (by rw [← HNX.out]; exact (HT.out.set t true).keep ((Below.refl _ _).alloc (Nat.le_refl _) (.cells #[.int .i64 (T t).c, .int .i64 (T t).st, .slice sp (T t).n cp] 47)))
        have hgl : g < wr.heap.size := HT.out.met.lt.2
        clear HNX HT HGT HHO HX HWX HRW hSt hgt
        generalize (T t).c = tc at *
        generalize (T t).st = tst at *
        generalize (T t).n = tn at *
        go_wp2
        go_roundw
        case rel => exact ⟨t + 1, by omega, by go_num, HZ⟩
        case measure => simp [intOf]; omega
      | false =>
        rw [hSt] at hsx hsc
        rw [hSt] at HGT
        have hgl : g < wr.heap.size := HT.out.met.lt.2
        have HBW := Lib.hid HT.out.bel
        by_cases hu : unT (T t)
        · have hgv : (F 1 0 (t : Int) 0).getD false = G t := by
            rw [Bool.eq_iff_iff, HGT.out]
            rcases F 1 0 (t : Int) 0 with _ | _ | _ <;> simp [hu]
          have HU := Lib.hid (unsettled_any (T t).c (T t).st sp (T t).n cp (T t).o true _ (by omega) (HHO.out.below HX.out) (by simp [hu]))
          have HLK := Lib.hid (fun (w' : World) (h : Below w.heap.size w w') => (HF.out.below h).get 1 0 (t : Int) 0 ⟨by unfold In64; omega, by unfold In64; omega, by unfold In64; omega, by unfold In64; omega⟩)
          rw [hgv] at HLK
          clear HT HGT HHO hu hSt hgv
          generalize G t = gv at *
          generalize (T t).c = tc at *
          generalize (T t).st = tst at *
          generalize (T t).n = tn at *
          go_wp2_with fail
          refine HU.out.mono ?_
          rintro e w2 ⟨rfl, hb2⟩
          have HX2 := Lib.hid (HX.out.trans (hb2.mono HX.out.size))
          have HW2 := Lib.hid (HWX.out.keep hb2)
          have HC := Lib.hid (commitOf_any (t : Int) w2)
          clear hb2 HU HWX
          go_wp2_with fail
          refine HC.out.mono ?_
          rintro e w3 ⟨rfl, hb3⟩
          have HW3 := Lib.hid (HW2.out.keep hb3)
          have hlook := HLK.out w3 HW3.out.bel
          have hfz := HW3.out.met.fz t
          have hcl := HW3.out.met.cell hlt
          have HZ : Hid (RoS w w.heap.size g m _ (upT G (t + 1))) := Lib.hid (by rw [← HNX.out]; exact HW3.out.set t gv)
          clear hb3 HC HW2 HW3 HNX HLK
          go_wp2
          go_roundw
          case rel => exact ⟨t + 1, by omega, by go_num, HZ⟩
          case measure => simp [intOf]; omega
        · have hgv : G t = false := by
            rw [← Bool.not_eq_true, HGT.out]
            simp [hu]
          have HU := Lib.hid (unsettled_any (T t).c (T t).st sp (T t).n cp (T t).o false _ (by omega) (HHO.out.below HX.out) (by simp [hu]))
          rw [hgv] at HNX
          clear HT HGT HHO hu hSt hgv
          generalize (T t).c = tc at *
          generalize (T t).st = tst at *
          generalize (T t).n = tn at *
          go_wp2_with fail
          refine HU.out.mono ?_
          rintro e w2 ⟨rfl, hb2⟩
          have HW3 := Lib.hid (HWX.out.keep hb2)
          have hfz := HW3.out.met.fz t
          have hcl := HW3.out.met.cell hlt
          have HZ : Hid (RoS w w.heap.size g m _ (upT G (t + 1))) := Lib.hid (by rw [← HNX.out]; exact HW3.out.set t false)
          clear hb2 HU HWX HW3 HNX
          go_wp2
          go_roundw
          case rel => exact ⟨t + 1, by omega, by go_num, HZ⟩
          case measure => simp [intOf]; omega
    · obtain rfl : t = m := by omega
      go_wp2
      go_ret
      exact ⟨g, rfl, HT.out.met, HT.out.bel⟩
end Go.Proofs.Yteobndfkkpfnlaa

namespace Go.Proofs.Yteobndfkkpfnlaa
open Go.ChangeShapes Go.WideShapes Go.ChangeAt Go.RowKit Go.Maps
set_option linter.unusedVariables false

theorem lastIx_hit {o : Nat → O3} {key : Int} : ∀ {n : Nat}, (∃ i, i < n ∧ (o i).k = 2 ∧ (o i).key = key) → ∃ i, lastIx o key n = some i := by
  intro n
  induction n with
  | zero => rintro ⟨i, h, _⟩; omega
  | succ n ih =>
    rintro ⟨i, h1, h2⟩
    unfold lastIx
    by_cases hc : (o n).k = 2 ∧ (o n).key = key
    · rw [if_pos hc]; exact ⟨n, rfl⟩
    · rw [if_neg hc]
      refine ih ⟨i, ?_, h2⟩
      have : i ≠ n := fun e => hc (e ▸ h2)
      omega
theorem lf_ex {L : List O3} {p : O3 → Prop} : (∃ j, j < L.length ∧ p (lf L j)) ↔ ∃ x, x ∈ L ∧ p x := by
  constructor
  · rintro ⟨j, hj, h⟩
    unfold lf at h
    rw [List.getD_eq_getElem?_getD, List.getElem?_eq_getElem hj] at h
    exact ⟨_, List.getElem_mem hj, h⟩
  · rintro ⟨x, hx, h⟩
    obtain ⟨j, hj, rfl⟩ := List.getElem_of_mem hx
    refine ⟨j, hj, ?_⟩
    unfold lf
    rw [List.getD_eq_getElem?_getD, List.getElem?_eq_getElem hj]
    exact h
theorem wrl_key {o : Nat → O3} {n : Nat} {y : Int} (hk : ∀ i, i < n → 0 ≤ (o i).key ∧ (o i).key ≤ 15) : (∃ x, x ∈ wrl o n 16 ∧ x.key = y) ↔ ∃ i, i < n ∧ (o i).k = 2 ∧ (o i).key = y := by
  constructor
  · rintro ⟨x, hx, rfl⟩
    obtain ⟨i, hi, rfl, h2⟩ := wrl_mem hx
    exact ⟨i, hi, h2, rfl⟩
  · rintro ⟨i, hi, h2, rfl⟩
    obtain ⟨j, hj⟩ := lastIx_hit ⟨i, hi, h2, rfl⟩
    have h3 := lastIx_lt hj
    have hki := hk i hi
    refine ⟨o j, ((wrl_spec o n 16).2 (o j)).2 ⟨((o i).key).toNat, j, by omega, ?_, rfl⟩, h3.2.2⟩
    rw [Int.toNat_of_nonneg hki.1]
    exact hj

set_option maxRecDepth 100000 in
set_option maxHeartbeats 4000000 in
theorem rwkey_any (c st : Int) (sp : Option Addr) (n cp : Nat) (o : Nat → O3) (y : Int) (b : Bool) (w : World) (hn : n ≤ 1000) (hk : ∀ i, i < n → 0 ≤ (o i).key ∧ (o i).key ≤ 15) (hs : OpS w sp n o) (hb : b = true ↔ wkT ⟨c, st, n, o⟩ y) :
    Calls Try.prog 53 #[.agg #[.int .i64 c, .int .i64 st, .slice sp n cp], .int .i64 y] w (fun e w' => e = .returned (.bool b) ∧ Below w.heap.size w w') := by
  have HX : Hid (Below w.heap.size w (w.alloc (.cells #[.int .i64 c, .int .i64 st, .slice sp n cp] 47))) := Lib.hid ((Below.refl _ _).alloc (Nat.le_refl _) _)
  have HR := Lib.hid (rwrites_any c st sp n cp o _ hn (hs.below HX.out))
  have HB : Hid (b = true ↔ ∃ j, j < (wrl o n 16).length ∧ (lf (wrl o n 16) j).key = y) := Lib.hid (by
    rw [hb, lf_ex (p := fun x => x.key = y), wrl_key hk]; exact Iff.rfl)
  have hll := wrl_le o n 16
  clear hs hk hb
  generalize wrl o n 16 = L at *
  go_enter Try.func53, Try.ntmps53
  go_wp2_with fail
  refine HR.out.mono ?_
  rintro e w2 ⟨sp2, cp2, rfl, ho, hbl⟩
  have HB2 := Lib.hid (HX.out.trans (hbl.mono HX.out.size))
  have HO := Lib.hid (own38_ops ho)
  clear ho hbl HR HX
  go_wp2
  go_loopw [6, 10] (fun _ x wr => ∃ t : Nat, t ≤ L.length ∧ x = .int .i64 (t : Int) ∧ Hid (Below w2.heap.size w2 wr ∧ ∀ j, j < t → (lf L j).key ≠ y)) (fun _ x _ => L.length - (intOf x).toNat)
  case atStart => exact ⟨0, Nat.zero_le _, rfl, Lib.hid ⟨Below.refl _ _, fun j hj => absurd hj (Nat.not_lt_zero _)⟩⟩
  case round =>
    obtain ⟨t, ht, rfl, HT⟩ := hrel
    have HBT := Lib.hid HT.out.1
    have HNT := Lib.hid HT.out.2
    clear HT
    by_cases hlt : t < L.length
    · obtain ⟨bb, off, rfl, hbl, hci⟩ := HO.out (by omega)
      obtain ⟨c0, c1, c2⟩ := hci t hlt
      have x0 := (HBT.out.cell (p := ⟨bb, off + t * 3, none⟩) hbl).trans c0
      have x1 := (HBT.out.cell (p := ⟨bb, off + t * 3 + 1, none⟩) hbl).trans c1
      have x2 := (HBT.out.cell (p := ⟨bb, off + t * 3 + 2, none⟩) hbl).trans c2
      have hlt' : (t : Int) < (L.length : Int) := by omega
      have HNX : Hid ((lf L t).key ≠ y → ∀ j, j < t + 1 → (lf L j).key ≠ y) := Lib.hid fun h j hj => by
        by_cases e : j < t
        · exact HNT.out j e
        · obtain rfl : j = t := by omega
          exact h
      have HYS : Hid ((lf L t).key = y → b = true) := Lib.hid fun h => HB.out.2 ⟨t, hlt, h⟩
      have HAL : Hid (∀ ob, Below w2.heap.size w2 (wr.alloc ob)) := Lib.hid fun ob => HBT.out.alloc HBT.out.size _
      clear hci c0 c1 c2 HB
      generalize (lf L t) = ot at *
      obtain ⟨ok, okey, ov⟩ := ot
      dsimp only at *
      by_cases hk : okey = y
      · have hkb : (okey == y) = true := by rw [beq_iff_eq]; exact hk
        obtain rfl := HYS.out hk
        clear hk HYS HNX
        go_wp2
        go_ret
        exact ⟨rfl, HB2.out.trans ((HAL.out _).mono HB2.out.size)⟩
      · have hkb : (okey == y) = false := beq_eq_false_iff_ne.2 hk
        have HZ := Lib.hid (HNX.out hk)
        clear hk HYS HNX
        go_wp2
        go_roundw
        case rel => exact ⟨t + 1, by omega, by go_num, Lib.hid ⟨HAL.out _, HZ.out⟩⟩
        case measure => simp [intOf]; omega
    · obtain rfl : t = L.length := by omega
      obtain rfl : b = false := by
        cases b with
        | false => rfl
        | true => obtain ⟨j, hj, h⟩ := HB.out.1 rfl; exact absurd h (HNT.out j hj)
      clear HNT HB
      go_wp2
      go_ret
      exact ⟨rfl, HB2.out.trans (HBT.out.mono HB2.out.size)⟩
end Go.Proofs.Yteobndfkkpfnlaa

namespace Go.Proofs.Yteobndfkkpfnlaa
open Go.ChangeShapes Go.WideShapes Go.ChangeAt Go.RowKit Go.Maps
set_option linter.unusedVariables false

set_option maxRecDepth 100000 in
theorem info59 : (Try.prog.info? 59).map (fun i => (i.zero, i.size, i.bytes)) = some (some (.agg #[.int .i64 0, .int .i64 0, .int .i64 0, .int .i64 0]), 4, 32) := by kernel_rfl

/-- its cells -/
def cells4 (c : C4) : List Value := [.int .i64 c.k, .int .i64 c.y, .int .i64 c.a, .int .i64 c.b]
def rowK (l : List C4) : List Value := l.flatMap cells4
theorem rowK_snoc (l : List C4) (c : C4) : rowK (l ++ [c]) = rowK l ++ cells4 c := by unfold rowK; simp
theorem rowK_length (l : List C4) : (rowK l).length = l.length * 4 := by
  unfold rowK
  induction l with
  | nil => rfl
  | cons c l ih => rw [List.flatMap_cons, List.length_append, ih]; simp [cells4]; omega

open Classical in
/-- who may be done or not -/
noncomputable def chC (T : Nat → Tx) (m t : Nat) : List C4 := ((List.range t).filter fun i => decide (unT (T i) ∧ suL T m i = false)).map fun (i : Nat) => ⟨1, 0, (i : Int), 0⟩
theorem chC_succ (T : Nat → Tx) (m t : Nat) : (unT (T t) ∧ suL T m t = false → chC T m (t + 1) = chC T m t ++ [⟨1, 0, (t : Int), 0⟩]) ∧ (¬ (unT (T t) ∧ suL T m t = false) → chC T m (t + 1) = chC T m t) := by
  constructor
  · intro h; unfold chC; rw [List.range_succ, List.filter_append, List.map_append]; simp [h]
  · intro h; unfold chC; rw [List.range_succ, List.filter_append, List.map_append]
    simp only [List.filter_cons, List.filter_nil]; rw [if_neg (fun hh => h (@of_decide_eq_true _ (_) hh)), List.map_nil, List.append_nil]
theorem chC_le (T : Nat → Tx) (m t : Nat) : (chC T m t).length ≤ t := by
  unfold chC
  rw [List.length_map]
  exact Nat.le_trans (List.length_filter_le _ _) (by simp)
/-- may write a key -/
def cand (T : Nat → Tx) (y i : Nat) : Prop := (T i).st ≠ 2 ∧ wkT (T i) (y : Int)
open Classical in
/-- the first t ones with b -/
noncomputable def prK (c : Nat → Nat → Prop) (y b t : Nat) : List C4 := ((List.range t).filter fun a => decide (c y a ∧ c y b)).map fun (a : Nat) => ⟨2, (y : Int), (a : Int), (b : Int)⟩
noncomputable def prs (c : Nat → Nat → Prop) (y t : Nat) : List C4 := (List.range t).flatMap fun b => prK c y b b
noncomputable def prA (c : Nat → Nat → Prop) (m k : Nat) : List C4 := (List.range k).flatMap fun y => prs c y m
section
variable {c : Nat → Nat → Prop}
theorem prK_succ (y b t : Nat) : (c y t ∧ c y b → prK c y b (t + 1) = prK c y b t ++ [⟨2, (y : Int), (t : Int), (b : Int)⟩]) ∧ (¬ (c y t ∧ c y b) → prK c y b (t + 1) = prK c y b t) := by
  constructor
  · intro h; unfold prK; rw [List.range_succ, List.filter_append, List.map_append]; simp [h]
  · intro h; unfold prK; rw [List.range_succ, List.filter_append, List.map_append]
    simp only [List.filter_cons, List.filter_nil]; rw [if_neg (fun hh => h (@of_decide_eq_true _ (_) hh)), List.map_nil, List.append_nil]
theorem prs_succ (y t : Nat) : prs c y (t + 1) = prs c y t ++ prK c y t t := by unfold prs; rw [List.range_succ, List.flatMap_append]; simp
theorem prA_succ (m k : Nat) : prA c m (k + 1) = prA c m k ++ prs c k m := by unfold prA; rw [List.range_succ, List.flatMap_append]; simp
theorem prK_zero (y b : Nat) : prK c y b 0 = [] := by unfold prK; simp
theorem prs_zero (y : Nat) : prs c y 0 = [] := rfl
theorem prA_zero (m : Nat) : prA c m 0 = [] := rfl
theorem prK_le (y b t : Nat) : (prK c y b t).length ≤ t := by
  unfold prK
  rw [List.length_map]
  exact Nat.le_trans (List.length_filter_le _ _) (by simp)
theorem prs_le (y t : Nat) (ht : t ≤ 100) : (prs c y t).length ≤ 100 * t := by
  induction t with
  | zero => exact Nat.le_refl _
  | succ t ih => rw [prs_succ, List.length_append]; have := ih (by omega); have := prK_le (c := c) y t t; omega
theorem prA_le (m k : Nat) (hm : m ≤ 100) : (prA c m k).length ≤ 10000 * k := by
  induction k with
  | zero => exact Nat.le_refl _
  | succ k ih => rw [prA_succ, List.length_append]; have := prs_le (c := c) k m hm; omega
end
/-- all choices, in order -/
noncomputable def chA (T : Nat → Tx) (m : Nat) : List C4 := chC T m m ++ prA (cand T) m 16
/-- the list's memory -/
structure RcS (w : World) (B : Nat) (wr : World) (v : Value) (l : List C4) : Prop where
  low : B ≤ wr.heap.size
  bel : Below B w wr
  row : wr.ownsRow B 59 4 v l.length (rowK l)
theorem RcS.keep {w wr wr' : World} {B : Nat} {v : Value} {l : List C4} (h : RcS w B wr v l) (hb : Below wr.heap.size wr wr') : RcS w B wr' v l :=
  ⟨Nat.le_trans h.low hb.size, h.bel.trans (hb.mono h.low), own_keep h.row fun g hg => hb.block g (h.row.lt g hg).2⟩
theorem wrl_pos {o : Nat → O3} {n : Nat} (hk : ∀ i, i < n → 0 ≤ (o i).key ∧ (o i).key ≤ 15) : 0 < (wrl o n 16).length ↔ ∃ i, i < n ∧ (o i).k = 2 := by
  constructor
  · intro h
    obtain ⟨x, hx⟩ := List.exists_mem_of_length_pos h
    obtain ⟨i, hi, _, h2⟩ := wrl_mem hx
    exact ⟨i, hi, h2⟩
  · rintro ⟨i, hi, h2⟩
    obtain ⟨x, hx, _⟩ := (wrl_key (y := (o i).key) hk).2 ⟨i, hi, h2, rfl⟩
    exact List.length_pos_of_mem hx
def RcP (l : List C4) (w : World) (e : Ending) (w' : World) : Prop :=
  ∃ sp cp, e = .returned (.slice sp l.length cp) ∧ w'.ownsRow w.heap.size 59 4 (.slice sp l.length cp) l.length (rowK l) ∧ Below w.heap.size w w'
/-- .. with one more -/
theorem RcS.more {w wr w7 : World} {B g c : Nat} {v : Value} {l : List C4} {x : C4} (h : RcS w B wr v l) (hb : Below wr.heap.size wr (wr.alloc (.cells #[.int .i64 x.k, .int .i64 x.y, .int .i64 x.a, .int .i64 x.b] 59)))
    (hg : (wr.alloc (.cells #[.int .i64 x.k, .int .i64 x.y, .int .i64 x.a, .int .i64 x.b] 59)).grownBy w7 v.ownBlock) (ho : w7.ownsRow B 59 4 (.slice (some ⟨g, 0, none⟩) (l.length + 1) c) (l.length + 1) (rowK l ++ cells4 x)) :
    RcS w B w7 (.slice (some ⟨g, 0, none⟩) (l ++ [x]).length c) (l ++ [x]) := by
  have hB7 := (h.bel.trans (hb.mono h.low)).grown hg (Nat.le_trans h.low hb.size) (fun q hq => (h.row.lt q hq).1)
  refine ⟨?_, hB7, ?_⟩
  · exact Nat.le_trans (Nat.le_trans h.low hb.size) hg.size
  · rw [List.length_append, List.length_singleton, rowK_snoc]
    exact ho
end Go.Proofs.Yteobndfkkpfnlaa

namespace Go.Proofs.Yteobndfkkpfnlaa
open Go.ChangeShapes Go.WideShapes Go.ChangeAt Go.RowKit Go.Maps
set_option linter.unusedVariables false

theorem bo_keep {wr w' : World} {B m : Nat} {u : Value} {ys : List Value} (h : wr.ownsRow B 4 1 u m ys) (hb : Below wr.heap.size wr w') : w'.ownsRow B 4 1 u m ys := own_keep h fun g hg => hb.block g (h.lt g hg).2
theorem bo_more {wr wx w7 : World} {B B1 n m : Nat} {u v : Value} {xs ys : List Value} (hr : wr.ownsRow B 59 4 v n xs) (h : wr.ownsRow B1 4 1 u m ys) (hb : Below wr.heap.size wr wx) (hg : wx.grownBy w7 v.ownBlock) : w7.ownsRow B1 4 1 u m ys :=
  own_keep h fun g hg1 => (hg.block g (Nat.lt_of_lt_of_le (h.lt g hg1).2 hb.size) (fun e => by
    obtain ⟨c1, e1⟩ := own_cells hr e.symm
    obtain ⟨c2, e2⟩ := own_cells h hg1
    rw [e2] at e1
    injection e1 with e1
    injection e1 with _ e1 _
    cases e1)).trans (hb.block g (h.lt g hg1).2)
theorem chC_zero (T : Nat → Tx) (m : Nat) : chC T m 0 = [] := by unfold chC; simp

set_option maxRecDepth 100000 in
set_option maxHeartbeats 16000000 in
theorem rchoices_any (a : Option Addr) (m cap : Nat) (T : Nat → Tx) (w : World) (hm : m ≤ 100) (hs : TxS w a m T) (hx : HTx m T) (hu : Uq m T) :
    Calls Try.prog 25 #[.slice a m cap] w (RcP (chA T m) w) := by
  obtain ⟨i8, hi8, hx0, hx1, hx2⟩ := info_parts info59
  have HS := Lib.hid hs
  have HXX := Lib.hid hx
  have HR0 : Hid (RcS w w.heap.size (w.alloc (.cells #[] 59)) (.slice (some ⟨w.heap.size, 0, none⟩) 0 0) (chC T m 0)) := Lib.hid (by
    refine ⟨((Below.refl w.heap.size w).alloc (Nat.le_refl _) _).size, (Below.refl _ _).alloc (Nat.le_refl _) _, ?_⟩
    rw [chC_zero]
    exact World.ownsRow_lit w #[] 0 (Nat.le_refl _) (Nat.zero_le _) rfl)
  have HSU := Lib.hid (rsure_any a m cap T (w.alloc (.cells #[] 59)) (hs.below HR0.out.bel) hx hu)
  clear hs hx hu
  go_enter Try.func25, Try.ntmps25
  go_wp2_with fail
  refine HSU.out.mono ?_
  rintro e w1 ⟨spu, cpu, rfl, hro, hb1⟩
  have HR1 := Lib.hid (HR0.out.keep hb1)
  obtain ⟨B1, eB1⟩ : ∃ B1, B1 = (w.alloc (.cells #[] 59)).heap.size := ⟨_, rfl⟩
  rw [← eB1] at hro
  have HO1 := Lib.hid hro
  have HBO : Hid (∀ wr : World, wr.ownsRow B1 4 1 (.slice spu m cpu) m (rowB (suL T m) m) → 0 < m → ∃ gs, spu = some ⟨gs, 0, none⟩ ∧ BoS wr gs m (suL T m)) := Lib.hid fun wr hro h0 => by
    obtain ⟨g, cap', e, _, hl⟩ := hro.form h0
    injection e with e1 _ _
    subst e1
    exact ⟨g, rfl, hl, fun i hi => (hro.cellAt i (by omega)).trans (by unfold rowB; exact rowW_get _ _ _ hi)⟩
  clear hro hb1 HSU HR0 eB1
  go_wp2
  go_loopw [3, 5, 14] (fun ov _ x wr => ∃ (t : Nat) (sp : Option Addr) (cp : Nat), t ≤ m ∧ x = .int .i64 (t : Int) ∧ ov = .slice sp (chC T m t).length cp ∧ Hid (RcS w w.heap.size wr (.slice sp (chC T m t).length cp) (chC T m t) ∧ wr.ownsRow B1 4 1 (.slice spu m cpu) m (rowB (suL T m) m))) (fun _ _ x _ => m - (intOf x).toNat)
  case atStart => exact ⟨0, _, _, Nat.zero_le _, rfl, by rw [chC_zero]; rfl, Lib.hid ⟨by rw [chC_zero]; have h := HR1.out; rw [chC_zero] at h; exact h, HO1.out⟩⟩
  case round =>
    obtain ⟨t, sp, cp, ht, rfl, rfl, HT⟩ := hrel
    have HRT := Lib.hid HT.out.1
    have HBT := Lib.hid HT.out.2
    clear HT
    by_cases hlt : t < m
    · obtain ⟨b, off, rfl, hbl, hci⟩ := (HS.out.below HRT.out.bel) (by omega)
      obtain ⟨spt, cpt, x0, x1, x2, ho⟩ := hci t hlt
      obtain ⟨gs, rfl, hbo⟩ := HBO.out wr HBT.out (by omega)
      have hsc := hbo.2 t hlt
      have hlt' : (t : Int) < (m : Int) := by omega
      have hn := HXX.out.n t hlt
      have HKY := Lib.hid (HXX.out.ok.key t hlt)
      obtain ⟨NY, NN⟩ := chC_succ T m t
      have HYY := Lib.hid NY
      have HNN := Lib.hid NN
      have hll := chC_le T m t
      have HOP := Lib.hid ho
      clear hci ho hbo NY NN
      by_cases h0 : (T t).st = 0
      · cases hsu : suL T m t with
        | true =>
          rw [hsu] at hsc
          have HNX := Lib.hid (HNN.out (fun h => by rw [hsu] at h; cases h.2))
          clear HNN HYY HOP HKY hsu
          rw [h0] at x1
          clear h0
          generalize (T t).c = tc at *
          generalize (T t).n = tn at *
          go_wp2_with fail
          go_roundw
          case rel => exact ⟨t + 1, sp, cp, by omega, by go_num, by rw [HNX.out], Lib.hid ⟨by rw [HNX.out]; exact HRT.out, HBT.out⟩⟩
          case measure => simp [intOf]; omega
        | false =>
          rw [hsu] at hsc
          have HWC := Lib.hid (rwrites_any (T t).c (T t).st spt (T t).n cpt (T t).o wr (by omega) HOP.out)
          have HWP := Lib.hid (wrl_pos HKY.out)
          have HUN : Hid ((∃ i, i < (T t).n ∧ ((T t).o i).k = 2) ↔ unT (T t)) := Lib.hid ⟨fun h => ⟨h0, h⟩, fun h => h.2⟩
          rw [HUN.out] at HWP
          clear HUN
          rw [hsu] at HYY HNN
          rw [h0] at x1 HWC
          clear h0 hsu HOP HKY
          generalize wrl (T t).o (T t).n 16 = L at *
          generalize (T t).c = tc at *
          generalize (T t).n = tn at *
          by_cases hL : 0 < L.length
          · have HNX := Lib.hid (HYY.out ⟨HWP.out.1 hL, rfl⟩)
            have hL' : (0 : Int) < (L.length : Int) := by omega
            clear HYY HNN HWP
            have HNW : Hid (∀ (W : World) (j : Nat) (u : Value), [Value.int .i64 1, .int .i64 0, .int .i64 (t : Int), .int .i64 0][j]? = some u → (W.alloc (.cells #[.int .i64 1, .int .i64 0, .int .i64 (t : Int), .int .i64 0] 59)).cell? ((⟨W.heap.size, 0, none⟩ : Addr).add j) = some u) := Lib.hid fun W j u hj => by
              rw [Go.WideShapes.add_plain, cell_of_row _ _ _ _ 59 (0, 0) (heap_alloc_new W _), Nat.zero_add]
              simpa using hj
            go_wp2_with (first | (go_at_call 52; refine HWC.out.mono ?_; rintro e w3 ⟨sp3, cp3, rfl, _, hb3⟩; have HR3 := Lib.hid (HRT.out.keep hb3); have HB3 := Lib.hid (bo_keep HBT.out hb3); have HAL := Lib.hid ((Below.refl w3.heap.size w3).alloc (Nat.le_refl _) (.cells #[.int .i64 1, .int .i64 0, .int .i64 (t : Int), .int .i64 0] 59)); have HR4 := Lib.hid (HR3.out.keep HAL.out); clear hb3) | (at_builtin; refine wpList_append_lies _ rfl (.tmp 39) (.tmp 42) 55 rfl w.heap.size 59 i8 (.agg #[.int .i64 0, .int .i64 0, .int .i64 0, .int .i64 0]) 4 32 Try.underlying55 hi8 hx0 hx1 hx2 rfl (by decide) _ (chC T m t).length (rowK (chC T m t)) rfl HR4.out.row ⟨w3.heap.size, 0, none⟩ 1 1 [.int .i64 1, .int .i64 0, .int .i64 (t : Int), .int .i64 0] rfl rfl (HNW.out _) (by intro u hu; simp at hu; rcases hu with rfl | rfl | rfl | rfl <;> rfl) (by omega) (by unfold maxLen; omega) (by omega) HR4.out.low _ rfl ?_; intro g7 c7 w7 ho7 hg7 hat7 hl7; have HR7 := Lib.hid (RcS.more (x := ⟨1, 0, (t : Int), 0⟩) HR3.out HAL.out hg7 ho7); have HB7 := Lib.hid (bo_more HR3.out.row HB3.out HAL.out hg7); clear ho7 hg7 hat7) | fail)
            rw [← HNX.out] at HR7
            go_roundw
            case rel => exact ⟨t + 1, some ⟨g7, 0, none⟩, c7, by omega, by go_num, by rw [HNX.out, List.length_append]; rfl, Lib.hid ⟨HR7.out, HB7.out⟩⟩
            case measure => simp [intOf]; omega
          · have hL0 : L.length = 0 := by omega
            have HNX := Lib.hid (HNN.out (fun h => hL (HWP.out.2 h.1)))
            have hL' : ¬ (0 : Int) < (L.length : Int) := by omega
            clear HYY HNN HWP hL
            go_wp2_with fail
            refine HWC.out.mono ?_
            rintro e w3 ⟨sp3, cp3, rfl, _, hb3⟩
            have HR3 := Lib.hid (HRT.out.keep hb3)
            have HB3 := Lib.hid (bo_keep HBT.out hb3)
            clear hb3 HWC
            go_wp2_with fail
            go_roundw
            case rel => exact ⟨t + 1, sp, cp, by omega, by go_num, by rw [HNX.out], Lib.hid ⟨by rw [HNX.out]; exact HR3.out, HB3.out⟩⟩
            case measure => simp [intOf]; omega
      · have h0b : ((T t).st == 0) = false := beq_eq_false_iff_ne.2 h0
        have HNX := Lib.hid (HNN.out (fun h => h0 h.1.1))
        clear HNN HYY HOP HKY h0
        generalize (T t).c = tc at *
        generalize (T t).st = tst at *
        generalize (T t).n = tn at *
        go_wp2_with fail
        go_roundw
        case rel => exact ⟨t + 1, sp, cp, by omega, by go_num, by rw [HNX.out], Lib.hid ⟨by rw [HNX.out]; exact HRT.out, HBT.out⟩⟩
        case measure => simp [intOf]; omega
    · obtain rfl : m = t := by omega
      have HR2 := Lib.hid HRT.out
      have HLC := chC_le T m m
      have HFI : Hid (∀ key, key = 16 → chC T m m ++ prA (cand T) m key = chA T m) := Lib.hid fun key h => by subst h; rfl
      have HA0 : chC T m m ++ prA (cand T) m 0 = chC T m m := by rw [prA_zero, List.append_nil]
      clear HRT HBT HBO HO1 HR1
      generalize chC T m m = l1 at *
      go_wp2
      go_loopw [3, 6, 7, 8] (fun ov kx _ _ wr => ∃ (key : Nat) (sp : Option Addr) (cp : Nat), key ≤ 16 ∧ kx = .int .i64 (key : Int) ∧ ov = .slice sp (l1 ++ prA (cand T) m key).length cp ∧ Hid (RcS w w.heap.size wr (.slice sp (l1 ++ prA (cand T) m key).length cp) (l1 ++ prA (cand T) m key))) (fun _ kx _ _ _ => 16 - (intOf kx).toNat)
      case atStart => exact ⟨0, _, _, Nat.zero_le _, rfl, by rw [HA0], Lib.hid (by rw [HA0]; exact HR2.out)⟩
      case round =>
        obtain ⟨key, sp2, cp2, hk, rfl, rfl, HK⟩ := hrel
        clear HR2
        by_cases hk16 : key < 16
        · have hk16' : (key : Int) < 16 := by omega
          have HNK : Hid (l1 ++ prA (cand T) m (key + 1) = (l1 ++ prA (cand T) m key) ++ prs (cand T) key m) := Lib.hid (by rw [prA_succ, List.append_assoc])
          have hl2 : (l1 ++ prA (cand T) m key).length ≤ 150100 := by rw [List.length_append]; have := prA_le (c := cand T) m key hm; omega
          have H20 : Hid ((l1 ++ prA (cand T) m key) ++ prs (cand T) key 0 = l1 ++ prA (cand T) m key) := Lib.hid (by rw [prs_zero, List.append_nil])
          clear HA0
          generalize l1 ++ prA (cand T) m key = l2 at *
          go_wp2
          go_loopw [3, 7, 8] (fun ov bx _ wr => ∃ (b : Nat) (sp : Option Addr) (cp : Nat), b ≤ m ∧ bx = .int .i64 (b : Int) ∧ ov = .slice sp (l2 ++ prs (cand T) key b).length cp ∧ Hid (RcS w w.heap.size wr (.slice sp (l2 ++ prs (cand T) key b).length cp) (l2 ++ prs (cand T) key b))) (fun _ bx _ _ => m - (intOf bx).toNat)
          case atStart => exact ⟨0, _, _, Nat.zero_le _, rfl, by rw [H20.out], Lib.hid (by rw [H20.out]; exact HK.out)⟩
          case round =>
            obtain ⟨b, sp3, cp3, hb, rfl, rfl, HB⟩ := hrel
            clear HK H20
            by_cases hbm : b < m
            · have hbm' : (b : Int) < (m : Int) := by omega
              have HNB : Hid (l2 ++ prs (cand T) key (b + 1) = (l2 ++ prs (cand T) key b) ++ prK (cand T) key b b) := Lib.hid (by rw [prs_succ, List.append_assoc])
              have hl3 : (l2 ++ prs (cand T) key b).length ≤ 160100 := by rw [List.length_append]; have := prs_le (c := cand T) key b (by omega); omega
              have H30 : Hid ((l2 ++ prs (cand T) key b) ++ prK (cand T) key b 0 = l2 ++ prs (cand T) key b) := Lib.hid (by rw [prK_zero, List.append_nil])
              generalize l2 ++ prs (cand T) key b = l3 at *
              go_wp2
              go_loopw [3, 8] (fun ov xx wr => ∃ (x : Nat) (sp : Option Addr) (cp : Nat), x ≤ b ∧ xx = .int .i64 (x : Int) ∧ ov = .slice sp (l3 ++ prK (cand T) key b x).length cp ∧ Hid (RcS w w.heap.size wr (.slice sp (l3 ++ prK (cand T) key b x).length cp) (l3 ++ prK (cand T) key b x))) (fun _ xx _ => b - (intOf xx).toNat)
              case atStart => exact ⟨0, _, _, Nat.zero_le _, rfl, by rw [H30.out], Lib.hid (by rw [H30.out]; exact HB.out)⟩
              case round =>
                obtain ⟨x, sp4, cp4, hx, rfl, rfl, HX⟩ := hrel
                clear HB H30
                by_cases hxb : x < b
                · have hxb' : (x : Int) < (b : Int) := by omega
                  have hxm : x < m := by omega
                  have hxm' : (x : Int) < (m : Int) := by omega
                  obtain ⟨NY, NN⟩ := prK_succ (c := cand T) key b x
                  have HYY : Hid (cand T key x ∧ cand T key b → l3 ++ prK (cand T) key b (x + 1) = (l3 ++ prK (cand T) key b x) ++ [⟨2, (key : Int), (x : Int), (b : Int)⟩]) := Lib.hid fun h => by rw [NY h, List.append_assoc]
                  have HNN : Hid (¬ (cand T key x ∧ cand T key b) → l3 ++ prK (cand T) key b (x + 1) = l3 ++ prK (cand T) key b x) := Lib.hid fun h => by rw [NN h]
                  have hl4 : (l3 ++ prK (cand T) key b x).length ≤ 160200 := by rw [List.length_append]; have := prK_le (c := cand T) key b x; omega
                  clear NY NN
                  generalize l3 ++ prK (cand T) key b x = l4 at *
                  obtain ⟨bl, off, rfl, hbl, hci⟩ := (HS.out.below HX.out.bel) (by omega)
                  obtain ⟨spx, cpx, x0, x1, x2, hox⟩ := hci x hxm
                  obtain ⟨spb, cpb, y0, y1, y2, hoy⟩ := hci b hbm
                  clear hci
                  by_cases hsx : (T x).st = 2
                  · have HNX := Lib.hid (HNN.out (fun h => h.1.1 hsx))
                    clear HNN HYY hox hoy
                    rw [hsx] at x1
                    clear hsx
                    go_wp2_with fail
                    go_roundw
                    case rel => exact ⟨x + 1, sp4, cp4, by omega, by go_num, by rw [HNX.out], Lib.hid (by rw [HNX.out]; exact HX.out)⟩
                    case measure => simp [intOf]; omega
                  · have hsxb : ((T x).st != 2) = true := bne_iff_ne.2 hsx
                    by_cases hsb : (T b).st = 2
                    · have HNX := Lib.hid (HNN.out (fun h => h.2.1 hsb))
                      clear HNN HYY hox hoy
                      rw [hsb] at y1
                      clear hsb hsx
                      generalize (T x).st = xst at *
                      go_wp2_with fail
                      go_roundw
                      case rel => exact ⟨x + 1, sp4, cp4, by omega, by go_num, by rw [HNX.out], Lib.hid (by rw [HNX.out]; exact HX.out)⟩
                      case measure => simp [intOf]; omega
                    · have hsbb : ((T b).st != 2) = true := bne_iff_ne.2 hsb
                      by_cases hwx : wkT (T x) (key : Int)
                      · have HCX := Lib.hid (rwkey_any (T x).c (T x).st spx (T x).n cpx (T x).o (key : Int) true wr (by have := HXX.out.n x hxm; omega) (HXX.out.ok.key x hxm) hox ⟨fun _ => hwx, fun _ => rfl⟩)
                        by_cases hwb : wkT (T b) (key : Int)
                        · have HNX := Lib.hid (HYY.out ⟨⟨hsx, hwx⟩, hsb, hwb⟩)
                          have HCB : Hid (∀ w3 : World, Below wr.heap.size wr w3 → Calls Try.prog 53 #[.agg #[.int .i64 (T b).c, .int .i64 (T b).st, .slice spb (T b).n cpb], .int .i64 (key : Int)] w3 (fun e w' => e = .returned (.bool true) ∧ Below w3.heap.size w3 w')) := Lib.hid fun w3 h3 => rwkey_any (T b).c (T b).st spb (T b).n cpb (T b).o (key : Int) true w3 (by have := HXX.out.n b hbm; omega) (HXX.out.ok.key b hbm) (hoy.below h3) ⟨fun _ => hwb, fun _ => rfl⟩
                          have HNW : Hid (∀ (W : World) (j : Nat) (u : Value), [Value.int .i64 2, .int .i64 (key : Int), .int .i64 (x : Int), .int .i64 (b : Int)][j]? = some u → (W.alloc (.cells #[.int .i64 2, .int .i64 (key : Int), .int .i64 (x : Int), .int .i64 (b : Int)] 59)).cell? ((⟨W.heap.size, 0, none⟩ : Addr).add j) = some u) := Lib.hid fun W j u hj => by
                            rw [Go.WideShapes.add_plain, cell_of_row _ _ _ _ 59 (0, 0) (heap_alloc_new W _), Nat.zero_add]
                            simpa using hj
                          clear HNN HYY hox hoy hsx hsb hwx hwb
                          generalize (T x).c = xc at *
                          generalize (T x).st = xst at *
                          generalize (T x).n = xn at *
                          generalize (T b).c = bc at *
                          generalize (T b).st = bst at *
                          generalize (T b).n = bn at *
                          go_wp2_with fail
                          refine HCX.out.mono ?_
                          rintro e w3 ⟨rfl, hb3⟩
                          have HR3 := Lib.hid (HX.out.keep hb3)
                          have z0 := (hb3.cell (p := ⟨bl, off + b * 3, none⟩) hbl).trans y0
                          have z1 := (hb3.cell (p := ⟨bl, off + b * 3 + 1, none⟩) hbl).trans y1
                          have z2 := (hb3.cell (p := ⟨bl, off + b * 3 + 2, none⟩) hbl).trans y2
                          have HC3 := Lib.hid (HCB.out w3 hb3)
                          clear hb3 HCX HCB
                          go_wp2_with (first | (go_at_call 53; refine HC3.out.mono ?_; rintro e w5 ⟨rfl, hb5⟩; have HR5 := Lib.hid (HR3.out.keep hb5); have HAL := Lib.hid ((Below.refl w5.heap.size w5).alloc (Nat.le_refl _) (.cells #[.int .i64 2, .int .i64 (key : Int), .int .i64 (x : Int), .int .i64 (b : Int)] 59)); have HR6 := Lib.hid (HR5.out.keep HAL.out); clear hb5) | (at_builtin; refine wpList_append_lies _ rfl (.tmp 90) (.tmp 95) 55 rfl w.heap.size 59 i8 (.agg #[.int .i64 0, .int .i64 0, .int .i64 0, .int .i64 0]) 4 32 Try.underlying55 hi8 hx0 hx1 hx2 rfl (by decide) _ l4.length (rowK l4) rfl HR6.out.row ⟨w5.heap.size, 0, none⟩ 1 1 [.int .i64 2, .int .i64 (key : Int), .int .i64 (x : Int), .int .i64 (b : Int)] rfl rfl (HNW.out _) (by intro u hu; simp at hu; rcases hu with rfl | rfl | rfl | rfl <;> rfl) (by omega) (by unfold maxLen; omega) (by omega) HR6.out.low _ rfl ?_; intro g7 c7 w7 ho7 hg7 hat7 hl7; have HR7 := Lib.hid (RcS.more (x := ⟨2, (key : Int), (x : Int), (b : Int)⟩) HR5.out HAL.out hg7 ho7); clear ho7 hg7 hat7) | fail)
                          rw [← HNX.out] at HR7
                          go_roundw
                          case rel => exact ⟨x + 1, some ⟨g7, 0, none⟩, c7, by omega, by go_num, by rw [HNX.out, List.length_append]; rfl, HR7⟩
                          case measure => simp [intOf]; omega
                        · have HNX := Lib.hid (HNN.out (fun h => hwb h.2.2))
                          have HCB : Hid (∀ w3 : World, Below wr.heap.size wr w3 → Calls Try.prog 53 #[.agg #[.int .i64 (T b).c, .int .i64 (T b).st, .slice spb (T b).n cpb], .int .i64 (key : Int)] w3 (fun e w' => e = .returned (.bool false) ∧ Below w3.heap.size w3 w')) := Lib.hid fun w3 h3 => rwkey_any (T b).c (T b).st spb (T b).n cpb (T b).o (key : Int) false w3 (by have := HXX.out.n b hbm; omega) (HXX.out.ok.key b hbm) (hoy.below h3) ⟨fun h => (by cases h), fun h => absurd h hwb⟩
                          clear HNN HYY hox hoy hsx hsb hwx hwb
                          generalize (T x).c = xc at *
                          generalize (T x).st = xst at *
                          generalize (T x).n = xn at *
                          generalize (T b).c = bc at *
                          generalize (T b).st = bst at *
                          generalize (T b).n = bn at *
                          go_wp2_with fail
                          refine HCX.out.mono ?_
                          rintro e w3 ⟨rfl, hb3⟩
                          have HR3 := Lib.hid (HX.out.keep hb3)
                          have z0 := (hb3.cell (p := ⟨bl, off + b * 3, none⟩) hbl).trans y0
                          have z1 := (hb3.cell (p := ⟨bl, off + b * 3 + 1, none⟩) hbl).trans y1
                          have z2 := (hb3.cell (p := ⟨bl, off + b * 3 + 2, none⟩) hbl).trans y2
                          have HC3 := Lib.hid (HCB.out w3 hb3)
                          clear hb3 HCX HCB
                          go_wp2_with fail
                          refine HC3.out.mono ?_
                          rintro e w5 ⟨rfl, hb5⟩
                          have HR5 := Lib.hid (HR3.out.keep hb5)
                          clear hb5 HC3
                          go_wp2_with fail
                          go_roundw
                          case rel => exact ⟨x + 1, sp4, cp4, by omega, by go_num, by rw [HNX.out], Lib.hid (by rw [HNX.out]; exact HR5.out)⟩
                          case measure => simp [intOf]; omega
                      · have HNX := Lib.hid (HNN.out (fun h => hwx h.1.2))
                        have HCX := Lib.hid (rwkey_any (T x).c (T x).st spx (T x).n cpx (T x).o (key : Int) false wr (by have := HXX.out.n x hxm; omega) (HXX.out.ok.key x hxm) hox ⟨fun h => (by cases h), fun h => absurd h hwx⟩)
                        clear HNN HYY hox hoy hsx hsb hwx
                        generalize (T x).c = xc at *
                        generalize (T x).st = xst at *
                        generalize (T x).n = xn at *
                        generalize (T b).c = bc at *
                        generalize (T b).st = bst at *
                        generalize (T b).n = bn at *
                        go_wp2_with fail
                        refine HCX.out.mono ?_
                        rintro e w3 ⟨rfl, hb3⟩
                        have HR3 := Lib.hid (HX.out.keep hb3)
                        clear hb3 HCX
                        go_wp2_with fail
                        go_roundw
                        case rel => exact ⟨x + 1, sp4, cp4, by omega, by go_num, by rw [HNX.out], Lib.hid (by rw [HNX.out]; exact HR3.out)⟩
                        case measure => simp [intOf]; omega
                · obtain rfl : b = x := by omega
                  generalize l3 ++ prK (cand T) key b b = l4 at *
                  go_wp2_with fail
                  go_roundw
                  case rel => exact ⟨b + 1, sp4, cp4, by omega, by go_num, by rw [HNB.out], Lib.hid (by rw [HNB.out]; exact HX.out)⟩
                  case measure => simp [intOf]; omega
            · obtain rfl : m = b := by omega
              generalize l2 ++ prs (cand T) key m = l3 at *
              go_wp2_with fail
              go_roundw
              case rel => exact ⟨key + 1, sp3, cp3, by omega, by go_num, by rw [HNK.out], Lib.hid (by rw [HNK.out]; exact HB.out)⟩
              case measure => simp [intOf]; omega
        · obtain rfl : key = 16 := by omega
          have HE := HFI.out 16 rfl
          rw [HE] at HK
          rw [HE]
          go_wp2
          go_ret
          exact ⟨sp2, cp2, rfl, HK.out.row, HK.out.bel⟩
end Go.Proofs.Yteobndfkkpfnlaa

