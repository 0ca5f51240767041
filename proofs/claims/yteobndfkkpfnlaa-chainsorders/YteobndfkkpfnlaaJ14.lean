/-
  Ranges over functions: a contract of iterators that goes for iterators over iterators too, and the caller's law.
  Maps of our own from numbers to lists of numbers.
  chains: the sorted keys of a map of lists; the marks of loops over functions.
  chains: pairs, an iterator over the pairs of a list.
  chains: befores, an iterator over iterators.
  chains: commits, an iterator over who may be done or not.
  chains: writersOf.
  chains: writersOf, its walk.
-/
import Derived.Test.YteobndfkkpfnlaaJ08
import Derived.Test.YteobndfkkpfnlaaJ12
import Derived.RangeFuncNested
import Derived.RangeFuncBound
import Derived.RangeFuncCalls
import Derived.RangeFuncLeaves
import Derived.RangeFuncBox
import Derived.Shelf.Abstract
import Derived.Maps.OwnRows
import Derived.Shelf.RegionOpen
import Derived.WalkKit
import Derived.OwnWalkIn
import Derived.TacticsInMore
import Derived.LoopNIn
import Derived.LoopIn
import Derived.IntWalk
import Derived.Deep.AppendLies
import Derived.Deep.RegionLaw

namespace Go.Proofs.Yteobndfkkpfnlaa
open Go Go.RowKit Go.Shelf
set_option linter.unusedVariables false
variable {n0 : Nat}

theorem roomW (k : Nat) : Fence.wide.room k := fun d h => by cases h
theorem yieldW {m : Nat} (m' : Nat) {P : Program} {l : Nat} {args : Array Value} {W : World} {R : Ending → World → Prop} (h : YieldAt Fence.wide m P l args W R) : YieldAt Fence.wide m' P l args W R := by
  obtain ⟨fn, tmps, assign, body, hy, hR⟩ := h
  exact ⟨fn, tmps, assign, body, hy, hR.1, fun c cs _ => hR.2 c cs (roomW _)⟩

/-- blocks that a round may turn wherever they lie: rows of choices -/
def nbO : Obj → Bool
  | .cells _ t _ => t != 58
  | _ => true
/-- the blocks of X lie as they lay, but rows of choices from n0 on -/
structure KeptX (n0 : Nat) (X : Nat → Prop) (W W' : World) : Prop where
  os : W'.os = W.os
  tape : W'.tape = W.tape
  output : W'.output = W.output
  size : W.heap.size ≤ W'.heap.size
  same : ∀ k o, X k → W.heap[k]? = some o → nbO o = true → W'.heap[k]? = some o
  old : ∀ k, X k → k < n0 → k < W.heap.size → W'.heap[k]? = W.heap[k]?
section
variable {X : Nat → Prop} {A B C : World}
theorem KeptX.refl (X : Nat → Prop) (W : World) : KeptX n0 X W W := ⟨rfl, rfl, rfl, Nat.le_refl _, fun _ _ _ h _ => h, fun _ _ _ _ => rfl⟩
theorem KeptX.trans (h : KeptX n0 X A B) (k : KeptX n0 X B C) : KeptX n0 X A C := ⟨k.os.trans h.os, k.tape.trans h.tape, k.output.trans h.output, Nat.le_trans h.size k.size, fun i o hx h1 h2 => k.same i o hx (h.same i o hx h1 h2) h2, fun i hx h1 h2 => (k.old i hx h1 (Nat.lt_of_lt_of_le h2 h.size)).trans (h.old i hx h1 h2)⟩
theorem KeptX.mono {Y : Nat → Prop} (h : KeptX n0 X A B) (hy : ∀ k, Y k → X k) : KeptX n0 Y A B := ⟨h.os, h.tape, h.output, h.size, fun i o hx => h.same i o (hy i hx), fun i hx => h.old i (hy i hx)⟩
theorem KeptX.of_below {n : Nat} (h : Below n A B) (hX : ∀ k, X k → k < A.heap.size → k < n) : KeptX n0 X A B :=
  ⟨h.os, h.tape, h.output, h.size, fun k o hx ho _ => by
    rw [h.block k (hX k hx (Array.getElem?_eq_some_iff.1 ho).1)]
    exact ho, fun k hx _ h2 => h.block k (hX k hx h2)⟩
theorem KeptX.all (h : Below A.heap.size A B) : KeptX n0 X A B := KeptX.of_below h fun _ _ h => h
theorem KeptX.alloc (W : World) (o : Obj) : KeptX n0 X W (W.alloc o) := KeptX.all ((Below.refl _ _).alloc (Nat.le_refl _) _)
theorem KeptX.grown {row : Option Nat} (hg : A.grownBy B row) (hr : ∀ k, row = some k → X k → n0 ≤ k ∧ ∀ o, A.heap[k]? = some o → nbO o = true → False) : KeptX n0 X A B :=
  ⟨hg.1, hg.2, hg.3, hg.size, fun k o hx ho hn => by
    refine (hg.block k (Array.getElem?_eq_some_iff.1 ho).1 (fun e => ?_)).trans ho
    exact (hr k e.symm hx).2 o ho hn, fun k hx h1 h2 => hg.block k h2 (fun e => by have := (hr k e.symm hx).1; omega)⟩
theorem KeptX.putObj {W : World} {l : Nat} {o o' : Obj} (hl : W.heap[l]? = some o) (hx : ¬ X l) : KeptX n0 X W (W.putObj l o') := KeptX.grown (grownBy_putObj' W l o') fun k e hk => by injection e with e; subst e; exact absurd hk hx
theorem KeptX.setCell {W : World} {b : Nat} {v : Value} (hx : ¬ X b) : KeptX n0 X W (W.setCell ⟨b, 0, none⟩ v) := KeptX.grown (grownBy_setCell' W b v) fun k e hk => by injection e with e; subst e; exact absurd hk hx
theorem KeptX.low (h : KeptX n0 X A B) {p : Addr} {v : Value} (hx : X p.block) (hn : p.block < n0) (hl : p.block < A.heap.size) (hc : A.cell? p = some v) : B.cell? p = some v := by
  unfold World.cell? at hc ⊢
  rw [h.old _ hx hn hl]
  exact hc
theorem KeptX.cell (h : KeptX n0 X A B) {p : Addr} {v : Value} (hx : X p.block) (ht : ∃ cs t l, A.heap[p.block]? = some (.cells cs t l) ∧ t ≠ 58) (hc : A.cell? p = some v) : B.cell? p = some v := by
  obtain ⟨cs, t, l, ho, hn⟩ := ht
  have := h.same p.block _ hx ho (by simp [nbO, hn])
  unfold World.cell? at hc ⊢
  rw [ho] at hc
  rw [this]
  exact hc
end

/-- an iterator's contract -/
def SeqO {α : Type} (n0 : Nat) (P : Program) (g : Nat) (lb : Array Value) (encs : α → Array Value) (X : Nat → Prop) (S Sp : List α → Prop) (Nx : List α → α → Prop) (w : World) : Prop :=
  ∀ (l : Nat) (J Jx : List α → World → Prop) (W : World), KeptX n0 X w W → (∀ k, W.heap.size ≤ k → X k) → OwnFrom W.heap.size J → OwnFrom W.heap.size Jx →
    (∀ m pre x W1, J pre W1 → Nx pre x → YieldAt Fence.wide m P l (encs x) W1 fun e W' =>
      KeptX n0 X W1 W' ∧ ((e = .returned (.bool true) ∧ J (pre ++ [x]) W') ∨ (e = .returned (.bool false) ∧ Jx (pre ++ [x]) W'))) →
    J [] W →
    Calls P g (#[.func (.yield l) #[] #[]] ++ lb) W fun e W' => (∃ v, e = .returned v) ∧ ((∃ xs, S xs ∧ J xs W') ∨ (∃ pre, Sp pre ∧ Jx pre W'))

/-- how a round may be left -/
def postO {α : Type} (n0 : Nat) (Y : Nat → Prop) (I : List α → World → Prop) (Ix : Code → List α → World → Prop) (xs : List α) (W : World) : Exit → Act → World → Prop
  | .normal, _, W' => KeptX n0 Y W W' ∧ I xs W'
  | .ret, _, W' => KeptX n0 Y W W' ∧ Ix .ret xs W'
  | .exit id, _, W' => KeptX n0 Y W W' ∧ Ix (.exit id) xs W'
  | .goto t, _, W' => KeptX n0 Y W W' ∧ Ix (.goto t) xs W'
  | .panic _, _, _ => False
  | .outgrown, _, _ => False

set_option maxHeartbeats 1000000 in
/-- the caller's law -/
theorem range_o {n : Nat} {P : Program} {α : Type} {g : Operand} {ps : Array Tmp} {assign body : Code} {Q : Exit → Act → World → Prop} {a : Act} {w : World}
    {gf : Nat} {lb : Array Value} (hg : a.eval g = .func (.func gf) #[] lb) (eg : ∀ args w, (callFunc gf args).run P w = .ok (.enter gf args) w) (Y : Nat → Prop)
    {encs : α → Array Value} {S Sp : List α → Prop} {Nx : List α → α → Prop} {w0 : World} (hseq : SeqO n0 P gf lb encs (fun k => Y k ∧ k ≠ w.heap.size ∧ k ≠ w.heap.size + 1) S Sp Nx w0)
    (hb0 : KeptX n0 Y w0 w) (hY : ∀ k, w.heap.size ≤ k → Y k) (hps : ∀ x, (encs x).size = ps.size)
    (I : List α → World → Prop) (Ix : Code → List α → World → Prop) (hI : OwnFrom w.heap.size I) (hIx : ∀ c, OwnFrom w.heap.size (Ix c)) (h0 : I [] w)
    (Ax : α → Act → World → Prop) (hAx : ∀ x a', OwnFrom w.heap.size (fun (_ : Unit) W => Ax x a' W))
    (hassign : ∀ (l : Nat) (pre : List α) (x : α) (W : World) (K : Act → World → Prop), I pre W → (∀ a' W', KeptX n0 Y W W' → I pre W' → Ax x a' W' → K a' W') →
      assign.wpIn (Fence.wide.inRound l) (n - 1 - 1) P (Exit.then K (fun _ _ _ => False)) { tmps := (ps.zip (encs x)).foldl (fun t (p, v) => t.setIfInBounds p v) a.tmps, defers := [] } W)
    (hbody : ∀ (l : Nat) (pre : List α) (x : α) (a' : Act) (W : World), w.heap.size ≤ l → (∃ r, W.heap[l]? = some (.loop r)) → I pre W → Ax x a' W → Nx pre x → body.wpIn (Fence.wide.inRound l) (n - 1 - 1) P (postO n0 Y I Ix (pre ++ [x]) W) a' W)
    (hdone : ∀ (D : Nat) (xs : List α) (W : World), w.heap.size ≤ D → S xs → I xs W → W.heap[D]? = some (.deferred (some [])) → Q .normal { a with defers := { target := .collected D, args := #[] } :: a.defers } W)
    (hstop : ∀ (D : Nat) (c : Code) (pre : List α) (W : World), w.heap.size ≤ D → Sp pre → Ix c pre W → W.heap[D]? = some (.deferred (some [])) → c.wpIn Fence.wide n P Q { a with defers := { target := .collected D, args := #[] } :: a.defers } W) :
    (Code.rangeFunc g ps assign body).wpIn Fence.wide n P Q a w := by
  refine wpIn_rangeFunc fun fn hfn => ?_
  show ∃ l mark w₁ d w₁' f args w₂, (Instr.enterLoop fn a.tmps ps assign body none).run P w = _ ∧ _
  obtain ⟨rec, hrec⟩ : ∃ rec : LoopState → Option Code → Loop, rec = fun st pe => { state := st, pending := pe, fn, tmps := a.tmps, params := ps, assign, body, defers := w.heap.size } := ⟨_, rfl⟩
  obtain ⟨D, eD⟩ : ∃ D, D = w.heap.size := ⟨_, rfl⟩
  obtain ⟨L, eL⟩ : ∃ L, L = w.heap.size + 1 := ⟨_, rfl⟩
  obtain ⟨W1, hW1⟩ : ∃ W1, W1 = (w.alloc (.deferred (some []))).alloc (.loop (rec .ready none)) := ⟨_, rfl⟩
  have hz1 : W1.heap.size = w.heap.size + 2 := by rw [hW1]; simp
  have hL1 : W1.heap[L]? = some (.loop (rec .ready none)) := by
    have := World.alloc_heap_new (w.alloc (.deferred (some []))) (.loop (rec .ready none))
    rw [World.size_alloc, ← hW1, ← eL] at this
    exact this
  have hD1 : W1.heap[D]? = some (.deferred (some [])) := by
    rw [hW1, eD]
    exact (Below.heap_alloc _ _ _ (by simp)).trans (World.alloc_heap_new w _)
  have hI1 : I [] W1 := by rw [hW1]; exact hI.alloc _ (hI.alloc _ h0)
  have hk1 : KeptX n0 Y w W1 := by rw [hW1]; exact (KeptX.alloc _ _).trans (KeptX.alloc _ _)
  have subY : ∀ k, (Y k ∧ k ≠ w.heap.size ∧ k ≠ w.heap.size + 1) → Y k := fun k h => h.1
  have nX : ¬ (Y L ∧ L ≠ w.heap.size ∧ L ≠ w.heap.size + 1) := fun h => h.2.2 eL
  -- the records
  have own : ∀ {s : List α} {A B : World} {row : Option Nat} {k : Nat} {o : Obj}, k < W1.heap.size → A.grownBy B row → (∀ r, row = some r → W1.heap.size ≤ r ∧ ∃ o : Obj, A.heap[r]? = some o ∧ o.isCells = false) → A.heap[k]? = some o → B.heap[k]? = some o :=
    fun {s A B row k o} hk hg' hr ho => (hg'.block k (Array.getElem?_eq_some_iff.1 ho).1 (fun e => by have := (hr k e.symm).1; omega)).trans ho
  have wide1 : ∀ {A : World} {row : Option Nat}, (∀ r, row = some r → W1.heap.size ≤ r ∧ ∃ o : Obj, A.heap[r]? = some o ∧ o.isCells = false) → (∀ r, row = some r → w.heap.size ≤ r ∧ ∃ o : Obj, A.heap[r]? = some o ∧ o.isCells = false) :=
    fun hr r e => ⟨by have := (hr r e).1; omega, (hr r e).2⟩
  have hcall := hseq L
    (fun pre W => I pre W ∧ W.heap[L]? = some (.loop (rec .ready none)) ∧ W.heap[D]? = some (.deferred (some [])))
    (fun pre W => ∃ c, Ix c pre W ∧ W.heap[L]? = some (.loop (rec .done (some c))) ∧ W.heap[D]? = some (.deferred (some [])))
    W1 ((hb0.trans hk1).mono subY) (fun k hk => ⟨hY k (by omega), by omega, by omega⟩)
    (fun s A B row hs hg' hr => ⟨hI s A B row hs.1 hg' (wide1 hr), own (s := s) (by omega) hg' hr hs.2.1, own (s := s) (by omega) hg' hr hs.2.2⟩)
    (fun s A B row hs hg' hr => by
      obtain ⟨c, hc, hl, hd⟩ := hs
      exact ⟨c, hIx c s A B row hc hg' (wide1 hr), own (s := s) (by omega) hg' hr hl, own (s := s) (by omega) hg' hr hd⟩)
    (fun m pre x W => ?_) ⟨hI1, hL1, hD1⟩
  rotate_left
  · rintro ⟨hi, hl, hd⟩ hlen
    have hy := run_yield (P := P) (args := encs x) hl (by rw [hrec]; exact hps x)
    rw [hrec] at hy
    refine yieldW m (m := n - 1 - 1) ⟨fn, _, assign, body, hy, roundIn_of_wpIn hfn (hassign _ pre x W _ hi fun a' Wa hka hia hax => ?_)⟩
    have hla := hka.same _ _ (hY L (by omega)) hl rfl
    have hda := hka.same _ _ (hY D (by omega)) hd rfl
    have hlt : L < Wa.heap.size := (Array.getElem?_eq_some_iff.1 hla).1
    refine ⟨_, run_beginRound hla (by rw [hrec]), ?_⟩
    obtain ⟨Wb, hWb⟩ : ∃ Wb, Wb = Wa.putObj L (.loop { rec .ready none with state := .busy }) := ⟨_, rfl⟩
    have hlb : Wb.heap[L]? = some (.loop { rec .ready none with state := .busy }) := by rw [hWb]; exact World.putObj_heap_same hlt
    have hdb : Wb.heap[D]? = some (.deferred (some [])) := by rw [hWb]; exact (World.putObj_heap_other (by omega)).trans hda
    have hkb : KeptX n0 (fun k => Y k ∧ k ≠ w.heap.size ∧ k ≠ w.heap.size + 1) W Wb := by rw [hWb]; exact (hka.mono subY).trans (KeptX.putObj hla nX)
    have hib : I pre Wb := by rw [hWb]; exact hI.putObj _ hia (by omega) hla rfl
    have hab : Ax x a' Wb := by rw [hWb]; exact (hAx x a').putObj (s := ()) _ hax (by omega) hla rfl
    rw [← hWb]
    refine wpIn_mono (hbody L pre x a' Wb (by omega) ⟨_, hlb⟩ hib hab hlen) ?_
    have fin : ∀ (jump : Option Code) (Wc : World), KeptX n0 Y Wb Wc → ∃ We, (Instr.endRound L jump).run P Wc = .ok (.bool jump.isNone) We ∧ We = Wc.putObj L (.loop (rec (if jump.isNone then .ready else .done) jump)) ∧
        Wc.heap[L]? = some (.loop { rec .ready none with state := .busy }) ∧ We.heap[L]? = some (.loop (rec (if jump.isNone then .ready else .done) jump)) ∧ We.heap[D]? = some (.deferred (some [])) ∧
        KeptX n0 (fun k => Y k ∧ k ≠ w.heap.size ∧ k ≠ w.heap.size + 1) W We := fun jump Wc hkc => by
      have hlc := hkc.same _ _ (hY L (by omega)) hlb rfl
      have hdc := hkc.same _ _ (hY D (by omega)) hdb rfl
      refine ⟨_, run_endRound jump hlc, by rw [hrec], hlc, ?_, ?_, ?_⟩
      · rw [World.putObj_heap_same (Array.getElem?_eq_some_iff.1 hlc).1, hrec]
      · exact (World.putObj_heap_other (by omega)).trans hdc
      · exact (hkb.trans (hkc.mono subY)).trans (KeptX.putObj hlc nX)
    rintro e a3 Wc hp
    cases e with
    | normal =>
      obtain ⟨hkc, hic⟩ := hp
      obtain ⟨We, hr, eWe, hlc, hle, hde, hke⟩ := fin none Wc hkc
      refine ⟨_, _, hr, hke, .inl ⟨rfl, ?_, hle, hde⟩⟩
      rw [eWe]
      exact hI.putObj _ hic (by omega) hlc rfl
    | ret =>
      obtain ⟨hkc, hic⟩ := hp
      obtain ⟨We, hr, eWe, hlc, hle, hde, hke⟩ := fin (some .ret) Wc hkc
      refine ⟨_, _, hr, hke, .inr ⟨rfl, _, ?_, hle, hde⟩⟩
      rw [eWe]
      exact (hIx _).putObj _ hic (by omega) hlc rfl
    | exit id =>
      obtain ⟨hkc, hic⟩ := hp
      obtain ⟨We, hr, eWe, hlc, hle, hde, hke⟩ := fin (some (.exit id)) Wc hkc
      refine ⟨_, _, hr, hke, .inr ⟨rfl, _, ?_, hle, hde⟩⟩
      rw [eWe]
      exact (hIx _).putObj _ hic (by omega) hlc rfl
    | goto t =>
      obtain ⟨hkc, hic⟩ := hp
      obtain ⟨We, hr, eWe, hlc, hle, hde, hke⟩ := fin (some (.goto t)) Wc hkc
      refine ⟨_, _, hr, hke, .inr ⟨rfl, _, ?_, hle, hde⟩⟩
      rw [eWe]
      exact (hIx _).putObj _ hic (by omega) hlc rfl
    | panic ch => exact hp.elim
    | outgrown => exact hp.elim
  · refine ⟨w.heap.size + 1, [{ target := .collected w.heap.size, args := #[] }], W1, { target := .fn (.func gf) lb, args := #[.func (.yield (w.heap.size + 1)) #[] #[]] }, W1, gf,
      #[.func (.yield (w.heap.size + 1)) #[] #[]] ++ lb, W1, ?_, ?_, fun _ _ => trivial, ?_, fun h => absurd h (by decide), ?_⟩
    · rw [hW1, hrec]; exact run_enterLoop_outer _ _ _ _ _
    · simp only [resolve, hg]
      simp [go_sem]
    · simp [invoke, go_sem, eg]
    · rw [← eL]
      refine (callsIn_wide.2 hcall).mono ?_
      rintro e W2 ⟨⟨v, rfl⟩, (⟨xs, hS, hi, hl, hd⟩ | ⟨pre, hSp, c, hi, hl, hd⟩)⟩
      · exact ⟨none, _, by have := run_endLoop (P := P) hl (by rw [hrec]; simp); rw [hrec] at this; exact this, by rw [eD] at hd; exact hdone _ xs _ (Nat.le_refl _) hS (hI.putObj _ hi (by omega) hl rfl) ((World.putObj_heap_other (by omega)).trans hd)⟩
      · exact ⟨some c, _, by have := run_endLoop (P := P) hl (by rw [hrec]; simp); rw [hrec] at this; exact this, by rw [eD] at hd; exact hstop _ c pre _ (Nat.le_refl _) hSp ((hIx c).putObj _ hi (by omega) hl rfl) ((World.putObj_heap_other (by omega)).trans hd)⟩
end Go.Proofs.Yteobndfkkpfnlaa

namespace Go.Proofs.Yteobndfkkpfnlaa
open Go.ChangeShapes Go.WideShapes Go.ChangeAt Go.RowKit Go.Maps
set_option linter.unusedVariables false
variable {n0 : Nat}

set_option maxRecDepth 100000 in
theorem zero41 (w : World) : (zeroValue 41).run Try.prog w = .ok (.slice none 0 0) w := by kernel_rfl

/-- block b is a map that has m's lists, at most n -/
def MapG (w : World) (b n : Nat) (m : Int → List Int) : Prop :=
  ∃ D : DataW Unit, w.ownsGroups Try.prog 3 (b + 1) 3 .i64 b n D ∧ ∀ x, Maps.has D (.int .i64 x) = !(m x).isEmpty ∧ D.atKey (.int .i64 x) .nil = cond (m x).isEmpty .nil (.slice (lits .i64 (m x)) [])
section
variable {w w' : World} {b n : Nat} {m : Int → List Int}
theorem MapG.made (w : World) : MapG (w.alloc (.map #[] 0)) w.heap.size 0 (fun _ => []) :=
  ⟨.map [], World.ownsGroups_made w Try.prog 3 3 .i64, fun _ => ⟨rfl, rfl⟩⟩
theorem MapG.isMap (h : MapG w b n m) : ∃ es cl, w.heap[b]? = some (.map es cl) := by
  obtain ⟨D, ⟨es, clock, hb, _⟩, _⟩ := h
  exact ⟨es, clock, hb⟩
theorem MapG.lt (h : MapG w b n m) : b < w.heap.size := by
  obtain ⟨es, cl, hb⟩ := h.isMap
  exact (Array.getElem?_eq_some_iff.1 hb).1
theorem ints_keep {base : Nat} {v : Value} {zs : List Int} (hs : w.heap.size ≤ w'.heap.size) (h : w.ownsInts base 3 .i64 v zs) (hk : ∀ k o, base ≤ k → w.heap[k]? = some o → nbO o = true → w'.heap[k]? = some o) : w'.ownsInts base 3 .i64 v zs := by
  refine ⟨own_keep h.1 fun g hg => ?_, h.2⟩
  obtain ⟨cur, e⟩ := own_cells h.1 hg
  rw [e]
  exact hk g _ (h.1.lt g hg).1 e rfl
/-- what turns no list's row and not the map leaves the map -/
theorem MapG.keep (h : MapG w b n m) (hs : w.heap.size ≤ w'.heap.size) (hk : ∀ k o, b ≤ k → w.heap[k]? = some o → nbO o = true → w'.heap[k]? = some o) : MapG w' b n m := by
  obtain ⟨D, ⟨es, clock, hb, F, hs', hD, hbb, hlen, hap⟩, hv⟩ := h
  have hk' : ∀ k o, b + 1 ≤ k → w.heap[k]? = some o → nbO o = true → w'.heap[k]? = some o := fun k o h1 => hk k o (by omega)
  have hs2 : ∀ x ∈ es.toList, ∀ z, rowElem (H := Unit) w (b + 1) 3 .i64 x.val = some z → rowElem w' (b + 1) 3 .i64 x.val = some z := by
    intro x _ z hz
    obtain ⟨ys, ho, rfl⟩ := rowElem_inv hz
    exact rowElem_mk (ints_keep hs ho hk')
  obtain ⟨F2, hmap2, _⟩ := F.stay hs2
  refine ⟨D, ⟨es, clock, hk b _ (Nat.le_refl _) hb rfl, F2, hs', ?_, hbb, ?_, hap⟩, hv⟩
  · rw [hmap2]; exact hD
  · intro x hx zs ho
    obtain ⟨y, hy⟩ := F.reads x hx
    obtain ⟨z, hz, _⟩ := Go.WideElems.rd_val hy
    obtain ⟨ys, ho', _⟩ := rowElem_inv hz
    rw [ho.unique (ints_keep hs ho' hk')]
    exact hlen x hx ys ho'
theorem MapG.below (h : MapG w b n m) (hb : Below w.heap.size w w') : MapG w' b n m :=
  h.keep hb.size fun k o _ ho _ => (hb.block k (Array.getElem?_eq_some_iff.1 ho).1).trans ho
theorem MapG.keptX {X : Nat → Prop} (h : MapG w b n m) (hk : KeptX n0 X w w') (hX : ∀ k, b ≤ k → X k) : MapG w' b n m :=
  h.keep hk.size fun k o hb ho hn => hk.same k o (hX k hb) ho hn
/-- the way back, of the key x -/
def BackG (w : World) (b n : Nat) (m : Int → List Int) (x : Int) (v : Value) : Prop :=
  ∀ (w1 : World) (v' : Value) (zs' : List Int), w.grownBy w1 v.ownBlock → w1.ownsInts (b + 1) 3 .i64 v' zs' → zs'.length ≤ n + 1 → zs' ≠ [] → (v'.ownBlock = v.ownBlock ∨ ∃ g, v'.ownBlock = some g ∧ w.heap.size ≤ g) →
    ∃ w2, (Instr.mapUpdate 82 (.map (some b)) (.int .i64 x) v').run Try.prog w1 = .ok () w2 ∧ MapG w2 b (n + 1) (fun k => if k = x then zs' else m k) ∧ w1.grownBy w2 (some b)
theorem lits_inj {a c : List Int} (h : lits .i64 a = (lits .i64 c : List (DataW Unit))) : a = c := by
  unfold lits at h
  exact (List.map_inj_right (fun x y hxy => by simpa using hxy)).1 h
set_option maxRecDepth 100000 in
theorem MapG.look (h : MapG w b n m) (hn : n < 1000000) (x : Int) (hx : In64 x) :
    ∃ v, (Instr.lookup 82 (.map (some b)) (.int .i64 x) false).run Try.prog w = .ok v w ∧ w.ownsInts (b + 1) 3 .i64 v (m x) ∧ (m x).length ≤ n ∧ BackG w b n m x v := by
  obtain ⟨D, ho, hv⟩ := h
  have hkey := keyOf_int_mk (q := .i64) Try.underlying3 (wf64 hx)
  obtain ⟨v, zs, hrun, hat, hoi, hzl, hback⟩ := ho.at law3 Try.underlying82 (zero41 w) (by unfold maxLen; omega) hkey
  have hz : m x = zs := by
    rw [(hv x).2] at hat
    cases h0 : m x with
    | nil =>
      rw [h0] at hat
      rcases hoi.datum (H := Unit) with ⟨_, e⟩ | e
      · rw [e]
      · rw [e] at hat; cases hat
    | cons z l =>
      rw [h0] at hat
      rcases hoi.datum (H := Unit) with ⟨e, _⟩ | e
      · rw [e] at hat; cases hat
      · rw [e] at hat
        injection hat with hat
        exact lits_inj hat
  refine ⟨v, hrun, by rw [hz]; exact hoi, by rw [hz]; exact hzl, ?_⟩
  intro w1 v' zs' hg1 ho1 hl1 hne hloc
  obtain ⟨w2, hrun2, ho2, hg2⟩ := hback w1 v' zs' hg1 ho1 hl1 hloc
  refine ⟨w2, hrun2, ⟨_, ho2, fun k => ?_⟩, hg2⟩
  obtain ⟨es0, cl0, hb0, _, _, hD0, _⟩ := ho
  have hism : ∃ es, D = .map es := ⟨_, hD0⟩
  by_cases he : k = x
  · subst he
    dsimp only
    rw [if_pos rfl]
    refine ⟨?_, ?_⟩
    · rw [has_put_same hism (law3.key hkey)]
      cases zs' with
      | nil => exact absurd rfl hne
      | cons a l => rfl
    · rw [atKey_put_same hism (law3.key hkey), ho1.datum_pos hne]
      cases zs' with
      | nil => exact absurd rfl hne
      | cons a l => rfl
  · dsimp only
    rw [if_neg he]
    have hne' : Lit.int .i64 k ≠ Lit.int .i64 x := fun e => he (by injection e)
    rw [has_put_other hne', atKey_put_other hne']
    exact hv k
set_option maxRecDepth 100000 in
/-- a look in a later world: the row is one of the elder world's -/
theorem MapG.look2 (h : MapG w b n m) (hs : w.heap.size ≤ w'.heap.size) (hk : ∀ k o, b ≤ k → w.heap[k]? = some o → nbO o = true → w'.heap[k]? = some o) (x : Int) (hx : In64 x) :
    ∃ v, (Instr.lookup 82 (.map (some b)) (.int .i64 x) false).run Try.prog w' = .ok v w' ∧ w.ownsInts (b + 1) 3 .i64 v (m x) := by
  obtain ⟨D, ⟨es, clock, hb, F, hs', hD, hbb, hlen, hap⟩, hv⟩ := h
  have hk' : ∀ k o, b + 1 ≤ k → w.heap[k]? = some o → nbO o = true → w'.heap[k]? = some o := fun k o h1 => hk k o (by omega)
  have hs2 : ∀ x ∈ es.toList, ∀ z, rowElem (H := Unit) w (b + 1) 3 .i64 x.val = some z → rowElem w' (b + 1) 3 .i64 x.val = some z := by
    intro x _ z hz
    obtain ⟨ys, ho, rfl⟩ := rowElem_inv hz
    exact rowElem_mk (ints_keep hs ho hk')
  obtain ⟨F2, hmap2, _⟩ := F.stay hs2
  have hkey := keyOf_int_mk (q := .i64) Try.underlying3 (wf64 hx)
  have hvx := (hv x).2
  rcases Maps.fit_look false law3 Try.underlying82 (zero41 w') (hk b _ (Nat.le_refl _) hb rfl) F2 hkey with ⟨hrun, _, hat⟩ | ⟨e0, y, hm0, h3, hrun, hR, hat, _⟩
  · refine ⟨_, hrun, ?_⟩
    have e := hat .nil
    rw [hmap2, ← hD, hvx] at e
    cases h0 : m x with
    | nil => exact World.ownsInts_nil _ _ _ _
    | cons z l => rw [h0] at e; cases e
  · obtain ⟨zs', ho', rfl⟩ := rowElem_inv hR
    obtain ⟨y, hy⟩ := F.reads e0 hm0
    obtain ⟨z, hz, _⟩ := Go.WideElems.rd_val hy
    obtain ⟨zs, ho, _⟩ := rowElem_inv hz
    have ezz := ho'.unique (ints_keep hs ho hk')
    subst ezz
    refine ⟨_, hrun, ?_⟩
    have e := hat .nil
    rw [hmap2, ← hD, hvx] at e
    have : m x = zs' := by
      cases h0 : m x with
      | nil =>
        rw [h0] at e
        rcases ho.datum (H := Unit) with ⟨_, e1⟩ | e1
        · rw [e1]
        · rw [e1] at e; cases e
      | cons z l =>
        rw [h0] at e
        rcases ho.datum (H := Unit) with ⟨e1, _⟩ | e1
        · rw [e1] at e; cases e
        · rw [e1] at e
          injection e with e
          exact lits_inj e
    rw [this]
    exact ho
end
end Go.Proofs.Yteobndfkkpfnlaa

namespace Go.Proofs.Yteobndfkkpfnlaa
open Go.ChangeShapes Go.WideShapes Go.ChangeAt Go.RowKit Go.Maps Go.Shelf
set_option linter.unusedVariables false
variable {n0 : Nat}

/-- the keys, rising -/
def kyN (m : Int → List Int) : List Nat := (List.range 16).filter fun y => !(m (y : Int)).isEmpty
def kyF (m : Int → List Int) : List Int := (kyN m).map fun (y : Nat) => (y : Int)
theorem kyF_le (m : Int → List Int) : (kyF m).length ≤ 16 := by
  unfold kyF kyN
  rw [List.length_map]
  exact Nat.le_trans (List.length_filter_le _ _) (by simp)
theorem kyF_mem {m : Int → List Int} (h16 : ∀ x, m x ≠ [] → 0 ≤ x ∧ x ≤ 15) (x : Int) : x ∈ kyF m ↔ (!(m x).isEmpty) = true := by
  unfold kyF kyN
  rw [List.mem_map]
  constructor
  · rintro ⟨y, hy, rfl⟩
    exact (List.mem_filter.1 hy).2
  · intro h
    have h0 : m x ≠ [] := fun e => by rw [e] at h; cases h
    have := h16 x h0
    exact ⟨x.toNat, List.mem_filter.2 ⟨List.mem_range.2 (by omega), by rw [show ((x.toNat : Nat) : Int) = x by omega]; exact h⟩, by omega⟩
theorem kyF_lt (m : Int → List Int) : (kyF m).Pairwise (· < ·) := by
  unfold kyF kyN
  rw [List.pairwise_map]
  exact (List.Pairwise.filter _ List.pairwise_lt_range).imp (fun h => by omega)
theorem sortsA (m : Nat) : AnyZI.SortsIn Try.prog Try.sortedA_ren Fence.wide m :=
  ⟨fun blk off cap ss W hH hblk hsz => callsIn_wide.2 (AnyM.slices_Sort_int Try.sortA blk off cap ss W hH hblk hsz),
   fun p cap W => callsIn_wide.2 (AnyM.slices_Sort_int_none Try.sortA p cap W)⟩

theorem keys_call (n : Nat) (mb : Option Nat) (W : World) : CallsIn Fence.wide n Try.prog 76 #[.map mb] W fun e w' => e = .returned (.func (.func 87) #[] #[.pointer (some ⟨W.heap.size, 0, none⟩)]) ∧ w' = W.alloc (.cells #[.map mb] 82) :=
  AnyZI.keys_in Try.keysA Fence.wide n trivial rfl mb W

set_option maxHeartbeats 1000000 in
theorem keys_sorted {w : World} {b q : Nat} {m : Int → List Int} (h : MapG w b q m) (h16 : ∀ x, m x ≠ [] → 0 ≤ x ∧ x ≤ 15) :
    Calls Try.prog 75 #[.func (.func 87) #[] #[.pointer (some ⟨w.heap.size, 0, none⟩)]] (w.alloc (.cells #[.map (some b)] 82)) fun e w' => ∃ sp cp, e = .returned (.slice sp (kyF m).length cp) ∧ w'.ownsRow (w.heap.size + 1) 3 1 (.slice sp (kyF m).length cp) (kyF m).length ((kyF m).map (Value.int .i64)) ∧ Below (w.heap.size + 1) (w.alloc (.cells #[.map (some b)] 82)) w' := by
  obtain ⟨D, ⟨es, clock, hb, F, hs, hD, hbb, hlen, hap⟩, hv⟩ := h
  have hbl : b < w.heap.size := (Array.getElem?_eq_some_iff.1 hb).1
  have hown : w.ownsMap Try.prog 3 (rowElem w (b + 1) 3 .i64) b q D := ⟨es, clock, hb, F, hs, hD⟩
  have hperm : (kyF m).Perm (intKeys D) := CollectedI.perm (left := fun _ => false) ⟨(kyF_lt m).imp (fun hl => by omega), fun x => by rw [kyF_mem h16, (hv x).1]; simp⟩ hown law3 Try.underlying3 (fun _ => rfl)
  have hsz : Maps.size D ≤ 16 := by
    have h1 := hperm.length_eq
    have h2 : (intKeys D).length = Maps.size D := by
      rw [hD]
      exact List.length_map _
    have := kyF_le m
    omega
  have hseq : SeqGives Fence.wide 2 Try.prog 87 #[.pointer (some ⟨w.heap.size, 0, none⟩)] encZ (fun ss => ss.Perm (intKeys D)) (Maps.size D) (w.alloc (.cells #[.map (some b)] 82)) :=
    AnyZI.keys_gives (ρ := Try.keysA_ren) { Try.keysA with } Fence.wide _ trivial rfl (by omega) w.heap.size b q D _ (by simp) (by simp) ⟨es, clock, (Below.heap_alloc _ _ b hbl).trans hb, F, hs, hD⟩
  have cS := AnyZI.sorted_in Try.sortedA Fence.wide 5 trivial trivial trivial trivial rfl (by omega) (sortsA _) (enters_of Try.func86 (by kernel_rfl) rfl) 87 #[.pointer (some ⟨w.heap.size, 0, none⟩)] trivial (enters_of Try.func87 (by kernel_rfl) rfl) _ _ (by unfold maxLen; omega) (by omega) _ hseq
  change CallsIn _ _ Try.prog 75 _ _ _ at cS
  refine (callsIn_wide.1 cS).mono ?_
  rintro e w' ⟨v, ss, rfl, hS, hrow, hnil, hbw⟩
  have e1 : ss.mergeSort (fun x y => decide (x ≤ y)) = kyF m := by
    rw [mergeSort_of_perm_i (hS.trans hperm.symm)]
    exact List.mergeSort_of_pairwise ((kyF_lt m).imp fun hl => by simp; omega)
  have e2 : ss.length = (kyF m).length := (hS.trans hperm.symm).length_eq
  have hrow' : w'.ownsRow (w.heap.size + 1) 3 1 v (kyF m).length ((kyF m).map (Value.int .i64)) := by
    have h := hrow
    rw [e1, e2, World.size_alloc] at h
    exact h
  obtain ⟨sp, cp, rfl⟩ := own_form' hrow'
  exact ⟨sp, cp, rfl, hrow', by simpa using hbw⟩

/-- the marks of loops over functions that are done -/
def marksD (Ds : List Nat) : List Deferred := Ds.map fun D => { target := .collected D, args := #[] }
def OpenD (B : Nat) (W : World) (Ds : List Nat) : Prop := Ds.Nodup ∧ ∀ D, D ∈ Ds → B ≤ D ∧ W.heap[D]? = some (.deferred (some []))
theorem OpenD.keep {B : Nat} {X : Nat → Prop} {W W' : World} {Ds : List Nat} (h : OpenD B W Ds) (hk : KeptX n0 X W W') (hX : ∀ k, B ≤ k → X k) : OpenD B W' Ds :=
  ⟨h.1, fun D hD => ⟨(h.2 D hD).1, hk.same D _ (hX D (h.2 D hD).1) (h.2 D hD).2 rfl⟩⟩
theorem OpenD.cons {B D : Nat} {W : World} {Ds : List Nat} (h : OpenD B W Ds) (hB : B ≤ D) (ho : W.heap[D]? = some (.deferred (some []))) (hn : D ∉ Ds) : OpenD B W (D :: Ds) :=
  ⟨List.nodup_cons.2 ⟨hn, h.1⟩, fun k hk => by
    rcases List.mem_cons.1 hk with rfl | hk
    · exact ⟨hB, ho⟩
    · exact h.2 k hk⟩
theorem leaves_all {n : Nat} {P : Program} {fn : Func} {tmps : Array Value} {R : Ending → World → Prop} {B : Nat} (Q : World → Prop) (hQ : ∀ W D, Q W → B ≤ D → W.heap[D]? = some (.deferred (some [])) → Q (W.putObj D (.deferred none)))
    (hR : ∀ W, Q W → LeavesInM Fence.wide n P fn tmps R [] .returning W) : ∀ (Ds : List Nat) (W : World), OpenD B W Ds → Q W → LeavesInM Fence.wide n P fn tmps R (marksD Ds) .returning W
  | [], W, _, hq => hR W hq
  | D :: Ds, W, ho, hq => by
    obtain ⟨hB, hD⟩ := ho.2 D (List.mem_cons_self ..)
    refine ⟨by simp, .inl ⟨D, _, rfl, run_takeDeferred hD, leaves_all Q hQ hR Ds _ ⟨(List.nodup_cons.1 ho.1).2, fun k hk => ?_⟩ (hQ W D hq hB hD)⟩⟩
    obtain ⟨h1, h2⟩ := ho.2 k (List.mem_cons_of_mem _ hk)
    refine ⟨h1, (World.putObj_heap_other (fun e => ?_)).trans h2⟩
    subst e
    exact (List.nodup_cons.1 ho.1).1 hk
theorem ownMono {β : Type} {B B' : Nat} {I : β → World → Prop} (h : OwnFrom B I) (hB : B ≤ B') : OwnFrom B' I := fun s A C row hs hg hr => h s A C row hs hg fun r e => ⟨Nat.le_trans hB (hr r e).1, (hr r e).2⟩
theorem ownCalm {β : Type} {B : Nat} {I : β → World → Prop} (h : OwnFrom B I) {s : β} {A C : World} (hs : I s A) (hb : Below A.heap.size A C) : I s C :=
  h s A C none hs ⟨hb.os, hb.tape, hb.output, hb.size, fun k hk _ => hb.block k hk⟩ (fun r e => by cases e)
theorem ownFrom_kept {β : Type} {X : Nat → Prop} {W : World} {B : Nat} (hB : W.heap.size ≤ B) : OwnFrom B (fun (_ : β) W' => KeptX n0 X W W') := fun s A C row hs hg hr =>
  ⟨hg.1.trans hs.os, hg.2.trans hs.tape, hg.3.trans hs.output, Nat.le_trans hs.size hg.size, fun k o hx ho hn => by
    have h1 := hs.same k o hx ho hn
    refine (hg.block k (Array.getElem?_eq_some_iff.1 h1).1 (fun e => ?_)).trans h1
    have h2 := (hr k e.symm).1
    have h3 := (Array.getElem?_eq_some_iff.1 ho).1
    omega, fun k hx h1 h2 => (hg.block k (Nat.lt_of_lt_of_le h2 hs.size) (fun e => by have h3 := (hr k e.symm).1; omega)).trans (hs.old k hx h1 h2)⟩
end Go.Proofs.Yteobndfkkpfnlaa

namespace Go.Proofs.Yteobndfkkpfnlaa
open Go.RowKit Go.Shelf
set_option linter.unusedVariables false
variable {n0 : Nat}

attribute [local go_sem] Oper.semAt_some

/-- a choice as a value -/
def encC (c : C4) : Array Value := #[.agg #[.int .i64 c.k, .int .i64 c.y, .int .i64 c.a, .int .i64 c.b]]
/-- an iterator over a list of choices -/
def SeqL (n0 : Nat) (g : Nat) (lb : Array Value) (X : Nat → Prop) (tot : List C4) (w : World) : Prop := SeqO n0 Try.prog g lb encC X (fun ys => ys = tot) (fun pre => pre <+: tot) (fun pre x => pre ++ [x] <+: tot) w

/-- b with all ahead of it -/
def rwP (y : Int) (l : List Int) (b : Int) : List C4 := l.map fun a => ⟨2, y, a, b⟩
/-- the first n ones with all ahead of them -/
def prP (y : Int) (l : List Int) (n : Nat) : List C4 := (List.range n).flatMap fun i => rwP y (l.take i) (l.getD i 0)
theorem prP_succ (y : Int) (l : List Int) (n : Nat) : prP y l (n + 1) = prP y l n ++ rwP y (l.take n) (l.getD n 0) := by unfold prP; rw [List.range_succ, List.flatMap_append]; simp
theorem prP_pre (y : Int) (l : List Int) {n m : Nat} (h : n ≤ m) : prP y l n <+: prP y l m := by
  induction m with
  | zero => obtain rfl : n = 0 := by omega
            exact List.prefix_refl _
  | succ m ih =>
    rcases Nat.lt_or_ge n (m + 1) with h1 | h1
    · exact (ih (by omega)).trans (by rw [prP_succ]; exact List.prefix_append _ _)
    · obtain rfl : n = m + 1 := by omega
      exact List.prefix_refl _
theorem take_snoc {l : List Int} {k : Nat} (h : k < l.length) : l.take (k + 1) = l.take k ++ [l.getD k 0] := by
  rw [List.take_add_one, List.getElem?_eq_getElem h, List.getD_eq_getElem?_getD, List.getElem?_eq_getElem h]; rfl
theorem rwP_snoc {y : Int} {l : List Int} {b : Int} {k : Nat} (h : k < l.length) : rwP y (l.take (k + 1)) b = rwP y (l.take k) b ++ [⟨2, y, l.getD k 0, b⟩] := by
  unfold rwP; rw [take_snoc h, List.map_append]; rfl
theorem rwP_pre {y : Int} {l : List Int} {b : Int} {k n : Nat} (h : k ≤ n) : rwP y (l.take k) b <+: rwP y (l.take n) b := by
  unfold rwP
  exact List.IsPrefix.map _ (List.take_prefix_take_left h)
theorem at_pre {y : Int} {l : List Int} {t k : Nat} (ht : t < l.length) (hk : k ≤ t) : prP y l t ++ rwP y (l.take k) (l.getD t 0) <+: prP y l l.length := by
  refine List.IsPrefix.trans ?_ (prP_pre y l (show t + 1 ≤ l.length by omega))
  rw [prP_succ, List.prefix_append_right_inj]
  exact rwP_pre hk
theorem pre_lt {tot pre : List C4} {x : C4} (h : pre ++ [x] <+: tot) : pre.length < tot.length := by
  have := h.length_le
  simp at this
  omega

/-- numbers in a slice, as they are read -/
def IntsS (X : Nat → Prop) (w : World) (sp : Option Addr) (l : List Int) : Prop :=
  0 < l.length → ∃ g cs ty, sp = some ⟨g, 0, none⟩ ∧ X g ∧ w.heap[g]? = some (.cells cs 3 ty) ∧ ∀ i, i < l.length → w.cell? ⟨g, i, none⟩ = some (.int .i64 (l.getD i 0))
theorem IntsS.keep {X : Nat → Prop} {w w' : World} {sp : Option Addr} {l : List Int} (h : IntsS X w sp l) (hk : KeptX n0 X w w') : IntsS X w' sp l := by
  intro h0
  obtain ⟨g, cs, ty, e, hx, ho, hc⟩ := h h0
  exact ⟨g, cs, ty, e, hx, hk.same g _ hx ho rfl, fun i hi => hk.cell (p := ⟨g, i, none⟩) hx ⟨cs, 3, ty, ho, by decide⟩ (hc i hi)⟩
/-- a box -/
def BoxX (X : Nat → Prop) (w : World) (b : Nat) (t : TypeId) (v : Value) : Prop := X b ∧ t ≠ 58 ∧ ∃ ty, w.heap[b]? = some (.cells #[v] t ty)
theorem BoxX.keep {X : Nat → Prop} {w w' : World} {b : Nat} {t : TypeId} {v : Value} (h : BoxX X w b t v) (hk : KeptX n0 X w w') : BoxX X w' b t v := by
  obtain ⟨hx, ht, ty, ho⟩ := h
  exact ⟨hx, ht, ty, hk.same b _ hx ho (by simp [nbO, ht])⟩
theorem BoxX.sub {X Y : Nat → Prop} {w : World} {b : Nat} {t : TypeId} {v : Value} (h : BoxX X w b t v) (hy : ∀ k, k < w.heap.size → X k → Y k) : BoxX Y w b t v := by
  obtain ⟨hx, ht, ty, ho⟩ := h
  exact ⟨hy b (Array.getElem?_eq_some_iff.1 ho).1 hx, ht, ty, ho⟩
theorem IntsS.sub {X Y : Nat → Prop} {w : World} {sp : Option Addr} {l : List Int} (h : IntsS X w sp l) (hy : ∀ k, k < w.heap.size → X k → Y k) : IntsS Y w sp l := by
  intro h0
  obtain ⟨g, cs, ty, e, hx, ho, hc⟩ := h h0
  exact ⟨g, cs, ty, e, hy g (Array.getElem?_eq_some_iff.1 ho).1 hx, ho, hc⟩
theorem BoxX.cell {X : Nat → Prop} {w : World} {b : Nat} {t : TypeId} {v : Value} (h : BoxX X w b t v) : w.cell? ⟨b, 0, none⟩ = some v := by
  obtain ⟨_, _, ty, ho⟩ := h
  simp [World.cell?, ho]

set_option maxRecDepth 100000 in
set_option maxHeartbeats 4000000 in
theorem pairs_stops (X : Nat → Prop) (Bs Bk : Nat) (y : Int) (sp : Option Addr) (cap : Nat) (l : List Int) (w : World) (hcap : l.length ≤ cap) (hcm : l.length ≤ 1000) (hs : BoxX X w Bs 41 (.slice sp l.length cap)) (hk : BoxX X w Bk 3 (.int .i64 y)) (hl : IntsS X w sp l) :
    SeqL n0 78 #[.pointer (some ⟨Bs, 0, none⟩), .pointer (some ⟨Bk, 0, none⟩)] X (prP y l l.length) w := fun lo J Jx W hW hX hJ hJx hY h0 => by
  have HS := Lib.hid (hs.keep hW)
  have HK := Lib.hid (hk.keep hW)
  have HL := Lib.hid (hl.keep hW)
  have HJ := Lib.hid hJ
  have hcs := HS.out.cell
  have H0 := Lib.hid h0
  clear hs hk hl hW hJ hJx h0
  refine (callsIn_wide (n := 5)).1 ?_
  refine callsIn_of_wp Try.func78 rfl trivial ?_ rfl
  simp only [Try.ntmps78, List.size_toArray, List.length_cons, List.length_nil, Nat.reduceAdd, Nat.reduceSub, Array.replicate_succ, Array.replicate_zero, List.push_toArray, List.append_toArray, List.nil_append, List.cons_append]
  gi_wp2
  clear hcs
  gi_loopw [4, 5, 7, 10] (fun _ _ _ x wr => ∃ t : Nat, t ≤ l.length ∧ x = .int .i64 (t : Int) ∧ Hid (J (prP y l t) wr ∧ KeptX n0 X W wr)) (fun _ _ _ x _ => l.length - (intOf x).toNat)
  case atStart => exact ⟨0, Nat.zero_le _, rfl, Lib.hid ⟨H0.out, KeptX.refl _ _⟩⟩
  case round =>
    obtain ⟨t, ht, rfl, HT⟩ := hrel
    by_cases hlt : t < l.length
    · have hcs := (HS.out.keep HT.out.2).cell
      obtain ⟨g, cs, ty, rfl, hx, ho, hc⟩ := (HL.out.keep HT.out.2) (by omega)
      obtain ⟨b, eb⟩ : ∃ b, b = l.getD t 0 := ⟨_, rfl⟩
      have x0 := hc t hlt
      rw [← eb] at x0
      have hlt' : (t : Int) < (l.length : Int) := by omega
      have htc : (t : Int) ≤ (cap : Int) := by omega
      clear hc ho
      have HEB := Lib.hid eb
      clear eb
      gi_wp2
      gi_loopw [7, 19] (fun _ x wr => ∃ k : Nat, k ≤ t ∧ x = .int .i64 (k : Int) ∧ Hid (J (prP y l t ++ rwP y (l.take k) b) wr ∧ KeptX n0 X W wr)) (fun _ x _ => t - (intOf x).toNat)
      case atStart => exact ⟨0, Nat.zero_le _, rfl, Lib.hid ⟨by simpa [rwP] using HT.out.1, HT.out.2⟩⟩
      case round =>
        obtain ⟨k, hk, rfl, HR⟩ := hrel
        by_cases hkt : k < t
        · have hck := (HK.out.keep HR.out.2).cell
          obtain ⟨g', cs', ty', e, _, _, hc⟩ := (HL.out.keep HR.out.2) (by omega)
          injection e with e
          injection e with e
          subst e
          obtain ⟨a, ea⟩ : ∃ a, a = l.getD k 0 := ⟨_, rfl⟩
          have x1 := hc k (by omega)
          rw [← ea] at x1
          have hkt' : (k : Int) < (t : Int) := by omega
          have hpre : prP y l t ++ rwP y (l.take (k + 1)) b <+: prP y l l.length := by rw [HEB.out]; exact at_pre hlt (by omega)
          rw [rwP_snoc (by omega), ← ea, ← List.append_assoc] at hpre
          obtain ⟨fn, tmps, assign, body, hy, hR⟩ := hY 4 _ ⟨2, y, a, b⟩ wr HR.out.1 hpre
          unfold encC at hy
          dsimp only at hy
          have HR2 := Lib.hid hR
          have HP := Lib.hid hpre
          have HEA := Lib.hid ea
          clear hc hR hpre ea
          gi_wp2
          refine HR2.out.mono ?_
          rintro e W3 ⟨hk3, ⟨rfl, hJ3⟩ | ⟨rfl, hJx3⟩⟩
          · gi_wp2
            go_roundw
            case rel => exact ⟨k + 1, by omega, by go_num, Lib.hid ⟨by rw [rwP_snoc (by omega), ← HEA.out, ← List.append_assoc]; exact hJ3, HR.out.2.trans hk3⟩⟩
            case measure => simp [intOf]; omega
          · gi_wp2
            refine bodyPost_ret (results_none rfl _ _ _) rfl ?_
            exact ⟨⟨_, rfl⟩, .inr ⟨_, HP.out, hJx3⟩⟩
        · obtain rfl : k = t := by omega
          gi_wp2
          go_roundw
          case rel => exact ⟨k + 1, by omega, by go_num, Lib.hid ⟨by rw [prP_succ, ← HEB.out]; exact HR.out.1, HR.out.2⟩⟩
          case measure => simp [intOf]; omega
    · obtain rfl : t = l.length := by omega
      gi_wp2
      go_end0
      exact ⟨⟨_, rfl⟩, .inl ⟨_, rfl, HT.out.1⟩⟩

set_option maxRecDepth 100000 in
set_option maxHeartbeats 1000000 in
theorem pairs_any (y : Int) (sp : Option Addr) (len cap : Nat) (w : World) :
    Calls Try.prog 63 #[.int .i64 y, .slice sp len cap] w fun e w' => e = .returned (.func (.func 78) #[] #[.pointer (some ⟨w.heap.size + 1, 0, none⟩), .pointer (some ⟨w.heap.size, 0, none⟩)]) ∧ w' = (w.alloc (.cells #[.int .i64 y] 3)).alloc (.cells #[.slice sp len cap] 41) := by
  go_enter Try.func63, Try.ntmps63
  go_wp2
  go_ret
  exact ⟨rfl, rfl⟩
end Go.Proofs.Yteobndfkkpfnlaa

namespace Go.Proofs.Yteobndfkkpfnlaa
open Go.RowKit Go.Shelf
set_option linter.unusedVariables false
variable {n0 : Nat}

attribute [local go_sem] Oper.semAt_some

/-- the pairs of a key -/
def prM (m : Int → List Int) (y : Int) : List C4 := prP y (m y) (m y).length
/-- the pairs of the first j keys -/
def bfL (m : Int → List Int) (j : Nat) : List C4 := ((kyF m).take j).flatMap (prM m)
theorem bfL_succ (m : Int → List Int) {j : Nat} (h : j < (kyF m).length) : bfL m (j + 1) = bfL m j ++ prM m ((kyF m).getD j 0) := by
  unfold bfL; rw [take_snoc h, List.flatMap_append]; simp
theorem bfL_pre (m : Int → List Int) {j : Nat} (h : j ≤ (kyF m).length) : bfL m j <+: bfL m (kyF m).length := by
  have e : (kyF m).take (kyF m).length = (kyF m).take j ++ ((kyF m).take (kyF m).length).drop j := by
    have h2 := (List.take_append_drop j ((kyF m).take (kyF m).length))
    rw [List.take_take, Nat.min_eq_left h] at h2
    exact h2.symm
  unfold bfL
  conv => rhs; rw [e, List.flatMap_append]
  exact List.prefix_append _ _

/-- the box of a round's choice -/
theorem own_box {β : Type} {B : Nat} (p q : Nat → Prop) (cs : Array Value) (t : TypeId) : OwnFrom B (fun (_ : β) W => ∃ Bx, p Bx ∧ W.heap[Bx]? = some (.cells cs t (0, 0)) ∧ q Bx) := by
  rintro s A C row ⟨Bx, h1, h2, h3⟩ hg hr
  refine ⟨Bx, h1, (hg.block Bx (Array.getElem?_eq_some_iff.1 h2).1 (fun e => ?_)).trans h2, h3⟩
  obtain ⟨_, o, e1, e2⟩ := hr Bx e.symm
  rw [h2] at e1
  injection e1 with e1
  rw [← e1] at e2
  cases e2
theorem cells1 {w : World} {b t : Nat} {v0 : Value} {ty : Nat × Nat} (h : w.heap[b]? = some (.cells #[v0] t ty)) : w.cell? ⟨b, 0, none⟩ = some v0 := by simp [World.cell?, h]
theorem cells4' {w : World} {b t : Nat} {v0 v1 v2 v3 : Value} (h : w.heap[b]? = some (.cells #[v0, v1, v2, v3] t (0, 0))) :
    w.cell? ⟨b, 0, none⟩ = some v0 ∧ w.cell? ⟨b, 1, none⟩ = some v1 ∧ w.cell? ⟨b, 2, none⟩ = some v2 ∧ w.cell? ⟨b, 3, none⟩ = some v3 :=
  ⟨by simp [World.cell?, h], by simp [World.cell?, h], by simp [World.cell?, h], by simp [World.cell?, h]⟩
theorem ints_of_own {X : Nat → Prop} {w : World} {base n : Nat} {sp : Option Addr} {cp : Nat} {l : List Int} (h : w.ownsRow base 3 1 (.slice sp n cp) n (l.map (Value.int .i64))) (hn : n = l.length) (hX : ∀ k, base ≤ k → k < w.heap.size → X k) : IntsS X w sp l ∧ l.length ≤ cp := by
  subst hn
  refine ⟨fun h0 => ?_, ?_⟩
  · obtain ⟨g, cap, e, hb, hl⟩ := h.form h0
    injection e with e1 _ _
    subst e1
    obtain ⟨cur, ho⟩ := own_cells h (g := g) rfl
    refine ⟨g, cur, _, rfl, hX g hb hl, ho, fun i hi => ?_⟩
    rw [h.cellAt i (by omega)]
    simp [List.getD_eq_getElem?_getD, List.getElem?_eq_getElem hi]
  · rcases h.2 with ⟨e, h0⟩ | ⟨g, cap, cur, e, _, _, hcap, _⟩
    · omega
    · injection e with _ _ e
      omega

set_option maxRecDepth 100000 in
set_option maxHeartbeats 16000000 in
theorem befores_stops (X : Nat → Prop) (Bw b q : Nat) (m : Int → List Int) (w : World) (h16 : ∀ x, m x ≠ [] → 0 ≤ x ∧ x ≤ 15) (hcm : ∀ y, (m y).length ≤ 1000) (hs : BoxX X w Bw 82 (.map (some b))) (hm : MapG w b q m) (hXb : ∀ k, b ≤ k → k < w.heap.size → X k) :
    SeqL n0 74 #[.pointer (some ⟨Bw, 0, none⟩)] X (bfL m (kyF m).length) w := fun lo J Jx W hW hX hJ hJx hY h0 => by
  have HS := Lib.hid (hs.keep hW)
  have HMK : Hid (∀ Wx, KeptX n0 X W Wx → MapG Wx b q m ∧ ∀ x, In64 x → ∃ sv cv, (Instr.lookup 82 (.map (some b)) (.int .i64 x) false).run Try.prog Wx = .ok (.slice sv (m x).length cv) Wx ∧ IntsS X Wx sv (m x) ∧ (m x).length ≤ cv) := Lib.hid fun Wx hk => by
    have hk2 := hW.trans hk
    have hk3 : ∀ k o, b ≤ k → w.heap[k]? = some o → nbO o = true → Wx.heap[k]? = some o := fun k o hb ho hn => hk2.same k o (hXb k hb (Array.getElem?_eq_some_iff.1 ho).1) ho hn
    refine ⟨hm.keep hk2.size hk3, fun x hx => ?_⟩
    obtain ⟨v, hrun, hoi⟩ := hm.look2 hk2.size hk3 x hx
    obtain ⟨sv, cv, rfl⟩ := own_form' hoi.1
    obtain ⟨h1, h2⟩ := ints_of_own hoi.1 rfl (X := X) (fun k hk4 hk5 => hXb k (by omega) hk5)
    exact ⟨sv, cv, hrun, h1.keep hk2, h2⟩
  have hal : Below W.heap.size W (W.alloc (.cells #[.func (.yield lo) #[] #[]] 127)) := (Below.refl _ _).alloc (Nat.le_refl _) _
  have hal2 : Below (W.heap.size + 1) (W.alloc (.cells #[.func (.yield lo) #[] #[]] 127)) ((W.alloc (.cells #[.func (.yield lo) #[] #[]] 127)).alloc (.cells #[.map (some b)] 82)) := (Below.refl _ _).alloc (by simp) _
  have hcs : (W.alloc (.cells #[.func (.yield lo) #[] #[]] 127)).cell? ⟨Bw, 0, none⟩ = some (.map (some b)) := (HS.out.keep (KeptX.all (n0 := n0) hal)).cell
  have hks := keys_sorted (HMK.out _ (KeptX.all hal)).1 h16
  rw [World.size_alloc] at hks
  have HKS := Lib.hid hks
  clear hks hs hm hW
  refine (callsIn_wide (n := 5)).1 ?_
  refine callsIn_of_wp_marks Try.func74 rfl trivial ?_ rfl
  simp only [Try.ntmps74, List.size_toArray, List.length_cons, List.length_nil, Nat.reduceAdd, Nat.reduceSub, Array.replicate_succ, Array.replicate_zero, List.push_toArray, List.append_toArray, List.nil_append, List.cons_append]
  gi_wp2_with (first | (refine ⟨trivial, ?_⟩; gi_at_call 76; refine (keys_call _ _ _).mono ?_; rintro e w' ⟨rfl, rfl⟩) | (refine ⟨trivial, ?_⟩; gi_at_call 75; refine (callsIn_wide.2 HKS.out).mono ?_; rintro e w2 ⟨sp, cp, rfl, hrow, hb2⟩))
  have hB2 : Below W.heap.size W w2 := hal.trans ((hal2.trans (hb2.mono (by omega))).mono (by omega))
  obtain ⟨hK2, hcp⟩ := ints_of_own hrow rfl (X := X) (fun k hk4 hk5 => hX k (by omega))
  have HK := Lib.hid hK2
  have HYB : Hid (BoxX X w2 W.heap.size 127 (.func (.yield lo) #[] #[])) := Lib.hid ⟨hX _ (Nat.le_refl _), by decide, (0, 0), ((hal2.trans (hb2.mono (by omega))).block _ (by omega)).trans (World.alloc_heap_new W _)⟩
  have HBW := Lib.hid (HS.out.keep (KeptX.all (n0 := n0) hB2))
  have HJ2 := Lib.hid (ownCalm hJ h0 hB2)
  have hW2 : W.heap.size ≤ w2.heap.size := hB2.size
  have hky := kyF_le m
  have HKT : Hid (KeptX n0 X W w2) := Lib.hid (KeptX.all hB2)
  obtain ⟨n, en⟩ : ∃ n, n = (kyF m).length := ⟨_, rfl⟩
  obtain ⟨Y0, eY⟩ : ∃ Y0, Y0 = W.heap.size := ⟨_, rfl⟩
  rw [← en] at hcp hky
  rw [← en, ← eY]
  have hY0 : Y0 ≤ w2.heap.size := by omega
  rw [← eY] at HYB
  have HEN := Lib.hid en
  have HEY := Lib.hid eY
  have HFM : Hid (∀ j, j < n → 0 ≤ (kyF m).getD j 0 ∧ (kyF m).getD j 0 ≤ 15) := Lib.hid fun j hj => by
    have hmem : (kyF m).getD j 0 ∈ kyF m := by
      rw [List.getD_eq_getElem?_getD, List.getElem?_eq_getElem (by omega)]
      exact List.getElem_mem _
    refine h16 _ fun e => ?_
    have := (kyF_mem h16 _).1 hmem
    rw [e] at this
    cases this
  have HSUC : Hid (∀ j, j < n → bfL m (j + 1) = bfL m j ++ prM m ((kyF m).getD j 0)) := Lib.hid fun j hj => bfL_succ m (by omega)
  have HPRE : Hid (∀ j, j ≤ n → bfL m j <+: bfL m n) := Lib.hid fun j hj => by rw [HEN.out]; exact bfL_pre m (by omega)
  have HYY := Lib.hid hY
  have HX := Lib.hid hX
  have HCM := Lib.hid hcm
  rw [← en] at HYY
  clear hrow hb2 hB2 hK2 hal hal2 hcs HKS h0 en eY hY hX h16 hcm hXb HS
  refine wpIn_loop (fun a' wr => ∃ (j : Nat) (Ds : List Nat) (u4 u5 u11 u12 u13 u14 u15 u16 u17 u18 u19 u20 u21 u22 u23 u24 : Value), (j ≤ n ∧ Hid (J (bfL m j) wr ∧ KeptX n0 X w2 wr ∧ OpenD Y0 wr Ds)) ∧
    a' = { tmps := #[.func (.yield lo) #[] #[], .pointer (some ⟨Bw, 0, none⟩), .pointer (some ⟨Y0, 0, none⟩), undef, u4, u5, .map (some b), .func (.func 87) #[] #[.pointer (some ⟨Y0 + 1, 0, none⟩)], .slice sp n cp, .int .i64 (n : Int), .int .i64 (j : Int), u11, u12, u13, u14, u15, u16, u17, u18, u19, u20, u21, u22, u23, u24], defers := marksD Ds })
    (fun a' _ => n - (intOf (a'.tmps.getD 10 undef)).toNat) ⟨0, [], undef, undef, undef, undef, undef, undef, undef, undef, undef, undef, undef, undef, undef, undef, undef, undef, ⟨Nat.zero_le _, Lib.hid ⟨HJ2.out, KeptX.refl _ _, List.nodup_nil, fun D hD => by cases hD⟩⟩, rfl⟩ ?_
  rintro a' wr ⟨j, Ds, u4, u5, u11, u12, u13, u14, u15, u16, u17, u18, u19, u20, u21, u22, u23, u24, ⟨hj, HI⟩, rfl⟩
  by_cases hlt : j < n
  · have hlt' : (j : Int) < (n : Int) := by omega
    obtain ⟨g, cs, ty, rfl, hgx, hgo, hgc⟩ := (HK.out.keep HI.out.2.1) (by have := HEN.out; omega)
    obtain ⟨y, ey⟩ : ∃ y, y = (kyF m).getD j 0 := ⟨_, rfl⟩
    have x0 := hgc j (by have := HEN.out; omega)
    rw [← ey] at x0
    have hy16 := HFM.out j hlt
    rw [← ey] at hy16
    have hsu := HSUC.out j hlt
    rw [← ey] at hsu
    have HSU := Lib.hid hsu
    have hcb := (HBW.out.keep HI.out.2.1).cell
    obtain ⟨sv, cv, hlook, hiv, hcv⟩ := (HMK.out wr (HKT.out.trans HI.out.2.1)).2 y (by unfold In64; omega)
    have HIV := Lib.hid hiv
    have hln := HCM.out y
    have HYV := Lib.hid ey
    clear hgc hgo hsu hiv ey
    gi_wp2_with (first | (refine ⟨trivial, ?_⟩; gi_at_call 63; refine (callsIn_wide.2 (pairs_any _ _ _ _ _)).mono ?_; rintro e w' ⟨rfl, rfl⟩))
    obtain ⟨P0, eP⟩ : ∃ P0, P0 = wr.heap.size := ⟨_, rfl⟩
    obtain ⟨W0, eW0⟩ : ∃ W0, W0 = (wr.alloc (.cells #[.int .i64 y] 3)).alloc (.cells #[.slice sv (m y).length cv] 41) := ⟨_, rfl⟩
    have hz0 : W0.heap.size = P0 + 2 := by rw [eW0, eP]; simp
    have hB0 : Below wr.heap.size wr W0 := by rw [eW0]; exact ((Below.refl _ _).alloc (Nat.le_refl _) _).alloc (by simp) _
    have hwr : W.heap.size ≤ wr.heap.size := Nat.le_trans hW2 HI.out.2.1.size
    have hbk : BoxX X W0 P0 3 (.int .i64 y) := ⟨HX.out _ (by omega), by decide, (0, 0), by rw [eW0, eP]; exact (Below.heap_alloc _ _ _ (by simp)).trans (World.alloc_heap_new wr _)⟩
    have hbs : BoxX X W0 (P0 + 1) 41 (.slice sv (m y).length cv) := ⟨HX.out _ (by omega), by decide, (0, 0), by rw [eW0, eP]; have := World.alloc_heap_new (wr.alloc (.cells #[.int .i64 y] 3)) (.cells #[.slice sv (m y).length cv] 41); rw [World.size_alloc] at this; exact this⟩
    have hsb : ∀ k, k < W0.heap.size → X k → (X k ∧ k ≠ W0.heap.size ∧ k ≠ W0.heap.size + 1) := fun k h1 h2 => ⟨h2, by omega, by omega⟩
    have hps := pairs_stops (n0 := n0) (fun k => X k ∧ k ≠ W0.heap.size ∧ k ≠ W0.heap.size + 1) (P0 + 1) P0 y sv cv (m y) W0 hcv hln (hbs.sub hsb) (hbk.sub hsb) ((HIV.out.keep (KeptX.all (n0 := n0) hB0)).sub hsb)
    have hJ0 := ownCalm hJ HI.out.1 hB0
    have HK0 : Hid (KeptX n0 X w2 W0) := Lib.hid (HI.out.2.1.trans (KeptX.all hB0))
    have HO0 : Hid (OpenD Y0 W0 Ds) := Lib.hid (HI.out.2.2.keep (KeptX.all (n0 := n0) (X := X) hB0) (fun k hk => HX.out k (by rw [← HEY.out]; exact hk)))
    have hDs : ∀ D, D ∈ Ds → D < W0.heap.size := fun D hD => (Array.getElem?_eq_some_iff.1 (HO0.out.2 D hD).2).1
    have hWP : W.heap.size ≤ P0 := by omega
    rw [← eW0, ← eP]
    have HPS := Lib.hid hps
    have HJ0 := Lib.hid hJ0
    clear eW0 eP hbk hbs hsb hB0 hps hJ0 hlook HIV
    refine range_o (gf := 78) (lb := #[.pointer (some ⟨P0 + 1, 0, none⟩), .pointer (some ⟨P0, 0, none⟩)]) rfl (enters_of Try.func78 (by kernel_rfl) rfl) X HPS.out (KeptX.refl _ _) (fun k hk => HX.out k (by omega)) (fun _ => rfl)
      (fun pre Wx => J (bfL m j ++ pre) Wx ∧ KeptX n0 X W0 Wx) (fun c pre Wx => c = .ret ∧ Jx (bfL m j ++ pre) Wx ∧ KeptX n0 X W0 Wx)
      (fun s A C row hs hg hr => ⟨ownMono hJ (by omega) _ A C row hs.1 hg hr, ownFrom_kept (β := Unit) (Nat.le_refl _) () A C row hs.2 hg hr⟩)
      (fun c s A C row hs hg hr => ⟨hs.1, ownMono hJx (by omega) _ A C row hs.2.1 hg hr, ownFrom_kept (β := Unit) (Nat.le_refl _) () A C row hs.2.2 hg hr⟩)
      ⟨by rw [List.append_nil]; exact HJ0.out, KeptX.refl _ _⟩
      (fun x a' Wx => ∃ Bx, W0.heap.size ≤ Bx ∧ Wx.heap[Bx]? = some (.cells #[.int .i64 x.k, .int .i64 x.y, .int .i64 x.a, .int .i64 x.b] 58 (0, 0)) ∧
        a' = { tmps := #[.func (.yield lo) #[] #[], .pointer (some ⟨Bw, 0, none⟩), .pointer (some ⟨Y0, 0, none⟩), undef, .int .i64 y, .pointer (some ⟨Bx, 0, none⟩), .map (some b), .func (.func 87) #[] #[.pointer (some ⟨Y0 + 1, 0, none⟩)], .slice (some ⟨g, 0, none⟩) n cp, .int .i64 (n : Int), .int .i64 (j : Int), .bool true, .pointer (some ⟨g, j, none⟩), .int .i64 y, .int .i64 y, .map (some b), .int .i64 y, .slice sv (m y).length cv, .func (.func 78) #[] #[.pointer (some ⟨P0 + 1, 0, none⟩), .pointer (some ⟨P0, 0, none⟩)], .agg #[.int .i64 x.k, .int .i64 x.y, .int .i64 x.a, .int .i64 x.b], u20, u21, u22, u23, u24], defers := [] })
      (fun x a' => own_box _ _ _ _) ?assign ?body ?done ?stop
    case assign =>
      rintro l pre x Wx K hI hK
      have hal : Below Wx.heap.size Wx (Wx.alloc (.cells #[.int .i64 x.k, .int .i64 x.y, .int .i64 x.a, .int .i64 x.b] 58)) := (Below.refl _ _).alloc (Nat.le_refl _) _
      unfold encC
      gi_wp2
      exact hK _ _ (KeptX.all hal) ⟨ownCalm hJ hI.1 hal, hI.2.trans (KeptX.all hal)⟩ ⟨Wx.heap.size, hI.2.size, World.alloc_heap_new Wx _, rfl⟩
    case body =>
      rintro l pre x a' Wx hl ⟨r, hr⟩ hI ⟨Bx, hBx, hXX, rfl⟩ hlen
      obtain ⟨z0, z1, z2, z3⟩ := cells4' hXX
      have hyb := (HYB.out.keep (HK0.out.trans hI.2)).cell
      obtain ⟨fn, tmps, assign, body, hy, hR⟩ := HYY.out (5 - 1 - 1 - 1) _ x Wx hI.1 (by rw [List.append_assoc]; exact List.IsPrefix.trans (by rw [HSU.out, List.prefix_append_right_inj]; exact hlen) (HPRE.out (j + 1) (by omega)))
      unfold encC at hy
      have HR := Lib.hid hR
      have HKX := Lib.hid hI.2
      clear hR hI hr hXX
      gi_wp2
      refine HR.out.mono ?_
      rintro e W3 ⟨hk3, ⟨rfl, hJ3⟩ | ⟨rfl, hJx3⟩⟩
      · gi_wp2
        exact ⟨hk3, by rw [← List.append_assoc]; exact hJ3, HKX.out.trans hk3⟩
      · gi_wp2
        exact ⟨hk3, rfl, by rw [← List.append_assoc]; exact hJx3, HKX.out.trans hk3⟩
    case done =>
      rintro D xs Wx hD rfl hI hopen
      have HFIN : Hid (j + 1 ≤ n ∧ Hid (J (bfL m (j + 1)) Wx ∧ KeptX n0 X w2 Wx ∧ OpenD Y0 Wx (D :: Ds))) := Lib.hid ⟨by omega, Lib.hid ⟨by rw [HSU.out]; exact hI.1, HK0.out.trans hI.2, (HO0.out.keep hI.2 (fun k hk => HX.out k (by rw [← HEY.out]; exact hk))).cons (by have := HEY.out; omega) hopen (fun h => by have := hDs D h; omega)⟩⟩
      clear hI hopen
      gi_wp2
      refine ⟨⟨j + 1, D :: Ds, ?_⟩, by simp [intOf]; omega⟩
      repeat apply Exists.intro
      exact ⟨HFIN.out, rfl⟩
    case stop =>
      rintro D c pre Wx hD hSp ⟨rfl, hjx, hk⟩ hopen
      have HFIN : Hid (OpenD Y0 Wx (D :: Ds)) := Lib.hid ((HO0.out.keep hk (fun k hk => HX.out k (by rw [← HEY.out]; exact hk))).cons (by have := HEY.out; omega) hopen (fun h => by have := hDs D h; omega))
      have HSP : Hid (bfL m j ++ pre <+: bfL m n) := Lib.hid (List.IsPrefix.trans (by rw [HSU.out, List.prefix_append_right_inj]; exact hSp) (HPRE.out (j + 1) (by omega)))
      have HJX := Lib.hid hjx
      clear hopen hk hjx hSp
      gi_wp2
      refine leaves_all (B := Y0) (fun W' => Jx (bfL m j ++ pre) W') (fun W' D hq hB hD => ?_) (fun W' hq => ?_) (D :: Ds) Wx HFIN.out HJX.out
      · exact hJx.putObj _ hq (by rw [← HEY.out]; exact hB) hD rfl
      · exact ⟨_, results_none rfl _ _ _, ⟨_, rfl⟩, .inr ⟨_, by rw [← HEN.out]; exact HSP.out, hq⟩⟩
  · obtain rfl : j = n := by omega
    gi_wp2
    refine leaves_all (B := Y0) (fun W' => J (bfL m j) W') (fun W' D hq hB hD => ?_) (fun W' hq => ?_) Ds wr HI.out.2.2 HI.out.1
    · exact hJ.putObj _ hq (by rw [← HEY.out]; exact hB) hD rfl
    · exact ⟨_, results_none rfl _ _ _, ⟨_, rfl⟩, .inl ⟨_, by rw [HEN.out], hq⟩⟩
end Go.Proofs.Yteobndfkkpfnlaa

namespace Go.Proofs.Yteobndfkkpfnlaa
open Go.RowKit Go.Shelf
set_option linter.unusedVariables false
variable {n0 : Nat}

attribute [local go_sem] Oper.semAt_some

theorem KeptX.below {X : Nat → Prop} {wt w Wx : World} (h : KeptX n0 X w Wx) (hb : Below wt.heap.size wt w) (hn : wt.heap.size ≤ n0) (hx : ∀ k, k < wt.heap.size → X k) : Below wt.heap.size wt Wx :=
  ⟨h.os.trans hb.os, h.tape.trans hb.tape, h.output.trans hb.output, Nat.le_trans hb.size h.size, fun k hk => (h.old k (hx k hk) (by omega) (Nat.lt_of_lt_of_le hk hb.size)).trans (hb.block k hk)⟩
/-- bools in a row, as they are read -/
def BolS (X : Nat → Prop) (w : World) (g m : Nat) (S : Nat → Bool) : Prop := X g ∧ ∃ cs ty, w.heap[g]? = some (.cells cs 4 ty) ∧ ∀ i, i < m → w.cell? ⟨g, i, none⟩ = some (.bool (S i))
theorem BolS.keep {X : Nat → Prop} {w w' : World} {g m : Nat} {S : Nat → Bool} (h : BolS X w g m S) (hk : KeptX n0 X w w') : BolS X w' g m S := by
  obtain ⟨hx, cs, ty, ho, hc⟩ := h
  exact ⟨hx, cs, ty, hk.same g _ hx ho rfl, fun i hi => hk.cell (p := ⟨g, i, none⟩) hx ⟨cs, 4, ty, ho, by decide⟩ (hc i hi)⟩
theorem BolS.sub {X Y : Nat → Prop} {w : World} {g m : Nat} {S : Nat → Bool} (h : BolS X w g m S) (hy : ∀ k, k < w.heap.size → X k → Y k) : BolS Y w g m S := by
  obtain ⟨hx, cs, ty, ho, hc⟩ := h
  exact ⟨hy g (Array.getElem?_eq_some_iff.1 ho).1 hx, cs, ty, ho, hc⟩
theorem chC_pre {T : Nat → Tx} {m a b : Nat} (h : a ≤ b) : chC T m a <+: chC T m b := by
  induction b with
  | zero => obtain rfl : a = 0 := by omega
            exact List.prefix_refl _
  | succ b ih =>
    rcases Nat.lt_or_ge a (b + 1) with h1 | h1
    · refine (ih (by omega)).trans ?_
      obtain ⟨h2, h3⟩ := chC_succ T m b
      by_cases hc : unT (T b) ∧ suL T m b = false
      · rw [h2 hc]; exact List.prefix_append _ _
      · rw [h3 hc]; exact List.prefix_refl _
    · obtain rfl : a = b + 1 := by omega
      exact List.prefix_refl _

set_option maxRecDepth 100000 in
set_option maxHeartbeats 8000000 in
theorem commits_stops (X : Nat → Prop) (Bt Bs gs : Nat) (a : Option Addr) (m cap : Nat) (T : Nat → Tx) (wt w : World) (hb : BoxX X w Bt 25 (.slice a m cap)) (hb2 : BoxX X w Bs 35 (.slice (some ⟨gs, 0, none⟩) m m)) (hS : BolS X w gs m (suL T m))
    (hs : TxS wt a m T) (ok : TOk m T) (hwt : Below wt.heap.size wt w) (hn0 : wt.heap.size ≤ n0) (hxt : ∀ k, k < wt.heap.size → X k) :
    SeqL n0 73 #[.pointer (some ⟨Bt, 0, none⟩), .pointer (some ⟨Bs, 0, none⟩)] X (chC T m m) w := fun lo J Jx W hW hX hJ hJx hY h0 => by
  have HBT := Lib.hid (hb.keep hW)
  have HBS := Lib.hid (hb2.keep hW)
  have HSU := Lib.hid (hS.keep hW)
  have HTX : Hid (∀ Wx, KeptX n0 X W Wx → TxS Wx a m T) := Lib.hid fun Wx hk => hs.below ((hW.trans hk).below hwt hn0 hxt)
  have HOK := Lib.hid ok
  have hm4 := ok.cnt
  have H0 := Lib.hid h0
  have hcs := HBT.out.cell
  have HYY := Lib.hid hY
  clear hb hb2 hS hs hwt hxt h0 hW hY ok
  refine (callsIn_wide (n := 5)).1 ?_
  refine callsIn_of_wp Try.func73 rfl trivial ?_ rfl
  simp only [Try.ntmps73, List.size_toArray, List.length_cons, List.length_nil, Nat.reduceAdd, Nat.reduceSub, Array.replicate_succ, Array.replicate_zero, List.push_toArray, List.append_toArray, List.nil_append, List.cons_append]
  gi_wp2
  clear hcs
  gi_loopw [4, 5, 8] (fun _ _ x wr => ∃ t : Nat, t ≤ m ∧ x = .int .i64 (t : Int) ∧ Hid (J (chC T m t) wr ∧ KeptX n0 X W wr)) (fun _ _ x _ => m - (intOf x).toNat)
  case atStart => exact ⟨0, Nat.zero_le _, rfl, Lib.hid ⟨by rw [chC_zero]; exact H0.out, KeptX.refl _ _⟩⟩
  case round =>
    obtain ⟨t, ht, rfl, HT⟩ := hrel
    by_cases hlt : t < m
    · obtain ⟨b, off, rfl, hbl, hci⟩ := HTX.out wr HT.out.2 (by omega)
      obtain ⟨sp, cp, x0, x1, x2, ho⟩ := hci t hlt
      have hlt' : (t : Int) < (m : Int) := by omega
      have hn1 := HOK.out.n t hlt
      obtain ⟨NY, NN⟩ := chC_succ T m t
      have HYS := Lib.hid NY
      have HNO := Lib.hid NN
      have hal : ∀ o, Below wr.heap.size wr (wr.alloc o) := fun o => (Below.refl _ _).alloc (Nat.le_refl _) _
      have hbs : ∀ o, (wr.alloc o).cell? ⟨Bs, 0, none⟩ = some (.slice (some ⟨gs, 0, none⟩) m m) := fun o => ((HBS.out.keep HT.out.2).keep (KeptX.all (n0 := n0) (hal o))).cell
      have hsc : ∀ o, (wr.alloc o).cell? ⟨gs, t, none⟩ = some (.bool (suL T m t)) := fun o => by
        obtain ⟨_, _, _, _, hc⟩ := (HSU.out.keep HT.out.2).keep (KeptX.all (n0 := n0) (hal o))
        exact hc t hlt
      have HAL := Lib.hid hal
      have HOP := Lib.hid ho
      clear hci ho NY NN hal
      cases hsu : suL T m t with
      | true =>
        have HNX := Lib.hid (HNO.out (fun h => by rw [hsu] at h; cases h.2))
        rw [hsu] at hsc
        have hb1 := hbs (.cells #[.int .i64 (T t).c, .int .i64 (T t).st, .slice sp (T t).n cp] 47)
        have hs1 := hsc (.cells #[.int .i64 (T t).c, .int .i64 (T t).st, .slice sp (T t).n cp] 47)
        have HW := Lib.hid (HAL.out (.cells #[.int .i64 (T t).c, .int .i64 (T t).st, .slice sp (T t).n cp] 47))
        clear hbs hsc hsu HYS HNO HOP
        generalize (T t).c = tc at *
        generalize (T t).st = tst at *
        generalize (T t).n = tn at *
        gi_wp2
        refine ⟨trivial, ?_⟩
        gi_wp2
        refine ⟨trivial, ?_⟩
        gi_wp2
        refine ⟨fun _ h => (by cases h), ?_⟩
        gi_wp2
        go_roundw
        case rel => exact ⟨t + 1, by omega, by go_num, Lib.hid ⟨by rw [HNX.out]; exact ownCalm hJ HT.out.1 HW.out, HT.out.2.trans (KeptX.all HW.out)⟩⟩
        case measure => simp [intOf]; omega
      | false =>
        rw [hsu] at hsc
        have hb1 := hbs (.cells #[.int .i64 (T t).c, .int .i64 (T t).st, .slice sp (T t).n cp] 47)
        have hs1 := hsc (.cells #[.int .i64 (T t).c, .int .i64 (T t).st, .slice sp (T t).n cp] 47)
        have HW := Lib.hid (HAL.out (.cells #[.int .i64 (T t).c, .int .i64 (T t).st, .slice sp (T t).n cp] 47))
        have hU := fun bb => unsettled_any (T t).c (T t).st sp (T t).n cp (T t).o bb _ (by omega) (HOP.out.below HW.out)
        by_cases hu : unT (T t)
        · have HU := Lib.hid (hU true (by simp [hu]))
          have HNX := Lib.hid (HYS.out ⟨hu, hsu⟩)
          clear hbs hsc hsu HYS HNO HOP hU hu
          generalize (T t).c = tc at *
          generalize (T t).st = tst at *
          generalize (T t).n = tn at *
          have HPL : Hid (chC T m t ++ [⟨1, 0, (t : Int), 0⟩] <+: chC T m m) := Lib.hid (by rw [← HNX.out]; exact chC_pre (by omega))
          gi_wp2_with (first | (refine ⟨trivial, ?_⟩; gi_at_call 54; refine (callsIn_wide.2 HU.out).mono ?_; rintro e w3 ⟨rfl, hb3⟩; have HB3 := Lib.hid (HW.out.trans (hb3.mono HW.out.size)); clear hb3) | (refine ⟨trivial, ?_⟩; gi_at_call 55; refine (callsIn_wide.2 (commitOf_any _ _)).mono ?_; rintro e w4 ⟨rfl, hb4⟩; have HB4 := Lib.hid (HB3.out.trans (hb4.mono HB3.out.size)); clear hb4; obtain ⟨fn, tmps, assign, body, hy, hR⟩ := HYY.out (5 - 1) _ ⟨1, 0, (t : Int), 0⟩ w4 (ownCalm hJ HT.out.1 HB4.out) HPL.out; unfold encC at hy; dsimp only at hy; unfold cho))
          refine hR.mono ?_
          rintro e W3 ⟨hk3, ⟨rfl, hJ3⟩ | ⟨rfl, hJx3⟩⟩
          · gi_wp2
            go_roundw
            case rel => exact ⟨t + 1, by omega, by go_num, Lib.hid ⟨by rw [HNX.out]; exact hJ3, (HT.out.2.trans (KeptX.all HB4.out)).trans hk3⟩⟩
            case measure => simp [intOf]; omega
          · gi_wp2
            refine bodyPost_ret (results_none rfl _ _ _) rfl ?_
            refine ⟨⟨_, rfl⟩, .inr ⟨_, ?_, hJx3⟩⟩
            rw [← HNX.out]
            exact chC_pre (by omega)
        · have HU := Lib.hid (hU false (by simp [hu]))
          have HNX := Lib.hid (HNO.out (fun h => hu h.1))
          clear hbs hsc hsu HYS HNO HOP hU hu
          generalize (T t).c = tc at *
          generalize (T t).st = tst at *
          generalize (T t).n = tn at *
          gi_wp2_with (first | (refine ⟨trivial, ?_⟩; gi_at_call 54; refine (callsIn_wide.2 HU.out).mono ?_; rintro e w3 ⟨rfl, hb3⟩; have HB3 := Lib.hid (HW.out.trans (hb3.mono HW.out.size)); clear hb3))
          refine ⟨trivial, ?_⟩
          gi_wp2
          refine ⟨fun _ h => (by cases h), ?_⟩
          gi_wp2
          go_roundw
          case rel => exact ⟨t + 1, by omega, by go_num, Lib.hid ⟨by rw [HNX.out]; exact ownCalm hJ HT.out.1 HB3.out, HT.out.2.trans (KeptX.all HB3.out)⟩⟩
          case measure => simp [intOf]; omega
    · obtain rfl : t = m := by omega
      gi_wp2
      go_end0
      exact ⟨⟨_, rfl⟩, .inl ⟨_, rfl, HT.out.1⟩⟩
end Go.Proofs.Yteobndfkkpfnlaa

namespace Go.Proofs.Yteobndfkkpfnlaa
open Go.ChangeShapes Go.WideShapes Go.ChangeAt Go.RowKit Go.Maps
set_option linter.unusedVariables false

set_option maxRecDepth 100000 in
theorem info3i : (Try.prog.info? 3).map (fun i => (i.zero, i.size, i.bytes)) = some (some (.int .i64 0), 1, 8) := by kernel_rfl

open Classical in
/-- who counts and writes a key, of the first t ones -/
noncomputable def wlF (T : Nat → Tx) (c : Nat → Bool) (t : Nat) (y : Int) : List Int := ((List.range t).filter fun i => decide (c i = true ∧ wkT (T i) y)).map fun (i : Nat) => (i : Int)
/-- by the first j operations -/
def hitT (T : Nat → Tx) (t j : Nat) (y : Int) : Prop := ∃ i, i < j ∧ ((T t).o i).k = 2 ∧ ((T t).o i).key = y
open Classical in
/-- .. and of the next one the first j operations -/
noncomputable def gsF (T : Nat → Tx) (c : Nat → Bool) (t j : Nat) (y : Int) : List Int := wlF T c t y ++ if hitT T t j y then [(t : Int)] else []
section
variable {T : Nat → Tx} {c : Nat → Bool} {t j : Nat}
theorem wlF_zero : wlF T c 0 = fun _ => [] := by funext y; unfold wlF; simp
theorem wlF_succ (y : Int) : (c t = true ∧ wkT (T t) y → wlF T c (t + 1) y = wlF T c t y ++ [(t : Int)]) ∧ (¬ (c t = true ∧ wkT (T t) y) → wlF T c (t + 1) y = wlF T c t y) := by
  constructor
  · intro h; unfold wlF; rw [List.range_succ, List.filter_append, List.map_append]; simp [h]
  · intro h; unfold wlF; rw [List.range_succ, List.filter_append, List.map_append]
    simp only [List.filter_cons, List.filter_nil]; rw [if_neg (fun hh => h (@of_decide_eq_true _ (_) hh)), List.map_nil, List.append_nil]
theorem wlF_lt {y z : Int} (h : z ∈ wlF T c t y) : ∃ i : Nat, z = (i : Int) ∧ i < t ∧ c i = true ∧ wkT (T i) y := by
  unfold wlF at h
  obtain ⟨i, hi, rfl⟩ := List.mem_map.1 h
  obtain ⟨h1, h2⟩ := List.mem_filter.1 hi
  have h3 := @of_decide_eq_true _ (_) h2
  exact ⟨i, rfl, List.mem_range.1 h1, h3⟩
theorem wlF_le (y : Int) : (wlF T c t y).length ≤ t := by
  unfold wlF
  rw [List.length_map]
  exact Nat.le_trans (List.length_filter_le _ _) (by simp)
theorem gsF_zero : gsF T c t 0 = wlF T c t := by
  funext y; unfold gsF
  rw [if_neg (fun ⟨i, h, _⟩ => absurd h (Nat.not_lt_zero _)), List.append_nil]
theorem gsF_all (h : c t = true) : gsF T c t (T t).n = wlF T c (t + 1) := by
  funext y; unfold gsF
  by_cases hw : hitT T t (T t).n y
  · rw [if_pos hw, (wlF_succ y).1 ⟨h, hw⟩]
  · rw [if_neg hw, (wlF_succ y).2 (fun hh => hw hh.2), List.append_nil]
theorem wlF_skip (h : c t ≠ true) : wlF T c (t + 1) = wlF T c t := by funext y; exact (wlF_succ y).2 (fun hh => h hh.1)
theorem hit_succ (y : Int) : hitT T t (j + 1) y ↔ hitT T t j y ∨ ((T t).o j).k = 2 ∧ ((T t).o j).key = y := by
  constructor
  · rintro ⟨i, h1, h2⟩
    by_cases e : i = j
    · subst e; exact .inr h2
    · exact .inl ⟨i, by omega, h2⟩
  · rintro (⟨i, h1, h2⟩ | h)
    · exact ⟨i, by omega, h2⟩
    · exact ⟨j, by omega, h⟩
theorem gsF_same (h : ¬ (((T t).o j).k = 2 ∧ ¬ hitT T t j ((T t).o j).key)) : gsF T c t (j + 1) = gsF T c t j := by
  funext y; unfold gsF
  have e : hitT T t (j + 1) y ↔ hitT T t j y := by
    rw [hit_succ]
    refine ⟨fun hh => hh.elim id fun ⟨h1, h2⟩ => ?_, .inl⟩
    by_cases h3 : hitT T t j y
    · exact h3
    · exact absurd ⟨h1, by rw [h2]; exact h3⟩ h
  rw [propext e]
theorem gsF_more (h : ((T t).o j).k = 2) (hn : ¬ hitT T t j ((T t).o j).key) : gsF T c t (j + 1) = fun y => if y = ((T t).o j).key then gsF T c t j ((T t).o j).key ++ [(t : Int)] else gsF T c t j y := by
  funext y
  by_cases e : y = ((T t).o j).key
  · rw [if_pos e, e]
    unfold gsF
    rw [if_pos ((hit_succ _).2 (.inr ⟨h, rfl⟩)), if_neg hn, List.append_nil]
  · rw [if_neg e]
    unfold gsF
    have e2 : hitT T t (j + 1) y ↔ hitT T t j y := by
      rw [hit_succ]
      exact ⟨fun hh => hh.elim id fun ⟨_, h2⟩ => absurd h2.symm e, .inl⟩
    rw [propext e2]
theorem gsF_last {y : Int} (n : Nat) (hn : (gsF T c t j y).length = n + 1) : (gsF T c t j y).getD n 0 = (t : Int) ↔ hitT T t j y := by
  have hmem : (gsF T c t j y).getD n 0 ∈ gsF T c t j y := by
    rw [List.getD_eq_getElem?_getD, List.getElem?_eq_getElem (by omega)]
    exact List.getElem_mem _
  constructor
  · intro h
    by_cases hw : hitT T t j y
    · exact hw
    · rw [h] at hmem
      unfold gsF at hmem
      rw [if_neg hw, List.append_nil] at hmem
      obtain ⟨i, e, hi, _⟩ := wlF_lt hmem
      omega
  · intro hw
    unfold gsF at hn ⊢
    rw [if_pos hw] at hn ⊢
    have hl : (wlF T c t y).length = n := by simpa using hn
    rw [List.getD_eq_getElem?_getD, List.getElem?_append_right (by omega), hl]
    simp
theorem gsF_nil {y : Int} (hn : (gsF T c t j y).length = 0) : ¬ hitT T t j y := by
  intro hw
  unfold gsF at hn
  rw [if_pos hw] at hn
  simp at hn
theorem gsF_le (y : Int) : (gsF T c t j y).length ≤ t + 1 := by
  unfold gsF
  rw [List.length_append]
  have := wlF_le (T := T) (c := c) (t := t) y
  split <;> simp <;> omega
end
def WoP (m : Nat) (M : Int → List Int) (w : World) (e : Ending) (w' : World) : Prop := e = .returned (.map (some w.heap.size)) ∧ ∃ q, q ≤ 100 * m ∧ MapG w' w.heap.size q M ∧ Below w.heap.size w w'
end Go.Proofs.Yteobndfkkpfnlaa

namespace Go.Proofs.Yteobndfkkpfnlaa
open Go.ChangeShapes Go.WideShapes Go.ChangeAt Go.RowKit Go.Maps
set_option linter.unusedVariables false

/-- the map's memory -/
structure WoS (w : World) (B M n : Nat) (wr : World) (F : Int → List Int) : Prop where
  low : M + 1 ≤ wr.heap.size
  bm : B ≤ M
  bel : Below B w wr
  map : ∃ q, q ≤ n ∧ MapG wr M q F
theorem WoS.keep {w wr wr' : World} {B M n n' : Nat} {F : Int → List Int} (h : WoS w B M n wr F) (hb : Below wr.heap.size wr wr') (hn : n ≤ n') : WoS w B M n' wr' F := by
  obtain ⟨q, hq, hm⟩ := h.map
  exact ⟨Nat.le_trans h.low hb.size, h.bm, h.bel.trans (hb.mono (by have := h.low; have := h.bm; omega)), q, by omega, hm.below hb⟩

theorem grown_below {w w' : World} (h : Below w.heap.size w w') (row : Option Nat) : w.grownBy w' row := ⟨h.os, h.tape, h.output, h.size, fun k hk _ => h.block k hk⟩
set_option maxRecDepth 100000 in
/-- a list that has grown goes into the map -/
theorem WoS.wrote {w wb w7 : World} {B M n ln g7 c7 : Nat} {F : Int → List Int} {okey t : Int} {sv : Option Addr} {cv q : Nat} {L : List Int} {o : Obj} (h : WoS w B M n wb F) (hq : q ≤ n) (hbk : BackG wb M q F okey (.slice sv ln cv)) (hoi : wb.ownsInts (M + 1) 3 .i64 (.slice sv ln cv) L) (hln : ln = L.length) (hle : ln ≤ q) (ht : In64 t)
    (ho7 : w7.ownsRow (M + 1) 3 1 (.slice (some ⟨g7, 0, none⟩) (ln + 1) c7) (ln + 1) (L.map (Value.int .i64) ++ [.int .i64 t])) (hg7 : (wb.drew.alloc o).grownBy w7 (Value.slice sv ln cv).ownBlock) (hat : (Value.slice sv ln cv).ownBlock = some g7 ∨ g7 = (wb.drew.alloc o).heap.size) :
    ∃ w8, (Instr.mapUpdate 82 (.map (some M)) (.int .i64 okey) (.slice (some ⟨g7, 0, none⟩) (ln + 1) c7)).run Try.prog w7 = .ok () w8 ∧ WoS w B M (n + 1) w8 (fun k => if k = okey then L ++ [t] else F k) := by
  have hb : Below wb.heap.size wb (wb.drew.alloc o) := ((Below.refl _ _).drew).alloc (Nat.le_refl _) _
  have hgw : wb.grownBy w7 (Value.slice sv ln cv).ownBlock := (grown_below hb _).trans hg7
  obtain ⟨w8, hrun, hm, hg8⟩ := hbk w7 (.slice (some ⟨g7, 0, none⟩) (ln + 1) c7) (L ++ [t]) hgw ⟨by simpa [hln] using ho7, by
    intro z hz
    rcases List.mem_append.1 hz with hz | hz
    · exact hoi.2 z hz
    · obtain rfl : z = t := by simpa using hz
      exact wf64 ht⟩ (by simp; omega) (by simp) (hat.elim (fun e => .inl e.symm) fun e => .inr ⟨g7, rfl, by rw [e]; exact hb.size⟩)
  have h1 := h.low
  have h2 := h.bm
  refine ⟨w8, hrun, Nat.le_trans h1 (Nat.le_trans hgw.size hg8.size), h2, ?_, q + 1, by omega, hm⟩
  refine (h.bel.grown hgw (by omega) fun k e => ?_).grown hg8 (Nat.le_trans (by omega) hgw.size) fun k e => by injection e with e; omega
  have := (hoi.1.lt k e).1
  omega
theorem box_keep {wb w7 : World} {M P : Nat} {v : Value} {L : List Int} {o : Obj} {cs : Array Value} (hoi : wb.ownsInts (M + 1) 3 .i64 v L) (hp : wb.heap[P]? = some (.cells cs 44 (0, 0))) (hg7 : (wb.drew.alloc o).grownBy w7 v.ownBlock) : w7.heap[P]? = some (.cells cs 44 (0, 0)) := by
  have hb : Below wb.heap.size wb (wb.drew.alloc o) := ((Below.refl _ _).drew).alloc (Nat.le_refl _) _
  refine (((grown_below hb v.ownBlock).trans hg7).block P (Array.getElem?_eq_some_iff.1 hp).1 fun e => ?_).trans hp
  obtain ⟨cur, e1⟩ := own_cells hoi.1 e.symm
  rw [hp] at e1
  injection e1 with e1
  injection e1 with _ e1 _
  cases e1

set_option maxRecDepth 100000 in
set_option maxHeartbeats 16000000 in
theorem writersOf_any (a : Option Addr) (m cap : Nat) (T : Nat → Tx) (gc : Nat) (c : Nat → Bool) (w : World) (hs : TxS w a m T) (ok : TOk m T) (hc : BoS w gc m c) :
    Calls Try.prog 60 #[.slice a m cap, .slice (some ⟨gc, 0, none⟩) m m] w (WoP m (wlF T c m) w) := by
  have hmm := @run_makeMap Try.prog
  obtain ⟨i8, hi8, hx0, hx1, hx2⟩ := info_parts info3i
  have HS := Lib.hid hs
  have HOK := Lib.hid ok
  have HBS := Lib.hid hc
  have hm4 := ok.cnt
  have HG0 : Hid (WoS w w.heap.size w.heap.size 0 (w.alloc (.map #[] 0)) (wlF T c 0)) := Lib.hid ⟨by simp, Nat.le_refl _, (Below.refl _ _).alloc (Nat.le_refl _) _, 0, Nat.le_refl _, by rw [wlF_zero]; exact MapG.made w⟩
  clear hs ok hc
  go_enter Try.func60, Try.ntmps60
  go_wp2
  obtain ⟨M, eM⟩ : ∃ M, M = w.heap.size := ⟨_, rfl⟩
  obtain ⟨wy, ewy⟩ : ∃ wy, wy = w.alloc (.map #[] 0) := ⟨_, rfl⟩
  have HG1 : Hid (WoS w w.heap.size M 0 wy (wlF T c 0)) := Lib.hid (by rw [ewy, eM]; exact HG0.out)
  rw [← ewy, ← eM]
  have HM := Lib.hid eM
  clear ewy eM HG0 hmm
  go_loopw [6, 7, 9, 10, 11, 15] (fun _ _ _ _ _ x wr => ∃ t : Nat, t ≤ m ∧ x = .int .i64 (t : Int) ∧ Hid (WoS w w.heap.size M (100 * t) wr (wlF T c t))) (fun _ _ _ _ _ x _ => m - (intOf x).toNat)
  case atStart => exact ⟨0, Nat.zero_le _, rfl, HG1⟩
  case round =>
    obtain ⟨t, ht, rfl, HT⟩ := hrel
    clear HG1
    by_cases hlt : t < m
    · obtain ⟨b, off, rfl, hbl, hci⟩ := HS.out (by omega)
      obtain ⟨sp, cp, c0, c1, c2, ho⟩ := hci t hlt
      have x0 := (HT.out.bel.cell (p := ⟨b, off + t * 3, none⟩) hbl).trans c0
      have x1 := (HT.out.bel.cell (p := ⟨b, off + t * 3 + 1, none⟩) hbl).trans c1
      have x2 := (HT.out.bel.cell (p := ⟨b, off + t * 3 + 2, none⟩) hbl).trans c2
      have hlt' : (t : Int) < (m : Int) := by omega
      have hn1 := HOK.out.n t hlt
      have HKR := Lib.hid (HOK.out.key t hlt)
      have hsc := (HBS.out.below HT.out.bel).2 t hlt
      have hgl := (HBS.out.below HT.out.bel).1
      have HOP := Lib.hid ho
      clear ho hci c0 c1 c2
      have hbx : ∀ tc tst tn, Below wr.heap.size wr (wr.alloc (.cells #[.int .i64 tc, .int .i64 tst, .slice sp tn cp] 47)) := fun tc tst tn => (Below.refl _ _).alloc (Nat.le_refl _) _
      have hsx : ∀ tc tst tn, (wr.alloc (.cells #[.int .i64 tc, .int .i64 tst, .slice sp tn cp] 47)).cell? ⟨gc, t, none⟩ = _ := fun tc tst tn => ((hbx tc tst tn).cell (p := ⟨gc, t, none⟩) hgl).trans hsc
      cases hct : c t with
      | false =>
        rw [hct] at hsx
        have HNX := Lib.hid (wlF_skip (T := T) (c := c) (t := t) (by rw [hct]; decide))
        have HW := Lib.hid (HT.out.keep (hbx (T t).c (T t).st (T t).n) (show 100 * t ≤ 100 * (t + 1) by omega))
        have hs2 := hsx (T t).c (T t).st (T t).n
        clear hsx hbx hsc HOP HKR hct
        generalize (T t).c = tc at *
        generalize (T t).st = tst at *
        generalize (T t).n = tn at *
        go_wp2
        go_roundw
        case rel => exact ⟨t + 1, by omega, by go_num, by rw [HNX.out]; exact HW⟩
        case measure => simp [intOf]; omega
      | true =>
        rw [hct] at hsx
        have HAL := Lib.hid (gsF_all (T := T) (c := c) (t := t) hct)
        have HW0 : Hid (WoS w w.heap.size M (100 * t) (wr.alloc (.cells #[.int .i64 (T t).c, .int .i64 (T t).st, .slice sp (T t).n cp] 47)) (gsF T c t 0)) := Lib.hid (by rw [gsF_zero]; exact HT.out.keep (hbx (T t).c (T t).st (T t).n) (Nat.le_refl _))
        have HBX := Lib.hid (hbx (T t).c (T t).st (T t).n)
        have hs2 := hsx (T t).c (T t).st (T t).n
        have HSM := Lib.hid (fun j => gsF_same (T := T) (c := c) (t := t) (j := j))
        have HMO := Lib.hid (fun j => gsF_more (T := T) (c := c) (t := t) (j := j))
        have HLA := Lib.hid (fun j y => gsF_last (T := T) (c := c) (t := t) (j := j) (y := y))
        have HNI := Lib.hid (fun j y => gsF_nil (T := T) (c := c) (t := t) (j := j) (y := y))
        have HLE := Lib.hid (fun j y => gsF_le (T := T) (c := c) (t := t) (j := j) y)
        clear hsx hbx hsc hct
        generalize gsF T c t = G at *
        generalize (T t).c = tc at *
        generalize (T t).st = tst at *
        generalize (T t).n = tn at *
        generalize hitT T t = H at *
        generalize (T t).o = to_ at *
        obtain ⟨wx, ewx⟩ : ∃ wx, wx = wr.alloc (.cells #[.int .i64 tc, .int .i64 tst, .slice sp tn cp] 47) := ⟨_, rfl⟩
        have hxx : wx.heap[wr.heap.size]? = some (.cells #[.int .i64 tc, .int .i64 tst, .slice sp tn cp] 47 (0, 0)) := by rw [ewx]; exact heap_alloc_new wr _
        obtain ⟨⟨q0, q1, q2⟩, _⟩ := cells3 hxx
        rw [← ewx] at HW0 HBX
        go_wp2
        rw [← ewx]
        clear q0 q1 q2 hxx x0 x1 x2 ewx hs2 HT
        have hwx : wr.heap.size ≤ wx.heap.size := HBX.out.size
        go_loopw [9, 10, 11, 28] (fun _ _ _ x ws => ∃ i : Nat, i ≤ tn ∧ x = .int .i64 (i : Int) ∧ Hid (WoS w w.heap.size M (100 * t + i) ws (G i))) (fun _ _ _ x _ => tn - (intOf x).toNat)
        case atStart => exact ⟨0, Nat.zero_le _, rfl, HW0⟩
        case round =>
          obtain ⟨i, hi, rfl, HI⟩ := hrel
          by_cases hin : i < tn
          · obtain ⟨b2, off2, rfl, hb2, hc2⟩ := HOP.out (by omega)
            obtain ⟨d0, d1, d2⟩ := hc2 i hin
            have x0 := (HI.out.bel.cell (p := ⟨b2, off2 + i * 3, none⟩) hb2).trans d0
            have x1 := (HI.out.bel.cell (p := ⟨b2, off2 + i * 3 + 1, none⟩) hb2).trans d1
            have x2 := (HI.out.bel.cell (p := ⟨b2, off2 + i * 3 + 2, none⟩) hb2).trans d2
            have hin' : (i : Int) < (tn : Int) := by omega
            have hkr := HKR.out i hin
            have HSMi := Lib.hid (HSM.out i)
            have HMOi := Lib.hid (HMO.out i)
            have HLAi := Lib.hid (HLA.out i (to_ i).key)
            have HNIi := Lib.hid (HNI.out i (to_ i).key)
            have HLEi := Lib.hid (HLE.out i (to_ i).key)
            clear d0 d1 d2 hc2 HSM HMO HLA HNI HLE
            generalize to_ i = oi at *
            obtain ⟨ok, okey, ov⟩ := oi
            dsimp only at x0 x1 x2 hkr HSMi HMOi HLAi HNIi HLEi
            generalize H i okey = hit at *
            have HWB := Lib.hid (HI.out.keep ((Below.refl _ _).alloc (Nat.le_refl _) (.cells #[.int .i64 ok, .int .i64 okey, .int .i64 ov] 44)) (show 100 * t + i ≤ 100 * t + i by omega))
            obtain ⟨q, hq, hmap⟩ := HWB.out.map
            obtain ⟨v, hlook, hoi, hzl, hback⟩ := hmap.look (by omega) okey (by unfold In64; omega)
            obtain ⟨sv, cv, rfl⟩ := own_form' hoi.1
            have HBK := Lib.hid hback
            have HOI := Lib.hid hoi
            have hle2 := HLEi.out
            generalize hGL : G i okey = L at *
            have HGL := Lib.hid hGL
            clear hmap hback hoi hGL HLEi
            obtain ⟨ln, eln⟩ : ∃ ln, ln = L.length := ⟨_, rfl⟩
            rw [← eln] at hlook hzl hle2
            have HEL := Lib.hid eln
            have HOR : Hid ((wr.alloc (.cells #[.int .i64 ok, .int .i64 okey, .int .i64 ov] 44)).ownsInts (M + 1) 3 .i64 (.slice sv ln cv) L) := Lib.hid (by rw [eln]; exact HOI.out)
            have HBR : Hid (BackG (wr.alloc (.cells #[.int .i64 ok, .int .i64 okey, .int .i64 ov] 44)) M q (G i) okey (.slice sv ln cv)) := Lib.hid (by rw [eln]; exact HBK.out)
            have HRW : Hid ((wr.alloc (.cells #[.int .i64 ok, .int .i64 okey, .int .i64 ov] 44)).ownsRow (M + 1) 3 1 (.slice sv ln cv) ln (L.map (Value.int .i64))) := Lib.hid (by rw [eln]; exact HOI.out.1)
            clear eln HBK
            by_cases h0 : ln = 0
            · subst h0
              have hnh := HNIi.out (by rw [← HEL.out])
              by_cases h2 : ok = 2
              · subst h2
                have HMX := Lib.hid (HMOi.out rfl hnh)
                clear HLAi HNIi HMOi HSMi hnh
                go_wp2
                have HPP := Lib.hid (heap_alloc_new wr (.cells #[.int .i64 2, .int .i64 okey, .int .i64 ov] 44))
                obtain ⟨wb, ewb⟩ : ∃ wb, wb = wr.alloc (.cells #[.int .i64 2, .int .i64 okey, .int .i64 ov] 44) := ⟨_, rfl⟩
                rw [← ewb] at HOR HBR HRW HWB HPP ⊢
                obtain ⟨P, eP⟩ : ∃ P, P = wr.heap.size := ⟨_, rfl⟩
                rw [← eP] at HPP ⊢
                clear hlook ewb eP HOI
                have HNW : Hid (∀ (j : Nat) (u : Value), [Value.int .i64 (t : Int)][j]? = some u → (wb.drew.alloc (.cells #[.int .i64 (t : Int)] 3)).cell? ((⟨wb.drew.heap.size, 0, none⟩ : Addr).add j) = some u) := Lib.hid (cell_one_new _ _ _)
                have HOW : Hid ((wb.drew.alloc (.cells #[.int .i64 (t : Int)] 3)).ownsRow (M + 1) 3 1 (.slice sv 0 cv) 0 (L.map (Value.int .i64))) := Lib.hid (own_keep HRW.out fun g hg => (((Below.refl _ _).drew).alloc (Nat.le_refl _) _).block g (HRW.out.lt g hg).2)
                have y0 : wb.drew.cell? ⟨P, 1, none⟩ = some (.int .i64 okey) := (cells3 HPP.out).1.2.1
                have y2 : (wb.alloc (.cells #[.int .i64 (t : Int)] 3)).cell? ⟨P, 1, none⟩ = some (.int .i64 okey) := (((Below.refl wb.heap.size wb).alloc (Nat.le_refl _) _).cell (p := ⟨P, 1, none⟩) (Array.getElem?_eq_some_iff.1 HPP.out).1).trans y0
                have hMl := HWB.out.low
                have HFI : Hid (∀ (w7 : World) (g7 c7 : Nat), w7.ownsRow (M + 1) 3 1 (.slice (some ⟨g7, 0, none⟩) (0 + 1) c7) (0 + 1) (L.map (Value.int .i64) ++ [.int .i64 (t : Int)]) → (wb.drew.alloc (.cells #[.int .i64 (t : Int)] 3)).grownBy w7 (Value.slice sv 0 cv).ownBlock → ((Value.slice sv 0 cv).ownBlock = some g7 ∨ g7 = (wb.drew.alloc (.cells #[.int .i64 (t : Int)] 3)).heap.size) → (∃ w8, (Instr.mapUpdate 82 (.map (some M)) (.int .i64 okey) (.slice (some ⟨g7, 0, none⟩) (0 + 1) c7)).run Try.prog w7 = .ok () w8 ∧ WoS w w.heap.size M (100 * t + (i + 1)) w8 (G (i + 1))) ∧ w7.cell? ⟨P, 1, none⟩ = some (.int .i64 okey)) := Lib.hid fun w7 g7 c7 h1 h2 h3 => by
                  refine ⟨?_, (cells3 (box_keep (M := M) HOR.out HPP.out h2)).1.2.1⟩
                  rw [HMX.out]
                  exact HWB.out.wrote hq HBR.out HOR.out HEL.out hzl (by unfold In64; omega) h1 h2 h3
                clear HBR HMX HEL HRW HPP
                go_region_law (first | (refine step_append_lies _ (by rfl) _ _ 41 (by rfl) (M + 1) 3 i8 (.int .i64 0) 1 8 Try.underlying41 hi8 hx0 hx1 hx2 rfl (by decide) _ 0 (L.map (Value.int .i64)) (by rfl) HOW.out ⟨wb.drew.heap.size, 0, none⟩ 1 1 [.int .i64 (t : Int)] (by rfl) (by rfl) HNW.out (ints_oneCell .i64 [(t : Int)]) (by omega) (by unfold maxLen; omega) (by omega) (Nat.le_trans hMl (by simp)) _ rfl ?_; intro g7 c7 w7 ho7 hg7 hat7 hl7; obtain ⟨⟨w8, hrun8, hw8⟩, y1⟩ := HFI.out w7 g7 c7 ho7 hg7 hat7))
                all_goals
                  have HW8 := Lib.hid hw8
                  clear hw8 hrun8 y1 ho7 hg7 hat7 hl7 y0 y2
                  go_wp2
                  go_roundw
                  case rel => exact ⟨i + 1, by omega, by go_num, HW8⟩
                  case measure => simp [intOf]; omega
              · have h2b : (ok == 2) = false := beq_eq_false_iff_ne.2 h2
                have HSX := Lib.hid (HSMi.out (fun h => h2 h.1))
                clear h2 HLAi HNIi HMOi HSMi HBR HOR HRW HOI hnh
                go_wp2
                go_roundw
                case rel => exact ⟨i + 1, by omega, by go_num, by rw [HSX.out]; exact Lib.hid (HWB.out.keep (Below.refl _ _) (by omega))⟩
                case measure => simp [intOf]; omega
            · obtain ⟨n', rfl⟩ : ∃ n', ln = n' + 1 := ⟨ln - 1, by omega⟩
              obtain ⟨g, cg, es, _, hgl⟩ := HRW.out.form (by omega)
              injection es with es1 _ es3
              subst es1
              subst es3
              obtain ⟨z, ez⟩ : ∃ z, z = L.getD n' 0 := ⟨_, rfl⟩
              have hzc : (wr.alloc (.cells #[.int .i64 ok, .int .i64 okey, .int .i64 ov] 44)).cell? ⟨g, n', none⟩ = some (.int .i64 z) := by
                rw [HRW.out.cellAt n' (by omega), ez]
                simp [List.getD_eq_getElem?_getD, List.getElem?_eq_getElem (show n' < L.length by rw [← HEL.out]; omega)]
              have hlast := HLAi.out n' HEL.out.symm
              rw [← ez] at hlast
              have HZ := Lib.hid hlast
              have hsub : IntKind.i64.wrap (((n' + 1 : Nat) : Int) - 1) = (n' : Int) := by rw [show (((n' + 1 : Nat) : Int) - 1) = (n' : Int) by omega]; exact IntWalk.i64_in _ (by omega)
              have hsub2 : IntKind.i64.wrap ((n' : Int) + 1 - 1) = (n' : Int) := by rw [show ((n' : Int) + 1 - 1) = (n' : Int) by omega]; exact IntWalk.i64_in _ (by omega)
              have hpos : (0 : Int) < (n' : Int) + 1 := by omega
              clear ez hlast h0
              by_cases hzt : z = (t : Int)
              · subst hzt
                have HSX := Lib.hid (HSMi.out (fun h => h.2 (HZ.out.1 rfl)))
                clear HZ HLAi HNIi HMOi HSMi HBR HOR HRW HOI
                by_cases h2 : ok = 2
                · subst h2
                  go_wp2
                  go_roundw
                  case rel => exact ⟨i + 1, by omega, by go_num, by rw [HSX.out]; exact Lib.hid (HWB.out.keep (Below.refl _ _) (by omega))⟩
                  case measure => simp [intOf]; omega
                · have h2b : (ok == 2) = false := beq_eq_false_iff_ne.2 h2
                  clear h2
                  go_wp2
                  go_roundw
                  case rel => exact ⟨i + 1, by omega, by go_num, by rw [HSX.out]; exact Lib.hid (HWB.out.keep (Below.refl _ _) (by omega))⟩
                  case measure => simp [intOf]; omega
              · have hzb : (z == (t : Int)) = false := beq_eq_false_iff_ne.2 hzt
                have hnh : ¬ hit := fun h => hzt (HZ.out.2 h)
                clear HZ hzt
                by_cases h2 : ok = 2
                · subst h2
                  have HMX := Lib.hid (HMOi.out rfl hnh)
                  clear HLAi HNIi HMOi HSMi hnh
                  go_wp2
                  have HPP := Lib.hid (heap_alloc_new wr (.cells #[.int .i64 2, .int .i64 okey, .int .i64 ov] 44))
                  obtain ⟨wb, ewb⟩ : ∃ wb, wb = wr.alloc (.cells #[.int .i64 2, .int .i64 okey, .int .i64 ov] 44) := ⟨_, rfl⟩
                  rw [← ewb] at HOR HBR HRW HWB HPP ⊢
                  obtain ⟨P, eP⟩ : ∃ P, P = wr.heap.size := ⟨_, rfl⟩
                  rw [← eP] at HPP ⊢
                  clear hlook ewb eP HOI
                  have HNW : Hid (∀ (j : Nat) (u : Value), [Value.int .i64 (t : Int)][j]? = some u → (wb.drew.alloc (.cells #[.int .i64 (t : Int)] 3)).cell? ((⟨wb.drew.heap.size, 0, none⟩ : Addr).add j) = some u) := Lib.hid (cell_one_new _ _ _)
                  have HOW : Hid ((wb.drew.alloc (.cells #[.int .i64 (t : Int)] 3)).ownsRow (M + 1) 3 1 (.slice (some ⟨g, 0, none⟩) (n' + 1) cv) (n' + 1) (L.map (Value.int .i64))) := Lib.hid (own_keep HRW.out fun g hg => (((Below.refl _ _).drew).alloc (Nat.le_refl _) _).block g (HRW.out.lt g hg).2)
                  have y0 : wb.drew.cell? ⟨P, 1, none⟩ = some (.int .i64 okey) := (cells3 HPP.out).1.2.1
                  have y2 : (wb.alloc (.cells #[.int .i64 (t : Int)] 3)).cell? ⟨P, 1, none⟩ = some (.int .i64 okey) := (((Below.refl wb.heap.size wb).alloc (Nat.le_refl _) _).cell (p := ⟨P, 1, none⟩) (Array.getElem?_eq_some_iff.1 HPP.out).1).trans y0
                  have hMl := HWB.out.low
                  have HFI : Hid (∀ (w7 : World) (g7 c7 : Nat), w7.ownsRow (M + 1) 3 1 (.slice (some ⟨g7, 0, none⟩) ((n' + 1) + 1) c7) ((n' + 1) + 1) (L.map (Value.int .i64) ++ [.int .i64 (t : Int)]) → (wb.drew.alloc (.cells #[.int .i64 (t : Int)] 3)).grownBy w7 (Value.slice (some ⟨g, 0, none⟩) (n' + 1) cv).ownBlock → ((Value.slice (some ⟨g, 0, none⟩) (n' + 1) cv).ownBlock = some g7 ∨ g7 = (wb.drew.alloc (.cells #[.int .i64 (t : Int)] 3)).heap.size) → (∃ w8, (Instr.mapUpdate 82 (.map (some M)) (.int .i64 okey) (.slice (some ⟨g7, 0, none⟩) ((n' + 1) + 1) c7)).run Try.prog w7 = .ok () w8 ∧ WoS w w.heap.size M (100 * t + (i + 1)) w8 (G (i + 1))) ∧ w7.cell? ⟨P, 1, none⟩ = some (.int .i64 okey)) := Lib.hid fun w7 g7 c7 h1 h2 h3 => by
                    refine ⟨?_, (cells3 (box_keep (M := M) HOR.out HPP.out h2)).1.2.1⟩
                    rw [HMX.out]
                    exact HWB.out.wrote hq HBR.out HOR.out HEL.out hzl (by unfold In64; omega) h1 h2 h3
                  clear HBR HMX HEL HRW HPP
                  go_region_law (first | (refine step_append_lies _ (by rfl) _ _ 41 (by rfl) (M + 1) 3 i8 (.int .i64 0) 1 8 Try.underlying41 hi8 hx0 hx1 hx2 rfl (by decide) _ (n' + 1) (L.map (Value.int .i64)) (by rfl) HOW.out ⟨wb.drew.heap.size, 0, none⟩ 1 1 [.int .i64 (t : Int)] (by rfl) (by rfl) HNW.out (ints_oneCell .i64 [(t : Int)]) (by omega) (by unfold maxLen; omega) (by omega) (Nat.le_trans hMl (by simp)) _ rfl ?_; intro g7 c7 w7 ho7 hg7 hat7 hl7; obtain ⟨⟨w8, hrun8, hw8⟩, y1⟩ := HFI.out w7 g7 c7 ho7 hg7 hat7))
                  all_goals
                    have HW8 := Lib.hid hw8
                    clear hw8 hrun8 y1 ho7 hg7 hat7 hl7 y0 y2
                    go_wp2
                    go_roundw
                    case rel => exact ⟨i + 1, by omega, by go_num, HW8⟩
                    case measure => simp [intOf]; omega
                · have h2b : (ok == 2) = false := beq_eq_false_iff_ne.2 h2
                  have HSX := Lib.hid (HSMi.out (fun h => h2 h.1))
                  clear h2 HLAi HNIi HMOi HSMi HBR HOR HRW HOI hnh
                  go_wp2
                  go_roundw
                  case rel => exact ⟨i + 1, by omega, by go_num, by rw [HSX.out]; exact Lib.hid (HWB.out.keep (Below.refl _ _) (by omega))⟩
                  case measure => simp [intOf]; omega
          · obtain rfl : i = tn := by omega
            go_wp2
            go_roundw
            case rel => exact ⟨t + 1, by omega, by go_num, by rw [← HAL.out]; exact Lib.hid ⟨HI.out.low, HI.out.bm, HI.out.bel, by obtain ⟨q, hq, h⟩ := HI.out.map; exact ⟨q, by omega, h⟩⟩⟩
            case measure => simp [intOf]; omega
    · obtain rfl : t = m := by omega
      go_wp2
      go_ret
      obtain ⟨q, hq, h⟩ := HT.out.map
      rw [HM.out] at h
      exact ⟨by rw [HM.out]; rfl, q, hq, h, HT.out.bel⟩
end Go.Proofs.Yteobndfkkpfnlaa

