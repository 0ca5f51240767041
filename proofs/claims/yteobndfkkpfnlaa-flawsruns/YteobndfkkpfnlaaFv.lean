/-
  FlawsRuns: integers that came in, opened; its memory.
-/
import Derived.Test.YteobndfkkpfnlaaFu
import Derived.Test.YteobndfkkpfnlaaHRg
import Derived.ChangeSame
import Derived.Deep.Slices
namespace Go.Proofs.Yteobndfkkpfnlaa
open Go.ChangeShapes Go.WideShapes Go.ChangeAt Go.RowKit Go.Deep
set_option linter.unusedVariables false

/-- integers in a slice that may be anybody's -/
def IsS (w : World) (a : Option Addr) (n : Nat) (f : Nat → Int) : Prop :=
  0 < n → ∃ b off, a = some ⟨b, off, none⟩ ∧ b < w.heap.size ∧ ∀ i, i < n → w.cell? ⟨b, off + i, none⟩ = some (.int .i64 (f i))
theorem IsS.below {w w' : World} {a : Option Addr} {n : Nat} {f : Nat → Int} (h : IsS w a n f) (hb : Below w.heap.size w w') : IsS w' a n f := by
  intro hn
  obtain ⟨b, off, e, hl, hc⟩ := h hn
  exact ⟨b, off, e, Nat.lt_of_lt_of_le hl hb.size, fun i hi => (hb.cell (p := ⟨b, off + i, none⟩) hl).trans (hc i hi)⟩
section
variable {H : Type} {enc : TypeId × Value → H} {w : World} {base : Nat} {spare : Nat → Bool} {held : Bool}
theorem ints_of {fuel : Nat} {a : Option Addr} {len cap : Nat} {x : DataW H × List MemPlace} (h : DataW.trod enc Try.prog w base spare held fuel 41 [.slice a len cap] = some x) : ∃ f, IsS w a len f := by
  rcases open_slice Try.underlying41 h with ⟨e, _⟩ | ⟨ad, len', cap', m, n, D, Pl, e, _, hl, hm, hmm, _, hi⟩
  · simp at e; obtain ⟨rfl, rfl, rfl⟩ := e
    exact ⟨fun _ => 0, fun h => by omega⟩
  · simp at e; obtain ⟨rfl, rfl, rfl⟩ := e
    rw [cells3'] at hi
    have hlm : len ≤ m := by rw [hmm]; split <;> omega
    have hex : ∀ j, ∃ t : Int, j < len → w.cell? (ad.add (j * 1)) = some (.int .i64 t) := fun j => by
      by_cases hj : j < len
      · obtain ⟨cs, h1, h2⟩ := hi j (by omega)
        obtain ⟨_, hlen, hat⟩ := World.cells?_some h1
        match cs, hlen with
        | [c0], _ =>
          obtain ⟨u, e0, _, _⟩ := DataW.trod_int Try.underlying3 h2
          simp at e0
          subst e0
          have h0 := hat 0 (by decide)
          have e : ∀ a : Addr, a.add 0 = a := fun a => by unfold Addr.add; cases a; split <;> simp_all
          rw [e] at h0
          exact ⟨u, fun _ => h0⟩
      · exact ⟨0, fun h => absurd h hj⟩
    obtain ⟨T, hT⟩ := Classical.skolem.mp hex
    refine ⟨T, fun hpos => ?_⟩
    obtain ⟨b, off, spot⟩ := ad
    have h0 := hT 0 hpos
    have hspot : spot = none := by simpa [Addr.add] using World.cell?_spot h0
    subst hspot
    refine ⟨b, off, rfl, ?_, fun j hj => ?_⟩
    · have := cell_lt h0; simpa [block_add] using this
    · have := hT j hj
      rw [Go.WideShapes.add_plain, Nat.mul_one] at this
      exact this
end
/-- an array of four -/
def arr4 (f : Nat → Nat) : Array Value := #[.int .i64 (f 0 : Int), .int .i64 (f 1 : Int), .int .i64 (f 2 : Int), .int .i64 (f 3 : Int)]
theorem arr4_get (f : Nat → Nat) (k : Nat) (hk : k ≤ 3) : (arr4 f)[k]? = some (.int .i64 (f k : Int)) := by
  rcases (show k = 0 ∨ k = 1 ∨ k = 2 ∨ k = 3 by omega) with rfl | rfl | rfl | rfl <;> rfl
theorem arr4_set (f : Nat → Nat) (k v : Nat) (hk : k ≤ 3) : (arr4 f).setIfInBounds k (.int .i64 (v : Int)) = arr4 (fun x => if x = k then v else f x) := by
  rcases (show k = 0 ∨ k = 1 ∨ k = 2 ∨ k = 3 by omega) with rfl | rfl | rfl | rfl <;> rfl
/-- FlawsRuns' memory -/
structure RunS (w : World) (B N : Nat) (wr : World) (v : Value) (kf : Nat → Nat) (t : Nat) : Prop where
  low : B ≤ wr.heap.size
  bel : Below B w wr
  ro : ∃ V, RO wr B v t (Rt kf) V
  arr : wr.heap[N]? = some (.cells (arr4 (pv kf t)) 42 (0, 0))
  nlow : B ≤ N
section
variable {w wr wr' : World} {B N t : Nat} {v v' : Value} {kf : Nat → Nat}
theorem RunS.cell (h : RunS w B N wr v kf t) {k : Nat} (hk : k ≤ 3) : wr.cell? ⟨N, k, none⟩ = some (.int .i64 (pv kf t k : Int)) := by
  rw [cell_of_row _ _ _ _ _ _ h.arr]; exact arr4_get _ _ hk
theorem RunS.fz (h : RunS w B N wr v kf t) (k : Nat) : wr.frozen? ⟨N, k, none⟩ = false := by simp [World.frozen?, h.arr]
theorem RunS.form (h : RunS w B N wr v kf t) : ∃ sp cp, v = .slice sp t cp := by
  obtain ⟨V, hr⟩ := h.ro
  exact own_form' hr.row
theorem RunS.start (w : World) (kf : Nat → Nat) : RunS w w.heap.size w.heap.size ((w.alloc (.cells (arr4 (pv kf 0)) 42)).alloc (.cells #[] 47)) (.slice (some ⟨w.heap.size + 1, 0, none⟩) 0 0) kf 0 := by
  have hs : (w.alloc (.cells (arr4 (pv kf 0)) 42)).heap.size = w.heap.size + 1 := by simp
  have hb : Below w.heap.size w (w.alloc (.cells (arr4 (pv kf 0)) 42)) := (Below.refl _ _).alloc (Nat.le_refl _) _
  have hl := World.ownsRow_lit (base := w.heap.size) (e := 47) (size := 3) (w.alloc (.cells (arr4 (pv kf 0)) 42)) #[] 0 (by omega) (Nat.zero_le _) rfl
  rw [hs] at hl
  refine ⟨by simp; omega, hb.alloc (by omega) _, ⟨fun _ => .slice none 0 0, hl, fun i hi => absurd hi (Nat.not_lt_zero _)⟩, ?_, Nat.le_refl _⟩
  rw [heap_alloc_old _ _ (by omega)]
  exact heap_alloc_new w _
/-- ahead of the append -/
theorem RunS.room (h : RunS w B N wr v kf t) (o : Array Value) (x : Array Value) : Below wr.heap.size wr ((wr.alloc (.cells o 44)).alloc (.cells x 47)) :=
  ((Below.refl _ _).alloc (Nat.le_refl _) _).alloc (by simp) _
theorem RunS.step (h : RunS w B N wr v kf t) (hk : kf t ≤ 3) {o x : Array Value} (ho : o = #[.int .i64 1, .int .i64 (kf t : Int), .int .i64 (pv kf t (kf t) : Int), .int .i64 2, .int .i64 (kf t : Int), .int .i64 ((t + 1 : Nat) : Int)])
    {g c : Nat} {w7 : World} (hr : w7.ownsRow B 47 3 v' (t + 1) (rowT (Rt kf) (h.ro.choose) t ++ [.int .i64 1, .int .i64 1, .slice (some ⟨wr.heap.size, 0, none⟩) 2 2])) (hg : ((wr.alloc (.cells o 44)).alloc (.cells x 47)).grownBy w7 v.ownBlock) :
    RunS w B N (w7.setCell ⟨N, kf t, none⟩ (.int .i64 ((t + 1 : Nat) : Int))) v' kf (t + 1) := by
  have hb := h.room o x
  have hro := h.ro.choose_spec.below hb
  generalize h.ro.choose = V at *
  have hlit := World.ownsRow_lit (base := B) (e := 44) (size := 3) wr o 2 h.low (by unfold maxLen; omega) (by rw [ho]; rfl)
  have hlist : o.toList = rowO (Rt kf t).o 2 := by rw [ho]; rfl
  rw [hlist] at hlit
  have hl2 := own_keep hlit fun q hq => by
    have : q = wr.heap.size := by injection hq with hq; exact hq.symm
    exact heap_alloc_old _ (.cells x 47) (by rw [this]; simp)
  have hadd := hro.added (t := Rt kf t) hl2 (fun e => by cases e) hr hg
  have harr : ((wr.alloc (.cells o 44)).alloc (.cells x 47)).heap[N]? = some (.cells (arr4 (pv kf t)) 42 (0, 0)) := (hb.block _ (hlt_of h.arr)).trans h.arr
  have harr7 : w7.heap[N]? = some (.cells (arr4 (pv kf t)) 42 (0, 0)) := (hg.block _ (hlt_of harr) (fun e => by
    obtain ⟨cur, e1⟩ := own_cells hro.row e.symm
    rw [harr] at e1
    injection e1 with e1
    injection e1 with _ e1 _
    cases e1)).trans harr
  have hlow7 : B ≤ w7.heap.size := Nat.le_trans h.low (Nat.le_trans hb.size hg.size)
  have hbel7 : Below B w w7 := (h.bel.trans (hb.mono h.low)).grown hg (Nat.le_trans h.low hb.size) (fun q hq => (hro.row.lt q hq).1)
  have hkeep : ∀ {q : Nat} {cs : Array Value} {ty : Nat}, w7.heap[q]? = some (.cells cs ty (0, 0)) → ty ≠ 42 → (w7.setCell ⟨N, kf t, none⟩ (.int .i64 ((t + 1 : Nat) : Int))).heap[q]? = w7.heap[q]? := fun {q cs ty} e ht => heap_setCell_other _ _ _ _ (fun e2 => by
    dsimp only at e2
    rw [e2, harr7] at e
    injection e with e
    injection e with _ e _
    exact ht e.symm)
  refine ⟨by simpa [World.setCell] using hlow7, hbel7.setCell (p := ⟨N, kf t, none⟩) h.nlow _, ⟨fun i => if i = t then .slice (some ⟨wr.heap.size, 0, none⟩) 2 2 else V i, ?_⟩, ?_, h.nlow⟩
  · have h9 : RO w7 B v' (t + 1) (Rt kf) (fun i => if i = t then .slice (some ⟨wr.heap.size, 0, none⟩) 2 2 else V i) := hadd.congr fun j hj => by
      by_cases e : j = t
      · subst e; rw [if_pos rfl]
      · rw [if_neg e]
    refine ⟨own_keep h9.row fun q hq => ?_, fun i hi => ?_⟩
    · obtain ⟨cur, e⟩ := own_cells h9.row hq
      exact hkeep e (by decide)
    · obtain ⟨sp, cap, e, ho9, hp⟩ := h9.ops i hi
      exact ⟨sp, cap, e, own_keep ho9 fun q hq => by obtain ⟨cur, e⟩ := own_cells ho9 hq; exact hkeep e (by decide), hp⟩
  · rw [heap_setCell_same _ _ _ _ _ _ harr7, arr4_set _ _ _ hk]
    rfl
theorem RunS.arr7 (h : RunS w B N wr v kf t) {o x : Array Value} {w7 : World} (hg : ((wr.alloc (.cells o 44)).alloc (.cells x 47)).grownBy w7 v.ownBlock) : w7.heap[N]? = some (.cells (arr4 (pv kf t)) 42 (0, 0)) := by
  have hb := h.room o x
  have hro := h.ro.choose_spec.below hb
  have harr : ((wr.alloc (.cells o 44)).alloc (.cells x 47)).heap[N]? = some (.cells (arr4 (pv kf t)) 42 (0, 0)) := (hb.block _ (hlt_of h.arr)).trans h.arr
  exact (hg.block _ (hlt_of harr) (fun e => by
    obtain ⟨cur, e1⟩ := own_cells hro.row e.symm
    rw [harr] at e1
    injection e1 with e1
    injection e1 with _ e1 _
    cases e1)).trans harr
theorem RO.tx {w : World} {B m cp : Nat} {sp : Option Addr} {T : Nat → Tx} {V : Nat → Value} (h : RO w B (.slice sp m cp) m T V) : TxS w sp m T := by
  intro hn
  obtain ⟨g, cap', e, _, hl⟩ := h.row.form hn
  injection e with e1 e2 e3
  subst e1
  refine ⟨g, 0, rfl, hl, fun i hi => ?_⟩
  obtain ⟨g0, g1, g2⟩ := rowT_get T V m i hi
  have h0 := (h.row.cellAt (i * 3) (by omega)).trans g0
  have h1 := (h.row.cellAt (i * 3 + 1) (by omega)).trans g1
  have h2 := (h.row.cellAt (i * 3 + 2) (by omega)).trans g2
  obtain ⟨sp9, cp9, e9, ho, _⟩ := h.ops i hi
  rw [e9] at h2
  simp only [Nat.zero_add]
  exact ⟨sp9, cp9, h0, h1, h2, own38_ops ho⟩
end
end Go.Proofs.Yteobndfkkpfnlaa
