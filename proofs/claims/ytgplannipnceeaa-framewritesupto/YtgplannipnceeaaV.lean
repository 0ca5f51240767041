/-
  The laws' frames that came in: their cells in memory, and the bytes that they lead to.
-/
import Derived.Test.YtgplannipnceeaaU
import Derived.Deep.Slices
import Derived.Deep.Fields
import Derived.ChangeSame
import Derived.ChangeSlices
namespace Go.Proofs.Ytgplannipnceeaa
open Go.ChangeShapes Go.WideShapes Go.ChangeAt Go.RowKit Go.Deep

theorem cells24 : Try.prog.cellsOf 24 = 2 := by kernel_rfl
theorem cells3 : Try.prog.cellsOf 3 = 1 := by kernel_rfl
theorem cells22 : Try.prog.cellsOf 22 = 1 := by kernel_rfl

/-- one frame that came in -/
structure InF where
  k : Int
  sp : Option Addr
  z : Nat
  cap : Nat
  d : Nat → Nat
def InAt (w : World) (a : Addr) (t : InF) : Prop :=
  w.cell? (a.add 0) = some (.int .i64 t.k) ∧ w.cell? (a.add 1) = some (.slice t.sp t.z t.cap) ∧ (-9223372036854775808 ≤ t.k ∧ t.k ≤ 9223372036854775807) ∧
  (t.z ≤ t.cap ∧ t.cap ≤ 9223372036854775807) ∧ (∀ j, t.d j < 256) ∧ Src w t.sp t.z t.d ∧ (t.sp = none → t.z = 0 ∧ t.cap = 0)

theorem i64_bounds {z : Int} (h : (Lit.int .i64 z).wf = true) : -9223372036854775808 ≤ z ∧ z ≤ 9223372036854775807 := by
  simpa [Lit.wf, IntKind.min, IntKind.max, IntKind.signed, IntKind.bits] using h

/-- bytes that a slice leads to, though its spare room was not read -/
theorem src_of' {w : World} {x : Addr} {len : Nat} {zs : List Int} (hl : len ≤ zs.length) (hc : ∀ i, i < zs.length → w.cell? (x.add i) = some (.int .u8 (zs.getD i 0))) (hwf : ∀ n ∈ zs, (Lit.int .u8 n).wf = true) :
    ∃ f : Nat → Nat, (∀ j, f j < 256) ∧ Src w (some x) len f := by
  refine ⟨fun j => (zs.getD j 0).toNat, fun j => ?_, fun hn => ?_⟩
  · show (zs.getD j 0).toNat < 256
    by_cases hj : j < zs.length
    · have hmem : zs.getD j 0 ∈ zs := by rw [List.getD_eq_getElem?_getD, List.getElem?_eq_getElem hj]; exact List.getElem_mem _
      have := u8_bounds (hwf _ hmem); omega
    · rw [List.getD_eq_getElem?_getD, List.getElem?_eq_none (by omega)]; decide
  · refine ⟨x, rfl, ?_, fun j hj => ?_⟩
    · have := cell_lt (hc 0 (by omega)); rwa [block_add] at this
    · have hmem : zs.getD j 0 ∈ zs := by rw [List.getD_eq_getElem?_getD, List.getElem?_eq_getElem (by omega)]; exact List.getElem_mem _
      have hb := u8_bounds (hwf _ hmem)
      rw [hc j (by omega)]
      show some (Value.int .u8 (zs.getD j 0)) = some (Value.int .u8 (((zs.getD j 0).toNat : Nat) : Int))
      rw [Int.toNat_of_nonneg hb.1]

section
variable {H : Type} {enc : TypeId × Value → H} {w : World} {base : Nat} {spare : Nat → Bool} {held : Bool}

theorem inf_of {n : Nat} {cs : List Value} {y : DataW H × List MemPlace} {a : Addr} (hc : w.cells? base a 2 = some cs) (h : DataW.trod enc Try.prog w base spare held n 24 cs = some y) : ∃ t : InF, InAt w a t := by
  obtain ⟨_, hlen, hat⟩ := World.cells?_some hc
  obtain ⟨xs, n', _, _, _, hxl, hf⟩ := DataW.trod_struct Try.underlying24 h
  match cs, hlen with
  | [c0, c1], _ =>
    match xs, hxl with
    | [y0, y1], _ =>
      have g0 := hf 0 _ rfl
      have g1 := hf 1 _ rfl
      simp [cells3, cells22] at g0 g1
      obtain ⟨k, e0, _, wk⟩ := DataW.trod_int Try.underlying3 g0
      simp at e0
      subst e0
      rcases open_ints Try.underlying22 Try.underlying5 (by kernel_rfl) g1 with ⟨hcs, _⟩ | ⟨x, l, c, zs, hcs, _, hl, hm, hz, _, hcell, hwz⟩
      · simp at hcs
        subst hcs
        exact ⟨⟨k, none, 0, 0, fun _ => 0⟩, hat 0 (by decide), hat 1 (by decide), i64_bounds wk, ⟨Nat.le_refl _, Nat.zero_le _⟩, fun _ => Nat.zero_lt_succ 255, fun h => absurd h (Nat.lt_irrefl 0), fun _ => ⟨rfl, rfl⟩⟩
      · simp at hcs
        subst hcs
        obtain ⟨f, hf256, hsrc⟩ := src_of' (len := l) (by rw [hz]; split <;> omega) hcell hwz
        exact ⟨⟨k, some x, l, c, f⟩, hat 0 (by decide), hat 1 (by decide), i64_bounds wk, ⟨hl, by unfold maxLen at hm; show c ≤ _; omega⟩, hf256, hsrc, fun h => by cases h⟩

/-- frames that came in -/
def InFs (w : World) (a : Option Addr) (len : Nat) (T : Nat → InF) : Prop :=
  len ≤ 9223372036854775807 ∧ (0 < len → ∃ b off, a = some ⟨b, off, none⟩ ∧ b < w.heap.size ∧ ∀ j, j < len → InAt w ⟨b, off + j * 2, none⟩ (T j))

theorem infs_of {fuel : Nat} {a : Option Addr} {len cap : Nat} {x : DataW H × List MemPlace} (h : DataW.trod enc Try.prog w base spare held fuel 39 [.slice a len cap] = some x) : ∃ T, InFs w a len T := by
  rcases open_slice Try.underlying39 h with ⟨e, _⟩ | ⟨ad, len', cap', m, n, D, Pl, e, _, hl, hm, hmm, _, hi⟩
  · simp at e; obtain ⟨rfl, rfl, rfl⟩ := e
    exact ⟨fun _ => ⟨0, none, 0, 0, fun _ => 0⟩, by omega, fun h => by omega⟩
  · simp at e; obtain ⟨rfl, rfl, rfl⟩ := e
    rw [cells24] at hi
    have hlm : len ≤ m := by rw [hmm]; split <;> omega
    have hex : ∀ j, ∃ t : InF, j < len → InAt w (ad.add (j * 2)) t := fun j => by
      by_cases hj : j < len
      · obtain ⟨cs, h1, h2⟩ := hi j (by omega)
        obtain ⟨t, ht⟩ := inf_of h1 h2
        exact ⟨t, fun _ => ht⟩
      · exact ⟨⟨0, none, 0, 0, fun _ => 0⟩, fun h => absurd h hj⟩
    obtain ⟨T, hT⟩ := Classical.skolem.mp hex
    refine ⟨T, by unfold maxLen at hm; omega, fun hpos => ?_⟩
    obtain ⟨b, off, spot⟩ := ad
    have h0 := (hT 0 hpos).1
    have hspot : spot = none := by simpa [Addr.add] using World.cell?_spot h0
    subst hspot
    refine ⟨b, off, rfl, ?_, fun j hj => ?_⟩
    · have := cell_lt h0; simpa [block_add] using this
    · have := hT j hj
      rw [Go.WideShapes.add_plain] at this
      exact this
end

theorem InFs.fsi {w : World} {a : Option Addr} {len : Nat} {T : Nat → InF} (h : InFs w a len T) : FSI w a len (fun i => (T i).k) (fun i => (T i).z) (fun i => (T i).d) := by
  intro hpos
  obtain ⟨b, off, e, hl, hi⟩ := h.2 hpos
  refine ⟨b, off, e, hl, fun i hic => ?_⟩
  obtain ⟨c0, c1, _, _, _, hs, hp⟩ := hi i hic
  rw [Go.WideShapes.add_plain] at c0 c1
  exact ⟨(T i).sp, (T i).cap, c0, c1, hs, hp⟩
end Go.Proofs.Ytgplannipnceeaa
