/-
  Contracts of the Writer's methods Len and Bytes, of the reference's Same, and of the laws' head wrote.
-/
import Derived.Test.YtaddmegghikhpaaBW2
import Derived.Laws.BytesArg
namespace Go.Proofs.Ytaddmegghikhpaa
open Go.ChangeShapes Go.WideShapes Go.ChangeAt Go.RowKit

theorem own_src {w : World} {base n cap : Nat} {sp : Option Addr} {F : Nat → Nat} (h : w.ownsRow base 5 1 (.slice sp n cap) n (rowB F n)) : Src w sp n F := by
  intro hn
  obtain ⟨g, cap', e, _, hlt⟩ := h.form hn
  injection e with e1 e2 e3
  subst e1
  refine ⟨_, rfl, hlt, fun j hj => ?_⟩
  have := h.cells (g := g) rfl j _ (rowB_get F n j hj)
  exact this

theorem bytes_any (w : World) (base wb : Nat) (v : Value) (F : Nat → Nat) (c n : Nat) (hn : (c + 7) / 8 = n) (h : WR w base wb v F c) (hc : c ≤ 700000) :
    Calls Try.prog 20 #[.pointer (some ⟨wb, 0, none⟩)] w (CopyPost w n F) := by
  have own := h.own
  rw [hn] at own
  obtain ⟨sp, cap, rfl⟩ : ∃ sp cap, v = .slice sp n cap := by
    rcases own.2 with ⟨e, e0⟩ | ⟨g, cap, _, e, _⟩
    · subst e0; exact ⟨none, 0, e⟩
    · exact ⟨_, cap, e⟩
  have c0 := h.c0
  have HS := Lib.hid (own_src own)
  have hn' : n ≤ 100000 := by omega
  clear h own hn
  go_enter Try.func20, Try.ntmps20
  go_wp2_with fail
  refine (copied_any sp n cap F w hn' HS.out).mono ?_
  rintro e w1 ⟨rfl, h1, h2, h3⟩
  have HH := Lib.hid (⟨h1, h2, h3⟩ : _ ∧ _ ∧ _)
  clear h1 h2 h3
  go_wp2
  go_ret
  exact ⟨rfl, HH.out.1, HH.out.2.1, HH.out.2.2⟩

/-- a row that is known whole is a source -/
theorem row_src {w : World} {g n : Nat} {F : Nat → Nat} (h : w.heap[g]? = some (.cells (rowB F n).toArray 5 (0, 0))) : Src w (some ⟨g, 0, none⟩) n F := by
  intro hn
  have hlt : g < w.heap.size := by
    rcases Nat.lt_or_ge g w.heap.size with h' | h'
    · exact h'
    · rw [Array.getElem?_eq_none h'] at h; cases h
  refine ⟨_, rfl, hlt, fun j hj => ?_⟩
  rw [Go.WideShapes.add_plain, cell_of_row w g _ _ 5 (0, 0) h]
  simpa using rowB_get F n j hj

def numsOf (f : Nat → Nat) (n : Nat) : List Int := (List.range n).map fun j => ((f j : Nat) : Int)

theorem conv_any (w : World) (sp : Option Addr) (n cap : Nat) (f : Nat → Nat) (h : Src w sp n f) :
    (convert 26 9 (.slice sp n cap)).run Try.prog w = .ok (.string (strOfNums (numsOf f n))) w := by
  by_cases hn : n = 0
  · subst hn
    rcases sp with _ | a
    · exact run_convert_bytes_nil w 26 5 Try.underlying26 Try.underlying5 0 cap 9 Try.underlying9
    · rw [run_convert_bytes_string w 26 9 5 _ 0 cap Try.underlying26 Try.underlying5 Try.underlying9]
      exact run_bytesToString w a 0 cap [] (by simp [loadCells, loadCellsFrom])
  · obtain ⟨ad, rfl, hlt, hc⟩ := h (by omega)
    obtain ⟨b, off, spot⟩ := ad
    have h0 := hc 0 (by omega)
    have hspot : spot = none := by simpa [Addr.add] using World.cell?_spot h0
    subst hspot
    refine run_convert_bytes_arg w 26 5 Try.underlying26 Try.underlying5 b off n cap (numsOf f n) (by simp [numsOf]) (fun i hi => ?_) 9 Try.underlying9
    have := hc i hi
    rw [Go.WideShapes.add_plain] at this
    rw [this]
    simp [numsOf, hi]

theorem sameB_true (w : World) (sp1 sp2 : Option Addr) (n cap1 cap2 : Nat) (f g : Nat → Nat) (h1 : Src w sp1 n f) (h2 : Src w sp2 n g) (he : ∀ j, j < n → f j = g j) :
    Calls Try.prog 12 #[.slice sp1 n cap1, .slice sp2 n cap2] w fun e w' => e = .returned (.bool true) ∧ w = w' := by
  have r1 := conv_any w sp1 n cap1 f h1
  have r2 := conv_any w sp2 n cap2 g h2
  have e : numsOf f n = numsOf g n := by
    unfold numsOf; apply List.map_congr_left; intro j hj; rw [he j (by simpa using hj)]
  rw [e] at r1
  generalize strOfNums (numsOf g n) = s at r1 r2
  clear h1 h2 he e
  go_enter Try.func12, Try.ntmps12
  go_wp2
  go_ret
  exact ⟨rfl, rfl⟩

/-- a writer in new memory -/
theorem WR.new (w : World) (base : Nat) (hb : base ≤ w.heap.size) : WR (w.alloc (.cells #[.slice none 0 0, .int .i64 0] 46)) base w.heap.size (.slice none 0 0) (fun _ => 0) 0 where
  c0 := by go_simp
  c1 := by go_simp
  fz := fun j => by go_simp
  own := World.ownsRow_nil _ _ _ _
  ends := ⟨fun _ => Nat.zero_lt_succ 255, fun h => absurd rfl h⟩
  lt := by simp
  ne := by simp [Value.ownBlock]
  hb := by simp; omega

theorem WStep.below {wb : Nat} {w w' : World} {o o' : Option Nat} (h : WStep wb w o w' o') {B : Nat} (hB : B ≤ wb) (hs : B ≤ w.heap.size) (ho : ∀ k, o = some k → B ≤ k) : Below B w w' :=
  ⟨h.os, h.tape, h.output, h.size, fun k hk => h.block k (by omega) (by omega) (fun e => by have := ho k e.symm; omega)⟩

end Go.Proofs.Ytaddmegghikhpaa
