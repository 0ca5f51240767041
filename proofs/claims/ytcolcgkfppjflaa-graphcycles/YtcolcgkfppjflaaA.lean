/-
  Pairs and arcs in memory; the contract of arcs.
-/
import Derived.Test.YtcolcgkfppjflaaRows
import Derived.WalkKit
import Derived.ProofKit
import Derived.OpenShut
import Derived.Below
import Derived.Lib.Hide
import Derived.Deep.AppendLies
import Derived.WalkArith
namespace Go.Proofs.Ytcolcgkfppjflaa
open Go.ChangeShapes Go.WideShapes Go.ChangeAt Go.RowKit

theorem ret_int {k : IntKind} {a b : Int} (h : a = b) : Ending.returned (.int k a) = .returned (.int k b) := by rw [h]
theorem val_int {k : IntKind} {a b : Int} (h : a = b) : Value.int k a = .int k b := by rw [h]
theorem block_add (a : Addr) (n : Nat) : (a.add n).block = a.block := by unfold Addr.add; split <;> rfl
theorem cell_lt {w : World} {a : Addr} {v : Value} (h : w.cell? a = some v) : a.block < w.heap.size := by
  rcases Nat.lt_or_ge a.block w.heap.size with h' | h'
  · exact h'
  · simp [World.cell?, Array.getElem?_eq_none h'] at h
theorem info_parts {t : Nat} {z : Option Value} {s b : Nat} (h : (Try.prog.info? t).map (fun i => (i.zero, i.size, i.bytes)) = some (z, s, b)) : ∃ i, Try.prog.info? t = some i ∧ i.zero = z ∧ i.size = s ∧ i.bytes = b := by
  cases hi : Try.prog.info? t with
  | none => rw [hi] at h; cases h
  | some i =>
    rw [hi] at h
    simp only [Option.map_some, Option.some.injEq, Prod.mk.injEq] at h
    exact ⟨i, rfl, h.1, h.2.1, h.2.2⟩
theorem info51 : (Try.prog.info? 51).map (fun i => (i.zero, i.size, i.bytes)) = some (some (.agg #[.int .i64 0, .int .i64 0]), 2, 16) := by kernel_rfl
theorem info3 : (Try.prog.info? 3).map (fun i => (i.zero, i.size, i.bytes)) = some (some (.int .i64 0), 1, 8) := by kernel_rfl
theorem own_keep {w w' : World} {base e size n : Nat} {v : Value} {xs : List Value} (h : w.ownsRow base e size v n xs) (hk : ∀ g, v.ownBlock = some g → w'.heap[g]? = w.heap[g]?) : w'.ownsRow base e size v n xs := by
  refine ⟨h.1, ?_⟩
  rcases h.2 with h0 | ⟨g, cap, cur, hv, hg, hh, hrest⟩
  · exact .inl h0
  · exact .inr ⟨g, cap, cur, hv, hg, (hk g (by rw [hv]; rfl)).trans hh, hrest⟩
theorem own_cells {w : World} {base e size n : Nat} {v : Value} {xs : List Value} (h : w.ownsRow base e size v n xs) {g : Nat} (hg : v.ownBlock = some g) : ∃ cur, w.heap[g]? = some (.cells cur e (0, 0)) := by
  rcases h.2 with ⟨h0, _⟩ | ⟨g', cap, cur, hv, _, hh, _⟩
  · rw [h0] at hg; cases hg
  · rw [hv] at hg
    have e' : g' = g := Option.some.inj hg
    exact ⟨cur, e' ▸ hh⟩

/-- pairs in a slice that may be anybody's -/
def PsS (w : World) (a : Option Addr) (n : Nat) (p : Nat → Int × Int) : Prop :=
  0 < n → ∃ b off, a = some ⟨b, off, none⟩ ∧ b < w.heap.size ∧ ∀ i, i < n → w.cell? ⟨b, off + i * 2, none⟩ = some (.int .i64 (p i).1) ∧ w.cell? ⟨b, off + i * 2 + 1, none⟩ = some (.int .i64 (p i).2)
theorem PsS.below {w w' : World} {a : Option Addr} {n : Nat} {p : Nat → Int × Int} (h : PsS w a n p) (hb : Below w.heap.size w w') : PsS w' a n p := by
  intro hn
  obtain ⟨b, off, e, hl, hc⟩ := h hn
  refine ⟨b, off, e, Nat.lt_of_lt_of_le hl hb.size, fun i hi => ?_⟩
  obtain ⟨c0, c1⟩ := hc i hi
  exact ⟨(hb.cell hl).trans c0, (hb.cell hl).trans c1⟩
/-- the cells of arcs -/
def rowA (p : Nat → Int × Int) : Nat → List Value
  | 0 => []
  | n + 1 => rowA p n ++ [.int .i64 (p n).1, .int .i64 (p n).2]
theorem rowA_length (p : Nat → Int × Int) (n : Nat) : (rowA p n).length = n * 2 := by
  induction n with
  | zero => rfl
  | succ n ih => unfold rowA; rw [List.length_append, ih]; simp; omega
theorem rowA_get (p : Nat → Int × Int) (n i : Nat) (h : i < n) : (rowA p n)[i * 2]? = some (.int .i64 (p i).1) ∧ (rowA p n)[i * 2 + 1]? = some (.int .i64 (p i).2) := by
  induction n with
  | zero => omega
  | succ n ih =>
    unfold rowA
    by_cases hi : i < n
    · obtain ⟨h0, h1⟩ := ih hi
      rw [List.getElem?_append_left (by rw [rowA_length]; omega), List.getElem?_append_left (by rw [rowA_length]; omega)]
      exact ⟨h0, h1⟩
    · obtain rfl : i = n := by omega
      rw [List.getElem?_append_right (by rw [rowA_length]; omega), List.getElem?_append_right (by rw [rowA_length]; omega), rowA_length]
      simp [show i * 2 + 1 - i * 2 = 1 by omega]
/-- arcs of our own -/
def ArcP (p : Nat → Int × Int) (n : Nat) (w : World) (e : Ending) (w' : World) : Prop :=
  ∃ g cp, e = .returned (.slice (some ⟨g, 0, none⟩) n cp) ∧ w'.ownsRow w.heap.size 51 2 (.slice (some ⟨g, 0, none⟩) n cp) n (rowA p n) ∧ Below w.heap.size w w'
theorem ArcP.pairs {p : Nat → Int × Int} {n base g cp : Nat} {w' : World} (h : w'.ownsRow base 51 2 (.slice (some ⟨g, 0, none⟩) n cp) n (rowA p n)) : PsS w' (some ⟨g, 0, none⟩) n p := by
  intro hn
  refine ⟨g, 0, rfl, (h.lt g rfl).2, fun i hi => ?_⟩
  obtain ⟨h0, h1⟩ := rowA_get p n i hi
  rw [Nat.zero_add]
  exact ⟨(h.cellAt (i * 2) (by omega)).trans h0, (h.cellAt (i * 2 + 1) (by omega)).trans h1⟩

set_option maxRecDepth 100000 in
set_option maxHeartbeats 4000000 in
theorem arcs_any (a : Option Addr) (n cap : Nat) (p : Nat → Int × Int) (w : World) (hn : n ≤ 1000000) (hs : PsS w a n p) :
    Calls Try.prog 12 #[.slice a n cap] w (ArcP p n w) := by
  obtain ⟨i8, hi8, hx0, hx1, hx2⟩ := info_parts info51
  have HS := Lib.hid hs
  clear hs
  obtain ⟨wi, ewi⟩ : ∃ wi, wi = w.alloc (.cells #[] 51) := ⟨_, rfl⟩
  have HB : Hid (Below w.heap.size w wi) := Lib.hid (by rw [ewi]; exact (Below.refl _ _).alloc (Nat.le_refl _) _)
  have HO : Hid (wi.ownsRow w.heap.size 51 2 (.slice (some ⟨w.heap.size, 0, none⟩) 0 0) 0 (rowA p 0)) := Lib.hid ⟨rfl, .inr ⟨w.heap.size, 0, #[], rfl, Nat.le_refl _, by rw [ewi]; exact heap_alloc_new _ _, Nat.le_refl _, Nat.zero_le _, rfl, rfl⟩⟩
  go_enter Try.func12, Try.ntmps12
  go_wp2
  rw [← ewi]
  clear ewi
  go_loopw [3, 5, 9] (fun vo _ x wr => ∃ (t g cp : Nat), t ≤ n ∧ x = .int .i64 (t : Int) ∧ vo = .slice (some ⟨g, 0, none⟩) t cp ∧ Hid (Below w.heap.size w wr ∧ wr.ownsRow w.heap.size 51 2 (.slice (some ⟨g, 0, none⟩) t cp) t (rowA p t))) (fun _ _ x _ => n - (intOf x).toNat)
  case atStart => exact ⟨0, _, 0, Nat.zero_le _, rfl, rfl, Lib.hid ⟨HB.out, HO.out⟩⟩
  case round =>
    obtain ⟨t, g, cp, ht, rfl, rfl, HT⟩ := hrel
    by_cases hlt : t < n
    · obtain ⟨b, off, rfl, hbl, hci⟩ := HS.out (by omega)
      obtain ⟨c0, c1⟩ := hci t hlt
      have x0 := (HT.out.1.cell (p := ⟨b, off + t * 2, none⟩) hbl).trans c0
      have x1 := (HT.out.1.cell (p := ⟨b, off + t * 2 + 1, none⟩) hbl).trans c1
      have hlt' : (t : Int) < (n : Int) := by omega
      have HRA : Hid (rowA p (t + 1) = rowA p t ++ [.int .i64 (p t).1, .int .i64 (p t).2]) := Lib.hid rfl
      have HBR := Lib.hid HT.out.1
      have HOR := Lib.hid HT.out.2
      clear c0 c1 hci HT
      generalize p t = pt at *
      obtain ⟨u, v⟩ := pt
      dsimp only at x0 x1 HRA
      have HNW : Hid (∀ (W : World) (j : Nat) (z : Value), [Value.int .i64 u, .int .i64 v][j]? = some z → (W.alloc (.cells #[.int .i64 u, .int .i64 v] 51)).cell? ((⟨W.heap.size, 0, none⟩ : Addr).add j) = some z) := Lib.hid fun W j z hj => by
        rw [Go.WideShapes.add_plain, cell_of_row _ _ _ _ 51 (0, 0) (heap_alloc_new W _), Nat.zero_add]
        simpa using hj
      have hwx : Below wr.heap.size wr (wr.alloc (.cells #[.int .i64 u, .int .i64 v] 27)) := (Below.refl _ _).alloc (Nat.le_refl _) _
      have hwy : ∀ W : World, Below W.heap.size W (W.alloc (.cells #[.int .i64 u, .int .i64 v] 51)) := fun W => (Below.refl _ _).alloc (Nat.le_refl _) _
      have HBX := Lib.hid (HBR.out.trans (hwx.mono HBR.out.size))
      have HOX := Lib.hid (own_keep HOR.out fun g hg => hwx.block g (HOR.out.lt g hg).2)
      have HBY := Lib.hid (HBX.out.trans ((hwy _).mono HBX.out.size))
      have HOY := Lib.hid (own_keep HOX.out fun g hg => (hwy _).block g (HOX.out.lt g hg).2)
      clear hwx hwy
      go_wp2_with (at_builtin; refine wpList_append_lies _ rfl _ _ 25 rfl w.heap.size 51 i8 (.agg #[.int .i64 0, .int .i64 0]) 2 16 Try.underlying25 hi8 hx0 hx1 hx2 rfl (by decide) _ t (rowA p t) rfl HOY.out ⟨(wr.alloc (.cells #[.int .i64 u, .int .i64 v] 27)).heap.size, 0, none⟩ 1 1 [.int .i64 u, .int .i64 v] (by simp [Act.eval]) rfl (HNW.out _) (by intro u hu; simp at hu; rcases hu with rfl | rfl <;> rfl) (by omega) (by unfold maxLen; omega) (by omega) HBY.out.size _ rfl ?_)
      intro g7 c7 w7 ho7 hg7 hat7 hl7
      have HB7 := Lib.hid (HBY.out.grown hg7 HBY.out.size (fun q hq => (HOX.out.lt q hq).1))
      rw [← HRA.out] at ho7
      have HO7 := Lib.hid ho7
      clear ho7 hg7 hat7
      go_wp2
      go_roundw
      case rel => exact ⟨t + 1, g7, c7, by omega, by go_num, rfl, Lib.hid ⟨HB7.out, HO7.out⟩⟩
      case measure => simp [intOf]; omega
    · have : t = n := by omega
      subst this
      go_wp2
      go_ret
      exact ⟨g, cp, rfl, HT.out.2, HT.out.1⟩
end Go.Proofs.Ytcolcgkfppjflaa
