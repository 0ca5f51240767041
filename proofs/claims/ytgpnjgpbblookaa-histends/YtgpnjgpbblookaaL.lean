/-
  The laws' big and head.
-/
import Derived.Test.YtgpnjgpbblookaaK
namespace Go.Proofs.Ytgpnjgpbblookaa
open Go.ChangeShapes Go.WideShapes Go.ChangeAt Go.RowKit

def Big (len : Nat) (E : Nat → Ev) : Prop := 500 < len ∨ ∃ j, j < len ∧ 30 < (E j).n

theorem big_any (a : Option Addr) (len cap : Nat) (E : Nat → Ev) (w : World) (hs : EvS w a len E) : Calls Try.prog 11 #[.slice a len cap] w (Tells (Big len E) w) := by
  have HS := Lib.hid hs
  clear hs
  by_cases h5 : 500 < len
  · have h5' : (500 : Int) < (len : Int) := by omega
    have HBG : Hid (Big len E) := Lib.hid (.inl h5)
    clear h5
    go_enter Try.func11, Try.ntmps11
    go_wp2
    go_ret
    exact ⟨true, rfl, ⟨fun _ => HBG.out, fun _ => rfl⟩, Below.refl _ _⟩
  · have h5' : ¬ (500 : Int) < (len : Int) := by omega
    have hl5 : len ≤ 500 := by omega
    clear h5
    go_enter Try.func11, Try.ntmps11
    go_wp2
    go_loopw [4, 10] (fun _ i wr => ∃ t : Nat, t ≤ len ∧ i = .int .i64 (t : Int) ∧ Hid (Below w.heap.size w wr ∧ ∀ j, j < t → ¬ 30 < (E j).n)) (fun _ i _ => len - (intOf i).toNat)
    case atStart => exact ⟨0, Nat.zero_le _, rfl, Lib.hid ⟨Below.refl _ _, fun i hi => absurd hi (Nat.not_lt_zero _)⟩⟩
    case round =>
      obtain ⟨t, ht, rfl, HT⟩ := hrel
      by_cases hlt : t < len
      · obtain ⟨b, off, rfl, hbl, hci⟩ := HS.out (by omega)
        obtain ⟨sp, cp, c0, c1, c2, _⟩ := hci t hlt
        have x0 := (HT.out.1.cell (p := ⟨b, off + t * 3, none⟩) hbl).trans c0
        have x1 := (HT.out.1.cell (p := ⟨b, off + t * 3 + 1, none⟩) hbl).trans c1
        have x2 := (HT.out.1.cell (p := ⟨b, off + t * 3 + 2, none⟩) hbl).trans c2
        have hlt' : (t : Int) < (len : Int) := by omega
        have HPN : Hid (¬ 30 < (E t).n → ∀ j, j < t + 1 → ¬ 30 < (E j).n) := Lib.hid fun h j hj => by
          by_cases hh : j < t
          · exact HT.out.2 j hh
          · obtain rfl : j = t := by omega
            exact h
        have HBG : Hid (30 < (E t).n → Big len E) := Lib.hid fun h => .inr ⟨t, hlt, h⟩
        have HB1 : Hid (∀ ob, Below w.heap.size w (wr.alloc ob)) := Lib.hid fun ob => HT.out.1.alloc HT.out.1.size _
        clear c0 c1 c2 hci
        generalize E t = et at *
        obtain ⟨ek, ec, en, eo⟩ := et
        dsimp only at *
        by_cases h3 : 30 < en
        · have h3' : (30 : Int) < (en : Int) := by omega
          go_wp2
          go_ret
          exact ⟨true, rfl, ⟨fun _ => HBG.out h3, fun _ => rfl⟩, HB1.out _⟩
        · have h3' : ¬ (30 : Int) < (en : Int) := by omega
          go_wp2
          go_roundw
          case rel => exact ⟨t + 1, by omega, by go_num, Lib.hid ⟨HB1.out _, HPN.out h3⟩⟩
          case measure => simp [intOf]; omega
      · obtain rfl : len = t := by omega
        have HNB : Hid (¬ Big len E) := Lib.hid fun h => by
          rcases h with h | ⟨j, hj, h⟩
          · omega
          · exact HT.out.2 j hj h
        go_wp2
        go_ret
        exact ⟨false, rfl, ⟨fun h => (by cases h), fun h => absurd h HNB.out⟩, HT.out.1⟩

/-! the document's example -/
def o1 (i : Nat) : O3 := if i = 0 then ⟨1, 0, 0⟩ else ⟨2, 0, 5⟩
def o2 (i : Nat) : O3 := if i = 0 then ⟨1, 0, 7⟩ else ⟨2, 0, 5⟩
def exE (j : Nat) : Ev := if j = 0 then ⟨1, 1, 2, o1⟩ else ⟨2, 1, 2, o2⟩

theorem two {p : Nat → Prop} (h0 : p 0) (h1 : p 1) : ∀ i, i < 2 → p i := fun i hi => by
  have : i = 0 ∨ i = 1 := by omega
  rcases this with rfl | rfl
  · exact h0
  · exact h1
theorem ex0 : ErrOf (stateAt exE 0) (exE 0) 0 := by
  refine .inr (.inr (.inr (.inl ⟨⟨by decide, by decide, by decide, by decide, by decide, by decide, two ?_ ?_⟩, rfl, rfl, two ?_ ?_, rfl⟩)))
  · exact ⟨by decide, by decide, by decide, by decide, .inl ⟨rfl, .inr rfl⟩⟩
  · exact ⟨by decide, by decide, by decide, by decide, .inr ⟨rfl, by decide⟩⟩
  · exact fun h => absurd h.1 (by decide)
  · exact fun h => absurd h.2 (by decide)
theorem ex1 : ErrOf (stateAt exE 1) (exE 1) 0 := by
  refine .inr (.inr (.inr (.inr ⟨⟨by decide, by decide, by decide, by decide, by decide, by decide, two ?_ ?_⟩, by decide, by decide, .inr ⟨rfl, .inl ⟨rfl, .inr ⟨rfl, .inl ⟨rfl, two ?_ ?_⟩⟩⟩⟩⟩)))
  · exact ⟨by decide, by decide, by decide, by decide, .inl ⟨rfl, .inl (by decide)⟩⟩
  · exact ⟨by decide, by decide, by decide, by decide, .inr ⟨rfl, by decide⟩⟩
  · decide
  · decide
theorem exGood : Good exE 2 := two ex0 ex1

theorem ex_mem (w : World) : EvS (((w.alloc (.cells #[.int .i64 1, .int .i64 0, .int .i64 0, .int .i64 2, .int .i64 0, .int .i64 5] 38)).alloc (.cells #[.int .i64 1, .int .i64 0, .int .i64 7, .int .i64 2, .int .i64 0, .int .i64 5] 38)).alloc (.cells #[.int .i64 1, .int .i64 1, .slice (some ⟨w.heap.size, 0, none⟩) 2 2, .int .i64 2, .int .i64 1, .slice (some ⟨w.heap.size + 1, 0, none⟩) 2 2] 43)) (some ⟨w.heap.size + 2, 0, none⟩) 2 exE := by
  generalize hW : ((w.alloc (.cells #[.int .i64 1, .int .i64 0, .int .i64 0, .int .i64 2, .int .i64 0, .int .i64 5] 38)).alloc (.cells #[.int .i64 1, .int .i64 0, .int .i64 7, .int .i64 2, .int .i64 0, .int .i64 5] 38)).alloc (.cells #[.int .i64 1, .int .i64 1, .slice (some ⟨w.heap.size, 0, none⟩) 2 2, .int .i64 2, .int .i64 1, .slice (some ⟨w.heap.size + 1, 0, none⟩) 2 2] 43) = W
  have h0 : W.heap[w.heap.size]? = some (.cells #[.int .i64 1, .int .i64 0, .int .i64 0, .int .i64 2, .int .i64 0, .int .i64 5] 38 (0, 0)) := by
    rw [← hW, heap_alloc_old _ _ (by simp; omega), heap_alloc_old _ _ (by simp)]
    exact heap_alloc_new w _
  have h1 : W.heap[w.heap.size + 1]? = some (.cells #[.int .i64 1, .int .i64 0, .int .i64 7, .int .i64 2, .int .i64 0, .int .i64 5] 38 (0, 0)) := by
    rw [← hW, heap_alloc_old _ _ (by simp)]
    have h := heap_alloc_new (w.alloc (.cells #[.int .i64 1, .int .i64 0, .int .i64 0, .int .i64 2, .int .i64 0, .int .i64 5] 38)) (.cells #[.int .i64 1, .int .i64 0, .int .i64 7, .int .i64 2, .int .i64 0, .int .i64 5] 38)
    rwa [show (w.alloc (.cells #[.int .i64 1, .int .i64 0, .int .i64 0, .int .i64 2, .int .i64 0, .int .i64 5] 38)).heap.size = w.heap.size + 1 by simp] at h
  have h2 : W.heap[w.heap.size + 2]? = some (.cells #[.int .i64 1, .int .i64 1, .slice (some ⟨w.heap.size, 0, none⟩) 2 2, .int .i64 2, .int .i64 1, .slice (some ⟨w.heap.size + 1, 0, none⟩) 2 2] 43 (0, 0)) := by
    rw [← hW]
    have h := heap_alloc_new ((w.alloc (.cells #[.int .i64 1, .int .i64 0, .int .i64 0, .int .i64 2, .int .i64 0, .int .i64 5] 38)).alloc (.cells #[.int .i64 1, .int .i64 0, .int .i64 7, .int .i64 2, .int .i64 0, .int .i64 5] 38)) (.cells #[.int .i64 1, .int .i64 1, .slice (some ⟨w.heap.size, 0, none⟩) 2 2, .int .i64 2, .int .i64 1, .slice (some ⟨w.heap.size + 1, 0, none⟩) 2 2] 43)
    rwa [show ((w.alloc (.cells #[.int .i64 1, .int .i64 0, .int .i64 0, .int .i64 2, .int .i64 0, .int .i64 5] 38)).alloc (.cells #[.int .i64 1, .int .i64 0, .int .i64 7, .int .i64 2, .int .i64 0, .int .i64 5] 38)).heap.size = w.heap.size + 2 by simp] at h
  clear hW
  have lt : ∀ {q : Nat} {o : Obj}, W.heap[q]? = some o → q < W.heap.size := fun {q o} e => by
    rcases Nat.lt_or_ge q W.heap.size with h' | h'
    · exact h'
    · rw [Array.getElem?_eq_none h'] at e; cases e
  refine fun _ => ⟨_, 0, rfl, lt h2, two ?_ ?_⟩
  · refine ⟨some ⟨w.heap.size, 0, none⟩, 2, by simp [World.cell?, h2]; rfl, by simp [World.cell?, h2]; rfl, by simp [World.cell?, h2]; rfl, fun _ => ⟨_, 0, rfl, lt h0, two ?_ ?_⟩, fun h => (by cases h), by decide⟩
    · exact ⟨by simp [World.cell?, h0]; rfl, by simp [World.cell?, h0]; rfl, by simp [World.cell?, h0]; rfl⟩
    · exact ⟨by simp [World.cell?, h0]; rfl, by simp [World.cell?, h0]; rfl, by simp [World.cell?, h0]; rfl⟩
  · refine ⟨some ⟨w.heap.size + 1, 0, none⟩, 2, by simp [World.cell?, h2]; rfl, by simp [World.cell?, h2]; rfl, by simp [World.cell?, h2]; rfl, fun _ => ⟨_, 0, rfl, lt h1, two ?_ ?_⟩, fun h => (by cases h), by decide⟩
    · exact ⟨by simp [World.cell?, h1]; rfl, by simp [World.cell?, h1]; rfl, by simp [World.cell?, h1]; rfl⟩
    · exact ⟨by simp [World.cell?, h1]; rfl, by simp [World.cell?, h1]; rfl, by simp [World.cell?, h1]; rfl⟩

theorem ex_m : (stateAt exE 2).m = 1 := rfl
theorem ex_T : (stateAt exE 2).T 0 = ⟨1, 1, 2, o2⟩ := rfl

theorem head_any (w : World) : Calls Try.prog 10 #[] w fun e w' => e = .returned (.bool true) ∧ Below w.heap.size w w' := by
  have HM := Lib.hid (ex_mem w)
  have HBM : Hid (Below w.heap.size w (((w.alloc (.cells #[.int .i64 1, .int .i64 0, .int .i64 0, .int .i64 2, .int .i64 0, .int .i64 5] 38)).alloc (.cells #[.int .i64 1, .int .i64 0, .int .i64 7, .int .i64 2, .int .i64 0, .int .i64 5] 38)).alloc (.cells #[.int .i64 1, .int .i64 1, .slice (some ⟨w.heap.size, 0, none⟩) 2 2, .int .i64 2, .int .i64 1, .slice (some ⟨w.heap.size + 1, 0, none⟩) 2 2] 43))) := Lib.hid ((((Below.refl _ _).alloc (Nat.le_refl _) _).alloc (by simp) _).alloc (by simp; omega) _)
  go_enter Try.func10, Try.ntmps10
  go_wp2_with fail
  refine (of_any _ 2 2 exE _ (by decide) HM.out).mono ?_
  rintro e w2 ⟨hb2, hres⟩
  have HB2 := Lib.hid (HBM.out.trans (hb2.mono HBM.out.size))
  clear hb2 HM HBM
  rcases hres with ⟨h, _⟩ | ⟨_, ⟨i, er, hi, _, he, hne, _⟩ | ⟨_, v, hb, mb, mw, V, rfl, hst⟩⟩
  · exact absurd h (by decide)
  · exact absurd (err_one he (exGood i hi)) hne
  · have hrow := hst.row
    rw [ex_m] at hrow
    obtain ⟨sp, cp, eV, ho, _⟩ := hst.ops 0 (by rw [ex_m]; decide)
    rw [ex_T] at eV ho
    obtain ⟨g, cg, ev, _, _⟩ := hrow.form (by decide)
    subst ev
    obtain ⟨_, r1, r2⟩ := rowT_get (stateAt exE 2).T V 1 0 (by decide)
    rw [ex_T] at r1
    rw [eV] at r2
    have x1 := (hrow.cellAt 1 (by decide)).trans r1
    have x2 := (hrow.cellAt 2 (by decide)).trans r2
    obtain ⟨b, off, e, _, hc⟩ := own38_ops ho (by decide)
    subst e
    have x3 := (hc 0 (by decide)).2.2
    have e7 : (o2 0).v = 7 := rfl
    dsimp only at x1 x2 x3
    rw [e7] at x3
    rw [show off + 0 * 3 + 2 = off + 2 by omega] at x3
    clear hst hrow ho eV r1 r2 hc
    go_wp2
    go_ret
    exact ⟨rfl, HB2.out⟩
end Go.Proofs.Ytgpnjgpbblookaa
