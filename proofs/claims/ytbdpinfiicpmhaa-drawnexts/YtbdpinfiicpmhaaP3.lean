/-
  Contract of New: a generator's memory.
-/
import Derived.Test.YtbdpinfiicpmhaaP2
namespace Go.Proofs.Ytbdpinfiicpmhaa
open Go.ChangeShapes Go.WideShapes Go.ChangeAt Go.RowKit RefMath

/-- a generator in memory: its plan, its client, where its draws stand, the writes so far -/
def GenS (w : World) (g : Nat) (p : Pl) (c : Int) (st n : Nat) : Prop :=
  w.heap[g]? = some (.cells #[.int .i64 p.keys, .int .i64 p.most, .int .i64 p.r, .int .i64 p.w, .int .i64 p.b, .int .i64 p.s, .int .i64 c, .int .u64 (st : Int), .int .i64 (n : Int)] 55 (0, 0))
/-- the number that a client is, as the fork takes it -/
def cliN (c : Int) : Nat := c.toNat
/-- where a client's draws begin -/
def seedN (seed : Nat) (c : Int) : Nat := forkN seed (cliN c)
def NewP (p : Pl) (c : Int) (seed : Nat) (w : World) (e : Ending) (w' : World) : Prop :=
  (p.right ∧ 1 ≤ c ∧ c ≤ 16 ∧ ∃ g, e = .returned (.tuple #[.pointer (some ⟨g, 0, none⟩), .int .i64 0]) ∧ w.heap.size ≤ g ∧ GenS w' g p c (seedN seed c) 0 ∧ Below w.heap.size w w') ∨
  (¬ (p.right ∧ 1 ≤ c ∧ c ≤ 16) ∧ e = .returned (.tuple #[.pointer none, .int .i64 1]) ∧ Below w.heap.size w w')

theorem heap_lt {w : World} {q : Nat} {o : Obj} (h : w.heap[q]? = some o) : q < w.heap.size := by
  rcases Nat.lt_or_ge q w.heap.size with h' | h'
  · exact h'
  · rw [Array.getElem?_eq_none h'] at h; cases h
theorem cells6 {w : World} {b t : Nat} {v0 v1 v2 v3 v4 v5 : Value} (h : w.heap[b]? = some (.cells #[v0, v1, v2, v3, v4, v5] t (0, 0))) :
    w.cell? ⟨b, 0, none⟩ = some v0 ∧ w.cell? ⟨b, 1, none⟩ = some v1 ∧ w.cell? ⟨b, 2, none⟩ = some v2 ∧ w.cell? ⟨b, 3, none⟩ = some v3 ∧ w.cell? ⟨b, 4, none⟩ = some v4 ∧ w.cell? ⟨b, 5, none⟩ = some v5 := by
  refine ⟨?_, ?_, ?_, ?_, ?_, ?_⟩ <;> simp [World.cell?, h]
theorem cells1 {w : World} {b t : Nat} {v0 : Value} (h : w.heap[b]? = some (.cells #[v0] t (0, 0))) : w.cell? ⟨b, 0, none⟩ = some v0 := by simp [World.cell?, h]
set_option maxHeartbeats 2000000 in
theorem gnew_any (p : Pl) (c : Int) (seed : Nat) (w : World) (hs : seed < 18446744073709551616) : Calls Try.prog 10 #[plV p, .int .i64 c, .int .u64 (seed : Int)] w (NewP p c seed w) := by
  have HB0 : Hid (Below w.heap.size w (w.alloc (.cells #[.int .i64 p.keys, .int .i64 p.most, .int .i64 p.r, .int .i64 p.w, .int .i64 p.b, .int .i64 p.s] 23))) := Lib.hid ((Below.refl _ _).alloc (Nat.le_refl _) _)
  have HS := Lib.hid hs
  have HCk : Hid (∀ w, Calls Try.prog 11 #[.agg #[.int .i64 p.keys, .int .i64 p.most, .int .i64 p.r, .int .i64 p.w, .int .i64 p.b, .int .i64 p.s]] w (fun e w' => e = .returned (.int .i64 (ck p)) ∧ Below w.heap.size w w')) := Lib.hid (check_any p)
  have HP : Hid (∀ {wf : World} {g : Nat}, p.right → 1 ≤ c → c ≤ 16 → w.heap.size ≤ g → wf.heap[g]? = some (.cells #[.int .i64 p.keys, .int .i64 p.most, .int .i64 p.r, .int .i64 p.w, .int .i64 p.b, .int .i64 p.s, .int .i64 c, .int .u64 ((seedN seed c : Nat) : Int), .int .i64 0] 55 (0, 0)) → Below w.heap.size w wf → NewP p c seed w (.returned (.tuple #[.pointer (some ⟨g, 0, none⟩), .int .i64 0])) wf) := Lib.hid fun h1 h2 h3 h4 h5 h6 => .inl ⟨h1, h2, h3, _, rfl, h4, h5, h6⟩
  have HN : Hid (∀ {wf : World}, ¬ (p.right ∧ 1 ≤ c ∧ c ≤ 16) → Below w.heap.size w wf → NewP p c seed w (.returned (.tuple #[.pointer none, .int .i64 1])) wf) := Lib.hid fun h1 h2 => .inr ⟨h1, rfl, h2⟩
  clear hs
  show Calls Try.prog 10 #[.agg #[.int .i64 p.keys, .int .i64 p.most, .int .i64 p.r, .int .i64 p.w, .int .i64 p.b, .int .i64 p.s], .int .i64 c, .int .u64 (seed : Int)] w _
  generalize p.keys = x0 at *
  generalize p.most = x1 at *
  generalize p.r = x2 at *
  generalize p.w = x3 at *
  generalize p.b = x4 at *
  generalize p.s = x5 at *
  generalize NewP p c seed w = post at *
  by_cases hr : p.right
  · have HCk' := Lib.hid (ck_yes hr ▸ HCk.out)
    have HR := Lib.hid hr
    clear HCk hr
    go_enter Try.func10, Try.ntmps10
    go_wp2_with fail
    refine (HCk'.out _).mono ?_
    rintro e w1 ⟨rfl, hb⟩
    have HB1 := Lib.hid (HB0.out.trans (hb.mono (by simp)))
    have HPl : Hid (w1.heap[w.heap.size]? = some (.cells #[.int .i64 x0, .int .i64 x1, .int .i64 x2, .int .i64 x3, .int .i64 x4, .int .i64 x5] 23 (0, 0))) := Lib.hid ((hb.block _ (by simp)).trans (heap_alloc_new w _))
    clear hb
    by_cases h1 : c < 1
    · have hn := HN.out (wf := w1) (fun h => by have := h.2.1; omega) HB1.out
      go_wp2
      exact hn
    · by_cases h2 : 16 < c
      · have hn := HN.out (wf := w1) (fun h => by have := h.2.2; omega) HB1.out
        go_wp2
        exact hn
      · obtain ⟨cn, rfl⟩ : ∃ m : Nat, c = (m : Int) := ⟨c.toNat, by omega⟩
        have hsd : forkN seed cn = seedN seed (cn : Int) := by unfold seedN cliN; rw [Int.toNat_natCast]
        have HSD := Lib.hid hsd
        have HWC : Hid (IntKind.u64.wrap (cn : Int) = (cn : Int)) := Lib.hid (wrapN cn (by omega))
        clear hsd
        have hbA : Below w1.heap.size w1 w1.drew := (Below.refl _ _).drew
        have hbB : Below w1.heap.size w1 (w1.alloc (.cells #[.int .u64 (seed : Int)] 51)).drew := ((Below.refl _ _).alloc (Nat.le_refl _) _).drew
        have HbA := Lib.hid hbA
        have HbB := Lib.hid hbB
        clear hbA hbB
        have HKK : Hid (∀ W, Below w1.heap.size w1 W → W.cell? ⟨w.heap.size, 0, none⟩ = some (.int .i64 x0) ∧ W.cell? ⟨w.heap.size, 1, none⟩ = some (.int .i64 x1) ∧ W.cell? ⟨w.heap.size, 2, none⟩ = some (.int .i64 x2) ∧ W.cell? ⟨w.heap.size, 3, none⟩ = some (.int .i64 x3) ∧ W.cell? ⟨w.heap.size, 4, none⟩ = some (.int .i64 x4) ∧ W.cell? ⟨w.heap.size, 5, none⟩ = some (.int .i64 x5)) := Lib.hid fun W hb => cells6 ((hb.block _ (heap_lt HPl.out)).trans HPl.out)
        have hsz1 := HB1.out.size
        go_wp2_with fail
        obtain ⟨d0, d1, d2, d3, d4, d5⟩ := HKK.out _ HbA.out
        obtain ⟨d0', d1', d2', d3', d4', d5'⟩ := HKK.out _ HbB.out
        go_region_with (first
          | (go_at_call 17; refine (new_any _ _).mono ?_; rintro e w' ⟨rfl, rfl⟩)
          | (go_at_call 18; rw [HWC.out]; refine (fork_any _ seed cn _ HS.out (by simp)).mono ?_; rintro e w3 ⟨q, rfl, hq, hqc, hb3⟩; have HbC := Lib.hid (HbB.out.trans (hb3.mono HbB.out.size)); clear hb3; have hcq := cells1 hqc; obtain ⟨d0', d1', d2', d3', d4', d5'⟩ := HKK.out _ HbC.out))
        all_goals
          have hsz3 := HbC.out.size
          have hsd2 := HSD.out
          have hA : Below w.heap.size w (w3.alloc (.cells #[.int .i64 x0, .int .i64 x1, .int .i64 x2, .int .i64 x3, .int .i64 x4, .int .i64 x5, .int .i64 (cn : Int), .int .u64 ((forkN seed cn : Nat) : Int), .int .i64 0] 55)) := (HB1.out.trans (HbC.out.mono hsz1)).alloc (Nat.le_trans hsz1 hsz3) _
          have hn := HP.out (g := w3.heap.size) HR.out (by omega) (by omega) (Nat.le_trans hsz1 hsz3) (by rw [← hsd2]; exact heap_alloc_new _ _) hA
          clear hA hsd2 hsz3 HP HN HKK d0 d1 d2 d3 d4 d5 d0' d1' d2' d3' d4' d5' hcq
          go_wp2
          first
            | exact hn
            | (go_ret2; exact hn)
  · have HCk' := Lib.hid (ck_no hr ▸ HCk.out)
    have HR := Lib.hid (HN.out (wf := w) (fun h => hr h.1))
    have HR' : Hid (¬ (p.right ∧ 1 ≤ c ∧ c ≤ 16)) := Lib.hid fun h => hr h.1
    clear HCk hr HR
    go_enter Try.func10, Try.ntmps10
    go_wp2_with fail
    refine (HCk'.out _).mono ?_
    rintro e w1 ⟨rfl, hb⟩
    have hn := HN.out HR'.out (HB0.out.trans (hb.mono (by simp)))
    clear hb
    go_wp2
    exact hn
end Go.Proofs.Ytbdpinfiicpmhaa
