/-
  Contract of the reference's Next.
-/
import Derived.Test.YtbdpinfiicpmhaaP12
import Derived.Deep.CutRange
namespace Go.Proofs.Ytbdpinfiicpmhaa
open Go.ChangeShapes Go.WideShapes Go.ChangeAt Go.RowKit RefMath
set_option linter.unusedVariables false

/-- the reference's memory: the plan, where it stands, its answer's cell, the operations so far -/
structure RfS (w wr : World) (p : Pl) (s n : Nat) (v : Value) (l : List O3) : Prop where
  plan : wr.heap[w.heap.size]? = some (.cells #[.int .i64 p.keys, .int .i64 p.most, .int .i64 p.r, .int .i64 p.w, .int .i64 p.b, .int .i64 p.s] 27 (0, 0))
  st : wr.heap[w.heap.size + 1]? = some (.cells #[.int .u64 (s : Int), .int .i64 (n : Int)] 37 (0, 0))
  res : wr.heap[w.heap.size + 1 + 1]? = some (.cells #[.int .u64 0, .int .i64 0] 37 (0, 0))
  row : wr.ownsRow w.heap.size 45 3 v l.length (rowL l)
  bel : Below w.heap.size w wr
theorem RfS.keep {w wr wr' : World} {p : Pl} {s n : Nat} {v : Value} {l : List O3} (h : RfS w wr p s n v l) (hb : Below wr.heap.size wr wr') : RfS w wr' p s n v l :=
  ⟨(hb.block _ (heap_lt h.plan)).trans h.plan, (hb.block _ (heap_lt h.st)).trans h.st, (hb.block _ (heap_lt h.res)).trans h.res, own_keep h.row fun g hg => hb.block g (h.row.lt g hg).2, h.bel.trans (hb.mono h.bel.size)⟩
theorem RfS.not_row {w wr : World} {p : Pl} {s n : Nat} {v : Value} {l : List O3} (h : RfS w wr p s n v l) : some w.heap.size ≠ v.ownBlock ∧ some (w.heap.size + 1) ≠ v.ownBlock ∧ some (w.heap.size + 1 + 1) ≠ v.ownBlock := by
  refine ⟨fun e => ?_, fun e => ?_, fun e => ?_⟩
  · obtain ⟨c, hc⟩ := own_cells h.row e.symm
    rw [h.plan] at hc; injection hc with hc; injection hc with _ hc _; cases hc
  · obtain ⟨c, hc⟩ := own_cells h.row e.symm
    rw [h.st] at hc; injection hc with hc; injection hc with _ hc _; cases hc
  · obtain ⟨c, hc⟩ := own_cells h.row e.symm
    rw [h.res] at hc; injection hc with hc; injection hc with _ hc _; cases hc
theorem RfS.push {w wr wr' : World} {p : Pl} {s n m : Nat} {v v' : Value} {l l' : List O3} (h : RfS w wr p s n v l) (hm : m = l'.length) (ho : wr'.ownsRow w.heap.size 45 3 v' m (rowL l')) (hg : wr.grownBy wr' v.ownBlock) : RfS w wr' p s n v' l' := by
  obtain ⟨n0, n1, n2⟩ := h.not_row
  subst hm
  exact ⟨(hg.block _ (heap_lt h.plan) n0).trans h.plan, (hg.block _ (heap_lt h.st) n1).trans h.st, (hg.block _ (heap_lt h.res) n2).trans h.res, ho, h.bel.grown hg h.bel.size (fun q hq => (h.row.lt q hq).1)⟩
/-- a cell of a block that is none of these is stored to -/
theorem RfS.other {w wr : World} {p : Pl} {s n : Nat} {v : Value} {l : List O3} (h : RfS w wr p s n v l) (q i : Nat) (u : Value) (hq : w.heap.size + 3 ≤ q) (hr : v.ownBlock ≠ some q) : RfS w (wr.setCell ⟨q, i, none⟩ u) p s n v l :=
  ⟨(heap_setCell_other wr ⟨q, i, none⟩ _ u (by dsimp only; omega)).trans h.plan, (heap_setCell_other wr ⟨q, i, none⟩ _ u (by dsimp only; omega)).trans h.st, (heap_setCell_other wr ⟨q, i, none⟩ _ u (by dsimp only; omega)).trans h.res,
    own_keep h.row fun g hg => heap_setCell_other wr ⟨q, i, none⟩ g u (fun e => hr (by rw [hg, e])), h.bel.setCell (by dsimp only; omega) _⟩
theorem RfS.setS {w wr : World} {p : Pl} {s n : Nat} {v : Value} {l : List O3} (h : RfS w wr p s n v l) (s' : Nat) : RfS w (wr.setCell ⟨w.heap.size + 1, 0, none⟩ (.int .u64 (s' : Int))) p s' n v l :=
  ⟨(heap_setCell_other wr ⟨w.heap.size + 1, 0, none⟩ _ _ (by dsimp only; omega)).trans h.plan, heap_setCell_same wr _ 0 _ 37 _ h.st, (heap_setCell_other wr ⟨w.heap.size + 1, 0, none⟩ _ _ (by dsimp only; omega)).trans h.res,
    own_keep h.row fun g hg => heap_setCell_other wr ⟨w.heap.size + 1, 0, none⟩ g _ (fun e => h.not_row.2.1 (by rw [hg, e])), h.bel.setCell (by dsimp only; omega) _⟩
theorem RfS.setN {w wr : World} {p : Pl} {s n : Nat} {v : Value} {l : List O3} (h : RfS w wr p s n v l) (n' : Nat) : RfS w (wr.setCell ⟨w.heap.size + 1, 1, none⟩ (.int .i64 (n' : Int))) p s n' v l :=
  ⟨(heap_setCell_other wr ⟨w.heap.size + 1, 1, none⟩ _ _ (by dsimp only; omega)).trans h.plan, heap_setCell_same wr _ 1 _ 37 _ h.st, (heap_setCell_other wr ⟨w.heap.size + 1, 1, none⟩ _ _ (by dsimp only; omega)).trans h.res,
    own_keep h.row fun g hg => heap_setCell_other wr ⟨w.heap.size + 1, 1, none⟩ g _ (fun e => h.not_row.2.1 (by rw [hg, e])), h.bel.setCell (by dsimp only; omega) _⟩
theorem RfS.fresh {w wr : World} {p : Pl} {s n : Nat} {v : Value} {l : List O3} (h : RfS w wr p s n v l) : RfS w (wr.alloc (.cells #[] 45)) p s n (.slice (some ⟨wr.heap.size, 0, none⟩) 0 0) [] := by
  have hk := h.keep ((Below.refl _ _).alloc (Nat.le_refl _) (.cells #[] 45))
  exact ⟨hk.plan, hk.st, hk.res, World.ownsRow_lit wr #[] 0 h.bel.size (Nat.zero_le _) rfl, hk.bel⟩
theorem RfS.rowk {w wr : World} {p : Pl} {s n k : Nat} {v : Value} {l : List O3} (h : RfS w wr p s n v l) (hk : l.length = k) : wr.ownsRow w.heap.size 45 3 v k (rowL l) := hk ▸ h.row
theorem RfS.lit {w wr : World} {p : Pl} {s n : Nat} {v : Value} {l : List O3} (h : RfS w wr p s n v l) (o : Obj) : RfS w (wr.alloc o) p s n v l := h.keep ((Below.refl _ _).alloc (Nat.le_refl _) _)
theorem RfS.wlit {w wr : World} {p : Pl} {s n : Nat} {v : Value} {l : List O3} (h : RfS w wr p s n v l) (x : O3) (z : Int) (hz : z = ((n + 1 : Nat) : Int)) :
    RfS w ((wr.setCell ⟨w.heap.size + 1, 1, none⟩ (.int .i64 z)).alloc (.cells #[.int .i64 x.k, .int .i64 x.key, .int .i64 x.v] 45)) p s (n + 1) v l := by
  subst hz
  exact (h.setN (n + 1)).lit _
theorem scan_min {d room rest : Int} {m y : Nat} (hd : d = (y : Int)) (hr : 1 ≤ room) (hs : 1 ≤ rest) (hm : (min (min (1 + d) room) rest).toNat = m) :
    (m : Int) ≤ (y : Int) + 1 ∧ (m : Int) ≤ room ∧ (m : Int) ≤ rest ∧ ((m : Int) = (y : Int) + 1 ∨ (m : Int) = room ∨ (m : Int) = rest) ∧ 1 ≤ m := by
  subst hd; omega
theorem lit1_set (wr : World) (b i : Nat) (u : Value) (x : O3) : OpS ((wr.setCell ⟨b, i, none⟩ u).alloc (.cells #[.int .i64 x.k, .int .i64 x.key, .int .i64 x.v] 45)) (some ⟨wr.heap.size, 0, none⟩) 1 (lf [x]) := by
  have h := lit1_ops (wr.setCell ⟨b, i, none⟩ u) x
  rw [show (wr.setCell ⟨b, i, none⟩ u).heap.size = wr.heap.size by simp] at h
  exact h
theorem alloc3 (w : World) (a b c : Obj) : (((w.alloc a).alloc b).alloc c).heap[w.heap.size]? = some a ∧ (((w.alloc a).alloc b).alloc c).heap[w.heap.size + 1]? = some b ∧ (((w.alloc a).alloc b).alloc c).heap[w.heap.size + 1 + 1]? = some c := by
  have e1 : (w.alloc a).heap.size = w.heap.size + 1 := by simp
  have e2 : ((w.alloc a).alloc b).heap.size = w.heap.size + 1 + 1 := by simp
  have h1 := heap_alloc_new (w.alloc a) b
  have h2 := heap_alloc_new ((w.alloc a).alloc b) c
  rw [e1] at h1
  rw [e2] at h2
  exact ⟨(Below.heap_alloc _ _ _ (by rw [e2]; omega)).trans ((Below.heap_alloc _ _ _ (by rw [e1]; omega)).trans (heap_alloc_new w a)), (Below.heap_alloc _ _ _ (by rw [e2]; omega)).trans h1, h2⟩
/-- what the reference's Next answers -/
def RnP (r : List O3 × Nat × Nat) (w : World) (e : Ending) (w' : World) : Prop :=
  ∃ sp cp, e = .returned (.tuple #[stV r.2.1 r.2.2, .slice sp r.1.length cp]) ∧ w'.ownsRow w.heap.size 45 3 (.slice sp r.1.length cp) r.1.length (rowL r.1) ∧ Below w.heap.size w w'

set_option maxRecDepth 100000 in
set_option maxHeartbeats 3000000 in
theorem rnext13_any (p : Pl) (c : Int) (st n : Nat) (w : World) (hp : p.right) (hc1 : 1 ≤ c) (hc2 : c ≤ 16) (hn : n ≤ 90000) (hs : st < 18446744073709551616) :
    Calls Try.prog 14 #[plV p, .int .i64 c, stV st n] w (RnP (nx p c st n) w) := by
  have HP := Lib.hid hp
  have hw := wants_in hp st
  have HB23 : Hid (∀ (s n : Nat) (k : Int) (w : World), k ≤ 9223372036854775807 → s < 18446744073709551616 → Calls Try.prog 23 #[.agg #[.int .u64 (s : Int), .int .i64 (n : Int)], .int .i64 k] w fun e w' => e = .returned (.tuple #[.agg #[.int .u64 ((MixMath.nxt s : Nat) : Int), .int .i64 (n : Int)], .int .i64 (drawn s k)]) ∧ Below w.heap.size w w') := Lib.hid rbelow13_any
  obtain ⟨want, hwt⟩ : ∃ want, want = wants p st := ⟨_, rfl⟩
  have HEN : Hid (∀ j, want ≤ (its p c want ([], MixMath.nxt st, n) j).1.length → its p c want ([], MixMath.nxt st, n) j = nx p c st n) := Lib.hid fun j h => by
    rw [hwt] at h ⊢
    exact its_end HP.out h
  rw [← hwt] at hw
  have HD : Hid (drawn st p.most = (want : Int) - 1) := Lib.hid (by omega)
  have HRN : Hid (∀ j, Rnd n want (its p c want ([], MixMath.nxt st, n) j)) := Lib.hid (its_rnd HP.out (rnd0 n want st))
  obtain ⟨hw1, hw2, hw3, hw4⟩ := hw
  have hm2 := hp.m2
  clear hwt hw4 hp
  obtain ⟨s0, hs0⟩ : ∃ s0, s0 = MixMath.nxt st := ⟨_, rfl⟩
  rw [← hs0] at HEN HRN
  have HE0 := Lib.hid hs0
  clear hs0
  generalize nx p c st n = r at *
  have HR0 : Hid (RfS w (((w.alloc (.cells #[.int .i64 p.keys, .int .i64 p.most, .int .i64 p.r, .int .i64 p.w, .int .i64 p.b, .int .i64 p.s] 27)).alloc (.cells #[.int .u64 (st : Int), .int .i64 (n : Int)] 37)).alloc (.cells #[.int .u64 0, .int .i64 0] 37)) p st n (.slice none 0 0) []) := Lib.hid
    ⟨(alloc3 w _ _ _).1, (alloc3 w _ _ _).2.1, (alloc3 w _ _ _).2.2, World.ownsRow_nil _ _ _ _, (((Below.refl _ _).alloc (Nat.le_refl _) _).alloc (by simp) _).alloc (by simp; omega) _⟩
  show Calls Try.prog 14 #[.agg #[.int .i64 p.keys, .int .i64 p.most, .int .i64 p.r, .int .i64 p.w, .int .i64 p.b, .int .i64 p.s], .int .i64 c, .agg #[.int .u64 (st : Int), .int .i64 (n : Int)]] w _
  go_enter Try.func14, Try.ntmps14
  go_wp2_with fail
  refine (HB23.out st n p.most _ (by omega) hs).mono ?_
  rw [HD.out, ← HE0.out]
  rintro e w1 ⟨rfl, hb⟩
  have HR1 := Lib.hid (HR0.out.keep hb)
  clear hb HR0
  obtain ⟨⟨c0, c1⟩, hf⟩ := cells2 HR1.out.st
  have hf0 := hf 0
  have hf1 := hf 1
  clear hf
  have HR2 : Hid (RfS w (((w1.setCell ⟨w.heap.size + 1, 0, none⟩ (.int .u64 (s0 : Int))).setCell ⟨w.heap.size + 1, 1, none⟩ (.int .i64 (n : Int))).alloc (.cells #[] 45)) p s0 n (.slice (some ⟨w1.heap.size, 0, none⟩) 0 0) []) := Lib.hid (by
    have h := ((HR1.out.setS s0).setN n).fresh
    simpa using h)
  go_wp2
  generalize (((w1.setCell ⟨w.heap.size + 1, 0, none⟩ (.int .u64 (s0 : Int))).setCell ⟨w.heap.size + 1, 1, none⟩ (.int .i64 (n : Int))).alloc (.cells #[] 45)) = w2 at *
  clear HR1 c0 c1 hf0 hf1
  go_loopw [9] (fun vo wr => ∃ (j : Nat) (sp : Option Addr) (cp : Nat), vo = .slice sp (its p c want ([], s0, n) j).1.length cp ∧ Hid (RfS w wr p (its p c want ([], s0, n) j).2.1 (its p c want ([], s0, n) j).2.2 (.slice sp (its p c want ([], s0, n) j).1.length cp) (its p c want ([], s0, n) j).1)) (fun vo _ => want - lenOf vo)
  case atStart => exact ⟨0, some ⟨w1.heap.size, 0, none⟩, 0, rfl, HR2⟩
  case round =>
    clear HR2
    obtain ⟨j, sp, cp, rfl, HR⟩ := hrel
    have hrn := HRN.out j
    have h1 := hrn.len
    have h2 := hrn.hi
    have HEN' := Lib.hid (HEN.out j)
    have hst := hrn.st
    have HST : Hid ((its p c want ([], s0, n) j).1.length < want → its p c want ([], s0, n) (j + 1) = ((its p c want ([], s0, n) j).1 ++ (smO p c (its p c want ([], s0, n) j).2.1 (its p c want ([], s0, n) j).2.2 ((want : Int) - ((its p c want ([], s0, n) j).1.length : Int))).1, (smO p c (its p c want ([], s0, n) j).2.1 (its p c want ([], s0, n) j).2.2 ((want : Int) - ((its p c want ([], s0, n) j).1.length : Int))).2.1, (smO p c (its p c want ([], s0, n) j).2.1 (its p c want ([], s0, n) j).2.2 ((want : Int) - ((its p c want ([], s0, n) j).1.length : Int))).2.2)) := Lib.hid fun h => by
      show stp p c want (its p c want ([], s0, n) j) = _
      unfold stp; rw [if_pos h]
    clear hrn
    obtain ⟨S, hS⟩ : ∃ S, its p c want ([], s0, n) j = S := ⟨_, rfl⟩
    rw [hS] at HR h1 h2 HEN' HST hst ⊢
    obtain ⟨l, s1, n1⟩ := S
    dsimp only at HR h1 h2 HEN' HST hst ⊢
    clear hS
    obtain ⟨k, hk⟩ : ∃ k, l.length = k := ⟨_, rfl⟩
    rw [hk] at HR h1 h2 HEN' HST ⊢
    have HK := Lib.hid hk
    clear hk
    by_cases hlt : k < want
    · have HST' := Lib.hid (HST.out hlt)
      have hroom : (1 : Int) ≤ (want : Int) - (k : Int) := by omega
      obtain ⟨key, hky⟩ : ∃ key, key = drawn s1 p.keys := ⟨_, rfl⟩
      obtain ⟨t1, ht1⟩ : ∃ t1, t1 = MixMath.nxt s1 := ⟨_, rfl⟩
      obtain ⟨t2, ht2⟩ : ∃ t2, t2 = MixMath.nxt t1 := ⟨_, rfl⟩
      obtain ⟨x, hx⟩ : ∃ x, x = drawn t1 p.sum := ⟨_, rfl⟩
      have hkk := drawn_in HP.out s1
      rw [← hky] at hkk
      have HKY := Lib.hid hky
      have HT1 := Lib.hid ht1
      have HT2 := Lib.hid ht2
      have HX := Lib.hid hx
      have ht1l : t1 < 18446744073709551616 := by rw [ht1]; exact MixMath.nxt_lt' _
      have ht2l : t2 < 18446744073709551616 := by rw [ht2]; exact MixMath.nxt_lt' _
      have hx0 : 0 ≤ x := by rw [hx]; exact drawn_nonneg _ _
      have hk2 := HP.out.k2
      have hwr := HP.out.r
      have hww := HP.out.w
      have hwb := HP.out.b
      have hws := HP.out.s
      unfold wOk at hwr hww hwb hws
      obtain ⟨⟨d0, d1, d2, d3, d4, d5⟩⟩ : Nonempty _ := ⟨cells6 HR.out.plan⟩
      obtain ⟨⟨c0, c1⟩, hf⟩ := cells2 HR.out.st
      have hlt' : (k : Int) < (want : Int) := by omega
      have HS0 : Hid (x < p.r → smO p c s1 n1 ((want : Int) - (k : Int)) = ([rdO key], t2, n1)) := Lib.hid fun h => by unfold smO; dsimp only; rw [← HKY.out, ← HT1.out, ← HX.out, ← HT2.out, if_pos h]
      have HS1 : Hid (¬ x < p.r → x < p.r + p.w → smO p c s1 n1 ((want : Int) - (k : Int)) = ([wrO c key (n1 + 1)], t2, n1 + 1)) := Lib.hid fun h h1 => by unfold smO; dsimp only; rw [← HKY.out, ← HT1.out, ← HX.out, ← HT2.out, if_neg h, if_pos h1]
      have HS2 : Hid (¬ x < p.r → ¬ x < p.r + p.w → x < p.r + p.w + p.b → k + 1 < want → smO p c s1 n1 ((want : Int) - (k : Int)) = ([rdO key, wrO c key (n1 + 1)], t2, n1 + 1)) := Lib.hid fun h h1 h2 h3 => by unfold smO; dsimp only; rw [← HKY.out, ← HT1.out, ← HX.out, ← HT2.out, if_neg h, if_neg h1, if_pos h2, if_pos (by omega)]
      have HS3 : Hid (¬ x < p.r → ¬ x < p.r + p.w → x < p.r + p.w + p.b → ¬ k + 1 < want → smO p c s1 n1 ((want : Int) - (k : Int)) = ([rdO key], t2, n1)) := Lib.hid fun h h1 h2 h3 => by unfold smO; dsimp only; rw [← HKY.out, ← HT1.out, ← HX.out, ← HT2.out, if_neg h, if_neg h1, if_pos h2, if_neg (by omega)]
      have HS4 : Hid (¬ x < p.r → ¬ x < p.r + p.w → ¬ x < p.r + p.w + p.b → smO p c s1 n1 ((want : Int) - (k : Int)) = (scanL key (min (min (1 + drawn t2 3) ((want : Int) - (k : Int))) (p.keys - key)).toNat, MixMath.nxt t2, n1)) := Lib.hid fun h h1 h2 => by unfold smO; dsimp only; rw [← HKY.out, ← HT1.out, ← HX.out, ← HT2.out, if_neg h, if_neg h1, if_neg h2]
      have HREL : Hid (∀ (wr' : World) (v' : Value) (l2 : List O3) (s' n' k2 : Nat) (sp' : Option Addr) (cp' : Nat), smO p c s1 n1 ((want : Int) - (k : Int)) = (l2, s', n') → l2.length = k2 → v' = .slice sp' (k + k2) cp' → RfS w wr' p s' n' v' (l ++ l2) → ∃ (j : Nat) (sp : Option Addr) (cp : Nat), v' = .slice sp (its p c want ([], s0, n) j).1.length cp ∧ Hid (RfS w wr' p (its p c want ([], s0, n) j).2.1 (its p c want ([], s0, n) j).2.2 (.slice sp (its p c want ([], s0, n) j).1.length cp) (its p c want ([], s0, n) j).1)) := Lib.hid fun wr' v' l2 s' n' k2 sp' cp' e hk2 ev h => by
        subst ev
        refine ⟨j + 1, sp', cp', ?_, Lib.hid ?_⟩
        · rw [HST'.out, e]; dsimp only; rw [List.length_append, HK.out, hk2]
        · rw [HST'.out, e]; dsimp only; rw [List.length_append, HK.out, hk2]; exact h
      clear HST' HST
      clear hky ht1 ht2 hx hf
      go_wp2_with fail
      refine (HB23.out s1 n1 p.keys _ (by omega) hst).mono ?_
      rw [← HKY.out, ← HT1.out]
      rintro e wA ⟨rfl, hb⟩
      have HRA := Lib.hid (HR.out.keep hb)
      clear hb HR d0 d1 d2 d3 d4 d5 c0 c1
      obtain ⟨⟨d0, d1, d2, d3, d4, d5⟩⟩ : Nonempty _ := ⟨cells6 HRA.out.plan⟩
      have hszA := heap_lt HRA.out.res
      have hszB := heap_lt HRA.out.st
      have hszC := heap_lt HRA.out.plan
      have hnA : wA.heap.size ≠ w.heap.size := by omega
      have hnB : wA.heap.size ≠ w.heap.size + 1 := by omega
      go_wp2_with fail
      refine (HB23.out t1 n1 (p.r + p.w + p.b + p.s) _ (by omega) ht1l).mono ?_
      rw [← HT2.out, show drawn t1 (p.r + p.w + p.b + p.s) = x from HX.out.symm]
      rintro e wB ⟨rfl, hb⟩
      have HRB := Lib.hid ((HRA.out.lit (.cells #[.int .u64 (t1 : Int), .int .i64 (n1 : Int)] 37)).keep hb)
      have hq := (hb.block wA.heap.size (by simp)).trans (heap_alloc_new wA (.cells #[.int .u64 (t1 : Int), .int .i64 (n1 : Int)] 37))
      have HQ : Hid ((Value.slice sp k cp).ownBlock ≠ some wA.heap.size) := Lib.hid fun e => by
        have := (HRA.out.row.lt wA.heap.size e).2
        omega
      obtain ⟨⟨q0, q1⟩, hqf⟩ := cells2 hq
      have qf0 := hqf 0
      have qf1 := hqf 1
      obtain ⟨⟨c0, c1⟩, hf⟩ := cells2 HRB.out.st
      have hf0 := hf 0
      have hf1 := hf 1
      have HRC : Hid (RfS w ((((wB.setCell ⟨wA.heap.size, 0, none⟩ (.int .u64 (t2 : Int))).setCell ⟨wA.heap.size, 1, none⟩ (.int .i64 (n1 : Int))).setCell ⟨w.heap.size + 1, 0, none⟩ (.int .u64 (t2 : Int))).setCell ⟨w.heap.size + 1, 1, none⟩ (.int .i64 (n1 : Int))) p t2 n1 (.slice sp k cp) l) := Lib.hid ((((HRB.out.other _ 0 _ (by omega) HQ.out).other _ 1 _ (by omega) HQ.out).setS t2).setN n1)
      clear hb hq hqf hf HRA d0 d1 d2 d3 d4 d5
      obtain ⟨⟨d0, d1, d2, d3, d4, d5⟩⟩ : Nonempty _ := ⟨cells6 HRB.out.plan⟩
      go_upto_region 8 with (fail)
      obtain ⟨wC, eC⟩ : ∃ wC, wC = ((((wB.setCell ⟨wA.heap.size, 0, none⟩ (.int .u64 (t2 : Int))).setCell ⟨wA.heap.size, 1, none⟩ (.int .i64 (n1 : Int))).setCell ⟨w.heap.size + 1, 0, none⟩ (.int .u64 (t2 : Int))).setCell ⟨w.heap.size + 1, 1, none⟩ (.int .i64 (n1 : Int))) := ⟨_, rfl⟩
      rw [← eC] at HRC ⊢
      clear eC q0 q1 qf0 qf1 c0 c1 hf0 hf1 d0 d1 d2 d3 d4 d5 HRB HQ hszA hszB hszC hnA hnB
      obtain ⟨⟨c0, c1⟩, hf⟩ := cells2 HRC.out.st
      have hf0 := hf 0
      have hf1 := hf 1
      obtain ⟨⟨d0, d1, d2, d3, d4, d5⟩⟩ : Nonempty _ := ⟨cells6 HRC.out.plan⟩
      have hszA := heap_lt HRC.out.st
      have hszB := heap_lt HRC.out.plan
      clear hf
      by_cases k0 : x < p.r
      · have hsm := Lib.hid (HS0.out (by omega))
        clear HS0 HS1 HS2 HS3 HS4
        have HRL : Hid (RfS w (wC.alloc (.cells #[.int .i64 1, .int .i64 key, .int .i64 0] 45)) p t2 n1 (.slice sp k cp) l) := Lib.hid (HRC.out.lit _)
        have HSL : Hid (OpS (wC.alloc (.cells #[.int .i64 1, .int .i64 key, .int .i64 0] 45)) (some ⟨wC.heap.size, 0, none⟩) 1 (lf [rdO key])) := Lib.hid (lit1_ops wC (rdO key))
        go_wp2_with (at_builtin; refine wpList_append_ops rfl _ _ rfl w.heap.size _ k l HK.out.symm rfl (HRL.out.rowk HK.out) (some ⟨wC.heap.size, 0, none⟩) 1 1 [rdO key] rfl rfl HSL.out (fun h => by cases h) (by omega) HRL.out.bel.size ?_; intro v7 w7 ho7 hg7; obtain ⟨sp7, cp7, hv7⟩ := own_form' ho7; subst hv7; have HN7 := Lib.hid (HRL.out.push (by rw [List.length_append, HK.out]; rfl) ho7 hg7); clear ho7 hg7)
        go_roundw
        case rel => exact HREL.out _ _ _ _ _ 1 sp7 cp7 hsm.out rfl rfl HN7.out
        case measure => simp [lenOf]; omega
      · by_cases k1 : x < p.r + p.w
        · have hsm := Lib.hid (HS1.out (by omega) (by omega))
          clear HS0 HS1 HS2 HS3 HS4
          have HWX : Hid (wrO c key (n1 + 1) = ⟨2, key, 16 * ((n1 : Int) + 1) + c - 1⟩) := Lib.hid (by unfold wrO; congr 1)
          have HRW := Lib.hid (HRC.out.wlit ⟨2, key, 16 * ((n1 : Int) + 1) + c - 1⟩ ((n1 : Int) + 1) (by omega))
          have HSW := Lib.hid (lit1_set wC (w.heap.size + 1) 1 (.int .i64 ((n1 : Int) + 1)) ⟨2, key, 16 * ((n1 : Int) + 1) + c - 1⟩)
          go_wp2_with (at_builtin; refine wpList_append_ops rfl _ _ rfl w.heap.size _ k l HK.out.symm rfl (HRW.out.rowk HK.out) (some ⟨wC.heap.size, 0, none⟩) 1 1 [⟨2, key, 16 * ((n1 : Int) + 1) + c - 1⟩] rfl rfl HSW.out (fun h => by cases h) (by omega) HRW.out.bel.size ?_; intro v7 w7 ho7 hg7; obtain ⟨sp7, cp7, hv7⟩ := own_form' ho7; subst hv7; have HN7 := Lib.hid (HRW.out.push (by rw [List.length_append, HK.out]; rfl) ho7 hg7); clear ho7 hg7)
          go_roundw
          case rel => exact HREL.out _ _ _ _ _ 1 sp7 cp7 hsm.out rfl rfl (HWX.out ▸ HN7.out)
          case measure => simp [lenOf]; omega
        · by_cases k2 : x < p.r + p.w + p.b
          · have HRL : Hid (RfS w (wC.alloc (.cells #[.int .i64 1, .int .i64 key, .int .i64 0] 45)) p t2 n1 (.slice sp k cp) l) := Lib.hid (HRC.out.lit _)
            have HSL : Hid (OpS (wC.alloc (.cells #[.int .i64 1, .int .i64 key, .int .i64 0] 45)) (some ⟨wC.heap.size, 0, none⟩) 1 (lf [rdO key])) := Lib.hid (lit1_ops wC (rdO key))
            have HWX : Hid (wrO c key (n1 + 1) = ⟨2, key, 16 * ((n1 : Int) + 1) + c - 1⟩) := Lib.hid (by unfold wrO; congr 1)
            have HK1 : Hid ((l ++ [rdO key]).length = k + 1) := Lib.hid (by rw [List.length_append, HK.out]; rfl)
            by_cases k3 : k + 1 < want
            · have hsm := Lib.hid (HS2.out (by omega) (by omega) k2 k3)
              have k3' : (k : Int) + 1 < (want : Int) := by omega
              clear HS0 HS1 HS2 HS3 HS4
              go_wp2_with (first
                | (at_builtin; refine wpList_append_ops rfl _ _ rfl w.heap.size _ (k + 1) (l ++ [rdO key]) HK1.out.symm rfl ((HN7.out.wlit ⟨2, key, 16 * ((n1 : Int) + 1) + c - 1⟩ ((n1 : Int) + 1) (by omega)).rowk HK1.out) (some ⟨w7.heap.size, 0, none⟩) 1 1 [wrO c key (n1 + 1)] rfl rfl (by rw [HWX.out]; exact lit1_set w7 _ _ _ ⟨2, key, 16 * ((n1 : Int) + 1) + c - 1⟩) (fun h => by cases h) (by omega) (HN7.out.wlit ⟨2, key, 16 * ((n1 : Int) + 1) + c - 1⟩ ((n1 : Int) + 1) (by omega)).bel.size ?_; intro v8 w8 ho8 hg8; obtain ⟨sp8, cp8, hv8⟩ := own_form' ho8; subst hv8; have HN8 := Lib.hid ((HN7.out.wlit ⟨2, key, 16 * ((n1 : Int) + 1) + c - 1⟩ ((n1 : Int) + 1) (by omega)).push (by rw [List.length_append, HK1.out]; rfl) ho8 hg8); clear ho8 hg8)
                | (at_builtin; refine wpList_append_ops rfl _ _ rfl w.heap.size _ k l HK.out.symm rfl (HRL.out.rowk HK.out) (some ⟨wC.heap.size, 0, none⟩) 1 1 [rdO key] rfl rfl HSL.out (fun h => by cases h) (by omega) HRL.out.bel.size ?_; intro v7 w7 ho7 hg7; obtain ⟨sp7, cp7, hv7⟩ := own_form' ho7; subst hv7; have HN7 := Lib.hid (HRL.out.push (by rw [List.length_append, HK.out]; rfl) ho7 hg7); clear ho7 hg7; obtain ⟨⟨e0, e1⟩, hf'⟩ := cells2 HN7.out.st; have hf7 := hf' 1; clear hf'))
              go_roundw
              case rel => exact HREL.out _ _ _ _ _ 2 sp8 cp8 hsm.out rfl rfl (by have h := HN8.out; rw [List.append_assoc] at h; exact h)
              case measure => simp [lenOf]; omega
            · have hsm := Lib.hid (HS3.out (by omega) (by omega) k2 (by omega))
              have k3' : ¬ (k : Int) + 1 < (want : Int) := by omega
              clear HS0 HS1 HS2 HS3 HS4
              go_wp2_with (at_builtin; refine wpList_append_ops rfl _ _ rfl w.heap.size _ k l HK.out.symm rfl (HRL.out.rowk HK.out) (some ⟨wC.heap.size, 0, none⟩) 1 1 [rdO key] rfl rfl HSL.out (fun h => by cases h) (by omega) HRL.out.bel.size ?_; intro v7 w7 ho7 hg7; obtain ⟨sp7, cp7, hv7⟩ := own_form' ho7; subst hv7; have HN7 := Lib.hid (HRL.out.push (by rw [List.length_append, HK.out]; rfl) ho7 hg7); clear ho7 hg7)
              go_roundw
              case rel => exact HREL.out _ _ _ _ _ 1 sp7 cp7 hsm.out rfl rfl HN7.out
              case measure => simp [lenOf]; omega
          · have hsm := Lib.hid (HS4.out (by omega) (by omega) (by omega))
            obtain ⟨t3, ht3⟩ : ∃ t3, t3 = MixMath.nxt t2 := ⟨_, rfl⟩
            obtain ⟨y, hy⟩ : ∃ y : Nat, drawn t2 3 = (y : Int) := ⟨(drawn t2 3).toNat, (Int.toNat_of_nonneg (drawn_nonneg t2 3)).symm⟩
            have hy3 : y < 3 := by
              have h := drawn_lt t2 3 (by decide)
              rw [hy] at h
              exact Int.ofNat_lt.mp h
            obtain ⟨m, hm⟩ : ∃ m : Nat, (min (min (1 + drawn t2 3) ((want : Int) - (k : Int))) (p.keys - key)).toNat = m := ⟨_, rfl⟩
            rw [hm, ← ht3] at hsm
            obtain ⟨g1, g2, g3, g4, g5⟩ := scan_min hy hroom (by omega) hm
            have HY := Lib.hid hy
            have HT3 := Lib.hid ht3
            clear HS0 HS1 HS2 HS3 HS4 hy ht3 hm
            go_wp2_with fail
            refine (HB23.out t2 n1 3 _ (by omega) ht2l).mono ?_
            rw [HY.out, ← HT3.out]
            rintro e wD ⟨rfl, hb⟩
            have HRD := Lib.hid (HRC.out.keep hb)
            clear hb HRC d0 d1 d2 d3 d4 d5 c0 c1 hf0 hf1 hszA hszB
            obtain ⟨⟨c0, c1⟩, hf⟩ := cells2 HRD.out.st
            have hf0 := hf 0
            have hf1 := hf 1
            have hszA := heap_lt HRD.out.st
            have hszB := heap_lt HRD.out.plan
            clear hf
            have HRE : Hid (RfS w (((wD.setCell ⟨w.heap.size + 1, 0, none⟩ (.int .u64 (t3 : Int))).setCell ⟨w.heap.size + 1, 1, none⟩ (.int .i64 (n1 : Int))).alloc (.cells #[.int .u64 (t3 : Int), .int .i64 (n1 : Int)] 37)) p t3 n1 (.slice sp k cp) l) := Lib.hid (((HRD.out.setS t3).setN n1).lit _)
            go_wp2
            obtain ⟨wE, eE⟩ : ∃ wE, wE = (((wD.setCell ⟨w.heap.size + 1, 0, none⟩ (.int .u64 (t3 : Int))).setCell ⟨w.heap.size + 1, 1, none⟩ (.int .i64 (n1 : Int))).alloc (.cells #[.int .u64 (t3 : Int), .int .i64 (n1 : Int)] 37)) := ⟨_, rfl⟩
            rw [← eE] at HRE ⊢
            clear eE HRD c0 c1 hf0 hf1 hszA hszB
            go_loopw [9, 18] (fun vo i wr' => ∃ (q : Nat) (sp' : Option Addr) (cp' : Nat), q ≤ m ∧ i = .int .i64 (q : Int) ∧ vo = .slice sp' (k + q) cp' ∧ Hid (RfS w wr' p t3 n1 (.slice sp' (k + q) cp') (l ++ scanL key q))) (fun _ i _ => m - (intOf i).toNat)
            case atStart => exact ⟨0, sp, cp, Nat.zero_le _, rfl, rfl, Lib.hid (by rw [show scanL key 0 = [] from rfl, List.append_nil]; exact HRE.out)⟩
            case round =>
              clear HRE
              obtain ⟨q, sp', cp', hq, rfl, rfl, HRQ⟩ := hrel
              obtain ⟨⟨d0, d1, d2, d3, d4, d5⟩⟩ : Nonempty _ := ⟨cells6 HRQ.out.plan⟩
              have hszB := heap_lt HRQ.out.plan
              have HKQ : Hid ((l ++ scanL key q).length = k + q) := Lib.hid (by rw [List.length_append, HK.out, scanL_len])
              by_cases hlq : q < m
              · have g1' : (q : Int) ≤ (y : Int) := by omega
                have g2' : (k : Int) + (q : Int) < (want : Int) := by omega
                have g3' : key + (q : Int) < p.keys := by omega
                have HSC := Lib.hid (scanL_succ key q)
                have HRL : Hid (RfS w (wr.alloc (.cells #[.int .i64 1, .int .i64 (key + (q : Int)), .int .i64 0] 45)) p t3 n1 (.slice sp' (k + q) cp') (l ++ scanL key q)) := Lib.hid (HRQ.out.lit _)
                have HSL : Hid (OpS (wr.alloc (.cells #[.int .i64 1, .int .i64 (key + (q : Int)), .int .i64 0] 45)) (some ⟨wr.heap.size, 0, none⟩) 1 (lf [rdO (key + (q : Int))])) := Lib.hid (lit1_ops wr (rdO (key + (q : Int))))
                clear HRQ
                go_wp2_with (at_builtin; refine wpList_append_ops rfl _ _ rfl w.heap.size _ (k + q) (l ++ scanL key q) HKQ.out.symm rfl (HRL.out.rowk HKQ.out) (some ⟨wr.heap.size, 0, none⟩) 1 1 [rdO (key + (q : Int))] rfl rfl HSL.out (fun h => by cases h) (by omega) HRL.out.bel.size ?_; intro v7 w7 ho7 hg7; obtain ⟨sp7, cp7, hv7⟩ := own_form' ho7; subst hv7; have HN7 := Lib.hid (HRL.out.push (by rw [List.length_append, HKQ.out]; rfl) ho7 hg7); clear ho7 hg7)
                go_roundw
                case rel => exact ⟨q + 1, sp7, cp7, by omega, by go_num, rfl, Lib.hid (by have h := HN7.out; rw [List.append_assoc, ← HSC.out] at h; exact h)⟩
                case measure => simp [intOf]; omega
              · obtain rfl : q = m := by omega
                rcases g4 with g4 | g4 | g4
                · have g1' : ¬ (q : Int) ≤ (y : Int) := by omega
                  go_wp2
                  go_roundw
                  case rel => exact HREL.out _ _ _ _ _ q sp' cp' hsm.out (scanL_len _ _) rfl HRQ.out
                  case measure => simp [lenOf]; omega
                · have g2' : ¬ (k : Int) + (q : Int) < (want : Int) := by omega
                  by_cases g1' : (q : Int) ≤ (y : Int)
                  all_goals
                    go_wp2
                    go_roundw
                    case rel => exact HREL.out _ _ _ _ _ q sp' cp' hsm.out (scanL_len _ _) rfl HRQ.out
                    case measure => simp [lenOf]; omega
                · have g3' : ¬ key + (q : Int) < p.keys := by omega
                  by_cases g1' : (q : Int) ≤ (y : Int)
                  · by_cases g2' : (k : Int) + (q : Int) < (want : Int)
                    all_goals
                      go_wp2
                      go_roundw
                      case rel => exact HREL.out _ _ _ _ _ q sp' cp' hsm.out (scanL_len _ _) rfl HRQ.out
                      case measure => simp [lenOf]; omega
                  · go_wp2
                    go_roundw
                    case rel => exact HREL.out _ _ _ _ _ q sp' cp' hsm.out (scanL_len _ _) rfl HRQ.out
                    case measure => simp [lenOf]; omega
    · have er := HEN'.out (by omega)
      subst er
      have hnlt : ¬ (k : Int) < (want : Int) := by omega
      obtain ⟨⟨c0, c1⟩, hf⟩ := cells2 HR.out.st
      obtain ⟨⟨r0, r1⟩, hrf⟩ := cells2 HR.out.res
      have hrf0 := hrf 0
      have hrf1 := hrf 1
      have HF := Lib.hid (HR.out.rowk HK.out)
      have HBL := Lib.hid HR.out.bel
      have HNR := Lib.hid HR.out.not_row.2.2
      clear hf hrf HR
      go_wp2
      refine bodyPost_ret (v := .tuple #[stV s1 n1, .slice sp k cp]) (by simp [results, Try.results14, go_sem, r0, r1]) rfl ⟨sp, cp, ?_, ?_, ?_⟩
      · dsimp only; rw [HK.out]
      · dsimp only
        rw [HK.out]
        exact own_keep HF.out fun g hg => (heap_setCell_other _ ⟨w.heap.size + 1 + 1, 1, none⟩ g _ (fun e => HNR.out (by rw [hg, e]))).trans (heap_setCell_other _ ⟨w.heap.size + 1 + 1, 0, none⟩ g _ (fun e => HNR.out (by rw [hg, e])))
      · exact (HBL.out.setCell (by dsimp only; omega) _).setCell (by dsimp only; omega) _
end Go.Proofs.Ytbdpinfiicpmhaa
