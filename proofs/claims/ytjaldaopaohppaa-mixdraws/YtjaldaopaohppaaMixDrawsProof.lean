/-
  For every seed and every list of numbers the law MixDraws returns true: the draws, one behind the other, are those of the reference.
  Conditions: none but those of the given row. The frame of the proof is the kit's shell (proof-skeleton), the walk is ours.
-/
import Derived.Test.YtjaldaopaohppaaH
import Derived.WalkKit
import Derived.ProofKit
import Derived.OpenShut
import Derived.ShutString
import Derived.ChangeOld
import Derived.Below
namespace Go.Proofs.Ytjaldaopaohppaa.mixDraws
open Go.ChangeShapes Go.WideShapes Go.ChangeAt Go.RowKit
open Go.ChangeMaps (open_string shut_string)
set_option linter.unusedVariables false

theorem own : ownKnob Try.prog.godebug = none := by kernel_rfl
theorem laidOut : laidOutB Try.prog = true := by kernel_rfl

/-- WHAT THE WALK IS TOLD OF A SLICE OF INTEGERS THAT CAME IN: it is nil; or it leads to a row of 'cap' cells, the numbers 'zs' (the first 'len' are its elements, the rest its spare room), each fitting its kind. -/
def IsRow (k : IntKind) (w : World) (a : Option Addr) (len cap : Nat) (zs : List Int) : Prop :=
  (a = none ∧ len = 0 ∧ cap = 0 ∧ zs = []) ∨
  ∃ x, a = some x ∧ len ≤ cap ∧ cap ≤ maxLen ∧ zs.length = cap ∧ (∀ i, i < zs.length → w.cell? (x.add i) = some (.int k (zs.getD i 0))) ∧ ∀ n ∈ zs, (Lit.int k n).wf = true

theorem walk_long (x : Nat) (a1 : Option Addr) (len1 cap1 : Nat) (w : World) (h : 60 < len1) (hm : len1 ≤ 9223372036854775807) :
    Calls Try.prog 4 #[.int .u64 (x : Int), .slice a1 len1 cap1] w fun e w' => e = .returned (.bool true) ∧ Below w.heap.size w w' := by
  go_enter Try.func4, Try.ntmps4
  go_wp2_with fail
  refine (head_any _).mono ?_
  rintro e w' ⟨rfl, rfl⟩
  go_wp2
  go_ret
  exact ⟨rfl, (Below.refl _ _).alloc (Nat.le_refl _) _⟩

/-- at each round's head: the source and the reference are at one state -/
structure At (w wr : World) (st : Nat) : Prop where
  lt : st < 18446744073709551616
  cell : wr.cell? ⟨w.heap.size + 1, 0, none⟩ = some (.int .u64 (st : Int))
  frozen : wr.frozen? ⟨w.heap.size + 1, 0, none⟩ = false
  size : w.heap.size + 1 < wr.heap.size
  bel : Below w.heap.size w wr

theorem At.next {w wr w1 : World} {st : Nat} (h : At w wr st) (hb : Below wr.heap.size wr w1) : At w (w1.setCell ⟨w.heap.size + 1, 0, none⟩ (.int .u64 ((MixMath.nxt st : Nat) : Int))) (MixMath.nxt st) where
  lt := MixMath.nxt_lt' st
  cell := World.cell?_setCell_same _ _ _ ((hb.cell (p := ⟨w.heap.size + 1, 0, none⟩) h.size).trans h.cell)
  frozen := by
    have e := (hb.frozen (p := ⟨w.heap.size + 1, 0, none⟩) h.size).trans h.frozen
    go_simp
  size := by have := h.size; have := hb.size; simp; omega
  bel := (h.bel.trans (hb.mono h.bel.size)).setCell (by simp) _

theorem At.start (w : World) (x : Nat) (c : Value) (hx : x < 18446744073709551616) : At w ((w.alloc (.cells #[c] 49)).alloc (.cells #[.int .u64 (x : Int)] 49)) x where
  lt := hx
  cell := by go_simp
  frozen := by go_simp
  size := by simp
  bel := ((Below.refl _ _).alloc (Nat.le_refl _) _).alloc (by simp) _

set_option maxHeartbeats 1000000 in
theorem walk_none (x : Nat) (a1 : Option Addr) (cap1 : Nat) (w : World) (hx : x < 18446744073709551616) :
    Calls Try.prog 4 #[.int .u64 (x : Int), .slice a1 0 cap1] w fun e w' => e = .returned (.bool true) ∧ Below w.heap.size w w' := by
  have HX := Lib.hid hx
  clear hx
  go_enter Try.func4, Try.ntmps4
  go_wp2_with fail
  refine (head_any _).mono ?_
  rintro e w' ⟨rfl, rfl⟩
  go_wp2_with fail
  refine (new_any _ _).mono ?_
  rintro e w' ⟨rfl, rfl⟩
  go_wp2
  refine wp_loop_rounds 1 ?_
  rw [rounds_succ]
  go_wp2
  go_ret
  exact ⟨rfl, (At.start w x _ HX.out).bel⟩

set_option maxHeartbeats 1000000 in
theorem walk_some (x b off len1 cap1 : Nat) (zs : List Int) (w : World) (hx : x < 18446744073709551616) (hl : 0 < len1) (hl' : len1 ≤ 60)
    (hc : ∀ j, j < len1 → w.cell? ⟨b, off + j, none⟩ = some (.int .i64 (zs.getD j 0))) (hz : ∀ j, j < len1 → zs.getD j 0 ≤ 9223372036854775807) (hb : b < w.heap.size) :
    Calls Try.prog 4 #[.int .u64 (x : Int), .slice (some ⟨b, off, none⟩) len1 cap1] w fun e w' => e = .returned (.bool true) ∧ Below w.heap.size w w' := by
  have HX := Lib.hid hx
  have HC := Lib.hid hc
  have HZ := Lib.hid hz
  clear hx hc hz
  go_enter Try.func4, Try.ntmps4
  go_wp2_with fail
  refine (head_any _).mono ?_
  rintro e w' ⟨rfl, rfl⟩
  go_wp2_with fail
  refine (new_any _ _).mono ?_
  rintro e w' ⟨rfl, rfl⟩
  go_wp2
  go_loopw [6, 24] (fun s i wr => ∃ k st : Nat, k ≤ len1 ∧ i = .int .i64 (k : Int) ∧ s = .int .u64 (st : Int) ∧ Hid (At w wr st)) (fun _ i _ => len1 - (intOf i).toNat)
  case atStart => exact ⟨0, x, by omega, rfl, rfl, Lib.hid (At.start w x _ HX.out)⟩
  case round =>
    obtain ⟨k, st, hk, rfl, rfl, HA⟩ := hrel
    by_cases hlt : k < len1
    · have c1 := (HA.out.bel.cell (p := ⟨b, off + k, none⟩) hb).trans (HC.out k hlt)
      rcases hpar : (bits BinOp.and IntKind.i64 (k : Int) 1 == 0) with _ | _
      · generalize hn : zs.getD k 0 = n at c1
        have hn' : n ≤ 9223372036854775807 := by rw [← hn]; exact HZ.out k hlt
        clear hn
        have dn := drawn_nonneg st n
        have dl : 0 < n → drawn st n < n := drawn_lt st n
        obtain ⟨d, hd⟩ : ∃ d, d = drawn st n := ⟨_, rfl⟩
        rw [← hd] at dn dl
        have HD := Lib.hid hd
        have DL := Lib.hid dl
        clear hd dl
        go_wp2_with fail
        refine (rbelow_all st n hn' _ HA.out.lt).mono ?_
        rw [← HD.out]
        rintro e w1 ⟨rfl, hb1⟩
        have HA1 := Lib.hid (HA.out.next hb1)
        have c2 := (hb1.cell (p := ⟨w.heap.size + 1, 0, none⟩) HA.out.size).trans HA.out.cell
        have c3 := (hb1.frozen (p := ⟨w.heap.size + 1, 0, none⟩) HA.out.size).trans HA.out.frozen
        clear hb1 c1
        go_wp2_with fail
        refine (below_all _ st n hn' _ ?_ ?_).mono ?_
        · exact c2
        · exact c3
        rw [← HD.out]
        rintro e w' ⟨rfl, rfl⟩
        clear c2 c3
        by_cases hpos : 0 < n
        · have d2 := DL.out hpos
          go_wp2
          go_roundw
          case rel => exact ⟨k + 1, MixMath.nxt st, by omega, by go_num, rfl, HA1⟩
          case measure => simp [intOf]; omega
        · go_wp2
          go_roundw
          case rel => exact ⟨k + 1, MixMath.nxt st, by omega, by go_num, rfl, HA1⟩
          case measure => simp [intOf]; omega
      · go_wp2_with fail
        refine (rnext_any st _ HA.out.lt).mono ?_
        rintro e w1 ⟨rfl, hb1⟩
        have HA1 := Lib.hid (HA.out.next hb1)
        have c2 := (hb1.cell (p := ⟨w.heap.size + 1, 0, none⟩) HA.out.size).trans HA.out.cell
        have c3 := (hb1.frozen (p := ⟨w.heap.size + 1, 0, none⟩) HA.out.size).trans HA.out.frozen
        clear hb1 c1
        go_wp2_with fail
        refine (next_any _ st _ ?_ ?_).mono ?_
        · exact c2
        · exact c3
        rintro e w' ⟨rfl, rfl⟩
        clear c2 c3
        go_wp2
        go_roundw
        case rel => exact ⟨k + 1, MixMath.nxt st, by omega, by go_num, rfl, HA1⟩
        case measure => simp [intOf]; omega
    · go_wp2
      go_ret
      exact ⟨rfl, HA.out.bel⟩

theorem walk (a0 : Int) (a1 : Option Addr) (len1 cap1 : Nat) (z1 : List Int) (w : World) (w0 : (Lit.int .u64 a0).wf = true) (w1 : IsRow .i64 w a1 len1 cap1 z1) :
    Calls Try.prog 4 #[.int .u64 a0, .slice a1 len1 cap1] w fun e w' => e = .returned (.bool true) ∧ Below w.heap.size w w' := by
  obtain ⟨x, rfl, hx⟩ := u64_nat w0
  clear w0
  rcases w1 with ⟨rfl, rfl, rfl, rfl⟩ | ⟨ad, rfl, hl, hm, hz, hc, hwf⟩
  · exact walk_none x _ _ w hx
  · by_cases h60 : 60 < len1
    · exact walk_long x _ _ _ w h60 (by unfold maxLen at hm; omega)
    · by_cases h0 : len1 = 0
      · subst h0; exact walk_none x _ _ w hx
      · obtain ⟨b, off, rfl, hc'⟩ := ints_at hc (by omega)
        refine walk_some x b off len1 cap1 z1 w hx (by omega) (by omega) (fun j hj => hc' j (by omega)) (fun j hj => ?_) ?_
        · have : z1.getD j 0 ∈ z1 := by rw [List.getD_eq_getElem?_getD, List.getElem?_eq_getElem (by omega)]; exact List.getElem_mem _
          exact (i64_bounds (hwf _ this)).2
        · exact cell_lt (hc' 0 (by omega))

set_option maxRecDepth 100000 in
theorem lifted (os : Os) (started : os.Started) (H : Type) (enc : TypeId × Value → H) :
    ReturnsInHanded {} Try.checked os 4 .any (Rows.mixDrawsSpec.pre6 enc Try.prog Try.f4 Rows.mixDrawsRow.domain false) (Rows.mixDrawsSpec.post enc Try.prog Try.f4 false true false false) := by
  refine returnsInHanded_of_change (C := Try.checked) own started (by kernel_rfl) Try.func4
    (ChangeSpec.witness6 (enc := enc) (C := Try.checked) false ⟨#[], #[.int .u64 0, .slice none 0 0], []⟩ 8 (by kernel_rfl) (by kernel_rfl) (by kernel_rfl) (by kernel_rfl)) ?_
  intro W base args ds gs before hval0 hW hcnd _
  have hval : ∀ (j : Nat) t v, Try.f4.params[j]? = some t → args[j]? = some v → Value.okWide Try.prog W .any base t v := hval0
  have hW' := hW
  obtain ⟨p, q, hA0, hV, rfl, hfz, hnd⟩ := hW
  have hA : DataW.TrodAll enc Try.prog W 0 (fun _ => true) true Try.f4.params.toList args.toList ds p := hA0
  rw [Try.params4] at hA hval
  obtain ⟨v0, vs0, d0, ds0, p0, q0, hargs, rfl, rfl, h0, r0⟩ := trodAll_cons hA
  obtain ⟨v1, vs1, d1, ds1, p1, q1, rfl, rfl, rfl, h1, r1⟩ := trodAll_cons r0
  obtain ⟨rfl, rfl, rfl⟩ := trodAll_nil r1
  obtain rfl : args = #[v0, v1] := by cases args; simp_all
  obtain ⟨rfl, rfl⟩ := trodVars_none hV
  obtain ⟨a0, rfl, rfl, rfl, w0⟩ := open_int Try.underlying22 (hval 0 22 v0 rfl rfl) h0
  obtain ⟨a1, len1, cap1, rfl⟩ := okWide_slice Try.underlying25 (hval 1 25 v1 rfl rfl)
  have k1 := h1
  have lt1 : ∀ x ∈ p1, x.block < W.heap.size := by obtain ⟨m, hm⟩ := k1; exact DataW.trod_lt m _ _ _ hm
  obtain ⟨z1, w1⟩ : ∃ zs, IsRow .i64 W a1 len1 cap1 zs := by
    obtain ⟨fuel, hf⟩ := h1
    rcases open_ints Try.underlying25 Try.underlying3 (by kernel_rfl) hf with ⟨hcs, _⟩ | ⟨x, l, c, zs, hcs, _, hl, hm, hz, _, hcell, hwz⟩
    · simp [Value.cells] at hcs
      obtain ⟨rfl, rfl, rfl⟩ := hcs
      exact ⟨[], .inl ⟨rfl, rfl, rfl, rfl⟩⟩
    · simp [Value.cells] at hcs
      obtain ⟨rfl, rfl, rfl⟩ := hcs
      exact ⟨zs, .inr ⟨_, rfl, hl, hm, by simpa using hz, hcell, hwz⟩⟩
  clear hA0 hval0
  refine (walk a0 a1 len1 cap1 z1 W w0 w1).mono fun e W' ⟨he, bel⟩ => ?_
  subst he
  exact ⟨_, rfl, _, _, _, [], _, [], hW', trodAll_mk1 (shut_bool Try.underlying4 _), (trodAll_cons_mk (shut_int Try.underlying22 w0) (trodAll_cons_mk (Below.trod laidOut (by kernel_rfl) (of_decide_eq_true (by kernel_rfl)) k1 bel lt1) trodAll_mk0)), rfl, bel.frame _, fun h => by cases h⟩

theorem over : Rows.mixDrawsRow.holds Try.pinned (OpenSpec.ofChange Rows.mixDrawsSpec) :=
  OpenClaim.holds_of_wide 4 Try.f4 rfl rfl rfl rfl rfl rfl rfl ⟨rfl, rfl, rfl, rfl, rfl⟩ rfl rfl rfl rfl rfl (by kernel_rfl) Try.func4 (by kernel_rfl)
    (of_decide_eq_true (by kernel_rfl)) (by unfold Func.isWrapper; first | (rw [if_pos (by decide +kernel)]; kernel_rfl) | (rw [if_neg (by decide +kernel)]; exact ⟨rfl, rfl⟩))
    (fun os started H enc _ => lifted os started H enc)

/-- ████ THE STATEMENT ████ -/
theorem proved : Rows.MixDrawsSaid := over
end Go.Proofs.Ytjaldaopaohppaa.mixDraws
namespace Go.Proofs.Ytjaldaopaohppaa
theorem mixDraws_holds : Rows.MixDrawsSaid := mixDraws.proved
#print axioms mixDraws_holds
end Go.Proofs.Ytjaldaopaohppaa
