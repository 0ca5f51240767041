/-
  A frame's bytes, or why it has none; read again they are it; nothing of the arguments is turned.
  Conditions: the arguments together hold at most 1048576 values (the given second row); none else. The frame of the proof follows the kit's page on such rows, the walk and the opening of the frame are ours.
-/
import Derived.Test.YtgplannipnceeaaWb
import Derived.WalkKit
import Derived.ProofKit
import Derived.OpenShut
import Derived.JoinedCond
import Derived.ShutString
import Derived.ChangeOld
import Derived.Below
namespace Go.Proofs.Ytgplannipnceeaa.frameWrites
open Go.ChangeShapes Go.WideShapes Go.ChangeAt Go.RowKit
set_option linter.unusedVariables false

theorem own : ownKnob Try.prog.godebug = none := by kernel_rfl
theorem laidOut : laidOutB Try.prog = true := by kernel_rfl

theorem bulk_pos {H : Type} (d : DataW H) : 1 ≤ Rows.uptoBulk d := by
  cases d with
  | lit l => cases l <;> simp [Rows.uptoBulk]
  | _ => simp [Rows.uptoBulk]
theorem bulk_len {H : Type} (l : List (DataW H)) : l.length ≤ Rows.uptoBulkAll l := by
  induction l with
  | nil => exact Nat.zero_le _
  | cons x r ih => have := bulk_pos x; simp only [Rows.uptoBulkAll, List.length_cons]; omega

section
variable {H : Type} {enc : TypeId × Value → H} {w : World} {base : Nat} {spare : Nat → Bool} {held : Bool}
/-- a frame that came in by value -/
theorem frame_of {n : Nat} {cs : List Value} {y : DataW H × List MemPlace} (h : DataW.trod enc Try.prog w base spare held n 24 cs = some y) :
    ∃ (k : Int) (sp : Option Addr) (z cap : Nat) (d : Nat → Nat), cs = [.int .i64 k, .slice sp z cap] ∧ z ≤ Rows.uptoBulk y.1 ∧ (∀ j, d j < 256) ∧ Src w sp z d ∧ (sp = none → z = 0 ∧ cap = 0) := by
  obtain ⟨xs, n', _, hy, hlen, hxl, hf⟩ := DataW.trod_struct Try.underlying24 h
  rw [cells24] at hlen
  match cs, hlen with
  | [c0, c1], _ =>
    match xs, hxl with
    | [y0, y1], _ =>
      have g0 := hf 0 _ rfl
      have g1 := hf 1 _ rfl
      simp [cells3, cells22] at g0 g1
      obtain ⟨k, e0, _, wk⟩ := DataW.trod_int Try.underlying3 g0
      simp at e0
      subst e0
      have hbig : Rows.uptoBulk y1.1 ≤ Rows.uptoBulk y.1 := by
        rw [hy]
        show Rows.uptoBulk y1.1 ≤ Rows.uptoBulk (.agg [y0.1, y1.1])
        simp only [Rows.uptoBulk, Rows.uptoBulkAll]
        omega
      rcases open_ints Try.underlying22 Try.underlying5 (by kernel_rfl) g1 with ⟨hcs, _⟩ | ⟨x, l, c, zs, hcs, _, hl, hm, hz, hx, hcell, hwz⟩
      · simp at hcs
        subst hcs
        exact ⟨k, none, 0, 0, fun _ => 0, rfl, Nat.zero_le _, fun _ => Nat.zero_lt_succ 255, fun h => absurd h (Nat.lt_irrefl 0), fun _ => ⟨rfl, rfl⟩⟩
      · simp at hcs
        subst hcs
        have hlz : l ≤ zs.length := by rw [hz]; split <;> omega
        obtain ⟨f, hf256, hsrc⟩ := src_of' (len := l) hlz hcell hwz
        refine ⟨k, some x, l, c, f, rfl, ?_, hf256, hsrc, fun h => by cases h⟩
        refine Nat.le_trans ?_ hbig
        rw [hx]
        show l ≤ Rows.uptoBulk (.slice (lits .u8 (zs.take l)) (lits .u8 (zs.drop l)))
        have h1 := bulk_len (lits (H := H) .u8 (zs.take l))
        have h2 : (lits (H := H) .u8 (zs.take l)).length = l := by simp [lits, hlz]
        simp only [Rows.uptoBulk]
        omega
end

theorem contract (H : Type) (enc : TypeId × Value → H) (W : World) (base : Nat) (args : Array Value) (ds gs : List (DataW H)) (before : List MemPlace)
    (hval0 : ∀ (j : Nat) t v, Try.f3.params[j]? = some t → args[j]? = some v → Value.okWide Try.prog W .any base t v)
    (hW : DataW.Whole enc Try.prog Try.f3.params.toList Rows.frameWritesSpec.vars false W args.toList ds gs before) (hk : Rows.uptoSmall H (ds ++ gs) = true) :
    Calls Try.prog 3 args W fun e W' => ∃ v, e = .returned v ∧ Rows.frameWritesSpec.post enc Try.prog Try.f3 false true false false W args v W' := by
  have hval : ∀ (j : Nat) t v, Try.f3.params[j]? = some t → args[j]? = some v → Value.okWide Try.prog W .any base t v := hval0
  have hW' := hW
  obtain ⟨p, q, hA0, hV, rfl, hfz, hnd⟩ := hW
  have hA : DataW.TrodAll enc Try.prog W 0 (fun _ => true) true Try.f3.params.toList args.toList ds p := hA0
  rw [Try.params3] at hA hval
  obtain ⟨v0, vs0, d0, ds0, p0, q0, hargs, rfl, rfl, h0, r0⟩ := trodAll_cons hA
  obtain ⟨v1, vs1, d1, ds1, p1, q1, rfl, rfl, rfl, h1, r1⟩ := trodAll_cons r0
  obtain ⟨rfl, rfl, rfl⟩ := trodAll_nil r1
  obtain rfl : args = #[v0, v1] := by cases args; simp_all
  obtain ⟨rfl, rfl⟩ := trodVars_none hV
  obtain ⟨cs, rfl, hcs⟩ := okWide_struct Try.underlying24 (hval 0 24 v0 rfl rfl)
  obtain ⟨a1, rfl, rfl, rfl, w1⟩ := open_int Try.underlying3 (hval 1 3 v1 rfl rfl) h1
  have k0 := h0
  have lt0 : ∀ x ∈ p0, x.block < W.heap.size := by obtain ⟨m, hm⟩ := k0; exact DataW.trod_lt m _ _ _ hm
  have hb : Rows.uptoBulkAll ([d0, DataW.lit (.int .i64 a1)] ++ []) ≤ 1048576 := of_decide_eq_true hk
  obtain ⟨k, sp, z, cap, d, ecs, hzb, hd, hs, hsp⟩ : ∃ (k : Int) (sp : Option Addr) (z cap : Nat) (d : Nat → Nat), cs.toList = [.int .i64 k, .slice sp z cap] ∧ z ≤ Rows.uptoBulk d0 ∧ (∀ j, d j < 256) ∧ Src W sp z d ∧ (sp = none → z = 0 ∧ cap = 0) := by
    obtain ⟨fuel, hf⟩ := h0
    exact frame_of (by simpa [Value.cells] using hf)
  obtain rfl : cs = #[.int .i64 k, .slice sp z cap] := by cases cs; simp_all
  have hz : z ≤ 1048576 := by
    simp only [List.append_nil, Rows.uptoBulkAll] at hb
    omega
  clear hA0 hval0 hk hb
  refine (writes_main k sp z cap d a1 W hz hd hs hsp).mono fun e W' ⟨he, bel⟩ => ?_
  subst he
  exact ⟨_, rfl, _, _, _, [], _, [], hW', trodAll_mk1 (shut_bool Try.underlying4 _), (trodAll_cons_mk (Below.trod laidOut (by kernel_rfl) (of_decide_eq_true (by kernel_rfl)) k0 bel lt0) (trodAll_cons_mk (shut_int Try.underlying3 w1) trodAll_mk0)), rfl, bel.frame _, fun h => by cases h⟩

set_option maxRecDepth 100000 in
theorem lifted (os : Os) (started : os.Started) (H : Type) (enc : TypeId × Value → H) (F : Stop.Interp) :
    ReturnsInHanded {} Try.checked os 3 .any ((Rows.OpenSpec.upto Rows.frameWritesSpec).pre6 enc Try.prog Try.f3 Rows.frameWritesUptoRow.domain false) (((Rows.OpenSpec.upto Rows.frameWritesSpec).at F).post enc Try.prog Try.f3 false true false false) := by
  refine returnsInHanded_of_cond (C := Try.checked) (s := Rows.OpenSpec.upto Rows.frameWritesSpec) (k := Rows.uptoSmall) rfl own started (by kernel_rfl) Try.func3
    (OpenSpec.witness (enc := enc) (C := Try.checked) (s := Rows.OpenSpec.upto Rows.frameWritesSpec) (k := Rows.uptoSmall) rfl false ⟨#[], #[.agg #[.int .i64 0, .slice none 0 0], .int .i64 0], []⟩ 8 (by kernel_rfl) (by kernel_rfl) (by kernel_rfl)
      (x := ([.agg [.lit (.int .i64 0), .nil], .lit (.int .i64 0)], [], [])) (by kernel_rfl) rfl (by kernel_rfl)) ?_
  intro W base args ds gs before hval hW _ hk _
  exact contract H enc W base args ds gs before hval hW hk

theorem proved : Rows.FrameWritesUptoSaid :=
  OpenClaim.holds_of_cond 3 Try.f3 rfl rfl rfl rfl rfl rfl rfl ⟨rfl, rfl, rfl, rfl, rfl⟩ rfl rfl rfl rfl rfl (by kernel_rfl) Try.func3 (by kernel_rfl)
    (of_decide_eq_true (by kernel_rfl)) (by unfold Func.isWrapper; first | (rw [if_pos (by decide +kernel)]; kernel_rfl) | (rw [if_neg (by decide +kernel)]; exact ⟨rfl, rfl⟩))
    (fun os started H enc _ F => lifted os started H enc F)
end Go.Proofs.Ytgplannipnceeaa.frameWrites
namespace Go.Proofs.Ytgplannipnceeaa
theorem frameWrites_upto_holds : Rows.FrameWritesUptoSaid := frameWrites.proved
#print axioms frameWrites_upto_holds
end Go.Proofs.Ytgplannipnceeaa
