/-
  Contract of Who; the law's head: the document's example.
-/
import Derived.Test.YtbdpinfiicpmhaaP6
import Derived.Laws.StructEq
namespace Go.Proofs.Ytbdpinfiicpmhaa
open Go.ChangeShapes Go.WideShapes Go.ChangeAt Go.RowKit RefMath

theorem who_any (v : Nat) (w : World) (hv : v ≤ 1000000000) : Calls Try.prog 16 #[.int .i64 (v : Int)] w (fun e w' => e = .returned (.int .i64 ((v % 16 + 1 : Nat) : Int)) ∧ w = w') := by
  go_enter Try.func16, Try.ntmps16
  go_wp2
  go_ret
  exact ⟨ret_int (by omega), rfl⟩

theorem str45 : Try.prog.underlying 45 = some (.struct (Try.prog.fieldsOf 45)) := by kernel_rfl
theorem held45 : Try.prog.stoodInHeld 45 = false := by kernel_rfl
theorem eqO (k key v k' key' v' : Int) (w : World) : (Op.equalIn 10000 45 (.agg #[.int .i64 k, .int .i64 key, .int .i64 v]) (.agg #[.int .i64 k', .int .i64 key', .int .i64 v'])).run Try.prog w = .ok (k == k' && (key == key' && v == v')) w := by
  refine (run_equalIn_struct (P := Try.prog) w 9999 45 _ _ str45 held45).trans ?_
  have hfs := TypeDesc.struct.inj (Option.some.inj (str45.symm.trans Try.underlying45))
  rw [hfs]
  have e : ∀ (a b : Int) (w : World), (Op.equalIn 9999 3 (.int .i64 a) (.int .i64 b)).run Try.prog w = .ok (a == b) w := fun a b w => run_equalIn_int w 9998 3 .i64 .i64 _ _ Try.underlying3
  have q0 : ∀ (a b c : Int) (w : World), (part 3 #[.int .i64 a, .int .i64 b, .int .i64 c] 0).run Try.prog w = .ok (.int .i64 a) w := fun a b c w => by simp [part, go_sem]
  have q1 : ∀ (a b c : Int) (w : World), (part 3 #[.int .i64 a, .int .i64 b, .int .i64 c] 1).run Try.prog w = .ok (.int .i64 b) w := fun a b c w => by simp [part, go_sem]
  have q2 : ∀ (a b c : Int) (w : World), (part 3 #[.int .i64 a, .int .i64 b, .int .i64 c] 2).run Try.prog w = .ok (.int .i64 c) w := fun a b c w => by simp [part, go_sem]
  by_cases h0 : k = k' <;> by_cases h1 : key = key' <;> by_cases h2 : v = v' <;> simp [Op.eqFields, q0, q1, q2, e, h0, h1, h2]
theorem neqO (k key v k' key' v' : Int) (u : World) : (binOp .neq 45 (.agg #[.int .i64 k, .int .i64 key, .int .i64 v]) (.agg #[.int .i64 k', .int .i64 key', .int .i64 v'])).run Try.prog u = .ok (.bool (!(k == k' && (key == key' && v == v')))) u := by
  rw [run_neq_struct, eqO]; rfl
theorem guardO (u : World) (x y : Operand) (xs ys : Array Value) : (eqGuard .neq 45 x y (.agg xs) (.agg ys)).run Try.prog u = .ok () u := run_eqGuard_agg u .neq 45 x y xs ys (by kernel_rfl)

/-- the example's plan -/
def hpl : Pl := ⟨1, 1, 0, 1, 0, 0⟩
theorem hpl_right : hpl.right := ⟨by decide, by decide, by decide, by decide, ⟨by decide, by decide⟩, ⟨by decide, by decide⟩, ⟨by decide, by decide⟩, ⟨by decide, by decide⟩, by decide⟩
theorem its_one (p : Pl) (c : Int) (want : Nat) (s : List O3 × Nat × Nat) : its p c want s 1 = stp p c want s := rfl
theorem smO_hpl (s n : Nat) (room : Int) : smO hpl 3 s n room = ([wrO 3 0 (n + 1)], MixMath.nxt (MixMath.nxt s), n + 1) := by
  have e0 : drawn s hpl.keys = 0 := drawn_one s _ (Int.le_refl _)
  have e2 : ∀ s, drawn s hpl.sum = 0 := fun s => drawn_one s _ (show (0 : Int) + 1 + 0 + 0 ≤ 1 by omega)
  have h0 : ¬ (0 : Int) < hpl.r := Int.lt_irrefl _
  have h1 : (0 : Int) < hpl.r + hpl.w := show (0 : Int) < 0 + 1 by omega
  unfold smO
  dsimp only
  rw [e2, if_neg h0, if_pos h1, e0]
theorem nx_hpl (st n : Nat) : ∃ st', nx hpl 3 st n = ([wrO 3 0 (n + 1)], st', n + 1) := by
  have e1 : drawn st hpl.most = 0 := drawn_one st _ (Int.le_refl _)
  have hw : wants hpl st = 1 := by unfold wants; rw [e1]; rfl
  unfold nx
  rw [hw, its_one]
  unfold stp
  rw [if_pos (show ([] : List O3).length < 1 from Nat.zero_lt_one)]
  dsimp only
  rw [smO_hpl]
  exact ⟨_, rfl⟩

set_option maxRecDepth 100000 in
set_option maxHeartbeats 2000000 in
theorem head_any (w : World) : Calls Try.prog 8 #[] w (fun e w' => e = .returned (.bool true) ∧ Below w.heap.size w w') := by
  have HNW := Lib.hid (gnew_any hpl 3 7 w (by omega))
  have hneq : ∀ (k key v k' key' v' : Int) (u : World), (binOp .neq 45 (.agg #[.int .i64 k, .int .i64 key, .int .i64 v]) (.agg #[.int .i64 k', .int .i64 key', .int .i64 v'])).run Try.prog u = .ok (.bool (!(k == k' && (key == key' && v == v')))) u := neqO
  have hgd := guardO
  go_enter Try.func8, Try.ntmps8
  go_wp2_with fail
  refine HNW.out.mono ?_
  rintro e w1 (⟨_, _, _, g, rfl, hgl, hG, hb⟩ | ⟨hno, _⟩)
  · have HG := Lib.hid hG
    have HB := Lib.hid hb
    clear hG hb
    go_wp2
    go_loopw [3] (fun i wr => ∃ (t st : Nat), t ≤ 3 ∧ i = .int .i64 ((t : Int) + 1) ∧ Hid (GenS wr g hpl 3 st t ∧ Below w.heap.size w wr)) (fun i _ => 4 - (intOf i).toNat)
    case atStart => exact ⟨0, _, Nat.zero_le _, rfl, Lib.hid ⟨HG.out, HB.out⟩⟩
    case round =>
      obtain ⟨t, st, ht, rfl, HR⟩ := hrel
      by_cases hlt : t < 3
      · go_wp2_with fail
        refine (gnext_any g hpl 3 st t _ hpl_right (by omega) (by omega) (by omega) HR.out.1).mono ?_
        obtain ⟨st', e'⟩ := nx_hpl st t
        rw [e']
        rintro e w2 ⟨sp, cp, rfl, ho, hG2, hC⟩
        have ho1 := own_ops ho
        obtain ⟨b, off, rfl, hbl, hci⟩ := ho1 (Nat.zero_lt_one)
        obtain ⟨c0, c1, c2⟩ := hci 0 Nat.zero_lt_one
        simp only [Nat.zero_mul, Nat.add_zero] at c0 c1 c2
        have c0' : w2.cell? ⟨b, off, none⟩ = some (.int .i64 2) := c0
        have c1' : w2.cell? ⟨b, off + 1, none⟩ = some (.int .i64 0) := c1
        have c2' : w2.cell? ⟨b, off + 2, none⟩ = some (.int .i64 (16 * ((t : Int) + 1) + 2)) := by rw [c2]; simp [lf, wrO]; omega
        have HG2 := Lib.hid hG2
        have HB2 := Lib.hid (HR.out.2.trans (hC.below hgl HR.out.2.size))
        clear ho ho1 hci c0 c1 c2 hG2 hC HR
        go_wp2
        exact ⟨⟨t + 1, st', by omega, val_int (by omega), Lib.hid ⟨HG2.out, HB2.out⟩⟩, by simp [intOf]; omega⟩
      · obtain rfl : t = 3 := by omega
        go_wp2_with fail
        refine (who_any 18 _ (by omega)).mono ?_
        rintro e w2 ⟨rfl, rfl⟩
        go_wp2
        go_ret
        exact ⟨rfl, HR.out.2⟩
  · exact absurd ⟨hpl_right, by omega, by omega⟩ hno

theorem and_mask (x : Int) (m M : Nat) (h : (BitVec.ofInt 64 (m : Int)).toNat = M) (hM : M ≤ 100000) : ∃ k : Nat, k ≤ M ∧ bits .and .i64 x (m : Int) = (k : Int) := by
  refine ⟨(BitVec.ofInt 64 x).toNat &&& M, Nat.and_le_right, ?_⟩
  have hle : ((BitVec.ofInt 64 x).toNat &&& M) ≤ M := Nat.and_le_right
  unfold bits
  show IntKind.i64.wrap (((BitVec.ofInt 64 x) &&& (BitVec.ofInt 64 (m : Int))).toNat : Int) = _
  rw [BitVec.toNat_and, h]
  exact IntWalk.i64_in _ (by omega)
/-- who drew is told by the value -/
theorem who_main (c n : Int) (w : World) :
    Calls Try.prog 7 #[.int .i64 c, .int .i64 n] w (fun e w' => e = .returned (.bool true) ∧ Below w.heap.size w w') := by
  have HH := Lib.hid (head_any w)
  obtain ⟨k, hk, hkv⟩ := and_mask c 15 15 (by decide) (by omega)
  obtain ⟨m, hm, hmv⟩ := and_mask n 65535 65535 (by decide) (by omega)
  have hmv' : bits .and .i64 n 65535 = (m : Int) := hmv
  have hkv' : bits .and .i64 c 15 = (k : Int) := hkv
  clear hmv hkv
  go_enter Try.func7, Try.ntmps7
  go_wp2_with fail
  refine HH.out.mono ?_
  rintro e w1 ⟨rfl, hb⟩
  have HB := Lib.hid hb
  clear hb
  have E1 : Hid (16 * (1 + (m : Int)) + (1 + (k : Int)) - 1 = ((16 * (1 + m) + k : Nat) : Int)) := Lib.hid (by omega)
  have E2 : Hid ((((16 * (1 + m) + k) % 16 + 1 : Nat) : Int) = 1 + (k : Int)) := Lib.hid (by omega)
  go_wp2_with fail
  rw [E1.out]
  refine (who_any _ _ (by omega)).mono ?_
  rw [E2.out]
  rintro e w2 ⟨rfl, rfl⟩
  go_wp2
  go_ret
  exact ⟨rfl, HB.out⟩
end Go.Proofs.Ytbdpinfiicpmhaa
