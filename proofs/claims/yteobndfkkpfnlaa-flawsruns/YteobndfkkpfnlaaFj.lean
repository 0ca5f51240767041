/-
  FlawsSelf's walk.
-/
import Derived.Test.YteobndfkkpfnlaaFi
import Derived.IntWalk
namespace Go.Proofs.Yteobndfkkpfnlaa
open Go.ChangeShapes Go.WideShapes Go.ChangeAt Go.RowKit Go.Maps
set_option linter.unusedVariables false

theorem and_mask (x : Int) (m M : Nat) (h : (BitVec.ofInt 64 (m : Int)).toNat = M) (hM : M ≤ 100000) : ∃ k : Nat, k ≤ M ∧ bits .and .i64 x (m : Int) = (k : Int) := by
  refine ⟨(BitVec.ofInt 64 x).toNat &&& M, Nat.and_le_right, ?_⟩
  have hle : ((BitVec.ofInt 64 x).toNat &&& M) ≤ M := Nat.and_le_right
  unfold bits
  show IntKind.i64.wrap (((BitVec.ofInt 64 x) &&& (BitVec.ofInt 64 (m : Int))).toNat : Int) = _
  rw [BitVec.toNat_and, h]
  exact IntWalk.i64_in _ (by omega)
theorem tx_one (W : World) (c st : Int) (sp : Option Addr) (n cap : Nat) (o : Nat → O3) (h : OpS W sp n o) : TxS (W.alloc (.cells #[.int .i64 c, .int .i64 st, .slice sp n cap] 47)) (some ⟨W.heap.size, 0, none⟩) 1 (fun _ => ⟨c, st, n, o⟩) := by
  intro _
  refine ⟨_, 0, rfl, by simp, fun j hj => ?_⟩
  obtain rfl : j = 0 := by omega
  obtain ⟨c0, c1, c2⟩ := (cells3 (heap_alloc_new W (.cells #[.int .i64 c, .int .i64 st, .slice sp n cap] 47))).1
  exact ⟨sp, cap, c0, c1, c2, h.below ((Below.refl _ _).alloc (Nat.le_refl _) _)⟩
def opTwo (a b : O3) (i : Nat) : O3 := if i = 0 then a else b
theorem ops_two (W : World) (a b : O3) : OpS (W.alloc (.cells #[.int .i64 a.k, .int .i64 a.key, .int .i64 a.v, .int .i64 b.k, .int .i64 b.key, .int .i64 b.v] 44)) (some ⟨W.heap.size, 0, none⟩) 2 (opTwo a b) := by
  intro _
  refine ⟨_, 0, rfl, by simp, fun i hi => ?_⟩
  have c3 : ∀ i, (W.alloc (.cells #[.int .i64 a.k, .int .i64 a.key, .int .i64 a.v, .int .i64 b.k, .int .i64 b.key, .int .i64 b.v] 44)).cell? ⟨W.heap.size, i, none⟩ = #[Value.int .i64 a.k, .int .i64 a.key, .int .i64 a.v, .int .i64 b.k, .int .i64 b.key, .int .i64 b.v][i]? := fun i => cell_of_row _ _ _ _ _ _ (heap_alloc_new W _)
  rcases (show i = 0 ∨ i = 1 by omega) with rfl | rfl
  · rw [c3, c3, c3]; exact ⟨rfl, rfl, rfl⟩
  · rw [c3, c3, c3]; exact ⟨rfl, rfl, rfl⟩
/-- a transaction that writes and reads the same -/
def Ts (a b : O3) (i : Nat) : Tx := ⟨1, 1, 2, opTwo a b⟩
theorem ts_ok {k v : Int} (hk : 0 ≤ k ∧ k ≤ 15) (hv : In64 v) (x y : Int) : TOk 1 (Ts ⟨x, k, v⟩ ⟨y, k, v⟩) := by
  refine ⟨by omega, fun j hj => ?_, fun j hj z hz => ?_, fun j hj z hz => ?_⟩
  · unfold Ts; simp
  · unfold Ts opTwo; dsimp only; split <;> exact hk
  · unfold Ts opTwo; dsimp only; split <;> exact hv
theorem fl_behind (k v : Int) : flL (Ts ⟨2, k, v⟩ ⟨1, k, v⟩) 1 = [] := by
  simp [flL, flT, flR, rdT, rd, Ts, opTwo, lastW]
theorem fl_ahead (k v : Int) (hv : v ≠ 0) : flL (Ts ⟨1, k, v⟩ ⟨2, k, v⟩) 1 = [⟨0, 0, 1⟩] := by
  simp [flL, flT, flR, rdT, rd, Ts, opTwo, lastW, lf, flK, allV, opsV, updV, hv]

theorem self_mem (u : World) (a b : O3) (n : Nat) (hu : u.heap.size = n) : TxS ((u.alloc (.cells #[.int .i64 a.k, .int .i64 a.key, .int .i64 a.v, .int .i64 b.k, .int .i64 b.key, .int .i64 b.v] 44)).alloc (.cells #[.int .i64 1, .int .i64 1, .slice (some ⟨n, 0, none⟩) 2 2] 47)) (some ⟨n + 1, 0, none⟩) 1 (Ts a b) ∧ Below u.heap.size u ((u.alloc (.cells #[.int .i64 a.k, .int .i64 a.key, .int .i64 a.v, .int .i64 b.k, .int .i64 b.key, .int .i64 b.v] 44)).alloc (.cells #[.int .i64 1, .int .i64 1, .slice (some ⟨n, 0, none⟩) 2 2] 47)) := by
  subst hu
  have h := tx_one _ 1 1 _ 2 2 _ (ops_two u a b)
  rw [show (u.alloc (.cells #[.int .i64 a.k, .int .i64 a.key, .int .i64 a.v, .int .i64 b.k, .int .i64 b.key, .int .i64 b.v] 44)).heap.size = u.heap.size + 1 by simp] at h
  exact ⟨h, ((Below.refl _ _).alloc (Nat.le_refl _) _).alloc (by simp) _⟩

set_option maxRecDepth 100000 in
set_option maxHeartbeats 4000000 in
theorem self_law (key val : Int) (ahead : Bool) (w : World) :
    Calls Try.prog 7 #[.int .i64 key, .int .i64 val, .bool ahead] w (fun e w' => e = .returned (.bool true) ∧ Below w.heap.size w w') := by
  obtain ⟨k, hk, hkv⟩ := and_mask key 15 15 (by decide) (by omega)
  obtain ⟨v, hv, hvv⟩ := and_mask val 65535 65535 (by decide) (by omega)
  have hkv : bits .and .i64 key 15 = (k : Int) := hkv
  have hvv : bits .and .i64 val 65535 = (v : Int) := hvv
  have HO := Lib.hid (head_any w)
  have hgu := @guardF
  have heq := @eqlF
  go_enter Try.func7, Try.ntmps7
  go_wp2_with fail
  refine HO.out.mono ?_
  rintro e w1 ⟨rfl, hb⟩
  have HB := Lib.hid hb
  clear hb HO
  obtain ⟨V, hV⟩ : ∃ V : Int, V = 1 + (v : Int) := ⟨_, rfl⟩
  have hV6 : In64 V := by unfold In64; omega
  have hVn : V ≠ 0 := by omega
  have hk6 : 0 ≤ (k : Int) ∧ (k : Int) ≤ 15 := by omega
  have HV := Lib.hid hV
  clear hV
  cases ahead with
  | false =>
    go_wp2_with fail
    rw [← HV.out]
    obtain ⟨ht, hb⟩ := self_mem ((w1.alloc (.cells #[.int .i64 1, .int .i64 (k : Int), .int .i64 V] 44)).alloc (.cells #[.int .i64 2, .int .i64 (k : Int), .int .i64 V] 44)) ⟨2, k, V⟩ ⟨1, k, V⟩ (w1.heap.size + 1 + 1) (by simp)
    have HB2 := Lib.hid (HB.out.trans ((((((Below.refl _ w1).alloc (Nat.le_refl _) (.cells #[.int .i64 1, .int .i64 (k : Int), .int .i64 V] 44)).alloc (by simp) (.cells #[.int .i64 2, .int .i64 (k : Int), .int .i64 V] 44))).trans (hb.mono (by simp; omega))).mono HB.out.size))
    have HA := Lib.hid (all_any _ 1 1 _ _ ht (ts_ok hk6 hV6 2 1))
    clear ht hb
    refine HA.out.mono ?_
    rintro e w2 ⟨sp, cp, rfl, ho, hb⟩
    have HB3 := Lib.hid (HB2.out.trans (hb.mono HB2.out.size))
    rw [fl_behind]
    clear ho hb HA
    go_wp2
    go_ret
    exact ⟨rfl, HB3.out⟩
  | true =>
    go_wp2_with fail
    rw [← HV.out]
    obtain ⟨ht, hb⟩ := self_mem (((w1.alloc (.cells #[.int .i64 1, .int .i64 (k : Int), .int .i64 V] 44)).alloc (.cells #[.int .i64 2, .int .i64 (k : Int), .int .i64 V] 44)).alloc (.cells #[.int .i64 2, .int .i64 (k : Int), .int .i64 V, .int .i64 1, .int .i64 (k : Int), .int .i64 V] 44)) ⟨1, k, V⟩ ⟨2, k, V⟩ (w1.heap.size + 1 + 1 + 1) (by simp)
    have HB2 := Lib.hid (HB.out.trans (((((((Below.refl _ w1).alloc (Nat.le_refl _) (.cells #[.int .i64 1, .int .i64 (k : Int), .int .i64 V] 44)).alloc (by simp) (.cells #[.int .i64 2, .int .i64 (k : Int), .int .i64 V] 44))).alloc (by simp; omega) (.cells #[.int .i64 2, .int .i64 (k : Int), .int .i64 V, .int .i64 1, .int .i64 (k : Int), .int .i64 V] 44)).trans (hb.mono (by simp; omega))).mono HB.out.size))
    have HA := Lib.hid (all_any _ 1 1 _ _ ht (ts_ok hk6 hV6 1 2))
    clear ht hb
    refine HA.out.mono ?_
    rintro e w2 ⟨sp, cp, rfl, ho, hb⟩
    have HB3 := Lib.hid (HB2.out.trans (hb.mono HB2.out.size))
    rw [fl_ahead _ _ hVn] at ho ⊢
    obtain ⟨bf, off, rfl, hbf, hcf⟩ := (own33_ops ho) (by decide)
    obtain ⟨d0, d1, d2⟩ := hcf 0 (by decide)
    simp only [Nat.zero_mul, Nat.add_zero] at d0 d1 d2
    clear ho hb HA hcf
    go_wp2
    go_ret
    exact ⟨rfl, HB3.out⟩
end Go.Proofs.Yteobndfkkpfnlaa
