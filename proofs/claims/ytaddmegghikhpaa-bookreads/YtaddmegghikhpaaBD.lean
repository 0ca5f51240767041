/-
  Contracts of the Reader's methods Num, Int and End where it has stopped, and of the laws' head took.
-/
import Derived.Test.YtaddmegghikhpaaBC
namespace Go.Proofs.Ytaddmegghikhpaa
open Go.ChangeShapes Go.WideShapes Go.ChangeAt Go.RowKit

theorem num_stop (w : World) (rb : Nat) (e : Int) (h : RS w rb e) :
    Calls Try.prog 25 #[.pointer (some ⟨rb, 0, none⟩)] w fun r w' => r = .returned (.int .u64 0) ∧ RS w' rb e ∧ w.grownBy w' (some rb) := by
  have HD := Lib.hid h
  clear h
  go_enter Try.func25, Try.ntmps25
  go_wp2
  refine wp_loop_rounds 1 ?_
  rw [rounds_succ]
  go_wp2_with fail
  refine (left_stop w rb e HD.out).mono ?_
  rintro r w1 ⟨rfl, q, rfl⟩
  go_wp2_with fail
  refine (fail_stop _ rb e 10 (HD.out.drewN q)).mono ?_
  rintro r w2 ⟨rfl, rfl⟩
  go_wp2
  go_ret
  exact ⟨rfl, HD.out.drewN q, grown_drewN (grown_refl _ _) q⟩

theorem end_stop (w : World) (rb : Nat) (e : Int) (h : RS w rb e) :
    Calls Try.prog 29 #[.pointer (some ⟨rb, 0, none⟩)] w fun r w' => r = .returned (.int .i64 e) ∧ w = w' := by
  have HD := Lib.hid h
  have c3 := h.c3
  clear h
  go_enter Try.func29, Try.ntmps29
  go_wp2_with fail
  refine (err_any w rb e HD.out.c2).mono ?_
  rintro r w1 ⟨rfl, rfl⟩
  go_wp2
  go_ret
  exact ⟨rfl, rfl⟩

end Go.Proofs.Ytaddmegghikhpaa
namespace Go.Proofs.Ytaddmegghikhpaa
open Go.ChangeShapes Go.WideShapes Go.ChangeAt Go.RowKit

theorem cell_lt {w : World} {a : Addr} {v : Value} (h : w.cell? a = some v) : a.block < w.heap.size := by
  rcases Nat.lt_or_ge a.block w.heap.size with h' | h'
  · exact h'
  · simp [World.cell?, Array.getElem?_eq_none h'] at h

theorem u8_bounds {z : Int} (h : (Lit.int .u8 z).wf = true) : 0 ≤ z ∧ z ≤ 255 := by
  simpa [Lit.wf, IntKind.min, IntKind.max, IntKind.signed, IntKind.bits] using h
theorem i64_bounds {z : Int} (h : (Lit.int .i64 z).wf = true) : -9223372036854775808 ≤ z ∧ z ≤ 9223372036854775807 := by
  simpa [Lit.wf, IntKind.min, IntKind.max, IntKind.signed, IntKind.bits] using h
theorem u64_nat {a0 : Int} (w0 : (Lit.int .u64 a0).wf = true) : ∃ x : Nat, a0 = (x : Int) ∧ x < 18446744073709551616 := by
  have hx : 0 ≤ a0 ∧ a0 ≤ 18446744073709551615 := by simpa [Lit.wf, IntKind.min, IntKind.max, IntKind.signed, IntKind.bits] using w0
  exact ⟨a0.toNat, by omega, by omega⟩

/-- bytes that came in, as a function of their places -/
theorem src_of {w : World} {a : Option Addr} {len cap : Nat} {zs : List Int}
    (h : (a = none ∧ len = 0 ∧ cap = 0 ∧ zs = []) ∨ ∃ x, a = some x ∧ len ≤ cap ∧ cap ≤ maxLen ∧ zs.length = cap ∧ (∀ i, i < zs.length → w.cell? (x.add i) = some (.int .u8 (zs.getD i 0))) ∧ ∀ n ∈ zs, (Lit.int .u8 n).wf = true) :
    len ≤ 9223372036854775807 ∧ ∃ f : Nat → Nat, (∀ j, f j < 256) ∧ Src w a len f := by
  rcases h with ⟨rfl, rfl, rfl, rfl⟩ | ⟨x, rfl, hl, hm, hz, hc, hwf⟩
  · exact ⟨by omega, fun _ => 0, fun _ => Nat.zero_lt_succ 255, fun h => by omega⟩
  · refine ⟨by unfold maxLen at hm; omega, fun j => (zs.getD j 0).toNat, fun j => ?_, fun hn => ?_⟩
    · show (zs.getD j 0).toNat < 256
      by_cases hj : j < zs.length
      · have hmem : zs.getD j 0 ∈ zs := by rw [List.getD_eq_getElem?_getD, List.getElem?_eq_getElem hj]; exact List.getElem_mem _
        have := u8_bounds (hwf _ hmem); omega
      · rw [List.getD_eq_getElem?_getD, List.getElem?_eq_none (by omega)]; decide
    · refine ⟨x, rfl, ?_, fun j hj => ?_⟩
      · have := cell_lt (hc 0 (by omega)); rwa [block_add] at this
      · have hmem : zs.getD j 0 ∈ zs := by rw [List.getD_eq_getElem?_getD, List.getElem?_eq_getElem (by omega)]; exact List.getElem_mem _
        have hb := u8_bounds (hwf _ hmem)
        rw [hc j (by omega)]
        show some (Value.int .u8 (zs.getD j 0)) = some (Value.int .u8 (((zs.getD j 0).toNat : Nat) : Int))
        rw [Int.toNat_of_nonneg hb.1]
end Go.Proofs.Ytaddmegghikhpaa
