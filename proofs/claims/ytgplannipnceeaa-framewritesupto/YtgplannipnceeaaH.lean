/-
  The reference's frame: contracts of the law's four, text and same.
-/
import Derived.Test.YtgplannipnceeaaG
namespace Go.Proofs.Ytgplannipnceeaa
open Go.ChangeShapes Go.WideShapes Go.ChangeAt Go.RowKit

theorem lfour_any (x : Nat) (w : World) (hx : x < 4294967296) :
    Calls Try.prog 25 #[.int .u64 (x : Int)] w fun e w' => e = .returned (.slice (some ⟨w.heap.size, 0, none⟩) 4 4) ∧ w.alloc (.cells (cells4 (big x)) 5) = w' := by
  obtain ⟨b0, b1, b2, b3⟩ := big_int x
  have HX := Lib.hid hx
  have HC : Hid (cells4 (big x) = #[.int .u8 ((x : Int) / 16777216), .int .u8 ((x : Int) / 65536 % 256), .int .u8 ((x : Int) / 256 % 256), .int .u8 ((x : Int) % 256)]) := Lib.hid (by unfold cells4; rw [b0, b1, b2, b3, show (x : Int) / 16777216 % 256 = (x : Int) / 16777216 by omega])
  clear b0 b1 b2 b3
  go_enter Try.func25, Try.ntmps25
  go_wp2
  go_ret
  exact ⟨rfl, by rw [HC.out]⟩

section
variable {w : World}
/-- append of bytes to a row of our own, whatever lies behind, nothing too -/
theorem wp_append_src {o : Oper} {a : Act} {K : Act → World → Prop} {Q : Exit → Act → World → Prop} (s x : Operand)
    (ho : o.op = .call { callee := .builtin .append, args := #[s, x], argTypes := #[22, 22] })
    (base : Nat) (v : Value) (n : Nat) (F : Nat → Nat) (hs : a.eval s = v) (hown : w.ownsRow base 5 1 v n (rowB F n))
    (sp : Option Addr) (m c : Nat) (d : Nat → Nat) (hx : a.eval x = .slice sp m c) (hsrc : Src w sp m d) (hsp : sp = none → m = 0 ∧ c = 0)
    (h63 : n + m ≤ 10000000) (hbase : base ≤ w.heap.size)
    (h : ∀ v' w', w'.ownsRow base 5 1 v' (n + m) (rowB (cat F d n) (n + m)) → w.grownBy w' v.ownBlock → K (a.put o.dst v') w') : o.wp Try.prog a w K Q := by
  obtain ⟨i0, hi, hz0, hz1, hz2⟩ := info_parts info5
  rcases sp with _ | ad
  · obtain ⟨rfl, rfl⟩ := hsp rfl
    have hrun := run_append_owned_none (P := Try.prog) (w := w) base 22 o.type 5 i0 1 Try.underlying22 hi v n (rowB F n) hown
    unfold Oper.wp
    simp [execOp, ho, resolve, invoke, builtin, hs, hx, hrun, Result.andThen]
    refine h v w ?_ ⟨rfl, rfl, rfl, Nat.le_refl _, fun _ _ _ => rfl⟩
    rw [Nat.add_zero, ← rowB_congr F (cat F d n) n (fun j hj => (cat_lo hj).symm)]
    exact hown
  · refine wp_append_own w s x 22 ho base 5 i0 (.int .u8 0) 1 1 Try.underlying22 hi hz0 hz1 hz2 rfl (by decide) v n (rowB F n) hs hown ad m c (rowB d m) hx (by rw [rowB_length]; omega) ?_ (rowB_one _ _) (by unfold maxLen; omega) (by omega) hbase ?_
    · intro j u hj
      have hjn : j < m := by
        rcases Nat.lt_or_ge j m with h' | h'
        · exact h'
        · rw [List.getElem?_eq_none (by rw [rowB_length]; exact h')] at hj; cases hj
      rw [rowB_get d m j hjn] at hj
      injection hj with hj
      obtain ⟨ad', e', _, hcc⟩ := hsrc (by omega)
      injection e' with e'
      subst e'
      rw [← hj]
      exact hcc j hjn
    · intro v' w' h2 h3 _
      rw [rowB_cat] at h2
      exact h v' w' h2 h3
theorem wpList_append_src {ops : Array Oper} {rest : List Oper} {o : Oper} {a : Act} {Q : Exit → Act → World → Prop} (hgd : o.guard = none) (s x : Operand)
    (ho : o.op = .call { callee := .builtin .append, args := #[s, x], argTypes := #[22, 22] })
    (base : Nat) (v : Value) (n : Nat) (F : Nat → Nat) (hs : a.eval s = v) (hown : w.ownsRow base 5 1 v n (rowB F n))
    (sp : Option Addr) (m c : Nat) (d : Nat → Nat) (hx : a.eval x = .slice sp m c) (hsrc : Src w sp m d) (hsp : sp = none → m = 0 ∧ c = 0)
    (h63 : n + m ≤ 10000000) (hbase : base ≤ w.heap.size)
    (h : ∀ v' w', w'.ownsRow base 5 1 v' (n + m) (rowB (cat F d n) (n + m)) → w.grownBy w' v.ownBlock → wpList Try.prog ops Q rest (a.put o.dst v') w') : wpList Try.prog ops Q (o :: rest) a w :=
  wpList_plain hgd fun _ hK => wp_append_src s x ho base v n F hs hown sp m c d hx hsrc hsp h63 hbase fun v' w' h2 h3 => hK _ _ (h v' w' h2 h3)
theorem step_append_src {ops : Array Oper} {o : Oper} {a : Act} {K : Act → World → Prop} {Q : Exit → Act → World → Prop} {E : Prop} (hgd : o.guard = none) (s x : Operand)
    (ho : o.op = .call { callee := .builtin .append, args := #[s, x], argTypes := #[22, 22] })
    (base : Nat) (v : Value) (n : Nat) (F : Nat → Nat) (hs : a.eval s = v) (hown : w.ownsRow base 5 1 v n (rowB F n))
    (sp : Option Addr) (m c : Nat) (d : Nat → Nat) (hx : a.eval x = .slice sp m c) (hsrc : Src w sp m d) (hsp : sp = none → m = 0 ∧ c = 0)
    (h63 : n + m ≤ 10000000) (hbase : base ≤ w.heap.size)
    (h : ∀ v' w', w'.ownsRow base 5 1 v' (n + m) (rowB (cat F d n) (n + m)) → w.grownBy w' v.ownBlock → K (a.put o.dst v') w') :
    if Region.wanted o (yielded ops a.tmps) = true then Oper.wp Try.prog o a w K Q else E := by
  have hw : Region.wanted o (yielded ops a.tmps) = true := by simp [Region.wanted, hgd]
  rw [if_pos hw]
  exact wp_append_src s x ho base v n F hs hown sp m c d hx hsrc hsp h63 hbase h
end

theorem own_low {w w' : World} {base B n : Nat} {v : Value} {xs : List Value} (h : w.ownsRow base 5 1 v n xs) (hB : ∀ k, v.ownBlock = some k → k < B) (hb : Below B w w') : w'.ownsRow base 5 1 v n xs := by
  refine ⟨h.1, ?_⟩
  rcases h.2 with h0 | ⟨g, cap, cur, hv, hg, hh, hrest⟩
  · exact .inl h0
  · exact .inr ⟨g, cap, cur, hv, hg, (hb.block g (hB g (by rw [hv]; rfl))).trans hh, hrest⟩

theorem more_cat (f o : Nat → Nat) (n m : Nat) : CrcMath.more 0 (cat f o n) (n + m) = CrcMath.more (CrcMath.more 0 f n) o m := by
  rw [CrcMath.more_add, CrcMath.more_congr 0 (cat f o n) f n (fun j hj => cat_lo hj)]
  exact CrcMath.more_congr _ _ _ m (fun j _ => cat_hi n j)
end Go.Proofs.Ytgplannipnceeaa
