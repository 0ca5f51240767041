/-
  The reference of chains: Orders, which calls itself.
-/
import Derived.Test.YteobndfkkpfnlaaJ01
import Derived.Test.YteobndfkkpfnlaaMa
import Derived.Deep.CutRange
import Derived.Laws.AppendOwnNone
import Derived.WalkSpells
namespace Go.Proofs.Yteobndfkkpfnlaa
open Go.ChangeShapes Go.WideShapes Go.ChangeAt Go.RowKit
set_option linter.unusedVariables false

set_option maxRecDepth 100000 in
theorem mi3 : (Try.prog.info? 3).map (fun i => (i.zero, i.size, i.bytes)) = some (some (.int .i64 0), 1, 8) := by kernel_rfl
set_option maxRecDepth 100000 in
theorem mi41 : (Try.prog.info? 41).map (fun i => (i.zero, i.size, i.bytes)) = some (some (.slice none 0 0), 1, 24) := by kernel_rfl
/-- numbers' cells -/
def rwI (l : List Int) : List Value := l.map fun z => .int .i64 z
theorem rwI_length (l : List Int) : (rwI l).length = l.length := by unfold rwI; rw [List.length_map]
theorem rwI_app (l m : List Int) : rwI (l ++ m) = rwI l ++ rwI m := by unfold rwI; rw [List.map_append]
theorem rwI_one (l : List Int) : ∀ u ∈ rwI l, u.oneCell' = true := by
  intro u hu
  unfold rwI at hu
  rw [List.mem_map] at hu
  obtain ⟨b, _, rfl⟩ := hu
  rfl
theorem rwI_get (l : List Int) (i : Nat) (h : i < l.length) : (rwI l)[i]? = some (.int .i64 (l.getD i 0)) := by
  unfold rwI
  rw [List.getElem?_map, List.getElem?_eq_getElem h, List.getD_eq_getElem?_getD, List.getElem?_eq_getElem h]
  rfl
/-- numbers in a slice that may be anybody's -/
def IsL (w : World) (sp : Option Addr) (n : Nat) (l : List Int) : Prop :=
  0 < n → ∃ b off, sp = some ⟨b, off, none⟩ ∧ b < w.heap.size ∧ ∀ i, i < n → w.cell? ⟨b, off + i, none⟩ = some (.int .i64 (l.getD i 0))
theorem IsL.below {w w' : World} {sp : Option Addr} {n : Nat} {l : List Int} (h : IsL w sp n l) (hb : Below w.heap.size w w') : IsL w' sp n l := by
  intro hn
  obtain ⟨b, off, e, hl, hc⟩ := h hn
  exact ⟨b, off, e, Nat.lt_of_lt_of_le hl hb.size, fun i hi => (hb.cell (p := ⟨b, off + i, none⟩) hl).trans (hc i hi)⟩
theorem IsL.take {w : World} {sp : Option Addr} {n t : Nat} {l : List Int} (h : IsL w sp n l) (ht : t ≤ n) : IsL w sp t (l.take t) := by
  intro h0
  obtain ⟨b, off, e, hl, hc⟩ := h (by omega)
  exact ⟨b, off, e, hl, fun i hi => by rw [getD_take hi]; exact hc i (by omega)⟩
theorem IsL.drop {w : World} {b off n t k : Nat} {l : List Int} (h : IsL w (some ⟨b, off, none⟩) n l) (ht : t + k ≤ n) : IsL w (some ⟨b, off + t, none⟩) k (l.drop t) := by
  intro h0
  obtain ⟨b', off', e, hl, hc⟩ := h (by omega)
  injection e with e
  injection e with e1 e2
  subst e1 e2
  exact ⟨b, off + t, rfl, hl, fun i hi => by rw [getD_drop, Nat.add_assoc]; exact hc (t + i) (by omega)⟩
theorem own_isL {w : World} {base n cp : Nat} {sp : Option Addr} {l : List Int} (h : w.ownsRow base 3 1 (.slice sp n cp) n (rwI l)) (hn : n = l.length) : IsL w sp n l := by
  intro h0
  obtain ⟨g, cap', e, _, hl⟩ := h.form h0
  injection e with e1 _ _
  subst e1
  refine ⟨g, 0, rfl, hl, fun i hi => ?_⟩
  rw [Nat.zero_add, h.cellAt i (by omega), rwI_get l i (by omega)]
section
variable {w : World}
set_option maxRecDepth 100000 in
theorem wp_append_ints {o : Oper} {a : Act} {K : Act → World → Prop} {Q : Exit → Act → World → Prop} (s x : Operand)
    (ho : o.op = .call { callee := .builtin .append, args := #[s, x], argTypes := #[41, 41] })
    (base : Nat) (v : Value) (n : Nat) (l : List Int) (hn : n = l.length) (hs : a.eval s = v) (hown : w.ownsRow base 3 1 v n (rwI l))
    (sp : Option Addr) (k c : Nat) (d : List Int) (hk : k = d.length) (hx : a.eval x = .slice sp k c) (hsrc : IsL w sp k d) (hsp : sp = none → k = 0 ∧ c = 0)
    (h63 : n + k ≤ 10000) (hbase : base ≤ w.heap.size)
    (h : ∀ v' w', w'.ownsRow base 3 1 v' (n + k) (rwI (l ++ d)) → w.grownBy w' v.ownBlock → K (a.put o.dst v') w') : o.wp Try.prog a w K Q := by
  obtain ⟨i0, hi, hz0, hz1, hz2⟩ := info_parts mi3
  subst hn hk
  rcases sp with _ | ad
  · obtain ⟨hd, rfl⟩ := hsp rfl
    obtain rfl : d = [] := List.eq_nil_of_length_eq_zero hd
    have hrun := run_append_owned_none (P := Try.prog) (w := w) base 41 o.type 3 i0 1 Try.underlying41 hi v l.length (rwI l) hown
    unfold Oper.wp
    simp [execOp, ho, resolve, invoke, builtin, hs, hx, hrun, Result.andThen]
    exact h v w (by rw [List.append_nil]; exact hown) ⟨rfl, rfl, rfl, Nat.le_refl _, fun _ _ _ => rfl⟩
  · refine wp_append_own w s x 41 ho base 3 i0 (.int .i64 0) 1 8 Try.underlying41 hi hz0 hz1 hz2 rfl (by decide) v l.length (rwI l) hs hown ad d.length c (rwI d) hx (by rw [rwI_length]; omega) ?_ (rwI_one _) (by unfold maxLen; omega) (by omega) hbase ?_
    · intro j u hj
      have hjn : j < d.length := by
        rcases Nat.lt_or_ge j d.length with h' | h'
        · exact h'
        · rw [List.getElem?_eq_none (by rw [rwI_length]; exact h')] at hj; cases hj
      obtain ⟨b, off, e', _, hc⟩ := hsrc (by omega)
      injection e' with e'
      subst e'
      rw [Go.WideShapes.add_plain, hc j hjn, ← hj, rwI_get d j hjn]
    · intro v' w' h2 h3 _
      rw [← rwI_app] at h2
      exact h v' w' h2 h3
set_option maxRecDepth 100000 in
theorem wpList_append_ints {ops : Array Oper} {rest : List Oper} {o : Oper} {a : Act} {Q : Exit → Act → World → Prop} (hgd : o.guard = none) (s x : Operand)
    (ho : o.op = .call { callee := .builtin .append, args := #[s, x], argTypes := #[41, 41] })
    (base : Nat) (v : Value) (n : Nat) (l : List Int) (hn : n = l.length) (hs : a.eval s = v) (hown : w.ownsRow base 3 1 v n (rwI l))
    (sp : Option Addr) (k c : Nat) (d : List Int) (hk : k = d.length) (hx : a.eval x = .slice sp k c) (hsrc : IsL w sp k d) (hsp : sp = none → k = 0 ∧ c = 0)
    (h63 : n + k ≤ 10000) (hbase : base ≤ w.heap.size)
    (h : ∀ v' w', w'.ownsRow base 3 1 v' (n + k) (rwI (l ++ d)) → w.grownBy w' v.ownBlock → wpList Try.prog ops Q rest (a.put o.dst v') w') : wpList Try.prog ops Q (o :: rest) a w :=
  wpList_plain hgd fun _ hK => wp_append_ints s x ho base v n l hn hs hown sp k c d hk hx hsrc hsp h63 hbase fun v' w' h2 h3 => hK _ _ (h v' w' h2 h3)
set_option maxRecDepth 100000 in
theorem step_append_ints {ops : Array Oper} {o : Oper} {a : Act} {K : Act → World → Prop} {Q : Exit → Act → World → Prop} {E : Prop} (hgd : o.guard = none) (s x : Operand)
    (ho : o.op = .call { callee := .builtin .append, args := #[s, x], argTypes := #[41, 41] })
    (base : Nat) (v : Value) (n : Nat) (l : List Int) (hn : n = l.length) (hs : a.eval s = v) (hown : w.ownsRow base 3 1 v n (rwI l))
    (sp : Option Addr) (k c : Nat) (d : List Int) (hk : k = d.length) (hx : a.eval x = .slice sp k c) (hsrc : IsL w sp k d) (hsp : sp = none → k = 0 ∧ c = 0)
    (h63 : n + k ≤ 10000) (hbase : base ≤ w.heap.size)
    (h : ∀ v' w', w'.ownsRow base 3 1 v' (n + k) (rwI (l ++ d)) → w.grownBy w' v.ownBlock → K (a.put o.dst v') w') :
    if Region.wanted o (yielded ops a.tmps) = true then Oper.wp Try.prog o a w K Q else E := by
  have hw : Region.wanted o (yielded ops a.tmps) = true := by simp [Region.wanted, hgd]
  rw [if_pos hw]
  exact wp_append_ints s x ho base v n l hn hs hown sp k c d hk hx hsrc hsp h63 hbase h
end
theorem own_cap3 {w : World} {base e size n cp : Nat} {sp : Option Addr} {xs : List Value} (h : w.ownsRow base e size (.slice sp n cp) n xs) : n ≤ cp := by
  rcases h.2 with ⟨e, h0⟩ | ⟨g, c, cur, e, _, _, hle, _⟩
  · injection e with e1 e2 e3; omega
  · injection e with e1 e2 e3; omega
theorem own_base {w : World} {base base' e size n : Nat} {v : Value} {xs : List Value} (h : w.ownsRow base e size v n xs) (hb : base' ≤ base) : w.ownsRow base' e size v n xs := by
  refine ⟨h.1, ?_⟩
  rcases h.2 with h0 | ⟨g, cap, cur, hv, hg, hrest⟩
  · exact .inl h0
  · exact .inr ⟨g, cap, cur, hv, Nat.le_trans hb hg, hrest⟩
/-- rows of numbers in a row -/
structure OrR (w : World) (base : Nat) (v : Value) (P : List (Value × List Int)) : Prop where
  row : w.ownsRow base 41 1 v P.length (P.map (·.1))
  each : ∀ x ∈ P, ∃ sp cp, x.1 = .slice sp x.2.length cp ∧ w.ownsRow base 3 1 x.1 x.2.length (rwI x.2)
theorem OrR.keep {w w' : World} {base : Nat} {v : Value} {P : List (Value × List Int)} (h : OrR w base v P) (hb : Below w.heap.size w w') : OrR w' base v P :=
  ⟨own_keep h.row fun g hg => hb.block g (h.row.lt g hg).2, fun x hx => by
    obtain ⟨sp, cp, e, ho⟩ := h.each x hx
    exact ⟨sp, cp, e, own_keep ho fun g hg => hb.block g (ho.lt g hg).2⟩⟩
theorem OrR.mono {w : World} {base base' : Nat} {v : Value} {P : List (Value × List Int)} (h : OrR w base v P) (hb : base' ≤ base) : OrR w base' v P :=
  ⟨own_base h.row hb, fun x hx => by
    obtain ⟨sp, cp, e, ho⟩ := h.each x hx
    exact ⟨sp, cp, e, own_base ho hb⟩⟩
/-- rows of numbers are none of these blocks -/
theorem own_ne {w : World} {b1 b2 n1 n2 : Nat} {u v : Value} {xs ys : List Value} (h : w.ownsRow b1 3 1 u n1 xs) (hr : w.ownsRow b2 41 1 v n2 ys) {g : Nat} (hg : u.ownBlock = some g) : some g ≠ v.ownBlock := fun e => by
  obtain ⟨c1, e1⟩ := own_cells h hg
  obtain ⟨c2, e2⟩ := own_cells hr e.symm
  rw [e1] at e2
  injection e2 with e2
  injection e2 with _ e2 _
  cases e2
theorem OrR.push {w w' : World} {base : Nat} {v v' : Value} {P : List (Value × List Int)} {u : Value} {l : List Int} {sp : Option Addr} {cp : Nat} (h : OrR w base v P) (hu : u = .slice sp l.length cp) (ho : w.ownsRow base 3 1 u l.length (rwI l))
    (hr : w'.ownsRow base 41 1 v' (P.length + 1) (P.map (·.1) ++ [u])) (hg : w.grownBy w' v.ownBlock) : OrR w' base v' (P ++ [(u, l)]) := by
  refine ⟨by rw [List.length_append, List.length_singleton, List.map_append]; exact hr, fun x hx => ?_⟩
  rcases List.mem_append.1 hx with hx | hx
  · obtain ⟨s, c, e, ho'⟩ := h.each x hx
    exact ⟨s, c, e, own_keep ho' fun g hg' => hg.block g (ho'.lt g hg').2 (own_ne ho' h.row hg')⟩
  · obtain rfl := List.mem_singleton.1 hx
    exact ⟨sp, cp, hu, own_keep ho fun g hg' => hg.block g (ho.lt g hg').2 (own_ne ho h.row hg')⟩
def fct : Nat → Nat
  | 0 => 1
  | n + 1 => (n + 1) * fct n
theorem fct_le (n : Nat) (h : n ≤ 6) : fct n ≤ 720 := by
  rcases (show n = 0 ∨ n = 1 ∨ n = 2 ∨ n = 3 ∨ n = 4 ∨ n = 5 ∨ n = 6 by omega) with rfl | rfl | rfl | rfl | rfl | rfl | rfl <;> decide
/-- what Orders answers -/
def OrdP (n : Nat) (w : World) (e : Ending) (w' : World) : Prop :=
  ∃ (P : List (Value × List Int)) (sp : Option Addr) (cp : Nat), e = .returned (.slice sp P.length cp) ∧ OrR w' w.heap.size (.slice sp P.length cp) P ∧ P.length ≤ fct n ∧ (∀ x ∈ P, x.2.length = n) ∧ Below w.heap.size w w'
end Go.Proofs.Yteobndfkkpfnlaa
