/-
  Frames appended to frames of our own; frames of two slices as one row.
-/
import Derived.Test.YtgplannipnceeaaV
namespace Go.Proofs.Ytgplannipnceeaa
open Go.ChangeShapes Go.WideShapes Go.ChangeAt Go.RowKit Go.Deep

/-- frames' cells -/
def rowI (K : Nat → Int) (V : Nat → Value) (n : Nat) : List Value := (List.range n).flatMap fun i => [Value.int .i64 (K i), V i]
theorem rowI_succ (K : Nat → Int) (V : Nat → Value) (n : Nat) : rowI K V (n + 1) = rowI K V n ++ [Value.int .i64 (K n), V n] := by
  unfold rowI; rw [List.range_succ, List.flatMap_append]; rfl
theorem rowI_length (K : Nat → Int) (V : Nat → Value) (n : Nat) : (rowI K V n).length = n * 2 := by
  induction n with
  | zero => rfl
  | succ n ih => rw [rowI_succ, List.length_append, ih]; simp; omega
theorem rowI_get (K : Nat → Int) (V : Nat → Value) (n i : Nat) (hi : i < n) : (rowI K V n)[i * 2]? = some (.int .i64 (K i)) ∧ (rowI K V n)[i * 2 + 1]? = some (V i) := by
  induction n with
  | zero => omega
  | succ n ih =>
    rw [rowI_succ]
    by_cases h : i < n
    · rw [List.getElem?_append_left (by rw [rowI_length]; omega), List.getElem?_append_left (by rw [rowI_length]; omega)]
      exact ih h
    · obtain rfl : i = n := by omega
      rw [List.getElem?_append_right (by rw [rowI_length]; omega), List.getElem?_append_right (by rw [rowI_length]; omega), rowI_length]
      exact ⟨by rw [Nat.sub_self]; rfl, by rw [Nat.add_sub_cancel_left]; rfl⟩
theorem rowI_one (K : Nat → Int) (V : Nat → Value) (n : Nat) (hV : ∀ i, i < n → ∃ sp z cap, V i = .slice sp z cap) : ∀ u ∈ rowI K V n, u.oneCell' = true := by
  intro u hu
  unfold rowI at hu
  rw [List.mem_flatMap] at hu
  obtain ⟨i, hi, hu⟩ := hu
  obtain ⟨sp, z, cap, e⟩ := hV i (by simpa using hi)
  rw [e] at hu
  simp at hu
  rcases hu with rfl | rfl <;> rfl
theorem rowI_app (K : Nat → Int) (V : Nat → Value) (n : Nat) (K' : Nat → Int) (V' : Nat → Value) (m : Nat) :
    rowI K V n ++ rowI K' V' m = rowI (fun i => if i < n then K i else K' (i - n)) (fun i => if i < n then V i else V' (i - n)) (n + m) := by
  have h0 : ∀ t, t ≤ n → rowI K V t = rowI (fun i => if i < n then K i else K' (i - n)) (fun i => if i < n then V i else V' (i - n)) t := by
    intro t
    induction t with
    | zero => intro _; rfl
    | succ t ih => intro ht; rw [rowI_succ, rowI_succ, ih (by omega), if_pos (by omega), if_pos (by omega)]
  induction m with
  | zero => rw [Nat.add_zero, ← h0 n (Nat.le_refl _)]; exact List.append_nil _
  | succ m ih => rw [rowI_succ, ← List.append_assoc, ih, ← Nat.add_assoc, rowI_succ, if_neg (by omega), if_neg (by omega), Nat.add_sub_cancel_left]

/-- where a slice's cells are these -/
def At24 (w : World) (sp : Option Addr) (n : Nat) (K : Nat → Int) (V : Nat → Value) : Prop :=
  0 < n → ∃ b off, sp = some ⟨b, off, none⟩ ∧ b < w.heap.size ∧ ∀ j u, (rowI K V n)[j]? = some u → w.cell? ⟨b, off + j, none⟩ = some u
theorem At24.below {w w' : World} {sp : Option Addr} {n : Nat} {K : Nat → Int} {V : Nat → Value} (h : At24 w sp n K V) (hb : Below w.heap.size w w') : At24 w' sp n K V := by
  intro hn
  obtain ⟨b, off, e, hl, hc⟩ := h hn
  exact ⟨b, off, e, Nat.lt_of_lt_of_le hl hb.size, fun j u hj => (hb.cell hl).trans (hc j u hj)⟩

theorem FSI.at24 {w : World} {sp : Option Addr} {c : Nat} {K : Nat → Int} {z : Nat → Nat} {d : Nat → Nat → Nat} (h : FSI w sp c K z d) :
    ∃ V : Nat → Value, (∀ i, i < c → ∃ spi capi, V i = .slice spi (z i) capi) ∧ At24 w sp c K V := by
  by_cases hc : 0 < c
  · obtain ⟨b, off, e, hl, hi⟩ := h hc
    have hex : ∀ i, ∃ v : Value, i < c → (∃ spi capi, v = .slice spi (z i) capi) ∧ w.cell? ⟨b, off + i * 2, none⟩ = some (.int .i64 (K i)) ∧ w.cell? ⟨b, off + i * 2 + 1, none⟩ = some v := fun i => by
      by_cases hic : i < c
      · obtain ⟨spi, capi, c0, c1, _, _⟩ := hi i hic
        exact ⟨_, fun _ => ⟨⟨spi, capi, rfl⟩, c0, c1⟩⟩
      · exact ⟨.slice none 0 0, fun h => absurd h hic⟩
    obtain ⟨V, hV⟩ := Classical.skolem.mp hex
    refine ⟨V, fun i hic => (hV i hic).1, fun _ => ⟨b, off, e, hl, fun j u hj => ?_⟩⟩
    have hjl : j < c * 2 := by
      rcases Nat.lt_or_ge j (c * 2) with h' | h'
      · exact h'
      · rw [List.getElem?_eq_none (by rw [rowI_length]; exact h')] at hj; cases hj
    obtain ⟨_, h0, h1⟩ := hV (j / 2) (by omega)
    obtain ⟨g0, g1⟩ := rowI_get K V c (j / 2) (by omega)
    rcases Nat.mod_two_eq_zero_or_one j with hm | hm
    · have e2 : j = j / 2 * 2 := by omega
      rw [← e2] at g0
      rw [show off + j / 2 * 2 = off + j by omega] at h0
      rw [g0] at hj
      rw [h0, hj]
    · have e2 : j = j / 2 * 2 + 1 := by omega
      rw [← e2] at g1
      rw [show off + j / 2 * 2 + 1 = off + j by omega] at h1
      rw [g1] at hj
      rw [h1, hj]
  · exact ⟨fun i => .slice none (z i) 0, fun i hi => absurd hi (by omega), fun h => absurd h hc⟩

section
variable {w : World}
theorem wp_append_fs {o : Oper} {a : Act} {Kk : Act → World → Prop} {Q : Exit → Act → World → Prop} (s x : Operand)
    (ho : o.op = .call { callee := .builtin .append, args := #[s, x], argTypes := #[39, 39] })
    (base : Nat) (v : Value) (n : Nat) (K : Nat → Int) (V : Nat → Value) (hs : a.eval s = v) (hown : w.ownsRow base 24 2 v n (rowI K V n))
    (sp : Option Addr) (m c : Nat) (K' : Nat → Int) (V' : Nat → Value) (hx : a.eval x = .slice sp m c) (hV' : ∀ i, i < m → ∃ sp z cap, V' i = .slice sp z cap) (hsrc : At24 w sp m K' V') (hsp : sp = none → m = 0 ∧ c = 0)
    (h63 : n + m ≤ 1000000) (hbase : base ≤ w.heap.size)
    (h : ∀ v' w', w'.ownsRow base 24 2 v' (n + m) (rowI K V n ++ rowI K' V' m) → w.grownBy w' v.ownBlock → Kk (a.put o.dst v') w') : o.wp Try.prog a w Kk Q := by
  obtain ⟨i0, hi, hz0, hz1, hz2⟩ := info_parts info24
  rcases sp with _ | ad
  · obtain ⟨rfl, rfl⟩ := hsp rfl
    have hrun := run_append_owned_none (P := Try.prog) (w := w) base 39 o.type 24 i0 2 Try.underlying39 hi v n (rowI K V n) hown
    unfold Oper.wp
    simp [execOp, ho, resolve, invoke, builtin, hs, hx, hrun, Result.andThen]
    refine h v w ?_ ⟨rfl, rfl, rfl, Nat.le_refl _, fun _ _ _ => rfl⟩
    rw [Nat.add_zero]
    show w.ownsRow base 24 2 v n (rowI K V n ++ [])
    rw [List.append_nil]
    exact hown
  · refine wp_append_own w s x 39 ho base 24 i0 (.agg #[.int .i64 0, .slice none 0 0]) 2 32 Try.underlying39 hi hz0 hz1 hz2 rfl (by decide) v n (rowI K V n) hs hown ad m c (rowI K' V' m) hx (by rw [rowI_length]) ?_ (rowI_one _ _ _ hV') (by unfold maxLen; omega) (by omega) hbase ?_
    · intro j u hj
      have hjn : j < m * 2 := by
        rcases Nat.lt_or_ge j (m * 2) with h' | h'
        · exact h'
        · rw [List.getElem?_eq_none (by rw [rowI_length]; exact h')] at hj; cases hj
      obtain ⟨b, off, e', _, hcc⟩ := hsrc (by omega)
      injection e' with e'
      subst e'
      rw [Go.WideShapes.add_plain]
      exact hcc j u hj
    · intro v' w' h2 h3 _
      exact h v' w' h2 h3
theorem wpList_append_fs {ops : Array Oper} {rest : List Oper} {o : Oper} {a : Act} {Q : Exit → Act → World → Prop} (hgd : o.guard = none) (s x : Operand)
    (ho : o.op = .call { callee := .builtin .append, args := #[s, x], argTypes := #[39, 39] })
    (base : Nat) (v : Value) (n : Nat) (K : Nat → Int) (V : Nat → Value) (hs : a.eval s = v) (hown : w.ownsRow base 24 2 v n (rowI K V n))
    (sp : Option Addr) (m c : Nat) (K' : Nat → Int) (V' : Nat → Value) (hx : a.eval x = .slice sp m c) (hV' : ∀ i, i < m → ∃ sp z cap, V' i = .slice sp z cap) (hsrc : At24 w sp m K' V') (hsp : sp = none → m = 0 ∧ c = 0)
    (h63 : n + m ≤ 1000000) (hbase : base ≤ w.heap.size)
    (h : ∀ v' w', w'.ownsRow base 24 2 v' (n + m) (rowI K V n ++ rowI K' V' m) → w.grownBy w' v.ownBlock → wpList Try.prog ops Q rest (a.put o.dst v') w') : wpList Try.prog ops Q (o :: rest) a w :=
  wpList_plain hgd fun _ hK => wp_append_fs s x ho base v n K V hs hown sp m c K' V' hx hV' hsrc hsp h63 hbase fun v' w' h2 h3 => hK _ _ (h v' w' h2 h3)
end

theorem own24_form {w : World} {base n : Nat} {v : Value} {xs : List Value} (h : w.ownsRow base 24 2 v n xs) : ∃ sp cp, v = .slice sp n cp ∧ (0 < n → ∃ g, sp = some ⟨g, 0, none⟩ ∧ g < w.heap.size) := by
  rcases h.2 with ⟨e, rfl⟩ | ⟨g, cp, cur, e, _, hh, _⟩
  · exact ⟨_, _, e, fun h => absurd h (Nat.lt_irrefl 0)⟩
  · refine ⟨_, _, e, fun _ => ⟨g, rfl, ?_⟩⟩
    rcases Nat.lt_or_ge g w.heap.size with h' | h'
    · exact h'
    · rw [Array.getElem?_eq_none h'] at hh; cases hh

theorem infs_none {H : Type} {enc : TypeId × Value → H} {w : World} {base : Nat} {spare : Nat → Bool} {held : Bool} {fuel : Nat} {a : Option Addr} {len cap : Nat} {x : DataW H × List MemPlace} (h : DataW.trod enc Try.prog w base spare held fuel 39 [.slice a len cap] = some x) : (a = none → len = 0 ∧ cap = 0) ∧ len ≤ cap := by
  rcases open_slice Try.underlying39 h with ⟨e, _⟩ | ⟨ad, len', cap', m, n, D, Pl, e, _, hl, _⟩
  · simp at e; obtain ⟨rfl, rfl, rfl⟩ := e
    exact ⟨fun _ => ⟨rfl, rfl⟩, Nat.le_refl _⟩
  · simp at e; obtain ⟨rfl, rfl, rfl⟩ := e
    exact ⟨fun h => (by cases h), hl⟩

/-- one of two -/
def jn {α : Type} (n : Nat) (f g : Nat → α) : Nat → α := fun i => if i < n then f i else g (i - n)
theorem jn_lo {α : Type} {n : Nat} {f g : Nat → α} {i : Nat} (h : i < n) : jn n f g i = f i := if_pos h
theorem jn_hi {α : Type} (n : Nat) (f g : Nat → α) (i : Nat) : jn n f g (n + i) = g i := by unfold jn; rw [if_neg (by omega), Nat.add_sub_cancel_left]

theorem tot_congr (z z' : Nat → Nat) (n : Nat) (h : ∀ i, i < n → z i = z' i) : tot z n = tot z' n := by
  induction n with
  | zero => rfl
  | succ n ih => show tot z n + (12 + z n) = tot z' n + (12 + z' n); rw [ih fun i hi => h i (by omega), h n (by omega)]
theorem allF_congr (k z k' z' : Nat → Nat) (d d' : Nat → Nat → Nat) (n : Nat) (hk : ∀ i, i < n → k i = k' i) (hz : ∀ i, i < n → z i = z' i) (hd : ∀ i, i < n → d i = d' i) : allF k z d n = allF k' z' d' n := by
  induction n with
  | zero => rfl
  | succ n ih =>
    show cat (allF k z d n) (frm (k n) (z n) (d n)) (tot z n) = cat (allF k' z' d' n) (frm (k' n) (z' n) (d' n)) (tot z' n)
    rw [ih (fun i hi => hk i (by omega)) (fun i hi => hz i (by omega)) (fun i hi => hd i (by omega)), hk n (by omega), hz n (by omega), hd n (by omega), tot_congr z z' n fun i hi => hz i (by omega)]
theorem tot_jn (n : Nat) (z z' : Nat → Nat) (m : Nat) : tot (jn n z z') (n + m) = tot z n + tot z' m := by
  induction m with
  | zero => rw [Nat.add_zero]; exact (tot_congr _ _ n fun i hi => jn_lo hi).trans (Nat.add_zero _).symm
  | succ m ih => show tot (jn n z z') (n + m) + (12 + jn n z z' (n + m)) = tot z n + (tot z' m + (12 + z' m)); rw [ih, jn_hi]; omega
theorem allF_jn (n : Nat) (k z k' z' : Nat → Nat) (d d' : Nat → Nat → Nat) (m : Nat) : ∀ j, j < tot z n + tot z' m → allF (jn n k k') (jn n z z') (jn n d d') (n + m) j = cat (allF k z d n) (allF k' z' d' m) (tot z n) j := by
  induction m with
  | zero =>
    intro j hj
    rw [Nat.add_zero, allF_congr (jn n k k') (jn n z z') k z (jn n d d') d n (fun i hi => jn_lo hi) (fun i hi => jn_lo hi) (fun i hi => jn_lo hi), cat_lo (by exact hj)]
  | succ m ih =>
    intro j hj
    show cat (allF (jn n k k') (jn n z z') (jn n d d') (n + m)) (frm (jn n k k' (n + m)) (jn n z z' (n + m)) (jn n d d' (n + m))) (tot (jn n z z') (n + m)) j = _
    rw [jn_hi, jn_hi, jn_hi, tot_jn]
    by_cases h1 : j < tot z n + tot z' m
    · rw [cat_lo h1, ih j h1]
      by_cases h2 : j < tot z n
      · rw [cat_lo h2, cat_lo h2]
      · obtain ⟨i, rfl⟩ : ∃ i, j = tot z n + i := ⟨j - tot z n, by omega⟩
        rw [cat_hi, cat_hi]
        exact (cat_lo (by omega)).symm
    · obtain ⟨i, rfl⟩ : ∃ i, j = tot z n + tot z' m + i := ⟨j - (tot z n + tot z' m), by omega⟩
      rw [cat_hi, Nat.add_assoc, cat_hi]
      exact (cat_hi (tot z' m) i).symm
end Go.Proofs.Ytgplannipnceeaa
