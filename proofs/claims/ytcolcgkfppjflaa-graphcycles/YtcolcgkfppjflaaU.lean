/-
  Orders: mathematics; order's memory.
-/
import Derived.Test.YtcolcgkfppjflaaL
namespace Go.Proofs.Ytcolcgkfppjflaa
open Go.ChangeShapes Go.WideShapes Go.ChangeAt Go.RowKit
set_option linter.unusedVariables false

/-- a node left to which no arc goes from one left -/
def Free (A : Nat → Nat → Prop) (N : Nat) (O : List Nat) (v : Nat) : Prop := v < N ∧ v ∉ O ∧ ∀ u, u < N → A u v → u ∈ O
def Next (A : Nat → Nat → Prop) (N : Nat) (O : List Nat) (v : Nat) : Prop := Free A N O v ∧ ∀ u, u < v → ¬ Free A N O u
theorem Next.one {A : Nat → Nat → Prop} {N : Nat} {O : List Nat} {u v : Nat} (h : Next A N O u) (k : Next A N O v) : u = v := by
  rcases Nat.lt_trichotomy u v with h1 | h1 | h1
  · exact absurd h.1 (k.2 u h1)
  · exact h1
  · exact absurd k.1 (h.2 v h1)
inductive Bld (A : Nat → Nat → Prop) (N : Nat) : List Nat → Prop
  | nil : Bld A N []
  | snoc {O : List Nat} {v : Nat} : Bld A N O → Next A N O v → Bld A N (O ++ [v])
theorem Bld.back {A : Nat → Nat → Prop} {N : Nat} {O : List Nat} {v : Nat} (h : Bld A N (O ++ [v])) : Bld A N O ∧ Next A N O v := by
  generalize hX : O ++ [v] = X at h
  cases h with
  | nil => simp at hX
  | @snoc O' v' h1 h2 =>
    have := List.append_inj' hX (by simp)
    obtain ⟨rfl, h4⟩ := this
    simp at h4
    subst h4
    exact ⟨h1, h2⟩
theorem Bld.one {A : Nat → Nat → Prop} {N : Nat} {O : List Nat} (h : Bld A N O) : ∀ {O' : List Nat}, Bld A N O' → O.length = O'.length → O = O' := by
  induction h with
  | nil => intro O' _ hl; exact (List.eq_nil_of_length_eq_zero hl.symm).symm
  | @snoc O v h1 h2 ih =>
    intro O' h' hl
    cases h' with
    | nil => simp at hl
    | @snoc O'' v' h3 h4 =>
      have : O = O'' := ih h3 (by simpa using hl)
      subst this
      rw [h2.one h4]
theorem Bld.take {A : Nat → Nat → Prop} {N : Nat} {O : List Nat} (h : Bld A N O) : ∀ k, k ≤ O.length → Bld A N (O.take k) := by
  induction h with
  | nil => intro k _; simp; exact .nil
  | @snoc O v h1 h2 ih =>
    intro k hk
    by_cases h : k ≤ O.length
    · rw [List.take_append_of_le_length h]; exact ih k h
    · rw [List.take_of_length_le (by simp at hk ⊢; omega)]
      exact .snoc h1 h2
theorem Bld.facts {A : Nat → Nat → Prop} {N : Nat} {O : List Nat} (h : Bld A N O) : O.Nodup ∧ ∀ x ∈ O, x < N := by
  induction h with
  | nil => exact ⟨List.nodup_nil, fun x hx => by cases hx⟩
  | @snoc O v h1 h2 ih =>
    refine ⟨List.nodup_append.2 ⟨ih.1, by simp, ?_⟩, fun x hx => ?_⟩
    · intro a ha b hb e
      simp at hb
      rw [e, hb] at ha
      exact h2.1.2.1 ha
    · rcases List.mem_append.1 hx with hx | hx
      · exact ih.2 x hx
      · rw [List.mem_singleton.1 hx]; exact h2.1.1
/-- what Order answers -/
def OrdR (A : Nat → Nat → Prop) (N : Nat) (O : List Nat) (b : Bool) : Prop :=
  (b = true ∧ Bld A N O ∧ O.length = N) ∨ (b = false ∧ O = [] ∧ ∃ O', Bld A N O' ∧ O'.length < N ∧ ∀ v, ¬ Free A N O' v)
theorem no_both {A : Nat → Nat → Prop} {N : Nat} {O O' : List Nat} (h : Bld A N O) (hl : O.length = N) (h' : Bld A N O') (hl' : O'.length < N) (hs : ∀ v, ¬ Free A N O' v) : False := by
  have h1 := h.take (O'.length + 1) (by omega)
  have h2 := h.take O'.length (by omega)
  have e : O.take (O'.length + 1) = O.take O'.length ++ [O[O'.length]'(by omega)] := by rw [List.take_add_one, List.getElem?_eq_getElem (by omega)]; rfl
  rw [e] at h1
  have h3 := h1.back.2
  have h4 : O.take O'.length = O' := h2.one h' (by simp; omega)
  rw [h4] at h3
  exact hs _ h3.1
theorem OrdR.one {A : Nat → Nat → Prop} {N : Nat} {O O' : List Nat} {b b' : Bool} (h : OrdR A N O b) (k : OrdR A N O' b') : O = O' ∧ b = b' := by
  rcases h with ⟨rfl, h1, h2⟩ | ⟨rfl, rfl, P, h1, h2, h3⟩
  · rcases k with ⟨rfl, k1, k2⟩ | ⟨rfl, rfl, P, k1, k2, k3⟩
    · exact ⟨h1.one k1 (by omega), rfl⟩
    · exact (no_both h1 h2 k1 k2 k3).elim
  · rcases k with ⟨rfl, k1, k2⟩ | ⟨rfl, rfl, _⟩
    · exact (no_both k1 k2 h1 h2 h3).elim
    · exact ⟨rfl, rfl⟩
theorem Free.congr {A B : Nat → Nat → Prop} {N : Nat} {O : List Nat} {v : Nat} (h : ∀ i j, i < N → j < N → (A i j ↔ B i j)) : Free A N O v ↔ Free B N O v := by
  constructor
  · rintro ⟨h1, h2, h3⟩; exact ⟨h1, h2, fun u hu hb => h3 u hu ((h u v hu h1).2 hb)⟩
  · rintro ⟨h1, h2, h3⟩; exact ⟨h1, h2, fun u hu hb => h3 u hu ((h u v hu h1).1 hb)⟩
theorem Bld.congr {A B : Nat → Nat → Prop} {N : Nat} {O : List Nat} (h : ∀ i j, i < N → j < N → (A i j ↔ B i j)) (hb : Bld A N O) : Bld B N O := by
  induction hb with
  | nil => exact .nil
  | snoc h1 h2 ih => exact .snoc ih ⟨(Free.congr h).1 h2.1, fun u hu hf => h2.2 u hu ((Free.congr h).2 hf)⟩
theorem OrdR.congr {A B : Nat → Nat → Prop} {N : Nat} {O : List Nat} {b : Bool} (h : ∀ i j, i < N → j < N → (A i j ↔ B i j)) (ho : OrdR A N O b) : OrdR B N O b := by
  rcases ho with ⟨h1, h2, h3⟩ | ⟨h1, h2, P, h3, h4, h5⟩
  · exact .inl ⟨h1, h2.congr h, h3⟩
  · exact .inr ⟨h1, h2, P, h3.congr h, h4, fun v hv => h5 v ((Free.congr h).2 hv)⟩

/-- how many of a list are left -/
def wt (O : List Nat) : List Nat → Nat
  | [] => 0
  | u :: l => wt O l + (if u ∈ O then 0 else 1)
theorem wt_nil (l : List Nat) : wt [] l = l.length := by
  induction l with
  | nil => rfl
  | cons u l ih => unfold wt; rw [ih]; simp
theorem wt_zero (O l : List Nat) : wt O l = 0 ↔ ∀ u ∈ l, u ∈ O := by
  induction l with
  | nil => simp [wt]
  | cons u l ih =>
    unfold wt
    by_cases h : u ∈ O
    · rw [if_pos h]; simp [ih, h]
    · rw [if_neg h]; simp [h]
theorem wt_out (O l : List Nat) (v : Nat) (h : v ∉ l) : wt (O ++ [v]) l = wt O l := by
  induction l with
  | nil => rfl
  | cons u l ih =>
    unfold wt
    rw [ih (fun hm => h (List.mem_cons_of_mem _ hm))]
    have hu : u ≠ v := fun e => h (by rw [e]; exact List.mem_cons_self ..)
    simp [hu]
theorem wt_in (O l : List Nat) (v : Nat) (h : v ∈ l) (hn : l.Nodup) (hv : v ∉ O) : wt (O ++ [v]) l + 1 = wt O l := by
  induction l with
  | nil => cases h
  | cons u l ih =>
    unfold wt
    have hn' := List.nodup_cons.1 hn
    by_cases hu : u = v
    · subst hu
      rw [wt_out O l u hn'.1, if_pos (by simp), if_neg hv]
    · have : v ∈ l := by
        rcases List.mem_cons.1 h with h | h
        · exact absurd h.symm hu
        · exact h
      have h2 := ih this hn'.2
      have e : (u ∈ O ++ [v]) = (u ∈ O) := by simp [hu]
      simp only [e]
      omega
theorem wt_le (O l : List Nat) : wt O l ≤ l.length := by
  induction l with
  | nil => exact Nat.le_refl _
  | cons u l ih => unfold wt; rw [List.length_cons]; split <;> omega
/-- counts as cells -/
def rowC (W : Nat → Nat) (N : Nat) : List Value := rowV (fun i => .int .i64 (W i : Int)) N
theorem rowC_set (W : Nat → Nat) (N i k : Nat) : (rowC W N).set i (.int .i64 (k : Int)) = rowC (fun x => if x = i then k else W x) N := by
  unfold rowC
  rw [rowV_set]
  unfold rowV
  apply List.map_congr_left
  intro x _
  show _ = Value.int .i64 (((if x = i then k else W x) : Nat) : Int)
  by_cases h : x = i
  · rw [if_pos h, if_pos h]
  · rw [if_neg h, if_neg h]
theorem made_ints (N : Nat) : (madeCells #[Value.int .i64 0] N).toList = rowC (fun _ => 0) N := by
  rw [toList_madeCells_one]; unfold rowC rowV; rw [show (fun (i : Nat) => Value.int .i64 ((0 : Nat) : Int)) = fun _ => Value.int .i64 0 from rfl, List.map_const', List.length_range]
theorem makeI (M : Nat) (hM : M ≤ 1000) (mc : Array Value) (hmc : mc = madeCells #[.int .i64 0] M) (w : World) :
    (Instr.makeSlice 33 (.int .i64 (M : Int)) (.int .i64 (M : Int))).run Try.prog w = .ok (.slice (some ⟨w.heap.size, 0, none⟩) M M) (w.alloc (.cells mc 3)) := by
  subst hmc
  exact run_make_row' (P := Try.prog) 33 3 (.int .i64 0) 8 Try.underlying33 info3 rfl .i64 .i64 M (by omega) (by omega) w
theorem makeI0 (M : Nat) (hM : M ≤ 1000) (mc : Array Value) (hmc : mc = madeCells #[.int .i64 0] M) (w : World) :
    (Instr.makeSlice 33 (.int .i64 0) (.int .i64 (M : Int))).run Try.prog w = .ok (.slice (some ⟨w.heap.size, 0, none⟩) 0 M) (w.alloc (.cells mc 3)) := by
  subst hmc
  obtain ⟨i, hi, h0, h1, h2⟩ := info_parts info3
  have := run_make (P := Try.prog) (w := w) 33 3 i (.int .i64 0) Try.underlying33 hi h0 .i64 .i64 0 (M : Int) (by omega) (by omega) (by rw [h2]; omega) (by omega)
  rw [h1] at this
  simpa [Value.cells] using this
/-- the rows of order -/
structure OrdM (w0 w : World) (gw gp go co N : Nat) (O : List Nat) (W : Nat → Nat) (P : Nat → Bool) : Prop where
  wts : w.ownsRow w0.heap.size 3 1 (.slice (some ⟨gw, 0, none⟩) N N) N (rowC W N)
  plc : MetS w w0.heap.size gp N P
  ord : w.ownsRow w0.heap.size 3 1 (.slice (some ⟨go, 0, none⟩) O.length co) O.length (rowN O)
  ne : gw ≠ go
  bel : Below w0.heap.size w0 w
section
variable {w0 w w' : World} {gw gp go co N : Nat} {O : List Nat} {W : Nat → Nat} {P : Nat → Bool}
theorem own_met_ne {w : World} {b b' g g' n n' c N : Nat} {xs : List Value} {M : Nat → Bool} (h : w.ownsRow b 3 1 (.slice (some ⟨g, 0, none⟩) n c) n' xs) (k : MetS w b' g' N M) : g ≠ g' := fun e => by
  obtain ⟨c1, e1⟩ := own_cells h (g := g) rfl
  obtain ⟨c2, e2⟩ := own_cells k (g := g') rfl
  rw [e, e2] at e1
  injection e1 with e1
  injection e1 with _ e1 _
  cases e1
theorem own_at {w w' : World} {b e s g n c n' : Nat} {xs : List Value} (h : w.ownsRow b e s (.slice (some ⟨g, 0, none⟩) n c) n' xs) (hk : w'.heap[g]? = w.heap[g]?) : w'.ownsRow b e s (.slice (some ⟨g, 0, none⟩) n c) n' xs :=
  own_keep h fun q e => by
    have : g = q := Option.some.inj e
    rw [← this]; exact hk
theorem OrdM.below (h : OrdM w0 w gw gp go co N O W P) (hb : Below w.heap.size w w') : OrdM w0 w' gw gp go co N O W P :=
  ⟨own_at h.wts (hb.block _ (h.wts.lt gw rfl).2), h.plc.keep (hb.block _ h.plc.lt.2), own_at h.ord (hb.block _ (h.ord.lt go rfl).2), h.ne, h.bel.trans (hb.mono h.bel.size)⟩
theorem OrdM.mark (h : OrdM w0 w gw gp go co N O W P) (v : Nat) : OrdM w0 (w.setCell ⟨gp, v, none⟩ (.bool true)) gw gp go co N O W (fun x => if x = v then true else P x) :=
  ⟨own_at h.wts (Below.heap_setCell _ _ _ _ (own_met_ne h.wts h.plc)), h.plc.set v true, own_at h.ord (Below.heap_setCell _ _ _ _ (own_met_ne h.ord h.plc)), h.ne, h.bel.setCell (by exact h.plc.lt.1) _⟩
theorem OrdM.put (h : OrdM w0 w gw gp go co N O W P) (i k : Nat) : OrdM w0 (w.setCell ⟨gw, i, none⟩ (.int .i64 (k : Int))) gw gp go co N O (fun x => if x = i then k else W x) P := by
  have h1 := (h.wts.stored i (.int .i64 (k : Int))).1
  rw [rowC_set] at h1
  exact ⟨h1, h.plc.keep (Below.heap_setCell _ _ _ _ (fun e => own_met_ne h.wts h.plc e.symm)), own_at h.ord (Below.heap_setCell _ _ _ _ (fun e => h.ne e.symm)), h.ne, h.bel.setCell (by exact (h.wts.lt gw rfl).1) _⟩
theorem OrdM.push (h : OrdM w0 w gw gp go co N O W P) {v g7 c7 : Nat} (ho : w'.ownsRow w0.heap.size 3 1 (.slice (some ⟨g7, 0, none⟩) (O.length + 1) c7) (O.length + 1) (rowN O ++ [.int .i64 (v : Int)])) (hg : w.grownBy w' (some go)) (hat : some go = some g7 ∨ g7 = w.heap.size) : OrdM w0 w' gw gp g7 c7 N (O ++ [v]) W P := by
  refine ⟨own_at h.wts (hg.block gw (h.wts.lt gw rfl).2 (fun e => h.ne (Option.some.inj e))), h.plc.keep (hg.block gp h.plc.lt.2 (fun e => own_met_ne h.ord h.plc (Option.some.inj e).symm)), ?_, ?_, h.bel.grown hg h.bel.size (fun k e => by have := (h.ord.lt go rfl).1; have := Option.some.inj e; omega)⟩
  · rw [rowN_snoc, List.length_append, List.length_singleton]; exact ho
  · rcases hat with e | e
    · have := Option.some.inj e; have := h.ne; omega
    · have := (h.wts.lt gw rfl).2; omega
theorem OrdM.cellW (h : OrdM w0 w gw gp go co N O W P) {i : Nat} (hi : i < N) : w.cell? ⟨gw, i, none⟩ = some (.int .i64 (W i : Int)) := (h.wts.cellAt i (by omega)).trans (rowV_get _ _ _ hi)
end
end Go.Proofs.Ytcolcgkfppjflaa
