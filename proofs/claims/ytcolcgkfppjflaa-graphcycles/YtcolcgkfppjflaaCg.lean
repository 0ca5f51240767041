/-
  Cycles and orders: mathematics; found.
-/
import Derived.Test.YtcolcgkfppjflaaCf
import Derived.Test.YtcolcgkfppjflaaK
namespace Go.Proofs.Ytcolcgkfppjflaa
open Go.ChangeShapes Go.WideShapes Go.ChangeAt Go.RowKit
set_option linter.unusedVariables false

theorem Gr.same {A : Nat → Nat → Prop} {N st l : Nat} {C D : List Nat} (h : Gr A N st l C) (k : Gr A N st l D) (hl : C.length = D.length) : C = D := by
  have hi : ∀ i, i < C.length → C.getD i 0 = D.getD i 0 := by
    intro i
    induction i with
    | zero => intro _; rw [h.2.2.1, k.2.2.1]
    | succ i ih =>
      intro hi
      have e := ih (by omega)
      have h1 := h.2.2.2 i hi
      have k1 := k.2.2.2 i (by omega)
      rw [← e] at k1
      exact Nat.le_antisymm (h1.2.2.2 _ k1.2.1 k1.1 k1.2.2.1) (k1.2.2.2 _ h1.2.1 h1.1 h1.2.2.1)
  apply List.ext_getElem hl
  intro i h1 h2
  have := hi i h1
  rw [List.getD_eq_getElem?_getD, List.getD_eq_getElem?_getD, List.getElem?_eq_getElem h1, List.getElem?_eq_getElem h2] at this
  exact this
theorem CyR.one {A : Nat → Nat → Prop} {N : Nat} {C D : List Nat} (h : CyR A N C) (k : CyR A N D) : C = D := by
  rcases h with ⟨rfl, h⟩ | ⟨s, h1, h2, h3, h4, h5, h6⟩
  · rcases k with ⟨rfl, _⟩ | ⟨t, k1, k2, k3, k4, k5, k6⟩
    · rfl
    · exact absurd k3 (h t _ k1)
  · rcases k with ⟨rfl, k⟩ | ⟨t, k1, k2, k3, k4, k5, k6⟩
    · exact absurd h3 (k s _ h1)
    · have hl : C.length = D.length := by
        rcases Nat.lt_trichotomy C.length D.length with e | e | e
        · exact absurd h3 (k4 s _ h1 e)
        · exact e
        · exact absurd k3 (h4 t _ k1 e)
      rw [hl] at h3 h5 h6
      have hst : s = t := by
        rcases Nat.lt_trichotomy s t with e | e | e
        · exact absurd h3 (k5 s e)
        · exact e
        · exact absurd k3 (h5 t e)
      subst hst
      exact h6.same k6 hl
theorem Bk.mono {A B : Nat → Nat → Prop} {N st x d : Nat} (h : ∀ i j, i < N → j < N → A i j → B i j) (hb : Bk A N st x d) : Bk B N st x d := by
  induction hb with
  | zero => exact .zero
  | step hx hy ha _ ih => exact .step hx hy (h _ _ hx hy ha) ih
theorem Cl.mono {A B : Nat → Nat → Prop} {N st l : Nat} (h : ∀ i j, i < N → j < N → A i j → B i j) (hst : st < N) (hc : Cl A N st l) : Cl B N st l := by
  obtain ⟨y, d, e, hy, ha, hb⟩ := hc
  exact ⟨y, d, e, hy, h _ _ hst hy ha, hb.mono h⟩
theorem Ds.congr {A B : Nat → Nat → Prop} {N st x d : Nat} (h : ∀ i j, i < N → j < N → (A i j ↔ B i j)) (hd : Ds A N st x d) : Ds B N st x d :=
  ⟨hd.1.mono (fun i j hi hj => (h i j hi hj).1), fun d' hd' hb => hd.2 d' hd' (hb.mono (fun i j hi hj => (h i j hi hj).2))⟩
theorem Gr.in {A : Nat → Nat → Prop} {N st l : Nat} {C : List Nat} (h : Gr A N st l C) (hst : st < N) (i : Nat) (hi : i < C.length) : C.getD i 0 < N := by
  cases i with
  | zero => rw [h.2.2.1]; exact hst
  | succ i => exact (h.2.2.2 i hi).2.1
theorem CyR.congr {A B : Nat → Nat → Prop} {N : Nat} {C : List Nat} (h : ∀ i j, i < N → j < N → (A i j ↔ B i j)) (hc : CyR A N C) : CyR B N C := by
  have h' : ∀ i j, i < N → j < N → (B i j ↔ A i j) := fun i j hi hj => (h i j hi hj).symm
  have m1 : ∀ {s l}, s < N → Cl A N s l → Cl B N s l := fun hs => Cl.mono (fun i j hi hj => (h i j hi hj).1) hs
  have m2 : ∀ {s l}, s < N → Cl B N s l → Cl A N s l := fun hs => Cl.mono (fun i j hi hj => (h i j hi hj).2) hs
  rcases hc with ⟨h1, h2⟩ | ⟨s, h1, h2, h3, h4, h5, h6⟩
  · exact .inl ⟨h1, fun st l hst hcl => h2 st l hst (m2 hst hcl)⟩
  · refine .inr ⟨s, h1, h2, m1 h1 h3, fun t k ht hk hcl => h4 t k ht hk (m2 ht hcl), fun t ht hcl => h5 t ht (m2 (by omega) hcl), h6.1, h6.2.1, h6.2.2.1, fun i hi => ?_⟩
    have h7 := h6.2.2.2 i hi
    have hin := h6.in h1 i (by omega)
    exact ⟨(h _ _ hin h7.2.1).1 h7.1, h7.2.1, h7.2.2.1.congr h, fun x hx ha hd => h7.2.2.2 x hx ((h _ _ hin hx).2 ha) (hd.congr h')⟩
/-- it is a cycle -/
theorem CyR.cyc {A : Nat → Nat → Prop} {N : Nat} {C : List Nat} (h : CyR A N C) (h0 : 0 < C.length) : Cyc N C.length A (fun i => ((C.getD i 0 : Nat) : Int)) := by
  rcases h with ⟨rfl, _⟩ | ⟨st, h1, h2, h3, h4, h5, h6⟩
  · simp at h0
  have hds : ∀ i, i < C.length → Ds A N st (C.getD i 0) (if i = 0 then 0 else C.length - i) := fun i hi => by
    by_cases hi0 : i = 0
    · rw [if_pos hi0, hi0, h6.2.2.1]; exact ⟨.zero, fun d hd => absurd hd (Nat.not_lt_zero _)⟩
    · rw [if_neg hi0]
      have := (h6.2.2.2 (i - 1) (by omega)).2.2.1
      rw [show i - 1 + 1 = i by omega] at this
      exact this
  refine ⟨h0, fun i hi => ⟨by show (0 : Int) ≤ ((C.getD i 0 : Nat) : Int); omega, by have := h6.in h1 i hi; show ((C.getD i 0 : Nat) : Int) < (N : Int); omega⟩, fun i j hij hj e => ?_, fun i hi => ?_⟩
  · have e' : C.getD i 0 = C.getD j 0 := by have : ((C.getD i 0 : Nat) : Int) = ((C.getD j 0 : Nat) : Int) := e; omega
    have d1 := hds i (by omega)
    have d2 := hds j hj
    rw [e'] at d1
    have := d1.one d2
    rw [if_neg (show ¬ j = 0 by omega)] at this
    by_cases hi0 : i = 0
    · rw [if_pos hi0] at this; omega
    · rw [if_neg hi0] at this; omega
  · show A (((C.getD (if i = 0 then C.length - 1 else i - 1) 0 : Nat) : Int)).toNat (((C.getD i 0 : Nat) : Int)).toNat
    rw [Int.toNat_natCast, Int.toNat_natCast]
    by_cases hi0 : i = 0
    · rw [if_pos hi0, hi0, h6.2.2.1]
      by_cases hl1 : C.length = 1
      · rw [hl1, show 1 - 1 = 0 from rfl, h6.2.2.1]
        rw [hl1] at h3
        obtain ⟨y, d, e, hy, ha, hb⟩ := h3
        have : d = 0 := by omega
        subst this
        cases hb
        exact ha
      · have d1 := hds (C.length - 1) (by omega)
        rw [if_neg (by omega), show C.length - (C.length - 1) = 0 + 1 by omega] at d1
        obtain ⟨y, _, _, ha, hd⟩ := d1.step
        rw [hd.zero] at ha
        exact ha
    · rw [if_neg hi0]
      have := (h6.2.2.2 (i - 1) (by omega)).1
      rw [show i - 1 + 1 = i by omega] at this
      exact this
theorem sub_len : ∀ (l m : List Nat), l.Nodup → (∀ x ∈ l, x ∈ m) → l.length ≤ m.length := by
  intro l
  induction l with
  | nil => intro m _ _; exact Nat.zero_le _
  | cons a l ih =>
    intro m hn hs
    have hn' := List.nodup_cons.1 hn
    have ham := hs a (List.mem_cons_self ..)
    have h1 := ih (m.erase a) hn'.2 (fun x hx => (List.mem_erase_of_ne (fun e => hn'.1 (by rw [← e]; exact hx))).2 (hs x (List.mem_cons_of_mem _ hx)))
    rw [List.length_erase_of_mem ham] at h1
    have := List.length_pos_of_mem ham
    rw [List.length_cons]
    omega
/-- who is left with an arc to each lies on a way that comes round -/
theorem stuck_round {A : Nat → Nat → Prop} {N : Nat} {O : List Nat} (hl : O.length < N) (hs : ∀ v, ¬ Free A N O v) : ∃ st l, st < N ∧ Cl A N st l := by
  have hx0 : ∃ x, x < N ∧ x ∉ O := by
    rcases Classical.em (∃ x, x < N ∧ x ∉ O) with h | h
    · exact h
    · have := sub_len (List.range N) O List.nodup_range (fun x hx => by
        rcases Classical.em (x ∈ O) with h1 | h1
        · exact h1
        · exact absurd ⟨x, List.mem_range.1 hx, h1⟩ h)
      rw [List.length_range] at this
      omega
  obtain ⟨x0, hx0, hx1⟩ := hx0
  have hex : ∀ x, ∃ u, x < N ∧ x ∉ O → u < N ∧ u ∉ O ∧ A u x := fun x => by
    by_cases h : x < N ∧ x ∉ O
    · rcases Classical.em (∃ u, u < N ∧ u ∉ O ∧ A u x) with h1 | h1
      · obtain ⟨u, hu⟩ := h1
        exact ⟨u, fun _ => hu⟩
      · exact absurd ⟨h.1, h.2, fun u hu ha => by
          rcases Classical.em (u ∈ O) with h2 | h2
          · exact h2
          · exact absurd ⟨u, hu, h2, ha⟩ h1⟩ (hs x)
    · exact ⟨0, fun h1 => absurd h1 h⟩
  obtain ⟨f, hf⟩ := Classical.skolem.mp hex
  obtain ⟨q, hq0, hqs⟩ : ∃ q : Nat → Nat, q 0 = x0 ∧ ∀ t, q (t + 1) = f (q t) := ⟨fun t => Nat.rec x0 (fun _ y => f y) t, rfl, fun _ => rfl⟩
  have hq : ∀ t, q t < N ∧ q t ∉ O := by
    intro t
    induction t with
    | zero => rw [hq0]; exact ⟨hx0, hx1⟩
    | succ t ih => rw [hqs]; exact ⟨(hf (q t) ih).1, (hf (q t) ih).2.1⟩
  have hqa : ∀ t, A (q (t + 1)) (q t) := fun t => by rw [hqs]; exact (hf (q t) (hq t)).2.2
  have hrep : ∃ i j, i < j ∧ q i = q j := by
    rcases Classical.em (∃ i j, i < j ∧ q i = q j) with h | h
    · exact h
    · have := pigeon N ((List.range (N + 1)).map q) (by
        rw [List.nodup_iff_pairwise_ne, List.pairwise_map]
        exact List.Pairwise.imp (fun {a b} hab e => h ⟨a, b, hab, e⟩) List.pairwise_lt_range) (by
        intro x hx
        simp at hx
        obtain ⟨i, _, rfl⟩ := hx
        exact (hq i).1)
      rw [List.length_map, List.length_range] at this
      omega
  obtain ⟨i, j, hij, e⟩ := hrep
  have hbk : ∀ t, Bk A N (q i) (q (i + t)) t := by
    intro t
    induction t with
    | zero => exact .zero
    | succ t ih => exact .step (hq _).1 (hq _).1 (hqa (i + t)) ih
  refine ⟨q i, j - i, (hq i).1, q (j - 1), j - 1 - i, by omega, (hq (j - 1)).1, ?_, ?_⟩
  · have := hqa (j - 1)
    rw [show j - 1 + 1 = j by omega, ← e] at this
    exact this
  · have := hbk (j - 1 - i)
    rw [show i + (j - 1 - i) = j - 1 by omega] at this
    exact this
/-- there is an order, or a cycle, and never both -/
theorem either {A : Nat → Nat → Prop} {N : Nat} {O C : List Nat} {b : Bool} (ho : OrdR A N O b) (hc : CyR A N C) : b = false ↔ 0 < C.length := by
  rcases ho with ⟨rfl, h1, h2⟩ | ⟨rfl, _, P, h1, h2, h3⟩
  · constructor
    · intro h; cases h
    · intro h0
      rcases hc with ⟨rfl, _⟩ | ⟨st, k1, _, k3, _⟩
      · simp at h0
      · exact absurd k3 (no_round h1 h2 st _ k1)
  · constructor
    · intro _
      rcases hc with ⟨rfl, k⟩ | ⟨st, k1, k2, _⟩
      · obtain ⟨st, l, hst, hcl⟩ := stuck_round h2 h3
        exact absurd hcl (k st l hst)
      · exact k2
    · intro _; rfl
/-- the pairs of found -/
def pF (i : Nat) : Int × Int := if i = 0 then (0, 1) else if i = 1 then (1, 2) else if i = 2 then (2, 0) else (2, 1)
theorem lit_pF (w : World) : PsS (w.alloc (.cells #[.int .i64 0, .int .i64 1, .int .i64 1, .int .i64 2, .int .i64 2, .int .i64 0, .int .i64 2, .int .i64 1] 27)) (some ⟨w.heap.size, 0, none⟩) 4 pF := by
  intro _
  refine ⟨w.heap.size, 0, rfl, by simp, fun i hi => ?_⟩
  rw [cell_of_row _ _ _ _ _ _ (heap_alloc_new w _), cell_of_row _ _ _ _ _ _ (heap_alloc_new w _)]
  rcases (show i = 0 ∨ i = 1 ∨ i = 2 ∨ i = 3 by omega) with rfl | rfl | rfl | rfl <;> exact ⟨rfl, rfl⟩
theorem adj_pF (i j : Nat) : adj pF 4 i j ↔ (i = 0 ∧ j = 1) ∨ (i = 1 ∧ j = 2) ∨ (i = 2 ∧ j = 0) ∨ (i = 2 ∧ j = 1) := by
  constructor
  · rintro ⟨k, hk, e⟩
    rcases (show k = 0 ∨ k = 1 ∨ k = 2 ∨ k = 3 by omega) with rfl | rfl | rfl | rfl <;> (simp [pF] at e; omega)
  · rintro (⟨rfl, rfl⟩ | ⟨rfl, rfl⟩ | ⟨rfl, rfl⟩ | ⟨rfl, rfl⟩)
    · exact ⟨0, by omega, rfl⟩
    · exact ⟨1, by omega, rfl⟩
    · exact ⟨2, by omega, rfl⟩
    · exact ⟨3, by omega, rfl⟩
theorem bk_zero {A : Nat → Nat → Prop} {N st x : Nat} (h : Bk A N st x 0) : x = st := by cases h; rfl
theorem bk_one {A : Nat → Nat → Prop} {N st x : Nat} (h : Bk A N st x 1) : A x st := by
  cases h with
  | step _ _ ha hb => rw [bk_zero hb] at ha; exact ha
theorem cyc_pF : CyR (adj pF 4) 3 [1, 2] := by
  have hb21 : Bk (adj pF 4) 3 1 2 1 := .step (by omega) (by omega) ((adj_pF _ _).2 (by simp)) .zero
  refine .inr ⟨1, by omega, by simp, ⟨2, 1, rfl, by omega, (adj_pF _ _).2 (by simp), hb21⟩, fun s k hs hk => ?_, fun s hs => ?_, by simp, by simp, rfl, fun i hi => ?_⟩
  · rintro ⟨y, d, rfl, hy, ha, hb⟩
    have : d = 0 := by simp at hk; omega
    subst this
    rw [bk_zero hb, adj_pF] at ha
    omega
  · obtain rfl : s = 0 := by omega
    rintro ⟨y, d, e, hy, ha, hb⟩
    have : d = 1 := by simp at e; omega
    subst this
    have h1 := bk_one hb
    rw [adj_pF] at ha h1
    omega
  · have hi2 : i + 1 < 2 := hi
    obtain rfl : i = 0 := by omega
    refine ⟨(adj_pF _ _).2 (by simp), by simp, ⟨hb21, fun d' hd' hb => ?_⟩, fun x hx ha hd => ?_⟩
    · have hd2 : d' = 0 := by simp at hd'; omega
      subst hd2
      have := bk_zero hb
      simp at this
    · rw [adj_pF] at ha
      simp at ha ⊢
      omega
theorem lit_12 (w : World) : IsS (w.alloc (.cells #[.int .i64 1, .int .i64 2] 3)) (some ⟨w.heap.size, 0, none⟩) 2 (fun i => (([1, 2] : List Nat).getD i 0 : Nat)) := by
  intro _
  refine ⟨w.heap.size, 0, rfl, by simp, fun i hi => ?_⟩
  rw [cell_of_row _ _ _ _ _ _ (heap_alloc_new w _)]
  rcases (show i = 0 ∨ i = 1 by omega) with rfl | rfl <;> rfl

set_option maxRecDepth 100000 in
set_option maxHeartbeats 4000000 in
theorem found_any (w : World) : Calls Try.prog 15 #[] w (fun e w' => e = .returned (.bool true) ∧ Below w.heap.size w w') := by
  have HB1 : Hid (Below w.heap.size w (w.alloc (.cells #[.int .i64 0, .int .i64 1, .int .i64 1, .int .i64 2, .int .i64 2, .int .i64 0, .int .i64 2, .int .i64 1] 27))) := Lib.hid ((Below.refl _ _).alloc (Nat.le_refl _) _)
  have HA1 := Lib.hid (arcs_any (some ⟨w.heap.size, 0, none⟩) 4 4 pF _ (by omega) (lit_pF w))
  go_enter Try.func15, Try.ntmps15
  go_wp2_with fail
  refine HA1.out.mono ?_
  rintro e w2 ⟨g, cp, rfl, ho, hb⟩
  have HB2 := Lib.hid (HB1.out.trans (hb.mono HB1.out.size))
  have HI1 := Lib.hid (Cycle_any 3 3 (some ⟨g, 0, none⟩) 4 cp pF w2 (by decide) (by omega) (ArcP.pairs ho))
  clear ho hb HA1 HB1
  go_wp2_with fail
  refine HI1.out.mono ?_
  rintro e w3 ⟨C, sp, cp3, rfl, hcy, _, hls, hb⟩
  obtain rfl := hcy.one cyc_pF
  have HB3 := Lib.hid (HB2.out.trans (hb.mono HB2.out.size))
  have hal : Below w3.heap.size w3 (w3.alloc (.cells #[.int .i64 1, .int .i64 2] 3)) := (Below.refl _ _).alloc (Nat.le_refl _) _
  have HB4 := Lib.hid (HB3.out.trans (hal.mono HB3.out.size))
  have HSM := Lib.hid (same_any sp 2 cp3 _ (some ⟨w3.heap.size, 0, none⟩) 2 2 _ true _ ((LsS.ints hls).below hal) (lit_12 w3) (by omega) (by omega) ⟨fun _ => ⟨rfl, fun i _ => rfl⟩, fun _ => rfl⟩)
  clear hcy hls hb hal HI1 HB2 HB3
  go_wp2_with fail
  refine HSM.out.mono ?_
  rintro e w5 ⟨rfl, hb⟩
  have HB5 := Lib.hid (HB4.out.trans (hb.mono HB4.out.size))
  clear hb
  go_wp2
  go_ret
  exact ⟨rfl, HB5.out⟩
end Go.Proofs.Ytcolcgkfppjflaa
