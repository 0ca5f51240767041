/-
  Pairs appended; GraphMore's walk.
-/
import Derived.Test.YtcolcgkfppjflaaCi
import Derived.Laws.AppendOwnNone
namespace Go.Proofs.Ytcolcgkfppjflaa
open Go.ChangeShapes Go.WideShapes Go.ChangeAt Go.RowKit
set_option linter.unusedVariables false

def catP (F d : Nat → Int × Int) (n : Nat) (i : Nat) : Int × Int := if i < n then F i else d (i - n)
theorem rowA_congr (F G : Nat → Int × Int) (n : Nat) (h : ∀ i, i < n → F i = G i) : rowA F n = rowA G n := by
  induction n with
  | zero => rfl
  | succ n ih => unfold rowA; rw [ih (fun i hi => h i (by omega)), h n (by omega)]
theorem rowA_cat (F d : Nat → Int × Int) (n m : Nat) : rowA F n ++ rowA d m = rowA (catP F d n) (n + m) := by
  induction m with
  | zero => rw [Nat.add_zero, show rowA d 0 = [] from rfl, List.append_nil]; exact rowA_congr _ _ _ (fun i hi => by unfold catP; rw [if_pos hi])
  | succ m ih =>
    rw [show n + (m + 1) = (n + m) + 1 by omega]
    have e : catP F d n (n + m) = d m := by unfold catP; rw [if_neg (by omega), Nat.add_sub_cancel_left]
    show rowA F n ++ (rowA d m ++ [.int .i64 (d m).1, .int .i64 (d m).2]) = rowA (catP F d n) (n + m) ++ [.int .i64 (catP F d n (n + m)).1, .int .i64 (catP F d n (n + m)).2]
    rw [e, ← List.append_assoc, ih]
theorem adj_cat (F d : Nat → Int × Int) (n m i j : Nat) : adj (catP F d n) (n + m) i j ↔ adj F n i j ∨ adj d m i j := by
  constructor
  · rintro ⟨k, hk, e⟩
    unfold catP at e
    by_cases h : k < n
    · rw [if_pos h] at e; exact .inl ⟨k, h, e⟩
    · rw [if_neg h] at e; exact .inr ⟨k - n, by omega, e⟩
  · rintro (⟨k, hk, e⟩ | ⟨k, hk, e⟩)
    · exact ⟨k, by omega, by unfold catP; rw [if_pos hk]; exact e⟩
    · exact ⟨n + k, by omega, by unfold catP; rw [if_neg (by omega), Nat.add_sub_cancel_left]; exact e⟩
theorem own_zero {w : World} {base n : Nat} {v : Value} {F p : Nat → Int × Int} (h : w.ownsRow base 27 2 v (0 + n) (rowA (catP F p 0) (0 + n))) : w.ownsRow base 27 2 v n (rowA p n) := by
  rw [Nat.zero_add, rowA_congr (catP F p 0) p n (fun i _ => by unfold catP; rw [if_neg (Nat.not_lt_zero _), Nat.sub_zero])] at h
  exact h
theorem own_form {w : World} {base e size n : Nat} {v : Value} {xs : List Value} (h : w.ownsRow base e size v n xs) : ∃ sp cp, v = .slice sp n cp ∧ (sp = none → n = 0 ∧ cp = 0) := by
  rcases h.2 with ⟨e, rfl⟩ | ⟨g, cp, cur, e, _⟩
  · exact ⟨none, 0, e, fun _ => ⟨rfl, rfl⟩⟩
  · exact ⟨_, _, e, fun h => by cases h⟩
theorem own_ps {p : Nat → Int × Int} {n base cp : Nat} {sp : Option Addr} {w' : World} (h : w'.ownsRow base 27 2 (.slice sp n cp) n (rowA p n)) : PsS w' sp n p := by
  rcases h.2 with ⟨e, h0⟩ | ⟨g, cp', cur, e, _⟩
  · intro hn; omega
  · injection e with e1 _ e3
    subst e1
    exact own_pairs h
theorem rowA_one (d : Nat → Int × Int) (m : Nat) : ∀ u ∈ rowA d m, u.oneCell' = true := by
  induction m with
  | zero => intro u hu; cases hu
  | succ m ih =>
    intro u hu
    unfold rowA at hu
    rcases List.mem_append.1 hu with h | h
    · exact ih u h
    · simp at h; rcases h with rfl | rfl <;> rfl
section
variable {w : World}
theorem wp_append_ps {o : Oper} {a : Act} {K : Act → World → Prop} {Q : Exit → Act → World → Prop} (s x : Operand)
    (ho : o.op = .call { callee := .builtin .append, args := #[s, x], argTypes := #[22, 22] })
    (base : Nat) (v : Value) (n : Nat) (F : Nat → Int × Int) (hs : a.eval s = v) (hown : w.ownsRow base 27 2 v n (rowA F n))
    (sp : Option Addr) (m c : Nat) (d : Nat → Int × Int) (hx : a.eval x = .slice sp m c) (hsrc : PsS w sp m d) (hsp : sp = none → m = 0 ∧ c = 0)
    (h63 : n + m ≤ 10000) (hbase : base ≤ w.heap.size)
    (h : ∀ v' w', w'.ownsRow base 27 2 v' (n + m) (rowA (catP F d n) (n + m)) → w.grownBy w' v.ownBlock → K (a.put o.dst v') w') : o.wp Try.prog a w K Q := by
  obtain ⟨i0, hi, hz0, hz1, hz2⟩ := info_parts info27
  rcases sp with _ | ad
  · obtain ⟨rfl, rfl⟩ := hsp rfl
    have hrun := run_append_owned_none (P := Try.prog) (w := w) base 22 o.type 27 i0 2 Try.underlying22 hi v n (rowA F n) hown
    unfold Oper.wp
    simp [execOp, ho, resolve, invoke, builtin, hs, hx, hrun, Result.andThen]
    refine h v w ?_ ⟨rfl, rfl, rfl, Nat.le_refl _, fun _ _ _ => rfl⟩
    rw [Nat.add_zero, ← rowA_congr F (catP F d n) n (fun j hj => by unfold catP; rw [if_pos hj])]
    exact hown
  · refine wp_append_own w s x 22 ho base 27 i0 (.agg #[.int .i64 0, .int .i64 0]) 2 16 Try.underlying22 hi hz0 hz1 hz2 rfl (by decide) v n (rowA F n) hs hown ad m c (rowA d m) hx (rowA_length d m) ?_ (rowA_one _ _) (by unfold maxLen; omega) (by omega) hbase ?_
    · intro j u hj
      have hjn : j < m * 2 := by
        rcases Nat.lt_or_ge j (m * 2) with h' | h'
        · exact h'
        · rw [List.getElem?_eq_none (by rw [rowA_length]; exact h')] at hj; cases hj
      obtain ⟨b, off, e, _, hcc⟩ := hsrc (by omega)
      injection e with e
      subst e
      rw [Go.WideShapes.add_plain]
      obtain ⟨h0, h1⟩ := rowA_get d m (j / 2) (by omega)
      obtain ⟨c0, c1⟩ := hcc (j / 2) (by omega)
      rcases Nat.mod_two_eq_zero_or_one j with h2 | h2
      · have e2 : j / 2 * 2 = j := by omega
        rw [e2] at h0 c0
        rw [h0] at hj
        rw [c0, hj]
      · have e2 : j / 2 * 2 + 1 = j := by omega
        rw [e2] at h1
        rw [Nat.add_assoc, e2] at c1
        rw [h1] at hj
        rw [c1, hj]
    · intro v' w' h2 h3 _
      rw [rowA_cat] at h2
      exact h v' w' h2 h3
theorem wpList_append_ps {ops : Array Oper} {rest : List Oper} {o : Oper} {a : Act} {Q : Exit → Act → World → Prop} (hgd : o.guard = none) (s x : Operand)
    (ho : o.op = .call { callee := .builtin .append, args := #[s, x], argTypes := #[22, 22] })
    (base : Nat) (v : Value) (n : Nat) (F : Nat → Int × Int) (hs : a.eval s = v) (hown : w.ownsRow base 27 2 v n (rowA F n))
    (sp : Option Addr) (m c : Nat) (d : Nat → Int × Int) (hx : a.eval x = .slice sp m c) (hsrc : PsS w sp m d) (hsp : sp = none → m = 0 ∧ c = 0)
    (h63 : n + m ≤ 10000) (hbase : base ≤ w.heap.size)
    (h : ∀ v' w', w'.ownsRow base 27 2 v' (n + m) (rowA (catP F d n) (n + m)) → w.grownBy w' v.ownBlock → wpList Try.prog ops Q rest (a.put o.dst v') w') : wpList Try.prog ops Q (o :: rest) a w :=
  wpList_plain hgd fun _ hK => wp_append_ps s x ho base v n F hs hown sp m c d hx hsrc hsp h63 hbase fun v' w' h2 h3 => hK _ _ (h v' w' h2 h3)
end
section
variable {H : Type} {enc : TypeId × Value → H} {w : World} {base : Nat} {spare : Nat → Bool} {held : Bool}
open Go.Deep in
theorem pairs_nil {fuel : Nat} {a : Option Addr} {len cap : Nat} {x : DataW H × List MemPlace} (h : DataW.trod enc Try.prog w base spare held fuel 22 [.slice a len cap] = some x) : a = none → len = 0 ∧ cap = 0 := by
  rcases open_slice Try.underlying22 h with ⟨e, _⟩ | ⟨ad, len', cap', m, n, D, Pl, e, _⟩
  · simp at e; obtain ⟨rfl, rfl, rfl⟩ := e
    exact fun _ => ⟨rfl, rfl⟩
  · simp at e; obtain ⟨rfl, rfl, rfl⟩ := e
    intro h; cases h
end
/-- the three pairs that don't count -/
def pX (i : Nat) : Int × Int := if i = 0 then (-1, 0) else if i = 1 then (0, 400) else (1099511627776, 0)
theorem lit_pX (w : World) : PsS (w.alloc (.cells #[.int .i64 (-1), .int .i64 0, .int .i64 0, .int .i64 400, .int .i64 1099511627776, .int .i64 0] 27)) (some ⟨w.heap.size, 0, none⟩) 3 pX := by
  intro _
  refine ⟨w.heap.size, 0, rfl, by simp, fun i hi => ?_⟩
  rw [cell_of_row _ _ _ _ _ _ (heap_alloc_new w _), cell_of_row _ _ _ _ _ _ (heap_alloc_new w _)]
  rcases (show i = 0 ∨ i = 1 ∨ i = 2 by omega) with rfl | rfl | rfl <;> exact ⟨rfl, rfl⟩
theorem adj_pX (i j : Nat) (hi : i < 400) (hj : j < 400) : ¬ adj pX 3 i j := by
  rintro ⟨k, hk, e⟩
  rcases (show k = 0 ∨ k = 1 ∨ k = 2 by omega) with rfl | rfl | rfl <;> (simp [pX] at e <;> omega)
/-- more arcs never take a cycle away -/
theorem CyR.more {A B : Nat → Nat → Prop} {N : Nat} {C D : List Nat} (h : ∀ i j, A i j → B i j) (hc : CyR A N C) (hd : CyR B N D) (h0 : 0 < C.length) : 0 < D.length ∧ D.length ≤ C.length := by
  rcases hc with ⟨rfl, _⟩ | ⟨s, h1, h2, h3, _⟩
  · simp at h0
  have hb := h3.mono (B := B) (fun i j _ _ => h i j) h1
  rcases hd with ⟨rfl, k⟩ | ⟨t, k1, k2, k3, k4, _⟩
  · exact absurd hb (k s _ h1)
  · refine ⟨k2, ?_⟩
    rcases Nat.lt_or_ge C.length D.length with e | e
    · exact absurd hb (k4 s _ h1 e)
    · exact e

set_option maxRecDepth 100000 in
set_option maxHeartbeats 4000000 in
theorem more_law (z : Int) (a : Option Addr) (n cap : Nat) (p : Nat → Int × Int) (a' : Option Addr) (n' cap' : Nat) (p' : Nat → Int × Int) (w : World) (hs : PsS w a n p) (hs' : PsS w a' n' p') (hnl : a = none → n = 0 ∧ cap = 0) (hnl' : a' = none → n' = 0 ∧ cap' = 0) :
    Calls Try.prog 8 #[.int .i64 z, .slice a n cap, .slice a' n' cap'] w (fun e w' => e = .returned (.bool true) ∧ Below w.heap.size w w') := by
  have HS := Lib.hid hs
  have HS' := Lib.hid hs'
  have HNL := Lib.hid hnl
  have HNL' := Lib.hid hnl'
  clear hs hs' hnl hnl'
  have HO := Lib.hid (found_any w)
  go_enter Try.func8, Try.ntmps8
  go_wp2_with fail
  refine HO.out.mono ?_
  rintro e w3 ⟨rfl, hb2⟩
  have HB4 := Lib.hid hb2
  clear hb2 HO
  by_cases hz : 60 < z
  · go_wp2
    go_ret
    exact ⟨rfl, HB4.out⟩
  · have hz' : decide (60 < z) = false := by simp; omega
    by_cases hn : 200 < n
    · have hn' : (200 : Int) < (n : Int) := by omega
      go_wp2
      go_ret
      exact ⟨rfl, HB4.out⟩
    · have hn' : decide ((200 : Int) < (n : Int)) = false := by simp; omega
      by_cases hm : 200 < n'
      · have hm' : (200 : Int) < (n' : Int) := by omega
        go_wp2
        go_ret
        exact ⟨rfl, HB4.out⟩
      · have hm' : decide ((200 : Int) < (n' : Int)) = false := by simp; omega
        obtain ⟨N, hN⟩ : ∃ N : Nat, max z 0 = (N : Int) := ⟨(max z 0).toNat, by omega⟩
        have HNZ : Hid (min (max z 0) 400 = (N : Int)) := Lib.hid (by omega)
        have hN8 : N ≤ 60 := by omega
        have HA2 := Lib.hid (arcs_any a n cap p w3 (by omega) (HS.out.below HB4.out))
        clear hN
        go_wp2_with fail
        refine HA2.out.mono ?_
        rintro e w5 ⟨g5, cp5, rfl, ho, hb⟩
        have HB5 := Lib.hid (HB4.out.trans (hb.mono HB4.out.size))
        have HI2 := Lib.hid (Cycle_any z N (some ⟨g5, 0, none⟩) n cp5 p w5 HNZ.out (by omega) (ArcP.pairs ho))
        clear ho hb HA2 HB4
        go_wp2_with fail
        refine HI2.out.mono ?_
        rintro e w6 ⟨C, spc, cpc, rfl, hcy, hCN, hlc, hb⟩
        have HB6 := Lib.hid (HB5.out.trans (hb.mono HB5.out.size))
        have HCY := Lib.hid hcy
        have HLC := Lib.hid hlc
        clear hb HI2 HB5 hcy hlc
        have hbE : Below w6.heap.size w6 (w6.alloc (.cells #[] 27)) := (Below.refl _ _).alloc (Nat.le_refl _) _
        have HE0 : Hid ((w6.alloc (.cells #[] 27)).ownsRow w6.heap.size 27 2 (.slice (some ⟨w6.heap.size, 0, none⟩) 0 0) 0 (rowA p 0)) := Lib.hid ⟨rfl, .inr ⟨w6.heap.size, 0, #[], rfl, Nat.le_refl _, heap_alloc_new _ _, Nat.le_refl _, Nat.zero_le _, rfl, rfl⟩⟩
        have HBE := Lib.hid hbE
        have HPE := Lib.hid ((HS.out.below HB6.out).below hbE)
        clear hbE
        go_wp2_with (first | (at_builtin; refine wpList_append_ps rfl (.tmp 29) (.tmp 30) rfl w6.heap.size _ 0 p rfl HE0.out a n cap p rfl HPE.out HNL.out (by omega) HBE.out.size ?_; intro v1 x1 ho1 hg1; have hB1 := HBE.out.grown hg1 HBE.out.size (fun k e => by have e2 : w6.heap.size = k := Option.some.inj e; omega); have HX1 := Lib.hid hB1; have ho3 := own_zero ho1; clear ho1; obtain ⟨sp1, cp1, rfl, hf1⟩ := own_form ho3; have HO1 := Lib.hid ho3; have HPX := Lib.hid ((HS'.out.below HB6.out).below hB1); clear ho3 hg1 hB1 hf1) | (at_builtin; refine wpList_append_ps rfl (.tmp 31) (.tmp 32) rfl w6.heap.size _ n p rfl HO1.out a' n' cap' p' rfl HPX.out HNL'.out (by omega) HX1.out.size ?_; intro v2 x2 ho2 hg2; have hB2 := HX1.out.grown hg2 HX1.out.size (fun k e => (HO1.out.lt k e).1); have HX2 := Lib.hid hB2; obtain ⟨sp2, cp2, rfl, hf2⟩ := own_form ho2; have HO2 := Lib.hid (own_ps ho2); have HA3 := Lib.hid (arcs_any sp2 (n + n') cp2 (catP p p' n) x2 (by omega) HO2.out); clear ho2 hg2 hB2 hf2) | fail)
        refine HA3.out.mono ?_
        rintro e x3 ⟨g3, c3, rfl, ho, hb⟩
        have HX3 := Lib.hid (HX2.out.trans (hb.mono HX2.out.size))
        have HI3 := Lib.hid (Cycle_any z N (some ⟨g3, 0, none⟩) (n + n') c3 (catP p p' n) x3 HNZ.out (by omega) (ArcP.pairs ho))
        clear ho hb HA3 HX2 HO2 HX1 HO1 HPX HE0 HBE HPE
        go_wp2_with fail
        refine HI3.out.mono ?_
        rintro e x4 ⟨D, spd, cpd, rfl, hdy, hDN, _, hb⟩
        have HX4 := Lib.hid (HX3.out.trans (hb.mono HX3.out.size))
        have HMO : Hid (0 < C.length → 0 < D.length ∧ D.length ≤ C.length) := Lib.hid fun h0 => HCY.out.more (fun i j h => (adj_cat p p' n n' i j).2 (.inl h)) hdy h0
        clear hdy hb HI3 HX3
        have HL4 := Lib.hid (HLC.out.below HX4.out)
        have HB7 := Lib.hid (HB6.out.trans (HX4.out.mono HB6.out.size))
        clear HLC HB6 HX4
        have hbE : Below x4.heap.size x4 (x4.alloc (.cells #[] 27)) := (Below.refl _ _).alloc (Nat.le_refl _) _
        have HE0 : Hid ((x4.alloc (.cells #[] 27)).ownsRow x4.heap.size 27 2 (.slice (some ⟨x4.heap.size, 0, none⟩) 0 0) 0 (rowA p 0)) := Lib.hid ⟨rfl, .inr ⟨x4.heap.size, 0, #[], rfl, Nat.le_refl _, heap_alloc_new _ _, Nat.le_refl _, Nat.zero_le _, rfl, rfl⟩⟩
        have HBE := Lib.hid hbE
        have HPE := Lib.hid ((HS.out.below HB7.out).below hbE)
        clear hbE
        go_upto_region 8 with (fail)
        go_cut [52] from 38 (fun v wc => v = .bool false ∧ x4 = wc)
        case first =>
          by_cases hC0 : 0 < C.length
          · obtain ⟨hD0, hDC⟩ := HMO.out hC0
            have h1 : (0 : Int) < (C.length : Int) := by omega
            have h2 : ((D.length : Int) == 0) = false := beq_eq_false_iff_ne.2 (by omega)
            have h3 : decide ((C.length : Int) < (D.length : Int)) = false := decide_eq_false (by omega)
            have h4 : ¬ (D.length : Int) = 0 := by omega
            have h5 : ¬ (C.length : Int) < (D.length : Int) := by omega
            generalize C.length = lc at *
            generalize D.length = ld at *
            clear hC0 hD0 hDC
            go_wp2
            go_meet
            exact ⟨rfl, rfl⟩
          · have h1 : decide ((0 : Int) < (C.length : Int)) = false := decide_eq_false (by omega)
            have h2 : ¬ (0 : Int) < (C.length : Int) := by omega
            generalize C.length = lc at *
            clear hC0
            go_wp2
            go_meet
            exact ⟨rfl, rfl⟩
        case rest =>
          obtain ⟨rfl, rfl⟩ := hcut
          clear HMO
          go_wp2_with (first | (at_builtin; refine wpList_append_ps rfl (.tmp 53) (.tmp 54) rfl x4.heap.size _ 0 p rfl HE0.out a n cap p rfl HPE.out HNL.out (by omega) HBE.out.size ?_; intro v1 y1 ho1 hg1; have hB1 := HBE.out.grown hg1 HBE.out.size (fun k e => by have e2 : x4.heap.size = k := Option.some.inj e; omega); have HX1 := Lib.hid hB1; have ho3 := own_zero ho1; clear ho1; obtain ⟨sp1, cp1, rfl, hf1⟩ := own_form ho3; have HO1 := Lib.hid ho3; have HPX := Lib.hid ((HS.out.below HB7.out).below hB1); clear ho3 hg1 hB1 hf1) | (at_builtin; refine wpList_append_ps rfl (.tmp 55) (.tmp 56) rfl x4.heap.size _ n p rfl HO1.out a n cap p rfl HPX.out HNL.out (by omega) HX1.out.size ?_; intro v2 y2 ho2 hg2; have hB2 := HX1.out.grown hg2 HX1.out.size (fun k e => (HO1.out.lt k e).1); obtain ⟨sp2, cp2, rfl, hf2⟩ := own_form ho2; have HO2 := Lib.hid (ho2.alloc (.cells #[.int .i64 (-1), .int .i64 0, .int .i64 0, .int .i64 400, .int .i64 1099511627776, .int .i64 0] 27)); have HX2 := Lib.hid (hB2.alloc hB2.size (.cells #[.int .i64 (-1), .int .i64 0, .int .i64 0, .int .i64 400, .int .i64 1099511627776, .int .i64 0] 27)); clear ho2 hg2 hB2 hf2) | (at_builtin; refine wpList_append_ps rfl (.tmp 58) (.tmp 62) rfl x4.heap.size _ (n + n) (catP p p n) rfl HO2.out (some ⟨y2.heap.size, 0, none⟩) 3 3 pX rfl (lit_pX y2) (fun h => by cases h) (by omega) HX2.out.size ?_; intro v3 y3 ho3 hg3; have hB3 := HX2.out.grown hg3 HX2.out.size (fun k e => (HO2.out.lt k e).1); have HX3 := Lib.hid hB3; obtain ⟨sp3, cp3, rfl, hf3⟩ := own_form ho3; have HA4 := Lib.hid (arcs_any sp3 (n + n + 3) cp3 (catP (catP p p n) pX (n + n)) y3 (by omega) (own_ps ho3)); clear ho3 hg3 hB3 hf3) | fail)
          refine HA4.out.mono ?_
          rintro e y4 ⟨g4, c4, rfl, ho, hb⟩
          have HX4 := Lib.hid (HX3.out.trans (hb.mono HX3.out.size))
          have HI4 := Lib.hid (Cycle_any z N (some ⟨g4, 0, none⟩) (n + n + 3) c4 (catP (catP p p n) pX (n + n)) y4 HNZ.out (by omega) (ArcP.pairs ho))
          clear ho hb HA4
          go_wp2_with fail
          refine HI4.out.mono ?_
          rintro e y5 ⟨E, spe, cpe, rfl, hey, hEN, hle, hb⟩
          have hEC : E = C := CyR.one (hey.congr (B := adj p n) (fun i j hi hj => by
            rw [adj_cat, adj_cat]
            have := adj_pX i j (by omega) (by omega)
            constructor
            · rintro ((h | h) | h)
              · exact h
              · exact h
              · exact absurd h this
            · exact fun h => .inl (.inl h))) HCY.out
          subst hEC
          have HX5 := Lib.hid (HX4.out.trans (hb.mono HX4.out.size))
          have HSM := Lib.hid (same_any spe E.length cpe _ spc E.length cpc _ true y5 (LsS.ints hle) (LsS.ints (HL4.out.below HX5.out)) (by omega) (by omega) ⟨fun _ => ⟨rfl, fun i _ => rfl⟩, fun _ => rfl⟩)
          clear hey hle hb HI4
          go_wp2_with fail
          refine HSM.out.mono ?_
          rintro e y6 ⟨rfl, hb⟩
          have HX6 := Lib.hid (HX5.out.trans (hb.mono HX5.out.size))
          clear hb
          go_wp2
          go_ret
          exact ⟨rfl, HB7.out.trans (HX6.out.mono HB7.out.size)⟩
end Go.Proofs.Ytcolcgkfppjflaa
