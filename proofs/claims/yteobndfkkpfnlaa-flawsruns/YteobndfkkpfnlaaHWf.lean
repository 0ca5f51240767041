/-
  The program's Writes.
-/
import Derived.Test.YteobndfkkpfnlaaHWg
import Derived.Shelf.SlSortCmp.NoneTotal
namespace Go.Proofs.Yteobndfkkpfnlaa
open Go.RowKit Go.Shelf

attribute [local go_sem] Oper.semAt_some

set_option maxRecDepth 100000 in
theorem sort_any (l : List O3) (sp : Option Addr) (cp base : Nat) (w : World) (hl : l.length ≤ 1000) (h : w.ownsRow base 44 3 (.slice sp l.length cp) l.length (rowO (lf l) l.length)) :
    Calls Try.prog 81 #[.slice sp l.length cp, .func (.func 82) #[] #[]] w (SortP l sp cp base w) := by
  rcases Nat.eq_zero_or_pos l.length with h0 | h0
  · obtain rfl : l = [] := List.length_eq_zero_iff.1 h0
    have hcon := AnyF.slices_SortFunc_none Try.sortOps sp cp (.func (.func 82) #[] #[]) w
    change Calls Try.prog 81 _ _ _ at hcon
    refine hcon.mono ?_
    rintro e w' ⟨rfl, rfl⟩
    exact ⟨rfl, [], List.Perm.refl _, fun i j _ hj => absurd hj (Nat.not_lt_zero _), h, ⟨rfl, rfl, rfl, Nat.le_refl _, fun _ _ _ => rfl⟩⟩
  · obtain ⟨g, cp', e, _, _⟩ := h.form h0
    injection e with e1 _ _
    subst e1
    exact sort_some l g cp base w hl h

/-- between two rounds -/
structure WI (w : World) (o : Nat → O3) (sp : Option Addr) (len cap : Nat) (pre : List (Pl len)) (W : World) : Prop where
  box : ∃ v, Boxed W (w.heap.size + 1) 45 v ∧ W.ownsRow w.heap.size 44 3 v (colS o pre).1.length (rowO (lf (colS o pre).1) (colS o pre).1.length)
  lbox : Boxed W (w.heap.size + 1 + 1 + 1) 120 (.map (some (w.heap.size + 1 + 1)))
  sbox : Boxed W (w.heap.size + 1 + 1 + 1 + 1) 45 (.slice sp len cap)
  mp : MapS W (w.heap.size + 1 + 1) pre.length (colS o pre).2
  bel : Below w.heap.size w W

set_option maxRecDepth 100000 in
theorem WI.own (w : World) (o : Nat → O3) (sp : Option Addr) (len cap B : Nat) (hB : w.heap.size + 5 ≤ B) : OwnFrom B (WI w o sp len cap) := by
  intro pre W W' row h hg hr
  have ne : ∀ b, b < B → some b ≠ row := fun b hb e => by have := (hr b e.symm).1; omega
  obtain ⟨v, hv, hrow⟩ := h.box
  refine ⟨⟨v, hv.kept hg (ne _ (by omega)), own_keep hrow fun g hg' => ?_⟩, h.lbox.kept hg (ne _ (by omega)), h.sbox.kept hg (ne _ (by omega)), h.mp.kept (hg.block _ h.mp.lt (ne _ (by omega))), h.bel.grown hg h.bel.size (fun k e => by have := (hr k e).1; omega)⟩
  obtain ⟨cur, e⟩ := own_cells hrow hg'
  refine hg.block g (hrow.lt g hg').2 (fun e' => ?_)
  obtain ⟨_, ob, h1, h2⟩ := hr g e'.symm
  rw [e] at h1
  injection h1 with h1
  rw [← h1] at h2
  cases h2

/-- the box of a round's operation -/
def Ax (B : Nat) (w : World) (c st : Int) (sp : Option Addr) (len cap : Nat) (o : Nat → O3) (x : Pl len) (a' : Act) (W : World) : Prop :=
  ∃ Bx, B ≤ Bx ∧ W.heap[Bx]? = some (.cells #[.int .i64 (o x.1).k, .int .i64 (o x.1).key, .int .i64 (o x.1).v] 44 (0, 0)) ∧
    a' = { tmps := #[.agg #[.int .i64 c, .int .i64 st, .slice sp len cap], .pointer (some ⟨w.heap.size, 0, none⟩), .slice none 0 0, .pointer (some ⟨w.heap.size + 1, 0, none⟩), .pointer (some ⟨w.heap.size + 1 + 1 + 1, 0, none⟩), .int .i64 (x.1 : Int), .pointer (some ⟨Bx, 0, none⟩), undef, undef, .map (some (w.heap.size + 1 + 1)), .pointer (some ⟨w.heap.size, 2, none⟩), .slice sp len cap, .func (.func 90) #[] #[.pointer (some ⟨w.heap.size + 1 + 1 + 1 + 1, 0, none⟩)], .int .i64 (x.1 : Int), .agg #[.int .i64 (o x.1).k, .int .i64 (o x.1).key, .int .i64 (o x.1).v], undef, undef, undef, undef, undef, undef, undef, undef, undef, undef, undef, undef, undef, undef, undef, undef, undef, undef, undef, undef, undef, undef], defers := [] }

set_option maxRecDepth 100000 in
theorem Ax.own (B B' : Nat) (w : World) (c st : Int) (sp : Option Addr) (len cap : Nat) (o : Nat → O3) (x : Pl len) (a' : Act) : OwnFrom B' (fun (_ : Unit) W => Ax B w c st sp len cap o x a' W) := by
  intro _ W W' row ⟨Bx, h1, h2, h3⟩ hg hr
  refine ⟨Bx, h1, (hg.block Bx (Array.getElem?_eq_some_iff.1 h2).1 (fun e => ?_)).trans h2, h3⟩
  obtain ⟨_, ob, e1, e2⟩ := hr Bx e.symm
  rw [h2] at e1
  injection e1 with e1
  rw [← e1] at e2
  cases e2

set_option maxRecDepth 100000 in
set_option maxHeartbeats 4000000 in
theorem hwrites_any (c st : Int) (sp : Option Addr) (len cap : Nat) (o : Nat → O3) (w : World) (hlen : len ≤ 1000) (hk : ∀ i, i < len → 0 ≤ (o i).key ∧ (o i).key ≤ 15) (hs : OpS w sp len o) :
    Calls Try.prog 67 #[.agg #[.int .i64 c, .int .i64 st, .slice sp len cap]] w (OpsP (wrl o len 16) w) := by
  refine (callsIn_wide (n := 4)).1 ?_
  have HS := Lib.hid hs
  have HK := Lib.hid hk
  clear hs hk
  have hmm := @run_makeMap Try.prog
  obtain ⟨i8, hi8, hx0, hx1, hx2⟩ := info_parts info38
  refine callsIn_of_wp_marks Try.func67 rfl trivial ?_ rfl
  simp only [Try.ntmps67, List.size_toArray, List.length_cons, List.length_nil, Nat.reduceAdd, Nat.reduceSub, Array.replicate_succ, Array.replicate_zero, List.push_toArray, List.append_toArray, List.nil_append, List.cons_append]
  gi_wp2_with (refine ⟨trivial, ?_⟩; gi_at_call 80; refine (bw_in Fence.wide 3 trivial rfl _ _ _ _).mono ?_; rintro e w' ⟨rfl, rfl⟩)
  obtain ⟨W0, hW0⟩ : ∃ W0, ((((w.alloc (.cells #[.int .i64 c, .int .i64 st, .slice sp len cap] 47)).alloc (.cells #[.slice none 0 0] 45)).alloc (.map #[] 0)).alloc (.cells #[.map (some (w.heap.size + 1 + 1))] 120)).alloc (.cells #[.slice sp len cap] 45) = W0 := ⟨_, rfl⟩
  have hsz : W0.heap.size = w.heap.size + 5 := by rw [← hW0]; simp
  have hB0 : Below w.heap.size w W0 := by
    rw [← hW0]
    exact (((((Below.refl _ w).alloc (Nat.le_refl _) _).alloc (by simp) _).alloc (by simp; omega) _).alloc (by simp; omega) _).alloc (by simp; omega) _
  have b1 : Boxed W0 (w.heap.size + 1) 45 (.slice none 0 0) := by
    have h := (((Boxed.new (w.alloc (.cells #[.int .i64 c, .int .i64 st, .slice sp len cap] 47)) 45 (.slice none 0 0)).alloc (.map #[] 0)).alloc (.cells #[.map (some (w.heap.size + 1 + 1))] 120)).alloc (.cells #[.slice sp len cap] 45)
    simp only [World.size_alloc] at h
    rw [hW0] at h; exact h
  have m1 : MapS W0 (w.heap.size + 1 + 1) 0 (fun _ => none) := by
    have h := MapS.made ((w.alloc (.cells #[.int .i64 c, .int .i64 st, .slice sp len cap] 47)).alloc (.cells #[.slice none 0 0] 45))
    simp only [World.size_alloc] at h
    rw [← hW0]
    exact (h.kept (heap_alloc_old _ _ _ (by simp))).kept (heap_alloc_old _ _ _ (by simp))
  have b3 : Boxed W0 (w.heap.size + 1 + 1 + 1) 120 (.map (some (w.heap.size + 1 + 1))) := by
    have h := (Boxed.new (((w.alloc (.cells #[.int .i64 c, .int .i64 st, .slice sp len cap] 47)).alloc (.cells #[.slice none 0 0] 45)).alloc (.map #[] 0)) 120 (.map (some (w.heap.size + 1 + 1)))).alloc (.cells #[.slice sp len cap] 45)
    simp only [World.size_alloc] at h
    rw [hW0] at h; exact h
  have b4 : Boxed W0 (w.heap.size + 1 + 1 + 1 + 1) 45 (.slice sp len cap) := by
    have h := Boxed.new ((((w.alloc (.cells #[.int .i64 c, .int .i64 st, .slice sp len cap] 47)).alloc (.cells #[.slice none 0 0] 45)).alloc (.map #[] 0)).alloc (.cells #[.map (some (w.heap.size + 1 + 1))] 120)) 45 (.slice sp len cap)
    simp only [World.size_alloc] at h
    rw [hW0] at h; exact h
  rw [hW0]
  clear hW0
  have hsrc : 0 < len → ∃ b off, sp = some ⟨b, off, none⟩ ∧ b < w.heap.size ∧ ∀ i, i < len → W0.cell? ⟨b, off + i * 3, none⟩ = some (.int .i64 (o i).k) ∧ W0.cell? ⟨b, off + i * 3 + 1, none⟩ = some (.int .i64 (o i).key) ∧ W0.cell? ⟨b, off + i * 3 + 2, none⟩ = some (.int .i64 (o i).v) := fun hl => by
    obtain ⟨b, off, e, hb, hc⟩ := HS.out hl
    refine ⟨b, off, e, hb, fun i hi => ?_⟩
    obtain ⟨c0, c1, c2⟩ := hc i hi
    exact ⟨(hB0.cell hb).trans c0, (hB0.cell hb).trans c1, (hB0.cell hb).trans c2⟩
  refine wpIn_rangeFunc_ownH rfl (by decide) (gf := 90) (lb := #[.pointer (some ⟨w.heap.size + 1 + 1 + 1 + 1, 0, none⟩)]) rfl trivial (enters_of Try.func90 (by kernel_rfl) rfl)
    (bw_stops Fence.wide 3 trivial rfl (by decide) (w.heap.size + 1 + 1 + 1 + 1) w.heap.size sp len cap o hlen W0 (by omega) (by omega) b4.cell hsrc) Kp.trans (kp_b (by omega) (by omega)) (Below.refl _ _) (fun _ => rfl)
    (WI w o sp len cap) (fun _ _ _ => False) (WI.own w o sp len cap _ (by omega)) (fun _ _ _ _ _ hs _ _ => hs)
    ⟨⟨_, b1, World.ownsRow_nil _ _ _ _⟩, b3, b4, m1, hB0⟩
    (Ax W0.heap.size w c st sp len cap o) (Ax.own _ _ w c st sp len cap o)
    ?assign ?body ?done ?stop
  case assign =>
    rintro l pre x W K hI hK
    have hWs : w.heap.size + 5 ≤ W.heap.size := by have := hI.sbox.lt; omega
    have hR := hI.bel.size
    unfold encs
    gi_wp2
    refine hK _ _ ((KeepsOthers.alloc _ _).from _) ⟨(Below.refl _ W).alloc hR _, ?_⟩ ?_ ⟨W.heap.size, by omega, ?_, rfl⟩
    · exact heap_alloc_old _ _ _ (by omega)
    · have hal : Below W.heap.size W (W.alloc (.cells #[.int .i64 (o x.1).k, .int .i64 (o x.1).key, .int .i64 (o x.1).v] 44)) := (Below.refl _ _).alloc (Nat.le_refl _) _
      obtain ⟨v, hv, hrow⟩ := hI.box
      exact ⟨⟨v, hv.alloc _, own_keep hrow fun g hg => hal.block g (hrow.lt g hg).2⟩, hI.lbox.alloc _, hI.sbox.alloc _, hI.mp.kept (hal.block _ hI.mp.lt), hI.bel.trans (hal.mono hR)⟩
    · exact World.alloc_heap_new W _
  case body =>
    rintro l pre x a' W hl ⟨r, hr⟩ hI ⟨Bx, hBx, hX, rfl⟩ hlt
    obtain ⟨v, hv, hrow⟩ := hI.box
    obtain ⟨⟨x0, x1, x2⟩, _⟩ := cells3 hX
    have cl := hI.lbox.cell
    have hkr := HK.out x.1 x.2
    have hxi := x.2
    have hpl := colS_le o pre
    have HSN := Lib.hid (colS_snoc o pre x)
    have HMP := Lib.hid hI.mp
    have HI := Lib.hid hI
    have HROW := Lib.hid hrow
    have HBOX := Lib.hid hv
    have hR := hI.bel.size
    have hBxl : Bx < W.heap.size := (Array.getElem?_eq_some_iff.1 hX).1
    have HX := Lib.hid hX
    clear hI hrow hX
    unfold stp at HSN
    obtain ⟨ok, eok⟩ : ∃ z, z = (o x.1).k := ⟨_, rfl⟩
    obtain ⟨okey, eokey⟩ : ∃ z, z = (o x.1).key := ⟨_, rfl⟩
    obtain ⟨ov, eov⟩ : ∃ z, z = (o x.1).v := ⟨_, rfl⟩
    have HOT : Hid (o x.1 = ⟨ok, okey, ov⟩) := Lib.hid (by rw [eok, eokey, eov])
    rw [← eok] at x0 HX HSN ⊢
    rw [← eokey] at x1 HX HSN hkr ⊢
    rw [← eov] at x2 HX ⊢
    clear eok eokey eov
    have HSAME : Hid (colS o (pre ++ [x]) = colS o pre → WI w o sp len cap (pre ++ [x]) W) := Lib.hid fun e => ⟨by rw [e]; exact HI.out.box, HI.out.lbox, HI.out.sbox, by rw [e, List.length_append]; exact HI.out.mp.mono (by omega), HI.out.bel⟩
    by_cases hk2 : ok = 2
    · subst hk2
      have hlook := HMP.out.look okey (by omega)
      cases hm : (colS o pre).2 okey with
      | some z =>
        rw [hm] at hlook HSN
        simp only [Option.getD_some, Option.isSome_some] at hlook
        rw [if_neg (fun h => by cases h.2)] at HSN
        have HW := Lib.hid (HSAME.out HSN.out)
        clear hm
        gi_wp2
        exact ⟨KeepsFrom.refl _ _, Kp.refl _ _ _, HW.out⟩
      | none =>
        rw [hm] at hlook HSN
        simp only [Option.getD_none, Option.isSome_none] at hlook
        rw [if_pos ⟨rfl, rfl⟩] at HSN
        obtain ⟨w1, hrun, hm1, hg1⟩ := HMP.out.update okey (x.1 : Int) (by omega) (by omega) (by omega)
        obtain ⟨es, cm, hmap⟩ := HMP.out.isMap
        have hX1 : w1.heap[Bx]? = some (.cells #[.int .i64 2, .int .i64 okey, .int .i64 ov] 44 (0, 0)) := (hg1.block Bx hBxl (fun e => by injection e with e; omega)).trans HX.out
        obtain ⟨⟨z0, z1, z2⟩, _⟩ := cells3 hX1
        have hv1 : Boxed w1 (w.heap.size + 1) 45 v := hv.kept hg1 (fun e => by injection e with e; omega)
        have hl1 : Boxed w1 (w.heap.size + 1 + 1 + 1) 120 (.map (some (w.heap.size + 1 + 1))) := HI.out.lbox.kept hg1 (fun e => by injection e with e; omega)
        have hs1 : Boxed w1 (w.heap.size + 1 + 1 + 1 + 1) 45 (.slice sp len cap) := HI.out.sbox.kept hg1 (fun e => by injection e with e; omega)
        have hrow1 : w1.ownsRow w.heap.size 44 3 v (colS o pre).1.length (rowO (lf (colS o pre).1) (colS o pre).1.length) := own_keep HROW.out fun g hg => hg1.block g (HROW.out.lt g hg).2 (fun e => by
          injection e with e
          obtain ⟨cur, e1⟩ := own_cells HROW.out hg
          rw [e, hmap] at e1; cases e1)
        have hB1 : Below w.heap.size W w1 := (Below.refl _ W).grown hg1 hR (fun q hq => by injection hq with hq; omega)
        have HBW1 := Lib.hid (HI.out.bel.trans hB1)
        have hR1 : w.heap.size ≤ w1.heap.size := HBW1.out.size
        obtain ⟨sv, cv, rfl⟩ := own_form' hrow1
        have cw := hv1.cell
        have HNW : Hid (∀ (j : Nat) (u : Value), [Value.int .i64 2, .int .i64 okey, .int .i64 ov][j]? = some u → (w1.alloc (.cells #[.int .i64 2, .int .i64 okey, .int .i64 ov] 44)).cell? ((⟨w1.heap.size, 0, none⟩ : Addr).add j) = some u) := Lib.hid fun j u hj => by
          rw [Go.WideShapes.add_plain, cell_of_row _ _ _ _ 44 (0, 0) (World.alloc_heap_new w1 _), Nat.zero_add]
          simpa using hj
        have HROW1 := Lib.hid hrow1
        have HV1 := Lib.hid hv1
        have HS1 := Lib.hid hs1
        have HL1 := Lib.hid hl1
        have HM1 := Lib.hid hm1
        have HG1 := Lib.hid hg1
        have HB1 := Lib.hid hB1
        have HCLE := Lib.hid hpl
        have hcl : (colS o pre).1.length ≤ 1000 := by omega
        generalize hLL : (colS o pre).1.length = LL at *
        have HLL := Lib.hid hLL
        clear hm hX1 hv1 hl1 hs1 hm1 hg1 hB1 hmap hLL hrow1
        gi_wp2_with (gi_at_builtin; refine wpListIn_append_own _ rfl _ _ 45 rfl w.heap.size 44 i8 (.agg #[.int .i64 0, .int .i64 0, .int .i64 0]) 3 24 Try.underlying45 hi8 hx0 hx1 hx2 rfl (by decide) _ _ _ rfl (HROW1.out.alloc _) ⟨w1.heap.size, 0, none⟩ 1 1 [.int .i64 2, .int .i64 okey, .int .i64 ov] rfl rfl HNW.out (by intro u hu; simp at hu; rcases hu with rfl | rfl | rfl <;> rfl) (by unfold maxLen; omega) (by omega) (by simp; omega) ?_; intro v' w2 hown' hgrow hnn; obtain ⟨g', cap', rfl⟩ := ownsRow_succ hown'; obtain ⟨hv1, hv2, hr2, hk2, hb2⟩ := HV1.out.appended (by decide) HROW1.out hR1 (by omega) hown' hgrow; have hc1 := hv1.cell; have hf1 := hv1.frozen)
        have hs2 := ((HS1.out.alloc _).kept hgrow (HS1.out.not_row (by decide) HROW1.out)).other (B' := w.heap.size + 1) (by omega) (.slice (some ⟨g', 0, none⟩) (LL + 1) cap')
        have hl2 := ((HL1.out.alloc _).kept hgrow (HL1.out.not_row (by decide) HROW1.out)).other (B' := w.heap.size + 1) (by omega) (.slice (some ⟨g', 0, none⟩) (LL + 1) cap')
        obtain ⟨es1, cm1, hmap1⟩ := HM1.out.isMap
        have hm2 := ((HM1.out.kept (heap_alloc_old _ (.cells #[.int .i64 2, .int .i64 okey, .int .i64 ov] 44) _ HM1.out.lt)).kept (hgrow.block _ (Nat.lt_of_lt_of_le HM1.out.lt (by simp)) (fun e => by
          obtain ⟨cur, e1⟩ := own_cells HROW1.out e.symm
          rw [hmap1] at e1; cases e1))).kept (heap_setCell_other w2 ⟨w.heap.size + 1, 0, none⟩ (w.heap.size + 1 + 1) (.slice (some ⟨g', 0, none⟩) (LL + 1) cap') (fun e => by dsimp only at e; omega))
        refine ⟨(KeepsFrom.of_grownBy HG1.out (fun j e => by injection e with e; omega)).trans (hk2.from _), ⟨HB1.out.trans hb2, (show _ = _ from hs2).trans (show _ = _ from HI.out.sbox).symm⟩, ?_⟩
        refine ⟨⟨_, hv2, ?_⟩, hl2, hs2, ?_, HBW1.out.trans hb2⟩
        · rw [HSN.out, HOT.out]
          rw [rowO_snoc, List.length_append, List.length_singleton, HLL.out]
          exact hr2
        · rw [HSN.out, List.length_append]
          exact hm2
    · have hkb : (ok != 2) = true := by rw [bne_iff_ne]; exact hk2
      rw [if_neg (fun h => hk2 h.1)] at HSN
      have HW := Lib.hid (HSAME.out HSN.out)
      clear hk2
      gi_wp2
      exact ⟨KeepsFrom.refl _ _, Kp.refl _ _ _, HW.out⟩
  case done =>
    rintro D ys W hD ⟨hC, hyl⟩ hI hK
    obtain ⟨v, hv, hrow⟩ := hI.box
    obtain ⟨sv, cv, rfl⟩ := own_form' hrow
    have cw := hv.cell
    have hle := colS_le o ys
    have HROW := Lib.hid hrow
    have HV := Lib.hid hv
    have HI := Lib.hid hI
    have HKD := Lib.hid hK
    clear hrow hv hI hK
    gi_wp2_with (refine ⟨trivial, ?_⟩; gi_at_call 81; refine (callsIn_wide.2 (sort_any (colS o ys).1 sv cv w.heap.size W (by omega) HROW.out)).mono ?_; rintro e W5 ⟨rfl, l', hp, hss, hown5, hg5⟩; have cw5 := (HV.out.kept hg5 (HV.out.not_row (by decide) HROW.out)).cell)
    have hK5 : W5.heap[D]? = some (.deferred (some [])) := (hg5.block D (Array.getElem?_eq_some_iff.1 HKD.out).1 (fun e => by
      obtain ⟨cur, e1⟩ := own_cells HROW.out e.symm
      rw [HKD.out] at e1; cases e1)).trans HKD.out
    have hl' : l' = wrl o len 16 := cols_wrl o len HK.out ys hC hyl l' hp (fun i j h1 h2 => by have := hss i j h1 h2; omega)
    have hlen' : (colS o ys).1.length = (wrl o len 16).length := by rw [← hl', hp.length_eq]
    refine ⟨by simp, .inl ⟨_, _, rfl, run_takeDeferred hK5, ?_⟩⟩
    have hB5 : Below w.heap.size w W5 := HI.out.bel.grown hg5 HI.out.bel.size (fun q hq => (HROW.out.lt q hq).1)
    refine ⟨_, results_tmp rfl _ _ _, sv, cv, ?_, ?_, hB5.trans (belowK_b (w := w) (Nat.le_refl _) W5 D _ _ (by omega) hK5 rfl rfl)⟩
    · rw [← hlen']; rfl
    · rw [← hlen', ← hl']
      exact ownsRow_putObj hown5 _ hK5 rfl
  case stop =>
    rintro D c pre W _ _ h _
    exact h.elim

end Go.Proofs.Yteobndfkkpfnlaa
