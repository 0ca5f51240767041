/-
  Contract of order.
-/
import Derived.Test.YtcolcgkfppjflaaU
import Derived.WalkMore
namespace Go.Proofs.Ytcolcgkfppjflaa
open Go.ChangeShapes Go.WideShapes Go.ChangeAt Go.RowKit
set_option linter.unusedVariables false

structure OrdI (A : Nat → Nat → Prop) (N : Nat) (F : Nat → List Nat) (O : List Nat) (W : Nat → Nat) (P : Nat → Bool) : Prop where
  bld : Bld A N O
  pm : ∀ x, x < N → (P x = true ↔ x ∈ O)
  wm : ∀ x, x < N → W x = wt O (F x)
theorem OrdI.free {A : Nat → Nat → Prop} {N : Nat} {F : Nat → List Nat} {O : List Nat} {W : Nat → Nat} {P : Nat → Bool} (h : OrdI A N F O W P) (hF : ∀ i, i < N → ∀ j, j ∈ F i ↔ j < N ∧ A j i) {v : Nat} (hv : v < N) : Free A N O v ↔ P v = false ∧ W v = 0 := by
  rw [h.wm v hv, wt_zero]
  unfold Free
  constructor
  · rintro ⟨_, h2, h3⟩
    refine ⟨?_, fun u hu => h3 u ((hF v hv u).1 hu).1 ((hF v hv u).1 hu).2⟩
    cases hP : P v with
    | false => rfl
    | true => exact absurd ((h.pm v hv).1 hP) h2
  · rintro ⟨h2, h3⟩
    refine ⟨hv, fun hm => ?_, fun u hu ha => h3 u ((hF v hv u).2 ⟨hu, ha⟩)⟩
    rw [(h.pm v hv).2 hm] at h2
    cases h2
/-- while the counts go down: of the first s nodes behind v -/
def Dn (F : Nat → List Nat) (O : List Nat) (S : List Nat) (N s : Nat) (W : Nat → Nat) : Prop := ∀ x, x < N → W x = if x ∈ S.take s then wt O (F x) - 1 else wt O (F x)
theorem Dn.next {F : Nat → List Nat} {O S : List Nat} {N s y : Nat} {W : Nat → Nat} (h : Dn F O S N s W) (hn : S.Nodup) (hs : s < S.length) (hy : y = S.getD s 0) (hyN : y < N) : Dn F O S N (s + 1) (fun x => if x = y then W y - 1 else W x) := fun x hx => by
  have hy' : S[s] = y := by rw [hy, List.getD_eq_getElem?_getD, List.getElem?_eq_getElem hs]; rfl
  have htk : S.take (s + 1) = S.take s ++ [y] := by rw [List.take_add_one, List.getElem?_eq_getElem hs, hy']; rfl
  have hno : y ∉ S.take s := fun hm => by
    have := hn
    rw [← List.take_append_drop s S, List.nodup_append] at this
    refine this.2.2 y hm y ?_ rfl
    rw [List.drop_eq_getElem_cons hs, hy']
    exact List.mem_cons_self ..
  rw [htk]
  by_cases hxy : x = y
  · subst hxy
    show (if x = x then W x - 1 else W x) = _
    rw [if_pos rfl, h x hx, if_neg hno, if_pos (by simp)]
  · show (if x = y then W y - 1 else W x) = _
    rw [if_neg hxy, h x hx]
    have e : (x ∈ S.take s ++ [y]) = (x ∈ S.take s) := by simp [hxy]
    simp only [e]
theorem Dn.fin {A : Nat → Nat → Prop} {N v : Nat} {F : Nat → List Nat} {O S : List Nat} {W : Nat → Nat} {P : Nat → Bool} (h : Dn F O S N S.length W) (hb : Bld A N O) (hp : ∀ x, x < N → (P x = true ↔ x ∈ O)) (hx : Next A N O v) (hnd : ∀ i, i < N → (F i).Nodup) (hSF : ∀ x, x < N → (x ∈ S ↔ v ∈ F x)) :
    OrdI A N F (O ++ [v]) W (fun x => if x = v then true else P x) := by
  refine ⟨.snoc hb hx, fun x hx' => ?_, fun x hx' => ?_⟩
  · show (if x = v then true else P x) = true ↔ _
    by_cases hxv : x = v
    · rw [if_pos hxv]; simp [hxv]
    · rw [if_neg hxv, hp x hx']; simp [hxv]
  · rw [h x hx', List.take_length]
    by_cases hm : x ∈ S
    · rw [if_pos hm]
      have := wt_in O (F x) v ((hSF x hx').1 hm) (hnd x hx') hx.1.2.1
      omega
    · rw [if_neg hm, wt_out O (F x) v (fun h => hm ((hSF x hx').2 h))]
def OrdP (A : Nat → Nat → Prop) (N : Nat) (w : World) (e : Ending) (w' : World) : Prop :=
  ∃ O b sp cp, e = .returned (.tuple #[.slice sp O.length cp, .bool b]) ∧ OrdR A N O b ∧ LsS w' (.slice sp O.length cp) O ∧ Below w.heap.size w w'

set_option maxRecDepth 100000 in
set_option maxHeartbeats 4000000 in
theorem order_any (g N : Nat) (gb : Bool → Nat) (L : Bool → Nat → List Nat) (A : Nat → Nat → Prop) (w : World) (hN : N ≤ 400) (hg0 : w.cell? ⟨g, 0, none⟩ = some (.slice (some ⟨gb true, 0, none⟩) N N)) (hg1 : w.cell? ⟨g, 1, none⟩ = some (.slice (some ⟨gb false, 0, none⟩) N N)) (hR : NetR w gb N L)
    (htt : ∀ i, i < N → ∀ j, j ∈ L true i ↔ j < N ∧ A i j) (hfr : ∀ i, i < N → ∀ j, j ∈ L false i ↔ j < N ∧ A j i) (hnd : ∀ s i, i < N → (L s i).Nodup) (hle : ∀ s i, i < N → (L s i).length ≤ 100000) :
    Calls Try.prog 26 #[.pointer (some ⟨g, 0, none⟩)] w (OrdP A N w) := by
  obtain ⟨i0, hi0, hy0, hy1, hy2⟩ := info_parts info3
  have HR := Lib.hid hR
  have HTT := Lib.hid htt
  have HFR := Lib.hid hfr
  have HND := Lib.hid hnd
  have HLE := Lib.hid hle
  have HG0 := Lib.hid hg0
  have HG1 := Lib.hid hg1
  obtain ⟨mc, hmc⟩ : ∃ mc, mc = madeCells #[.int .i64 0] N := ⟨_, rfl⟩
  have hmi := makeI N (by omega) mc hmc
  have hmj := makeI0 N (by omega) mc hmc
  obtain ⟨md, hmd⟩ : ∃ md, md = madeCells #[.bool false] N := ⟨_, rfl⟩
  have hmb := makeB N (by omega) md hmd
  have HMC := Lib.hid hmc
  have HMD := Lib.hid hmd
  have HW0 : Hid ((w.alloc (.cells mc 3)).ownsRow w.heap.size 3 1 (.slice (some ⟨w.heap.size, 0, none⟩) N N) N (rowC (fun _ => 0) N) ∧ Below w.heap.size w (w.alloc (.cells mc 3))) := Lib.hid ⟨⟨by unfold rowC; rw [rowV_length]; omega, .inr ⟨w.heap.size, N, mc, rfl, Nat.le_refl _, heap_alloc_new _ _, Nat.le_refl _, by unfold maxLen; omega, by rw [hmc, size_madeCells]; omega, by rw [hmc, made_ints, List.take_of_length_le]; unfold rowC; rw [rowV_length]; omega⟩⟩, (Below.refl _ _).alloc (Nat.le_refl _) _⟩
  have g1' : (w.alloc (.cells mc 3)).cell? ⟨g, 1, none⟩ = some (.slice (some ⟨gb false, 0, none⟩) N N) := (HW0.out.2.cell (p := ⟨g, 1, none⟩) (cell_lt hg1)).trans hg1
  clear hmc hmd hR htt hfr hnd hle hg1
  go_enter Try.func26, Try.ntmps26
  go_wp2
  go_step3
  go_wp2
  clear hmi hg0 g1'
  obtain ⟨gw, egw⟩ : ∃ gw, gw = w.heap.size := ⟨_, rfl⟩
  obtain ⟨wc, ewc⟩ : ∃ wc, wc = w.alloc (.cells mc 3) := ⟨_, rfl⟩
  have HW1 : Hid (wc.ownsRow w.heap.size 3 1 (.slice (some ⟨gw, 0, none⟩) N N) N (rowC (fun _ => 0) N) ∧ Below w.heap.size w wc) := Lib.hid (by rw [ewc, egw]; exact HW0.out)
  rw [← ewc, ← egw]
  clear HW0 ewc egw
  go_loopw [5, 6, 23] (fun _ _ i wr => ∃ (t : Nat) (W : Nat → Nat), t ≤ N ∧ i = .int .i64 (t : Int) ∧ Hid (wr.ownsRow w.heap.size 3 1 (.slice (some ⟨gw, 0, none⟩) N N) N (rowC W N) ∧ Below w.heap.size w wr ∧ ∀ x, x < t → W x = (L false x).length)) (fun _ _ i _ => N - (intOf i).toNat)
  case atStart => exact ⟨0, _, Nat.zero_le _, rfl, Lib.hid ⟨HW1.out.1, HW1.out.2, fun x hx => absurd hx (Nat.not_lt_zero _)⟩⟩
  case round =>
    obtain ⟨t, W, ht, rfl, HT⟩ := hrel
    clear HW1
    by_cases hlt : t < N
    · have hlt' : (t : Int) < (N : Int) := by omega
      obtain ⟨v, hv0, sp, cpv, rfl, hLs⟩ := HR.out.row false t hlt
      have hv := (HT.out.2.1.cell (p := ⟨gb false, t, none⟩) (HR.out.lt false)).trans hv0
      have c0 : wr.cell? ⟨gw, t, none⟩ = some (.int .i64 (W t : Int)) := (HT.out.1.cellAt t (by omega)).trans (rowV_get _ _ _ hlt)
      have f0 := HT.out.1.frozenAt t
      have HS : Hid ((wr.setCell ⟨gw, t, none⟩ (.int .i64 ((L false t).length : Int))).ownsRow w.heap.size 3 1 (.slice (some ⟨gw, 0, none⟩) N N) N (rowC (fun x => if x = t then (L false t).length else W x) N) ∧ Below w.heap.size w (wr.setCell ⟨gw, t, none⟩ (.int .i64 ((L false t).length : Int))) ∧ ∀ x, x < t + 1 → (if x = t then (L false t).length else W x) = (L false x).length) := Lib.hid (by
        have h1 := (HT.out.1.stored t (.int .i64 ((L false t).length : Int))).1
        rw [rowC_set] at h1
        refine ⟨h1, HT.out.2.1.setCell (by exact (HT.out.1.lt gw rfl).1) _, fun x hx => ?_⟩
        by_cases h : x = t
        · rw [if_pos h, h]
        · rw [if_neg h]; exact HT.out.2.2 x (by omega))
      clear hv0 hLs
      go_wp2
      go_roundw
      case rel => exact ⟨t + 1, _, by omega, by go_num, HS⟩
      case measure => simp [intOf]; omega
    · obtain rfl : t = N := by omega
      have h1 : Below wr.heap.size wr (wr.alloc (.cells md 4)) := (Below.refl _ _).alloc (Nat.le_refl _) _
      have h2 : Below (wr.alloc (.cells md 4)).heap.size (wr.alloc (.cells md 4)) ((wr.alloc (.cells md 4)).alloc (.cells mc 3)) := (Below.refl _ _).alloc (Nat.le_refl _) _
      have HO : Hid (OrdM w ((wr.alloc (.cells md 4)).alloc (.cells mc 3)) gw wr.heap.size (wr.heap.size + 1) t t [] W (fun _ => false)) := Lib.hid (by
        have hgw := (HT.out.1.lt gw rfl).2
        refine ⟨own_at HT.out.1 ((h2.block gw (by simp; omega)).trans (h1.block gw hgw)), ?_, ?_, by omega, (HT.out.2.1.trans (h1.mono HT.out.2.1.size)).trans (h2.mono (Nat.le_trans HT.out.2.1.size h1.size))⟩
        · have := MetS.made (w := wr) (N := t) hN HT.out.2.1.size
          rw [← HMD.out] at this
          exact this.keep (h2.block _ (by simp))
        · refine ⟨rfl, .inr ⟨wr.heap.size + 1, t, mc, rfl, ?_, ?_, Nat.zero_le _, by unfold maxLen; omega, by rw [HMC.out, size_madeCells]; omega, by simp [rowN]⟩⟩
          · have := HT.out.2.1.size; omega
          · have := heap_alloc_new (wr.alloc (.cells md 4)) (.cells mc 3)
            simpa using this)
      have HI : Hid (OrdI A t (L false) [] W (fun _ => false)) := Lib.hid ⟨.nil, fun x _ => by simp, fun x hx => by rw [wt_nil]; exact HT.out.2.2 x hx⟩
      have e0 : wr.cell? ⟨g, 0, none⟩ = some (.slice (some ⟨gb true, 0, none⟩) t t) := (HT.out.2.1.cell (p := ⟨g, 0, none⟩) (cell_lt HG0.out)).trans HG0.out
      have e1 := ((h1.cell (p := ⟨g, 0, none⟩) (by exact cell_lt e0)).trans e0)
      have e2 := ((h2.cell (p := ⟨g, 0, none⟩) (by exact cell_lt e1)).trans e1)
      clear HT h1 h2
      go_wp2
      go_step3
      go_wp2
      clear e0 e1 e2 hmb hmj
      obtain ⟨gp, egp⟩ : ∃ gp, gp = wr.heap.size := ⟨_, rfl⟩
      obtain ⟨g1, eg1⟩ : ∃ g1, g1 = wr.heap.size + 1 := ⟨_, rfl⟩
      obtain ⟨wx, ewx⟩ : ∃ wx, wx = (wr.alloc (.cells md 4)).alloc (.cells mc 3) := ⟨_, rfl⟩
      have HO1 : Hid (OrdM w wx gw gp g1 t t [] W (fun _ => false)) := Lib.hid (by rw [ewx, egp, eg1]; exact HO.out)
      rw [← ewx, ← eg1, ← egp]
      clear HO ewx eg1 egp
      go_loopg [8, 51] t (fun k v i wr => ∃ (s go co : Nat) (O : List Nat) (W : Nat → Nat) (P : Nat → Bool), s ≤ t ∧ k = t - s ∧ i = .int .i64 (s : Int) ∧ v = .slice (some ⟨go, 0, none⟩) O.length co ∧ Hid (OrdM w wr gw gp go co t O W P ∧ OrdI A t (L false) O W P ∧ O.length = s))
      case atStart => exact ⟨0, g1, t, [], W, _, Nat.zero_le _, rfl, rfl, rfl, Lib.hid ⟨HO1.out, HI.out, rfl⟩⟩
      case round =>
        obtain ⟨s, go, co, O, W2, P2, hs, rfl, rfl, rfl, HJ⟩ := hrel
        clear HO1 HI
        by_cases hst : s < t
        · have hst' : (s : Int) < (t : Int) := by omega
          have e0 : wr.cell? ⟨g, 0, none⟩ = some (.slice (some ⟨gb true, 0, none⟩) t t) := (HJ.out.1.bel.cell (p := ⟨g, 0, none⟩) (cell_lt HG0.out)).trans HG0.out
          go_wp2
          obtain ⟨wF, ewF⟩ : ∃ wF, wF = wr := ⟨_, rfl⟩
          rw [← ewF] at HJ e0 ⊢
          clear ewF
          go_loopg [8, 58] t (fun k v i wr => ∃ r : Nat, r ≤ t ∧ k = t - r ∧ i = .int .i64 (r : Int) ∧ v = .slice (some ⟨go, 0, none⟩) O.length co ∧ wF = wr ∧ Hid (∀ u, u < r → ¬ Free A t O u))
          case atStart => exact ⟨0, Nat.zero_le _, rfl, rfl, rfl, rfl, Lib.hid fun u hu => absurd hu (Nat.not_lt_zero _)⟩
          case round =>
            obtain ⟨r, hr, rfl, rfl, rfl, rfl, HU⟩ := hrel
            by_cases hrt : r < t
            · have hrt' : (r : Int) < (t : Int) := by omega
              have c0 := HJ.out.1.plc.cell hrt
              have f0 := HJ.out.1.plc.fz r
              have c1 := HJ.out.1.cellW hrt
              have HFR1 := Lib.hid (HJ.out.2.1.free HFR.out hrt)
              have HSK : Hid (¬ Free A t O r → ∀ u, u < r + 1 → ¬ Free A t O u) := Lib.hid fun h u hu => by
                by_cases h2 : u < r
                · exact HU.out u h2
                · obtain rfl : u = r := by omega
                  exact h
              cases hP : P2 r with
              | true =>
                rw [hP] at c0
                have HN := Lib.hid (HSK.out (fun h => by have := (HFR1.out.1 h).1; rw [hP] at this; cases this))
                clear hP
                go_wp2
                go_roundg (t - (r + 1))
                case measure => omega
                case rel => exact ⟨r + 1, by omega, rfl, by go_num, rfl, rfl, HN⟩
              | false =>
                rw [hP] at c0
                by_cases hW : 0 < W2 r
                · have hW' : (0 : Int) < (W2 r : Int) := by omega
                  have HN := Lib.hid (HSK.out (fun h => by have := (HFR1.out.1 h).2; omega))
                  clear hP
                  go_wp2
                  go_roundg (t - (r + 1))
                  case measure => omega
                  case rel => exact ⟨r + 1, by omega, rfl, by go_num, rfl, rfl, HN⟩
                · have hW0 : W2 r = 0 := by omega
                  have HNX : Hid (Next A t O r) := Lib.hid ⟨HFR1.out.2 ⟨hP, hW0⟩, HU.out⟩
                  rw [hW0] at c1
                  have hOl : O.length ≤ 400 := by have := HJ.out.2.2; omega
                  have hb1 : Below (wF.setCell ⟨gp, r, none⟩ (.bool true)).heap.size (wF.setCell ⟨gp, r, none⟩ (.bool true)) ((wF.setCell ⟨gp, r, none⟩ (.bool true)).alloc (.cells #[.int .i64 (r : Int)] 3)) := (Below.refl _ _).alloc (Nat.le_refl _) _
                  have HR2 := Lib.hid ((HJ.out.1.mark r).below hb1)
                  have HNW := Lib.hid (one_new (r : Int) (wF.setCell ⟨gp, r, none⟩ (.bool true)))
                  clear hP hW hb1 HSK HFR1 HU
                  go_wp2_with (at_builtin; refine wpList_append_lies _ rfl _ _ 33 rfl w.heap.size 3 i0 (.int .i64 0) 1 8 Try.underlying33 hi0 hy0 hy1 hy2 rfl (by decide) _ O.length (rowN O) rfl HR2.out.ord ⟨(wF.setCell ⟨gp, r, none⟩ (.bool true)).heap.size, 0, none⟩ 1 1 [.int .i64 (r : Int)] (by simp [Act.eval]) rfl HNW.out (by intro u hu; simp at hu; subst hu; rfl) (by omega) (by unfold maxLen; omega) (by omega) HR2.out.bel.size _ rfl ?_)
                  intro g7 c7 w7 ho7 hg7 hat7 hl7
                  have HP7 := Lib.hid (HR2.out.push ho7 hg7 (hat7.imp id (fun e => e.trans (by simp))))
                  have e7 : w7.cell? ⟨g, 0, none⟩ = some (.slice (some ⟨gb true, 0, none⟩) t t) := (HP7.out.bel.cell (p := ⟨g, 0, none⟩) (cell_lt HG0.out)).trans HG0.out
                  obtain ⟨v, hv0, sp, cpv, rfl, hLs⟩ := HR.out.row true r hrt
                  have hv := (HP7.out.bel.cell (p := ⟨gb true, r, none⟩) (HR.out.lt true)).trans hv0
                  have HLS := Lib.hid hLs
                  clear ho7 hg7 hat7 hl7 c0 f0 c1 hLs hv0 HNW HR2 e0
                  go_wp2
                  clear e7 hv
                  obtain ⟨len, hlen⟩ : ∃ len, len = (L true r).length := ⟨_, rfl⟩
                  have hle2 : len ≤ 100000 := by rw [hlen]; exact HLE.out true r hrt
                  rw [← hlen]
                  have HLN := Lib.hid hlen
                  clear hlen
                  have HD0 : Hid (Dn (L false) O (L true r) t 0 W2) := Lib.hid fun x hx => by rw [List.take_zero, if_neg (by simp)]; exact HJ.out.2.1.wm x hx
                  go_loopg [11, 87] len (fun k _ i wr => ∃ (q : Nat) (W3 : Nat → Nat), q ≤ len ∧ k = len - q ∧ i = .int .i64 (q : Int) ∧ Hid (OrdM w wr gw gp g7 c7 t (O ++ [r]) W3 (fun x => if x = r then true else P2 x) ∧ Dn (L false) O (L true r) t q W3))
                  case atStart => exact ⟨0, W2, Nat.zero_le _, rfl, rfl, Lib.hid ⟨HP7.out, HD0.out⟩⟩
                  case round =>
                    obtain ⟨q, W3, hq, rfl, rfl, HQ⟩ := hrel
                    clear HP7 HD0
                    by_cases hql : q < len
                    · have hql' : (q : Int) < (len : Int) := by omega
                      obtain ⟨lb, rfl, hlt3, hlc⟩ := HLS.out (by have := HLN.out; omega)
                      obtain ⟨y, hy⟩ : ∃ y, y = (L true r).getD q 0 := ⟨_, rfl⟩
                      have hym : y ∈ L true r := by
                        rw [hy, List.getD_eq_getElem?_getD, List.getElem?_eq_getElem (by have := HLN.out; omega)]
                        exact List.getElem_mem _
                      have hyt := ((HTT.out r hrt y).1 hym).1
                      have hyt' : (y : Int) < (t : Int) := by omega
                      have cl : wr.cell? ⟨lb, q, none⟩ = some (.int .i64 (y : Int)) := by
                        rw [hy, HQ.out.1.bel.cell (p := ⟨lb, q, none⟩) hlt3]
                        exact hlc q (by have := HLN.out; omega)
                      have HDN := Lib.hid (HQ.out.2.next (HND.out true r hrt) (by have := HLN.out; omega) hy hyt)
                      have hpos : 0 < W3 y := by
                        have h1 := HQ.out.2 y hyt
                        have h2 := wt_in O (L false y) r ((HFR.out y hyt r).2 ⟨hrt, ((HTT.out r hrt y).1 hym).2⟩) (HND.out false y hyt) HNX.out.1.2.1
                        have h3 : y ∉ (L true r).take q := fun hm => by
                          have hnd := HND.out true r hrt
                          have hql2 : q < (L true r).length := by have := HLN.out; omega
                          rw [← List.take_append_drop q (L true r), List.nodup_append] at hnd
                          refine hnd.2.2 y hm y ?_ rfl
                          rw [List.drop_eq_getElem_cons hql2]
                          have : (L true r)[q] = y := by rw [hy, List.getD_eq_getElem?_getD, List.getElem?_eq_getElem hql2]; rfl
                          rw [this]
                          exact List.mem_cons_self ..
                        rw [if_neg h3] at h1
                        omega
                      obtain ⟨cc, hcc⟩ : ∃ cc, W3 y = cc + 1 := ⟨W3 y - 1, by omega⟩
                      have hcl : cc ≤ 100000 := by
                        have h1 := HQ.out.2 y hyt
                        have h2 := wt_le O (L false y)
                        have h3 := HLE.out false y hyt
                        split at h1 <;> omega
                      have cw := HQ.out.1.cellW hyt
                      rw [hcc] at cw
                      have fw := HQ.out.1.wts.frozenAt y
                      have HPT : Hid (OrdM w (wr.setCell ⟨gw, y, none⟩ (.int .i64 (cc : Int))) gw gp g7 c7 t (O ++ [r]) (fun x => if x = y then W3 y - 1 else W3 x) (fun x => if x = r then true else P2 x)) := Lib.hid (by
                        have := HQ.out.1.put y cc
                        rw [show W3 y - 1 = cc by omega]
                        exact this)
                      clear hym hy hlc hpos hcc
                      go_wp2
                      go_roundg (len - (q + 1))
                      case measure => omega
                      case rel => exact ⟨q + 1, _, by omega, rfl, by go_num, Lib.hid ⟨HPT.out, HDN.out⟩⟩
                    · obtain rfl : q = len := by omega
                      have HOI : Hid (OrdI A t (L false) (O ++ [r]) W3 (fun x => if x = r then true else P2 x)) := Lib.hid (by
                        have h1 := HQ.out.2
                        rw [HLN.out] at h1
                        exact h1.fin HJ.out.2.1.bld HJ.out.2.1.pm HNX.out (HND.out false) (fun x hx => ⟨fun h => (HFR.out x hx r).2 ⟨hrt, ((HTT.out r hrt x).1 h).2⟩, fun h => (HTT.out r hrt x).2 ⟨hx, ((HFR.out x hx r).1 h).2⟩⟩))
                      go_wp2
                      go_roundg (t - (s + 1))
                      case measure => omega
                      case rel => exact ⟨s + 1, g7, c7, O ++ [r], W3, _, by omega, rfl, by go_num, by simp, Lib.hid ⟨HQ.out.1, HOI.out, by have := HJ.out.2.2; simp; omega⟩⟩
            · obtain rfl : r = t := by omega
              go_wp2
              rw [Exit.noGoto_ret]
              go_ret2
              exact ⟨[], false, none, 0, rfl, .inr ⟨rfl, rfl, O, HJ.out.2.1.bld, by have := HJ.out.2.2; omega, fun v hv => HU.out v hv.1 hv⟩, ⟨none, 0, rfl, fun h => absurd h (Nat.lt_irrefl _)⟩, HJ.out.1.bel⟩
        · obtain rfl : s = t := by omega
          go_wp2
          go_ret2
          exact ⟨O, true, _, _, rfl, .inl ⟨rfl, HJ.out.2.1.bld, HJ.out.2.2⟩, LsS.of HJ.out.1.ord, HJ.out.1.bel⟩
end Go.Proofs.Ytcolcgkfppjflaa
