/-
  Contract of cycleThrough.
-/
import Derived.Test.YtcolcgkfppjflaaCd
namespace Go.Proofs.Ytcolcgkfppjflaa
open Go.ChangeShapes Go.WideShapes Go.ChangeAt Go.RowKit
set_option linter.unusedVariables false

structure CtM (wB w : World) (gc cc glf : Nat) (left : Int) (C : List Nat) : Prop where
  cyc : w.ownsRow wB.heap.size 3 1 (.slice (some ⟨gc, 0, none⟩) C.length cc) C.length (rowN C)
  lft : w.heap[glf]? = some (.cells #[.int .i64 left] 3 (0, 0))
  ne : glf ≠ gc
  bel : Below wB.heap.size wB w
theorem CtM.below {wB w w' : World} {gc cc glf : Nat} {left : Int} {C : List Nat} (h : CtM wB w gc cc glf left C) (hb : Below w.heap.size w w') : CtM wB w' gc cc glf left C :=
  ⟨own_at h.cyc (hb.block _ (h.cyc.lt gc rfl).2), (hb.block _ (blk_lt h.lft)).trans h.lft, h.ne, h.bel.trans (hb.mono h.bel.size)⟩
theorem CtM.push {wB w w' : World} {gc cc glf x g7 c7 : Nat} {left : Int} {C : List Nat} (h : CtM wB w gc cc glf left C) (ho : w'.ownsRow wB.heap.size 3 1 (.slice (some ⟨g7, 0, none⟩) (C.length + 1) c7) (C.length + 1) (rowN C ++ [.int .i64 (x : Int)])) (hg : w.grownBy w' (some gc)) :
    w'.heap[glf]? = some (.cells #[.int .i64 left] 3 (0, 0)) ∧ w'.ownsRow wB.heap.size 3 1 (.slice (some ⟨g7, 0, none⟩) (C ++ [x]).length c7) (C ++ [x]).length (rowN (C ++ [x])) ∧ Below wB.heap.size wB w' := by
  refine ⟨(hg.block glf (blk_lt h.lft) (fun e => h.ne (Option.some.inj e))).trans h.lft, ?_, h.bel.grown hg h.bel.size (fun k e => by have := (h.cyc.lt gc rfl).1; have := Option.some.inj e; omega)⟩
  rw [rowN_snoc, List.length_append, List.length_singleton]; exact ho
theorem CtM.box {wB w : World} {g7 c7 : Nat} {left : Int} {C : List Nat} (h1 : w.ownsRow wB.heap.size 3 1 (.slice (some ⟨g7, 0, none⟩) C.length c7) C.length (rowN C)) (h2 : Below wB.heap.size wB w) : CtM wB (w.alloc (.cells #[.int .i64 left] 3)) g7 c7 w.heap.size left C := by
  have hb : Below w.heap.size w (w.alloc (.cells #[.int .i64 left] 3)) := (Below.refl _ _).alloc (Nat.le_refl _) _
  have hl := (h1.lt g7 rfl).2
  exact ⟨own_at h1 (hb.block _ hl), heap_alloc_new _ _, by omega, h2.trans (hb.mono h2.size)⟩

set_option maxRecDepth 100000 in
set_option maxHeartbeats 4000000 in
theorem through_any (g N st : Nat) (bound : Int) (gb : Bool → Nat) (L : Bool → Nat → List Nat) (A : Nat → Nat → Prop) (w : World) (hN : N ≤ 400) (hst : st < N) (hbd : 0 ≤ bound ∧ bound ≤ 1000) (hg0 : w.cell? ⟨g, 0, none⟩ = some (.slice (some ⟨gb true, 0, none⟩) N N)) (hg1 : w.cell? ⟨g, 1, none⟩ = some (.slice (some ⟨gb false, 0, none⟩) N N)) (hR : NetR w gb N L)
    (htt : ∀ i, i < N → ∀ j, j ∈ L true i ↔ j < N ∧ A i j) (hup : ∀ i, i < N → (L true i).Pairwise (· < ·)) (hfr : ∀ i, i < N → ∀ j, j ∈ L false i ↔ j < N ∧ A j i) (hle : ∀ s i, i < N → (L s i).length ≤ 100000) :
    Calls Try.prog 27 #[.pointer (some ⟨g, 0, none⟩), .int .i64 (st : Int), .int .i64 bound] w (CtP A N st bound w) := by
  obtain ⟨i0, hi0, hy0, hy1, hy2⟩ := info_parts info3
  have HW := Lib.hid (wayBack_any g N st bound gb L A w hN hst hbd hg0 hg1 hR hfr hle)
  have HR := Lib.hid hR
  have HTT := Lib.hid htt
  have HUP := Lib.hid hup
  have HLE := Lib.hid hle
  have HG0 := Lib.hid hg0
  have hst' : (st : Int) < (N : Int) := by omega
  clear hg0 hg1 hR htt hup hfr hle
  go_enter Try.func27, Try.ntmps27
  go_wp2_with fail
  refine HW.out.mono ?_
  rintro e w2 ⟨(⟨l, gw, W, rfl, hl1, hlb, hcl, hmin, hgw, hcw, hkn⟩ | ⟨rfl, hno⟩), hb⟩
  · have hl0 : ((l : Int) == 0) = false := by simp; omega
    have hl0' : ¬ (l : Int) = 0 := by omega
    have hl9 : l ≤ 1000 := by omega
    have hBB : Below w2.heap.size w2 (w2.alloc (.cells #[.slice (some ⟨gw, 0, none⟩) N N] 33)) := (Below.refl _ _).alloc (Nat.le_refl _) _
    obtain ⟨wB, ewB⟩ : ∃ wB, wB = w2.alloc (.cells #[.slice (some ⟨gw, 0, none⟩) N N] 33) := ⟨_, rfl⟩
    have HBX : Hid (Below w.heap.size w wB) := Lib.hid (by rw [ewB]; exact hb.trans (hBB.mono hb.size))
    have HCW : Hid (∀ i, i < N → wB.cell? ⟨gw, i, none⟩ = some (.int .i64 (W i))) := Lib.hid fun i hi => by rw [ewB]; exact (hBB.cell (p := ⟨gw, i, none⟩) hgw).trans (hcw i hi)
    have HGA : Hid (wB.cell? ⟨w2.heap.size, 0, none⟩ = some (.slice (some ⟨gw, 0, none⟩) N N)) := Lib.hid (by rw [ewB, cell_of_row _ _ _ _ _ _ (heap_alloc_new w2 _)]; rfl)
    have HKN := Lib.hid hkn
    have HCL := Lib.hid hcl
    have HMI := Lib.hid hmin
    have HC0 : Hid (CtM wB ((wB.alloc (.cells #[.int .i64 (st : Int)] 3)).alloc (.cells #[.int .i64 ((l : Int) - 1)] 3)) wB.heap.size 1 (wB.heap.size + 1) ((l : Int) - 1) [st]) := Lib.hid (by
      have h1 : Below wB.heap.size wB (wB.alloc (.cells #[.int .i64 (st : Int)] 3)) := (Below.refl _ _).alloc (Nat.le_refl _) _
      have h2 : (wB.alloc (.cells #[.int .i64 (st : Int)] 3)).ownsRow wB.heap.size 3 1 (.slice (some ⟨wB.heap.size, 0, none⟩) ([st] : List Nat).length 1) ([st] : List Nat).length (rowN [st]) := ⟨rfl, .inr ⟨wB.heap.size, 1, #[.int .i64 (st : Int)], rfl, Nat.le_refl _, heap_alloc_new _ _, Nat.le_refl _, by unfold maxLen; omega, rfl, rfl⟩⟩
      have := CtM.box (left := (l : Int) - 1) h2 h1
      simpa using this)
    clear hb hBB hcw hkn hcl hmin hgw HW
    go_wp2
    rw [← ewB]
    have hsz : wB.heap.size = w2.heap.size + 1 := by rw [ewB]; simp
    obtain ⟨ga, ega⟩ : ∃ ga, ga = w2.heap.size := ⟨_, rfl⟩
    obtain ⟨g9, eg9⟩ : ∃ g9, g9 = w2.heap.size + 1 := ⟨_, rfl⟩
    obtain ⟨gA, egA⟩ : ∃ gA, gA = w2.heap.size + 1 + 1 := ⟨_, rfl⟩
    obtain ⟨wc, ewc⟩ : ∃ wc, wc = (wB.alloc (.cells #[.int .i64 (st : Int)] 3)).alloc (.cells #[.int .i64 ((l : Int) - 1)] 3) := ⟨_, rfl⟩
    have HC1 : Hid (CtM wB wc g9 1 gA ((l : Int) - 1) [st]) := Lib.hid (by rw [ewc, eg9, egA, ← hsz]; exact HC0.out)
    rw [← ewc, ← egA, ← eg9, ← ega]
    rw [← ega] at HGA
    clear HC0 ewc egA eg9 ega ewB hsz
    go_loopg [9, 10, 11, 12] (l - 1) (fun gk cyc at_ lp _ wr => ∃ (gc cc glf a : Nat) (C : List Nat), gk = l - C.length ∧ cyc = .slice (some ⟨gc, 0, none⟩) C.length cc ∧ at_ = .int .i64 (a : Int) ∧ lp = .pointer (some ⟨glf, 0, none⟩) ∧ Hid (CtM wB wr gc cc glf ((l : Int) - (C.length : Int)) C ∧ Gr A N st l C ∧ a = C.getD (C.length - 1) 0))
    case atStart => exact ⟨g9, 1, gA, st, [st], rfl, rfl, rfl, rfl, Lib.hid ⟨by simpa using HC1.out, Gr.start hl1, rfl⟩⟩
    case round =>
      obtain ⟨gc, cc, glf, a, C, rfl, rfl, rfl, rfl, HT⟩ := hrel
      clear HC1
      have hC0 := HT.out.2.1.1
      have hCl := HT.out.2.1.2.1
      have cl0 : wr.cell? ⟨glf, 0, none⟩ = some (.int .i64 ((l : Int) - (C.length : Int))) := by rw [cell_of_row _ _ _ _ _ _ HT.out.1.lft]; rfl
      by_cases hlt : C.length < l
      · have hlt' : (0 : Int) < (l : Int) - (C.length : Int) := by omega
        obtain ⟨haN, y, hyN, hay, hyd⟩ := HT.out.2.1.last hst HT.out.2.2 hlt HCL.out HMI.out
        have haN' : (a : Int) < (N : Int) := by omega
        have hd : ∀ x, x < N → (W x = ((l - C.length : Nat) : Int) ↔ Ds A N st x (l - C.length)) := fun x hx => HKN.out x (l - C.length) hx (by omega)
        obtain ⟨k, hk, hkq, hkn, hkm⟩ := first_place (HUP.out a haN) (fun x => W x = (l : Int) - (C.length : Int)) ⟨y, (HTT.out a haN y).2 ⟨hyN, hay⟩, by rw [(hd y hyN).2 hyd]; omega⟩
        have hk' : (k : Int) < ((L true a).length : Int) := by omega
        obtain ⟨x, hx⟩ : ∃ x, x = (L true a).getD k 0 := ⟨_, rfl⟩
        have hxm : x ∈ L true a := by rw [hx, List.getD_eq_getElem?_getD, List.getElem?_eq_getElem hk]; exact List.getElem_mem _
        have hxN := ((HTT.out a haN x).1 hxm).1
        have HGS : Hid (Gr A N st l (C ++ [x])) := Lib.hid (HT.out.2.1.snoc HT.out.2.2 hlt hxN ((HTT.out a haN x).1 hxm).2 ((hd x hxN).1 (by rw [hx, hkq]; omega)) (fun z hz haz hdz => by rw [hx]; exact hkm z ((HTT.out a haN z).2 ⟨hz, haz⟩) (by rw [(hd z hz).2 hdz]; omega)))
        have hBW := HBX.out.trans (HT.out.1.bel.mono HBX.out.size)
        obtain ⟨v, hv0, sp, cpv, rfl, hLs⟩ := HR.out.row true a haN
        have hv := (hBW.cell (p := ⟨gb true, a, none⟩) (HR.out.lt true)).trans hv0
        have cg := (hBW.cell (p := ⟨g, 0, none⟩) (cell_lt HG0.out)).trans HG0.out
        have HFI := Lib.hid (first_any N st hst (.slice sp (L true a).length cpv) (L true a) ga glf gw k ((l : Int) - (C.length : Int)) W wr ((show LsS w (.slice sp (L true a).length cpv) (L true a) from ⟨sp, cpv, rfl, hLs⟩).below hBW) (HLE.out true a haN) (fun z hz => ((HTT.out a haN z).1 hz).1) ((HT.out.1.bel.cell (p := ⟨ga, 0, none⟩) (cell_lt HGA.out)).trans HGA.out) cl0 (fun i hi => (HT.out.1.bel.cell (p := ⟨gw, i, none⟩) (cell_lt (HCW.out i hi))).trans (HCW.out i hi)) hk hkq hkn)
        obtain ⟨lb, rfl, hlb3, hlc⟩ := hLs (by omega)
        have cx : wr.cell? ⟨lb, k, none⟩ = some (.int .i64 (x : Int)) := by rw [hx]; exact (hBW.cell (p := ⟨lb, k, none⟩) hlb3).trans (hlc k hk)
        have hCl9 : C.length ≤ 1000 := by omega
        clear hlc hLs hv0 hkq hkn hkm hd hay hyd hyN hx hxm hBW
        have HRQ : Hid (∀ q, CtM wB ((wr.drewN q).alloc (.cells #[.int .i64 (x : Int)] 3)) gc cc glf ((l : Int) - (C.length : Int)) C) := Lib.hid fun q => HT.out.1.below ((show Below wr.heap.size wr (wr.drewN q) from ⟨rfl, rfl, rfl, Nat.le_refl _, fun _ _ => rfl⟩).alloc (Nat.le_refl _) _)
        have HNW : Hid (∀ q, ∀ (k : Nat) (u : Value), [Value.int .i64 (x : Int)][k]? = some u → ((wr.drewN q).alloc (.cells #[.int .i64 (x : Int)] 3)).cell? ((⟨(wr.drewN q).heap.size, 0, none⟩ : Addr).add k) = some u) := Lib.hid fun q => one_new (x : Int) (wr.drewN q)
        go_wp2_with (first | (go_at_call 33; refine HFI.out.mono ?_; rintro e w5 ⟨rfl, q, rfl⟩) | (at_builtin; refine wpList_append_lies _ rfl _ _ 33 rfl wB.heap.size 3 i0 (.int .i64 0) 1 8 Try.underlying33 hi0 hy0 hy1 hy2 rfl (by decide) _ C.length (rowN C) rfl (HRQ.out q).cyc ⟨(wr.drewN q).heap.size, 0, none⟩ 1 1 [.int .i64 (x : Int)] (by simp [Act.eval]) rfl (HNW.out q) (by intro u hu; simp at hu; subst hu; rfl) (by omega) (by unfold maxLen; omega) (by omega) (HRQ.out q).bel.size _ rfl ?_; intro g7 c7 w7 ho7 hg7 hat7 hl7; obtain ⟨p1, p2, p3⟩ := (HRQ.out q).push ho7 hg7; have HP1 := Lib.hid p1; have HP2 := Lib.hid p2; have HP3 := Lib.hid p3; have c7l : w7.cell? ⟨glf, 0, none⟩ = some (.int .i64 ((l : Int) - (C.length : Int))) := (by rw [cell_of_row _ _ _ _ _ _ HP1.out]; rfl); clear ho7 hg7 hat7 hl7 p1 p2 p3))
        have HCB := Lib.hid (CtM.box (left := (l : Int) - (C.length : Int) - 1) HP2.out HP3.out)
        have HEL : Hid ((l : Int) - (C.length : Int) - 1 = (l : Int) - ((C ++ [x]).length : Int)) := Lib.hid (by simp; omega)
        go_roundg (l - (C.length + 1))
        case measure => omega
        case rel => exact ⟨g7, c7, w7.heap.size, x, C ++ [x], by simp, by simp, rfl, rfl, Lib.hid ⟨by rw [← HEL.out]; exact HCB.out, HGS.out, by rw [List.length_append, List.length_singleton, Nat.add_sub_cancel, getD_last]⟩⟩
      · have hCe : C.length = l := by omega
        have hlt' : ¬ (0 : Int) < (l : Int) - (C.length : Int) := by omega
        have hlt2 : (l : Int) - (C.length : Int) = 0 := by omega
        rw [hlt2] at cl0
        have HF : Hid (CtP A N st bound w (.returned (.slice (some ⟨gc, 0, none⟩) C.length cc)) wr) := Lib.hid ⟨C, _, _, rfl, LsS.of HT.out.1.cyc, .inr ⟨hC0, by omega, by rw [hCe]; exact HCL.out, by rw [hCe]; exact HMI.out, by have := HT.out.2.1; rw [← hCe] at this; exact this⟩, HBX.out.trans (HT.out.1.bel.mono HBX.out.size)⟩
        clear hlt hlt' hlt2 hCe
        go_wp2
        go_ret
        exact HF.out
  · have HF : Hid (CtP A N st bound w (.returned (.slice none 0 0)) (w2.alloc (.cells #[.slice none 0 0] 33))) := Lib.hid ⟨[], none, 0, rfl, ⟨none, 0, rfl, fun h => absurd h (Nat.lt_irrefl _)⟩, .inl ⟨rfl, hno⟩, hb.alloc hb.size _⟩
    clear hno hb HW
    go_wp2
    go_ret
    exact HF.out
end Go.Proofs.Ytcolcgkfppjflaa
