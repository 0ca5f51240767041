/-
  Contract of reached.
-/
import Derived.Test.YtcolcgkfppjflaaL
namespace Go.Proofs.Ytcolcgkfppjflaa
open Go.ChangeShapes Go.WideShapes Go.ChangeAt Go.RowKit
set_option linter.unusedVariables false

theorem own_cap {w : World} {base e size g n cap : Nat} {xs : List Value} (h : w.ownsRow base e size (.slice (some ⟨g, 0, none⟩) n cap) n xs) : n ≤ cap := by
  rcases h.2 with ⟨h0, _⟩ | ⟨g', cap', cur, hv, hg, hh, h1, _⟩
  · cases h0
  · injection hv with _ _ hv2
    rw [hv2]; exact h1
def ReaP (L : Nat → List Nat) (N st : Nat) (w : World) (e : Ending) (w' : World) : Prop :=
  ∃ gm M, e = .returned (.slice (some ⟨gm, 0, none⟩) N N) ∧ MetS w' w.heap.size gm N M ∧ (∀ x, x < N → (M x = true ↔ Way (fun i j => j ∈ L i) N st x)) ∧ Below w.heap.size w w'

set_option maxRecDepth 100000 in
set_option maxHeartbeats 4000000 in
theorem reached_any (g N st : Nat) (gb : Bool → Nat) (L : Bool → Nat → List Nat) (w : World) (hN : N ≤ 400) (hst : st < N) (hg : w.cell? ⟨g, 0, none⟩ = some (.slice (some ⟨gb true, 0, none⟩) N N)) (hR : NetR w gb N L) (hL : ∀ i, i < N → ∀ j ∈ L true i, j < N) (hle : ∀ i, i < N → (L true i).length ≤ 100000) :
    Calls Try.prog 25 #[.pointer (some ⟨g, 0, none⟩), .int .i64 (st : Int)] w (ReaP (L true) N st w) := by
  obtain ⟨i0, hi0, hy0, hy1, hy2⟩ := info_parts info3
  have HR := Lib.hid hR
  have HL := Lib.hid hL
  have HLE := Lib.hid hle
  have HG := Lib.hid hg
  obtain ⟨md, hmd⟩ : ∃ md, md = madeCells #[.bool false] N := ⟨_, rfl⟩
  have hmb := makeB N (by omega) md hmd
  have HST : Hid (RchR w ((w.alloc (.cells md 4)).alloc (.cells #[.int .i64 (st : Int)] 3)) w.heap.size (w.heap.size + 1) 1 N [st] (fun _ => false)) := Lib.hid (by
    have h1 : Below w.heap.size w (w.alloc (.cells md 4)) := (Below.refl _ _).alloc (Nat.le_refl _) _
    have h2 : Below (w.alloc (.cells md 4)).heap.size (w.alloc (.cells md 4)) ((w.alloc (.cells md 4)).alloc (.cells #[.int .i64 (st : Int)] 3)) := (Below.refl _ _).alloc (Nat.le_refl _) _
    refine ⟨?_, ⟨rfl, .inr ⟨w.heap.size + 1, 1, #[.int .i64 (st : Int)], rfl, by omega, ?_, Nat.le_refl _, by unfold maxLen; omega, rfl, rfl⟩⟩, h1.trans (h2.mono h1.size)⟩
    · have := MetS.made (w := w) (N := N) hN (Nat.le_refl w.heap.size)
      rw [← hmd] at this
      exact this.keep (h2.block _ (by simp))
    · have := heap_alloc_new (w.alloc (.cells md 4)) (.cells #[.int .i64 (st : Int)] 3)
      simpa using this)
  have HIN : Hid (RchI (L true) N st (fun _ => False) [st] (fun _ => false)) := Lib.hid ⟨fun x _ h => (by cases h), fun x hx => by obtain rfl := List.mem_singleton.1 hx; exact ⟨hst, .inl rfl⟩, fun y _ h => by
    rcases h with rfl | h
    · exact .inl (List.mem_singleton.2 rfl)
    · cases h⟩
  clear hmd hR hL hle
  go_enter Try.func25, Try.ntmps25
  go_wp2
  clear hmb hg
  obtain ⟨gm, egm⟩ : ∃ gm, gm = w.heap.size := ⟨_, rfl⟩
  obtain ⟨wc, ewc⟩ : ∃ wc, wc = (w.alloc (.cells md 4)).alloc (.cells #[.int .i64 (st : Int)] 3) := ⟨_, rfl⟩
  obtain ⟨g1, eg1⟩ : ∃ g1, g1 = w.heap.size + 1 := ⟨_, rfl⟩
  have HST2 : Hid (RchR w wc gm g1 1 N [st] (fun _ => false)) := Lib.hid (by rw [ewc, egm, eg1]; exact HST.out)
  rw [← ewc, ← eg1, ← egm]
  clear HST ewc eg1 egm
  go_loopg [6] (2 * N + 1) (fun k v wr => ∃ (gl cp : Nat) (S : List Nat) (M : Nat → Bool), v = .slice (some ⟨gl, 0, none⟩) S.length cp ∧ Hid (RchR w wr gm gl cp N S M ∧ RchI (L true) N st (fun _ => False) S M ∧ 2 * falses M N + S.length ≤ k ∧ k ≤ 2 * N + 1))
  case atStart => exact ⟨g1, 1, [st], fun _ => false, rfl, Lib.hid ⟨HST2.out, HIN.out, by have := falses_le (fun _ => false) N; simp; omega, Nat.le_refl _⟩⟩
  case round =>
    obtain ⟨gl, cp, S, M, rfl, HT⟩ := hrel
    clear HST2 HIN
    by_cases hS : S = []
    · subst hS
      go_wp2
      go_ret
      exact ⟨gm, M, rfl, HT.out.1.met, HT.out.2.1.fin, HT.out.1.bel⟩
    · obtain ⟨S', nd, rfl⟩ : ∃ S' nd, S = S' ++ [nd] := ⟨S.dropLast, S.getLast hS, (List.dropLast_concat_getLast hS).symm⟩
      have HP := Lib.hid HT.out.2.1.pop
      have hnd := HP.out.2.1
      have hnd' : (nd : Int) < (N : Int) := by omega
      have hlen : (S' ++ [nd]).length = S'.length + 1 := by simp
      rw [hlen]
      have hSl : S'.length ≤ 100000 := by
        have := HT.out.2.2
        rw [hlen] at this
        omega
      have cT : wr.cell? ⟨gl, S'.length, none⟩ = some (.int .i64 (nd : Int)) := by
        have := HT.out.1.stk.cellAt S'.length (by rw [hlen]; omega)
        rw [this, rowN_snoc, List.getElem?_append_right (by rw [rowN_length]; exact Nat.le_refl _), rowN_length]
        simp
      have HCU : Hid (RchR w wr gm gl cp N S' M) := Lib.hid ⟨HT.out.1.met, own_cut (x := .int .i64 (nd : Int)) (rowN_length S') (by have := HT.out.1.stk; rw [hlen, rowN_snoc] at this; exact this), HT.out.1.bel⟩
      have HKK : Hid (2 * falses M N + S'.length + 1 ≤ gk) := Lib.hid (by have := HT.out.2.2.1; rw [hlen] at this; omega)
      have cg : wr.cell? ⟨g, 0, none⟩ = some (.slice (some ⟨gb true, 0, none⟩) N N) := (HT.out.1.bel.cell (p := ⟨g, 0, none⟩) (cell_lt HG.out)).trans HG.out
      obtain ⟨v, hv0, sp, cpv, rfl, hLs⟩ := HR.out.row true nd hnd
      have hv := (HT.out.1.bel.cell (p := ⟨gb true, nd, none⟩) (HR.out.lt true)).trans hv0
      clear hv0
      have HLS := Lib.hid hLs
      have hcp : S'.length + 1 ≤ cp := by have := own_cap HT.out.1.stk; rw [hlen] at this; exact this
      have HK2 := Lib.hid HT.out.2.2.2
      clear hLs HT hS hlen
      go_wp2
      clear cT cg hv hcp hSl
      obtain ⟨wE, ewE⟩ : ∃ wE, wE = wr := ⟨_, rfl⟩
      obtain ⟨len, hlen⟩ : ∃ len, len = (L true nd).length := ⟨_, rfl⟩
      have hle2 : len ≤ 100000 := by rw [hlen]; exact HLE.out nd hnd
      rw [← hlen]
      have HLN := Lib.hid hlen
      clear hlen
      go_loopw [6, 9, 40] (fun v _ i wr => ∃ (s gl cp : Nat) (S : List Nat) (M : Nat → Bool), s ≤ len ∧ i = .int .i64 (s : Int) ∧ v = .slice (some ⟨gl, 0, none⟩) S.length cp ∧ Hid (RchR w wr gm gl cp N S M ∧ RchI (L true) N st (fun y => y = nd) S M ∧ (nd = st ∨ M nd = true) ∧ (∀ j, j < s → M ((L true nd).getD j 0) = true) ∧ 2 * falses M N + S.length + 1 ≤ gk)) (fun _ _ i _ => len - (intOf i).toNat)
      case atStart => exact ⟨0, gl, cp, S', M, Nat.zero_le _, rfl, rfl, Lib.hid ⟨HCU.out, HP.out.1, HP.out.2.2, fun j hj => absurd hj (Nat.not_lt_zero _), HKK.out⟩⟩
      case round =>
        obtain ⟨s, gl2, cp2, S, M2, hs, rfl, rfl, HI⟩ := hrel
        clear HCU HP HKK ewE
        by_cases hsl : s < len
        · have hsl' : (s : Int) < (len : Int) := by omega
          obtain ⟨lb, rfl, hlt, hlc⟩ := HLS.out (by have := HLN.out; omega)
          obtain ⟨y, hy⟩ : ∃ y, y = (L true nd).getD s 0 := ⟨_, rfl⟩
          have hym : y ∈ L true nd := by
            rw [hy, List.getD_eq_getElem?_getD, List.getElem?_eq_getElem (by have := HLN.out; omega)]
            exact List.getElem_mem _
          have hyN := HL.out nd hnd y hym
          have hyN' : (y : Int) < (N : Int) := by omega
          have HYM := Lib.hid hym
          have HY := Lib.hid hy
          have cl : wr.cell? ⟨lb, s, none⟩ = some (.int .i64 (y : Int)) := by
            rw [hy, HI.out.1.bel.cell (p := ⟨lb, s, none⟩) hlt]
            exact hlc s (by have := HLN.out; omega)
          have cm := HI.out.1.met.cell hyN
          have fm := HI.out.1.met.fz y
          clear hym hy hlc
          cases hM : M2 y with
          | true =>
            rw [hM] at cm
            have HN : Hid (∀ j, j < s + 1 → M2 ((L true nd).getD j 0) = true) := Lib.hid fun j hj => by
              by_cases h : j < s
              · exact HI.out.2.2.2.1 j h
              · obtain rfl : j = s := by omega
                rw [← HY.out]; exact hM
            clear hM
            go_wp2
            go_roundw
            case rel => exact ⟨s + 1, gl2, cp2, S, M2, by omega, by go_num, rfl, Lib.hid ⟨HI.out.1, HI.out.2.1, HI.out.2.2.1, HN.out, HI.out.2.2.2.2⟩⟩
            case measure => simp [intOf]; omega
          | false =>
            rw [hM] at cm
            have hS2 : S.length ≤ 2000 := by have := HI.out.2.2.2.2; have := HK2.out; omega
            have hb1 : Below (wr.setCell ⟨gm, y, none⟩ (.bool true)).heap.size (wr.setCell ⟨gm, y, none⟩ (.bool true)) ((wr.setCell ⟨gm, y, none⟩ (.bool true)).alloc (.cells #[.int .i64 (y : Int)] 3)) := (Below.refl _ _).alloc (Nat.le_refl _) _
            have HR2 := Lib.hid ((HI.out.1.mark y).below hb1)
            have HI2 := Lib.hid (HI.out.2.1.add hnd HI.out.2.2.1 hst hyN HYM.out)
            have HF := Lib.hid (falses_set M2 y N hyN hM)
            have HNW := Lib.hid (one_new (y : Int) (wr.setCell ⟨gm, y, none⟩ (.bool true)))
            have HN : Hid ((nd = st ∨ (if nd = y then true else M2 nd) = true) ∧ ∀ j, j < s + 1 → (if (L true nd).getD j 0 = y then true else M2 ((L true nd).getD j 0)) = true) := Lib.hid ⟨HI.out.2.2.1.imp id (fun h => by split; rfl; exact h), fun j hj => by
              by_cases h : j < s
              · have := HI.out.2.2.2.1 j h
                split
                · rfl
                · exact this
              · obtain rfl : j = s := by omega
                rw [← HY.out, if_pos rfl]⟩
            clear hM hb1
            go_wp2_with (at_builtin; refine wpList_append_lies _ rfl _ _ 33 rfl w.heap.size 3 i0 (.int .i64 0) 1 8 Try.underlying33 hi0 hy0 hy1 hy2 rfl (by decide) _ S.length (rowN S) rfl HR2.out.stk ⟨(wr.setCell ⟨gm, y, none⟩ (.bool true)).heap.size, 0, none⟩ 1 1 [.int .i64 (y : Int)] (by simp [Act.eval]) rfl HNW.out (by intro u hu; simp at hu; subst hu; rfl) (by omega) (by unfold maxLen; omega) (by omega) HR2.out.bel.size _ rfl ?_)
            intro g7 c7 w7 ho7 hg7 hat7 hl7
            have HP7 := Lib.hid (HR2.out.push ho7 hg7)
            clear ho7 hg7 hat7 hl7 cm fm cl
            go_wp2
            go_roundw
            case rel => exact ⟨s + 1, g7, c7, S ++ [y], _, by omega, by go_num, by simp, Lib.hid ⟨HP7.out, HI2.out, HN.out.1, HN.out.2, by have := HI.out.2.2.2.2; have := HF.out; simp only [List.length_append, List.length_singleton]; omega⟩⟩
            case measure => simp [intOf]; omega
        · obtain rfl : s = len := by omega
          have HSH : Hid (RchI (L true) N st (fun _ => False) S M2) := Lib.hid (HI.out.2.1.shut (fun z hz => by
            obtain ⟨j, hj, e⟩ := List.getElem_of_mem hz
            have := HI.out.2.2.2.1 j (by have := HLN.out; omega)
            rw [List.getD_eq_getElem?_getD, List.getElem?_eq_getElem hj] at this
            rw [← e]; exact this))
          go_wp2
          go_roundg (2 * falses M2 N + S.length)
          case measure => have := HI.out.2.2.2.2; omega
          case rel => exact ⟨gl2, cp2, S, M2, rfl, Lib.hid ⟨HI.out.1, HSH.out, Nat.le_refl _, by have := HI.out.2.2.2.2; have := HK2.out; omega⟩⟩
end Go.Proofs.Ytcolcgkfppjflaa
