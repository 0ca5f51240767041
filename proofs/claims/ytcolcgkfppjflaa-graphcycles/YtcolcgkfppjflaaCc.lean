/-
  Contract of wayBack.
-/
import Derived.Test.YtcolcgkfppjflaaCa
import Derived.Test.YtcolcgkfppjflaaCb
import Derived.Test.YtcolcgkfppjflaaU
import Derived.BigQuiet
namespace Go.Proofs.Ytcolcgkfppjflaa
open Go.ChangeShapes Go.WideShapes Go.ChangeAt Go.RowKit
set_option linter.unusedVariables false

def rowW (W : Nat → Int) (N : Nat) : List Value := rowV (fun i => .int .i64 (W i)) N
theorem rowW_set (W : Nat → Int) (N i : Nat) (k : Int) : (rowW W N).set i (.int .i64 k) = rowW (fun x => if x = i then k else W x) N := by
  unfold rowW
  rw [rowV_set]
  unfold rowV
  apply List.map_congr_left
  intro x _
  show _ = Value.int .i64 (if x = i then k else W x)
  by_cases h : x = i
  · rw [if_pos h, if_pos h]
  · rw [if_neg h, if_neg h]
theorem rowR_full (N : Nat) : rowR N N = rowW (fun _ => -1) N := by
  unfold rowR rowW rowV
  rw [Nat.sub_self, List.map_const', List.length_range]
  simp
/-- the two rows of the search -/
structure BfM (w0 w : World) (gw gl cl N : Nat) (Q : List Nat) (W : Nat → Int) : Prop where
  wts : w.ownsRow w0.heap.size 3 1 (.slice (some ⟨gw, 0, none⟩) N N) N (rowW W N)
  ord : w.ownsRow w0.heap.size 3 1 (.slice (some ⟨gl, 0, none⟩) Q.length cl) Q.length (rowN Q)
  ne : gw ≠ gl
  bel : Below w0.heap.size w0 w
section
variable {w0 w w' : World} {gw gl cl N : Nat} {Q : List Nat} {W : Nat → Int}
theorem BfM.below (h : BfM w0 w gw gl cl N Q W) (hb : Below w.heap.size w w') : BfM w0 w' gw gl cl N Q W :=
  ⟨own_at h.wts (hb.block _ (h.wts.lt gw rfl).2), own_at h.ord (hb.block _ (h.ord.lt gl rfl).2), h.ne, h.bel.trans (hb.mono h.bel.size)⟩
theorem BfM.put (h : BfM w0 w gw gl cl N Q W) (i : Nat) (k : Int) : BfM w0 (w.setCell ⟨gw, i, none⟩ (.int .i64 k)) gw gl cl N Q (fun x => if x = i then k else W x) := by
  have h1 := (h.wts.stored i (.int .i64 k)).1
  rw [rowW_set] at h1
  exact ⟨h1, own_at h.ord (Below.heap_setCell _ _ _ _ (fun e => h.ne e.symm)), h.ne, h.bel.setCell (by exact (h.wts.lt gw rfl).1) _⟩
theorem BfM.push (h : BfM w0 w gw gl cl N Q W) {v g7 c7 : Nat} (ho : w'.ownsRow w0.heap.size 3 1 (.slice (some ⟨g7, 0, none⟩) (Q.length + 1) c7) (Q.length + 1) (rowN Q ++ [.int .i64 (v : Int)])) (hg : w.grownBy w' (some gl)) (hat : some gl = some g7 ∨ g7 = w.heap.size) : BfM w0 w' gw g7 c7 N (Q ++ [v]) W := by
  refine ⟨own_at h.wts (hg.block gw (h.wts.lt gw rfl).2 (fun e => h.ne (Option.some.inj e))), ?_, ?_, h.bel.grown hg h.bel.size (fun k e => by have := (h.ord.lt gl rfl).1; have := Option.some.inj e; omega)⟩
  · rw [rowN_snoc, List.length_append, List.length_singleton]; exact ho
  · rcases hat with e | e
    · have := Option.some.inj e; have := h.ne; omega
    · have := (h.wts.lt gw rfl).2; omega
theorem BfM.cellW (h : BfM w0 w gw gl cl N Q W) {i : Nat} (hi : i < N) : w.cell? ⟨gw, i, none⟩ = some (.int .i64 (W i)) := (h.wts.cellAt i (by omega)).trans (rowV_get _ _ _ hi)
theorem BfM.cellQ (h : BfM w0 w gw gl cl N Q W) {i : Nat} (hi : i < Q.length) : w.cell? ⟨gl, i, none⟩ = some (.int .i64 ((Q.getD i 0 : Nat) : Int)) := (h.ord.cellAt i (by omega)).trans (rowN_get Q i hi)
end
/-- what wayBack answers -/
def WbP (A : Nat → Nat → Prop) (N st : Nat) (bound : Int) (w : World) (e : Ending) (w' : World) : Prop :=
  ((∃ (l gw : Nat) (W : Nat → Int), e = .returned (.tuple #[.int .i64 ((l : Nat) : Int), .slice (some ⟨gw, 0, none⟩) N N]) ∧ 1 ≤ l ∧ (l : Int) < bound ∧ Cl A N st l ∧ (∀ k, k < l → ¬ Cl A N st k) ∧ gw < w'.heap.size ∧ (∀ i, i < N → w'.cell? ⟨gw, i, none⟩ = some (.int .i64 (W i))) ∧ ∀ x d, x < N → d < l → (W x = (d : Int) ↔ Ds A N st x d)) ∨
    (e = .returned (.tuple #[.int .i64 0, .slice none 0 0]) ∧ ∀ l : Nat, (l : Int) < bound → ¬ Cl A N st l)) ∧ Below w.heap.size w w'

set_option maxRecDepth 100000 in
set_option maxHeartbeats 4000000 in
theorem wayBack_any (g N st : Nat) (bound : Int) (gb : Bool → Nat) (L : Bool → Nat → List Nat) (A : Nat → Nat → Prop) (w : World) (hN : N ≤ 400) (hst : st < N) (hbd : 0 ≤ bound ∧ bound ≤ 1000) (hg0 : w.cell? ⟨g, 0, none⟩ = some (.slice (some ⟨gb true, 0, none⟩) N N)) (hg1 : w.cell? ⟨g, 1, none⟩ = some (.slice (some ⟨gb false, 0, none⟩) N N)) (hR : NetR w gb N L)
    (hfr : ∀ i, i < N → ∀ j, j ∈ L false i ↔ j < N ∧ A j i) (hle : ∀ s i, i < N → (L s i).length ≤ 100000) :
    Calls Try.prog 32 #[.pointer (some ⟨g, 0, none⟩), .int .i64 (st : Int), .int .i64 bound] w (WbP A N st bound w) := by
  obtain ⟨i0, hi0, hy0, hy1, hy2⟩ := info_parts info3
  have HR := Lib.hid hR
  have HFR := Lib.hid hfr
  have HLE := Lib.hid hle
  have HG1 := Lib.hid hg1
  have hst' : (st : Int) < (N : Int) := by omega
  have hb1 : Below w.heap.size w (w.alloc (.cells #[.int .i64 (-1)] 3)) := (Below.refl _ _).alloc (Nat.le_refl _) _
  have c0 := (hb1.cell (p := ⟨g, 0, none⟩) (cell_lt hg0)).trans hg0
  have HRP := Lib.hid (rep_any w.heap.size N (w.alloc (.cells #[.int .i64 (-1)] 3)) (by omega) hN (by rw [cell_of_row _ _ _ _ _ _ (heap_alloc_new w _)]; rfl))
  have HB1 := Lib.hid hb1
  clear hb1 hR hfr hle hg1 hg0
  go_enter Try.func32, Try.ntmps32
  go_wp2_with fail
  refine HRP.out.mono ?_
  rintro e w2 ⟨gw, rfl, hgw, hlw, hb⟩
  have HB2 := Lib.hid (HB1.out.trans (hb.mono HB1.out.size))
  have HO : Hid (w2.ownsRow w.heap.size 3 1 (.slice (some ⟨gw, 0, none⟩) N N) N (rowW (fun _ => -1) N)) := Lib.hid ⟨by unfold rowW; rw [rowV_length]; omega, .inr ⟨gw, N, (rowR N N).toArray, rfl, Nat.le_trans HB1.out.size hlw, hgw, Nat.le_refl _, by unfold maxLen; omega, by have := rowR_length N N (Nat.le_refl _); simp; omega, by rw [← rowR_full, List.take_of_length_le]; have := rowR_length N N (Nat.le_refl _); simp; omega⟩⟩
  have cw : w2.cell? ⟨gw, st, none⟩ = some (.int .i64 (-1)) := (HO.out.cellAt st (by omega)).trans (rowV_get _ _ _ hst)
  have fw := HO.out.frozenAt st
  have hgl : gw < w2.heap.size := blk_lt hgw
  have HS : Hid (BfM w ((w2.setCell ⟨gw, st, none⟩ (.int .i64 0)).alloc (.cells #[.int .i64 (st : Int)] 3)) gw w2.heap.size 1 N [st] (fun x => if x = st then 0 else -1)) := Lib.hid (by
    have h1 := (HO.out.stored st (.int .i64 0)).1
    rw [rowW_set] at h1
    have h2 : Below (w2.setCell ⟨gw, st, none⟩ (.int .i64 0)).heap.size (w2.setCell ⟨gw, st, none⟩ (.int .i64 0)) ((w2.setCell ⟨gw, st, none⟩ (.int .i64 0)).alloc (.cells #[.int .i64 (st : Int)] 3)) := (Below.refl _ _).alloc (Nat.le_refl _) _
    have h3 : Below w.heap.size w (w2.setCell ⟨gw, st, none⟩ (.int .i64 0)) := HB2.out.setCell (by exact (HO.out.lt gw rfl).1) _
    refine ⟨own_at h1 (h2.block _ (by simpa using hgl)), ⟨rfl, .inr ⟨w2.heap.size, 1, #[.int .i64 (st : Int)], rfl, HB2.out.size, ?_, Nat.le_refl _, by unfold maxLen; omega, rfl, rfl⟩⟩, by omega, h3.trans (h2.mono h3.size)⟩
    have := heap_alloc_new (w2.setCell ⟨gw, st, none⟩ (.int .i64 0)) (.cells #[.int .i64 (st : Int)] 3)
    simpa using this)
  clear hgw hlw hb HRP HB1 HB2 c0 hgl
  go_wp2
  clear cw fw
  obtain ⟨g1, eg1⟩ : ∃ g1, g1 = w2.heap.size := ⟨_, rfl⟩
  obtain ⟨wc, ewc⟩ : ∃ wc, wc = (w2.setCell ⟨gw, st, none⟩ (.int .i64 0)).alloc (.cells #[.int .i64 (st : Int)] 3) := ⟨_, rfl⟩
  have HS1 : Hid (BfM w wc gw g1 1 N [st] (fun x => if x = st then 0 else -1)) := Lib.hid (by rw [ewc, eg1]; exact HS.out)
  rw [← ewc, ← eg1]
  clear HS HO ewc eg1
  go_loopg [9, 10, 11, 13] N (fun gk line at_ _ _ wr => ∃ (k gl cl : Nat) (Q : List Nat) (W : Nat → Int), k ≤ Q.length ∧ gk = N - k ∧ at_ = .int .i64 (k : Int) ∧ line = .slice (some ⟨gl, 0, none⟩) Q.length cl ∧ Hid (BfM w wr gw gl cl N Q W ∧ Bf A N st (L false) k Q W ∧ (k < Q.length → ∀ x ∈ Q, W x ≤ W (Q.getD k 0) + 1) ∧ ∀ x, x < N → W x ≤ (Q.length : Int)))
  case atStart => exact ⟨0, g1, 1, [st], _, Nat.zero_le _, rfl, rfl, rfl, Lib.hid ⟨HS1.out, Bf.start hst, fun _ x hx => by rw [List.mem_singleton.1 hx]; show (if st = st then (0 : Int) else -1) ≤ (if st = st then (0 : Int) else -1) + 1; simp, fun x hx => by show (if x = st then (0 : Int) else -1) ≤ _; split <;> simp⟩⟩
  case round =>
    obtain ⟨k, gl, cl, Q, W, hk, rfl, rfl, rfl, HT⟩ := hrel
    clear HS1
    have hQN : Q.length ≤ N := pigeon N Q HT.out.2.1.nd HT.out.2.1.lt
    by_cases hkQ : k < Q.length
    · have hkQ' : (k : Int) < (Q.length : Int) := by omega
      obtain ⟨u, hu⟩ : ∃ u, u = Q.getD k 0 := ⟨_, rfl⟩
      have huQ : u ∈ Q := by rw [hu, List.getD_eq_getElem?_getD, List.getElem?_eq_getElem hkQ]; exact List.getElem_mem _
      have huN := HT.out.2.1.lt u huQ
      have huN' : (u : Int) < (N : Int) := by omega
      have hu0 := (HT.out.2.1.mem u huN).1 huQ
      have hub := HT.out.2.2.2 u huN
      obtain ⟨d, hd⟩ : ∃ d : Nat, W u = (d : Int) := ⟨(W u).toNat, by omega⟩
      have hdb : d ≤ 400 := by omega
      have cq := HT.out.1.cellQ hkQ
      rw [← hu] at cq
      have cw := HT.out.1.cellW huN
      rw [hd] at cw
      have HU := Lib.hid hu
      have HD := Lib.hid hd
      clear hu hd hu0 hub huQ
      by_cases hbo : bound ≤ (d : Int) + 1
      · have HNO : Hid (∀ l : Nat, (l : Int) < bound → ¬ Cl A N st l) := Lib.hid fun l hl => HT.out.2.1.none HFR.out hst hkQ l (by rw [← HU.out, HD.out]; omega)
        go_wp2
        go_ret2
        exact ⟨.inr ⟨rfl, HNO.out⟩, HT.out.1.bel⟩
      · have hbo' : ¬ bound ≤ (d : Int) + 1 := hbo
        have hbo2 : (d : Int) + 1 < bound := by omega
        obtain ⟨v, hv0, sp, cpv, rfl, hLs⟩ := HR.out.row false u huN
        have hv := (HT.out.1.bel.cell (p := ⟨gb false, u, none⟩) (HR.out.lt false)).trans hv0
        have cg := (HT.out.1.bel.cell (p := ⟨g, 1, none⟩) (cell_lt HG1.out)).trans HG1.out
        have HLS := Lib.hid hLs
        clear hLs hv0
        go_wp2
        go_quiet (fail)
        go_wp2
        clear hv cg cq cw
        obtain ⟨len, hlen⟩ : ∃ len, len = (L false u).length := ⟨_, rfl⟩
        have hle2 : len ≤ 100000 := by rw [hlen]; exact HLE.out false u huN
        rw [← hlen]
        have HLN := Lib.hid hlen
        clear hlen
        have HM0 : Hid (∀ q, BfM w (wr.drewN q) gw gl cl N Q W) := Lib.hid fun q => HT.out.1.below ⟨rfl, rfl, rfl, Nat.le_refl _, fun _ _ => rfl⟩
        go_loopg [9, 13, 54] len (fun gk line _ i wr => ∃ (s gl cl : Nat) (Q : List Nat) (W : Nat → Int), s ≤ len ∧ gk = len - s ∧ i = .int .i64 (s : Int) ∧ line = .slice (some ⟨gl, 0, none⟩) Q.length cl ∧ Hid (BfM w wr gw gl cl N Q W ∧ Bf A N st (L false) k Q W ∧ (∀ x ∈ Q, W x ≤ W (Q.getD k 0) + 1) ∧ (∀ x, x < N → W x ≤ (Q.length : Int)) ∧ k < Q.length ∧ Q.getD k 0 = u ∧ W u = (d : Int) ∧ ∀ j, j < s → (L false u).getD j 0 ≠ st ∧ 0 ≤ W ((L false u).getD j 0)))
        case atStart => exact ⟨0, gl, cl, Q, W, Nat.zero_le _, rfl, rfl, rfl, Lib.hid ⟨HM0.out _, HT.out.2.1, HT.out.2.2.1 hkQ, HT.out.2.2.2, hkQ, HU.out.symm, HD.out, fun j hj => absurd hj (Nat.not_lt_zero _)⟩⟩
        case round =>
          obtain ⟨s, gl2, cl2, Q2, W2, hs, rfl, rfl, rfl, HI⟩ := hrel
          obtain ⟨hM, hB, hfar, hub, hk2, hku, hdu, hj⟩ := HI.out
          have HMM := Lib.hid hM
          have HBB := Lib.hid hB
          have HFA := Lib.hid hfar
          have HUB := Lib.hid hub
          have HKU := Lib.hid hku
          have HDU := Lib.hid hdu
          have HJ := Lib.hid hj
          have hQ2 : Q2.length ≤ N := pigeon N Q2 HBB.out.nd HBB.out.lt
          clear hM hB hfar hub hku hdu hj HI HM0 HT
          by_cases hsl : s < len
          · have hsl' : (s : Int) < (len : Int) := by omega
            obtain ⟨lb, rfl, hlt3, hlc⟩ := HLS.out (by have := HLN.out; omega)
            obtain ⟨p, hp⟩ : ∃ p, p = (L false u).getD s 0 := ⟨_, rfl⟩
            have hpm : p ∈ L false u := by
              rw [hp, List.getD_eq_getElem?_getD, List.getElem?_eq_getElem (by have := HLN.out; omega)]
              exact List.getElem_mem _
            have hpN := ((HFR.out u huN p).1 hpm).1
            have hpN' : (p : Int) < (N : Int) := by omega
            have cl3 : wr.cell? ⟨lb, s, none⟩ = some (.int .i64 (p : Int)) := by
              rw [hp, HMM.out.bel.cell (p := ⟨lb, s, none⟩) hlt3]
              exact hlc s (by have := HLN.out; omega)
            have HPM := Lib.hid hpm
            have HP := Lib.hid hp
            clear hpm hp hlc
            by_cases hps : p = st
            · subst hps
              have HF : Hid (WbP A N p bound w (.returned (.tuple #[.int .i64 ((d : Int) + 1), .slice (some ⟨gw, 0, none⟩) N N])) wr) := Lib.hid ⟨.inl ⟨d + 1, gw, W2, rfl, by omega, by omega, ⟨u, d, rfl, huN, ((HFR.out u huN p).1 HPM.out).2, by have := (HBB.out.ds u huN (by rw [HDU.out]; omega)).1; rw [HDU.out] at this; simpa using this⟩, fun l hl => HBB.out.none HFR.out hst hk2 l (by rw [HKU.out, HDU.out]; omega), (HMM.out.wts.lt gw rfl).2, fun i hi => HMM.out.cellW hi, fun x e hx he => HBB.out.known HFR.out hk2 x e hx (by rw [HKU.out, HDU.out]; omega)⟩, HMM.out.bel⟩
              have hpp : ((p : Int) == (p : Int)) = true := by simp
              go_wp2
              go_ret2
              exact HF.out
            · have hps' : ((p : Int) == (st : Int)) = false := by simp; omega
              have hps2 : ¬ (p : Int) = (st : Int) := by omega
              have cwp := HMM.out.cellW hpN
              have fwp := HMM.out.wts.frozenAt p
              by_cases hw : W2 p < 0
              · have hwn := HBB.out.neg p hpN hw
                rw [hwn] at cwp
                have HAD := Lib.hid (HBB.out.add HFR.out hk2 HFA.out (by rw [HKU.out]; exact HPM.out) hps hw)
                have hb1 : Below (wr.setCell ⟨gw, p, none⟩ (.int .i64 ((d : Int) + 1))).heap.size (wr.setCell ⟨gw, p, none⟩ (.int .i64 ((d : Int) + 1))) ((wr.setCell ⟨gw, p, none⟩ (.int .i64 ((d : Int) + 1))).alloc (.cells #[.int .i64 (p : Int)] 3)) := (Below.refl _ _).alloc (Nat.le_refl _) _
                have HR2 := Lib.hid ((HMM.out.put p ((d : Int) + 1)).below hb1)
                have HNW := Lib.hid (one_new (p : Int) (wr.setCell ⟨gw, p, none⟩ (.int .i64 ((d : Int) + 1))))
                have hpu : p ≠ u := fun e => by rw [e, HDU.out] at hw; omega
                have HPU := Lib.hid hpu
                clear hps hw hwn hb1 hpu
                go_wp2_with (at_builtin; refine wpList_append_lies _ rfl _ _ 33 rfl w.heap.size 3 i0 (.int .i64 0) 1 8 Try.underlying33 hi0 hy0 hy1 hy2 rfl (by decide) _ Q2.length (rowN Q2) rfl HR2.out.ord ⟨(wr.setCell ⟨gw, p, none⟩ (.int .i64 ((d : Int) + 1))).heap.size, 0, none⟩ 1 1 [.int .i64 (p : Int)] (by simp [Act.eval]) rfl HNW.out (by intro u hu; simp at hu; subst hu; rfl) (by omega) (by unfold maxLen; omega) (by omega) HR2.out.bel.size _ rfl ?_)
                intro g7 c7 w7 ho7 hg7 hat7 hl7
                have HP7 := Lib.hid (HR2.out.push ho7 hg7 (hat7.imp id (fun e => e.trans (by simp))))
                have HFIN : Hid (BfM w w7 gw g7 c7 N (Q2 ++ [p]) (fun x => if x = p then (d : Int) + 1 else W2 x) ∧ Bf A N st (L false) k (Q2 ++ [p]) (fun x => if x = p then (d : Int) + 1 else W2 x) ∧ (∀ x ∈ Q2 ++ [p], (fun x => if x = p then (d : Int) + 1 else W2 x) x ≤ (fun x => if x = p then (d : Int) + 1 else W2 x) ((Q2 ++ [p]).getD k 0) + 1) ∧ (∀ x, x < N → (fun x => if x = p then (d : Int) + 1 else W2 x) x ≤ ((Q2 ++ [p]).length : Int)) ∧ k < (Q2 ++ [p]).length ∧ (Q2 ++ [p]).getD k 0 = u ∧ (fun x => if x = p then (d : Int) + 1 else W2 x) u = (d : Int) ∧ ∀ j, j < s + 1 → (L false u).getD j 0 ≠ st ∧ 0 ≤ (fun x => if x = p then (d : Int) + 1 else W2 x) ((L false u).getD j 0)) := Lib.hid (by
                  have h1 := HAD.out
                  rw [HKU.out, HDU.out] at h1
                  have hg : (Q2 ++ [p]).getD k 0 = u := by rw [getD_snoc Q2 p k hk2]; exact HKU.out
                  have hud : (if u = p then (d : Int) + 1 else W2 u) = (d : Int) := by rw [if_neg (fun e => HPU.out e.symm)]; exact HDU.out
                  refine ⟨HP7.out, h1.1, fun x hx => ?_, fun x hx => ?_, by simp; omega, hg, hud, fun j hj => ?_⟩
                  · show (if x = p then (d : Int) + 1 else W2 x) ≤ (if (Q2 ++ [p]).getD k 0 = p then (d : Int) + 1 else W2 ((Q2 ++ [p]).getD k 0)) + 1
                    rw [hg, hud]; exact h1.2 x hx
                  · show (if x = p then (d : Int) + 1 else W2 x) ≤ _
                    have h2 := HUB.out x hx
                    have h3 := HUB.out u huN
                    rw [HDU.out] at h3
                    rw [List.length_append, List.length_singleton]
                    split <;> omega
                  · show _ ∧ 0 ≤ (if (L false u).getD j 0 = p then (d : Int) + 1 else W2 ((L false u).getD j 0))
                    by_cases h4 : j < s
                    · have := HJ.out j h4
                      refine ⟨this.1, ?_⟩
                      split
                      · omega
                      · exact this.2
                    · have : j = s := by omega
                      rw [this, ← HP.out, if_pos rfl]
                      exact ⟨fun e => by rw [e] at hps2; exact hps2 rfl, by omega⟩)
                clear ho7 hg7 hat7 hl7 cwp fwp cl3 HP7 HAD HR2 HNW
                go_wp2
                go_roundg (len - (s + 1))
                case measure => omega
                case rel => exact ⟨s + 1, g7, c7, Q2 ++ [p], _, by omega, rfl, by go_num, by simp, HFIN⟩
              · have hw' : decide (W2 p < 0) = false := by simp; omega
                have HN : Hid (∀ j, j < s + 1 → (L false u).getD j 0 ≠ st ∧ 0 ≤ W2 ((L false u).getD j 0)) := Lib.hid fun j hj => by
                  by_cases h4 : j < s
                  · exact HJ.out j h4
                  · have : j = s := by omega
                    rw [this, ← HP.out]
                    exact ⟨hps, by omega⟩
                generalize hWp : W2 p = wp at cwp hw'
                clear hps hw hWp
                go_wp2
                go_roundg (len - (s + 1))
                case measure => omega
                case rel => exact ⟨s + 1, gl2, cl2, Q2, W2, by omega, rfl, by go_num, rfl, Lib.hid ⟨HMM.out, HBB.out, HFA.out, HUB.out, hk2, HKU.out, HDU.out, HN.out⟩⟩
          · obtain rfl : s = len := by omega
            have HNX : Hid (Bf A N st (L false) (k + 1) Q2 W2) := Lib.hid (HBB.out.next hk2 (fun p hp => by
              rw [HKU.out] at hp
              obtain ⟨j, hj, e⟩ := List.getElem_of_mem hp
              have := HJ.out j (by have := HLN.out; omega)
              rw [List.getD_eq_getElem?_getD, List.getElem?_eq_getElem hj] at this
              rw [← e]; exact this))
            have HFX : Hid (k + 1 < Q2.length → ∀ x ∈ Q2, W2 x ≤ W2 (Q2.getD (k + 1) 0) + 1) := Lib.hid fun h x hx => by
              have h1 := HFA.out x hx
              have h2 := HBB.out.up k (k + 1) (by omega) h
              omega
            go_wp2
            go_roundg (N - (k + 1))
            case measure => omega
            case rel => exact ⟨k + 1, gl2, cl2, Q2, W2, by omega, rfl, by go_num, rfl, Lib.hid ⟨HMM.out, HNX.out, HFX.out, HUB.out⟩⟩
    · obtain rfl : k = Q.length := by omega
      have HNO : Hid (∀ l : Nat, (l : Int) < bound → ¬ Cl A N st l) := Lib.hid fun l _ => HT.out.2.1.end HFR.out hst l
      go_wp2
      go_ret2
      exact ⟨.inr ⟨rfl, HNO.out⟩, HT.out.1.bel⟩
end Go.Proofs.Ytcolcgkfppjflaa
