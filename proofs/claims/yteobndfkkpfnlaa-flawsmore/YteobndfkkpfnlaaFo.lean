/-
  FlawsMore's walk.
-/
import Derived.Test.YteobndfkkpfnlaaFn
import Derived.Test.YteobndfkkpfnlaaFj
namespace Go.Proofs.Yteobndfkkpfnlaa
open Go.ChangeShapes Go.WideShapes Go.ChangeAt Go.RowKit
set_option linter.unusedVariables false

set_option maxRecDepth 100000 in
set_option maxHeartbeats 4000000 in
theorem more_law (a : Option Addr) (len cap : Nat) (E : Nat → Ev) (which : Int) (w : World) (hs : EvS w a len E) :
    Calls Try.prog 6 #[.slice a len cap, .int .i64 which] w (fun e w' => e = .returned (.bool true) ∧ Below w.heap.size w w') := by
  have HS := Lib.hid hs
  have HO := Lib.hid (head_any w)
  obtain ⟨q, hq, hqv⟩ := and_mask which 1023 1023 (by decide) (by omega)
  have hqv : bits .and .i64 which 1023 = (q : Int) := hqv
  clear hs
  go_enter Try.func6, Try.ntmps6
  go_wp2_with fail
  refine HO.out.mono ?_
  rintro e w1 ⟨rfl, hb⟩
  have HB1 := Lib.hid hb
  have HG := Lib.hid (big_any a len cap E w1 (HS.out.below hb))
  clear hb HO
  go_wp2_with fail
  refine HG.out.mono ?_
  rintro e w2 ⟨bg, rfl, hbg, hb⟩
  have HB2 := Lib.hid (HB1.out.trans (hb.mono HB1.out.size))
  clear hb HG HB1
  cases bg with
  | true =>
    go_wp2
    go_ret
    exact ⟨rfl, HB2.out⟩
  | false =>
    obtain ⟨hl, hn⟩ := not_big hbg rfl
    have HOF := Lib.hid (of_r a len cap E w2 (fun i hi => Nat.le_trans (hn i hi) (by omega)) (HS.out.below HB2.out))
    clear hbg hn
    go_wp2_with fail
    refine HOF.out.mono ?_
    rintro e w3 ⟨m, sp, cp, ix, er, rfl, hb, hg⟩
    have HB3 := Lib.hid (HB2.out.trans (hb.mono HB2.out.size))
    have hs23 : w2.heap.size ≤ w3.heap.size := hb.size
    have hs02 : w.heap.size ≤ w2.heap.size := HB2.out.size
    clear hb HOF HB2
    by_cases her : er = 0
    · subst her
      obtain ⟨_, hm, hx, ht, V, hrow, hV⟩ := hg rfl
      have HT := Lib.hid ht
      have HX := Lib.hid hx
      have HROW := Lib.hid hrow
      clear hg ht hx hm hV hrow
      generalize (stateAt E len).T = T at *
      have hm4 := HX.out.ok.cnt
      by_cases hm0 : m = 0
      · subst hm0
        go_wp2
        go_ret
        exact ⟨rfl, HB3.out⟩
      · have hm0b : ((m : Int) == 0) = false := beq_eq_false_iff_ne.2 (by omega)
        have hne0 : ¬ ((m : Int) = 0) := by omega
        obtain ⟨g, cp', e, hgl, hgs⟩ := HROW.out.form (by omega)
        injection e with e1 _ _
        subst e1
        obtain ⟨cs, hcs⟩ := own_cells HROW.out rfl
        obtain ⟨b0, off0, e0, _, hcell⟩ := HT.out (by omega)
        injection e0 with e0
        injection e0 with e1 e2
        subst e1 e2
        simp only [Nat.zero_add] at hcell
        have hrem : (q : Int).tmod (m : Int) = ((q % m : Nat) : Int) := by rw [Int.ofNat_tmod]
        obtain ⟨F, hF⟩ : ∃ F, F = q % m := ⟨_, rfl⟩
        rw [← hF] at hrem
        have hFm : F < m := by rw [hF]; exact Nat.mod_lt _ (by omega)
        clear hF
        obtain ⟨sp9, cp9, c0, c1, c2, _⟩ := hcell F hFm
        have hFm' : (F : Int) < (m : Int) := by omega
        have HCS := Lib.hid hcs
        clear hcell hcs c0 c2
        by_cases hst : (T F).st = 0
        · rw [hst] at c1
          have HFW := Lib.hid (gone_flL hst m)
          have HA := Lib.hid (all_any (some ⟨g, 0, none⟩) m cp' T w3 HT.out HX.out.ok)
          have HLB : Hid ((flL T m).length ≤ 40000) := Lib.hid (Nat.le_trans (flT_le T m _ _ HX.out.ok.n) (by omega))
          have HLA : Hid ((flL (gone T F) m).length ≤ 40000) := Lib.hid (Nat.le_trans (flT_le (gone T F) m _ _ (gone_ok HX.out.ok).n) (by omega))
          go_wp2_with fail
          refine HA.out.mono ?_
          rintro e w4 ⟨sb, cb, rfl, hob, hb⟩
          have HB4 := Lib.hid (HB3.out.trans (hb.mono HB3.out.size))
          have HR4 := Lib.hid (own_keep HROW.out fun q hq => hb.block q (HROW.out.lt q hq).2)
          have HC4 := Lib.hid ((hb.block _ (hlt_of HCS.out)).trans HCS.out)
          have HT4 := Lib.hid (HT.out.below hb)
          have x1 := (hb.cell (p := ⟨g, F * 3 + 1, none⟩) hgs).trans c1
          have hfz := HR4.out.frozenAt (F * 3 + 1)
          have HOB := Lib.hid hob
          obtain ⟨w5, ew5⟩ : ∃ w5, w5 = w4.setCell ⟨g, F * 3 + 1, none⟩ (.int .i64 2) := ⟨_, rfl⟩
          have HT5 : Hid (TxS w5 (some ⟨g, 0, none⟩) m (gone T F)) := Lib.hid (by rw [ew5]; exact gone_mem HT4.out HC4.out hFm (cp := cp'))
          have HB5 : Hid (Below w.heap.size w w5) := Lib.hid (by rw [ew5]; exact HB4.out.setCell (p := ⟨g, F * 3 + 1, none⟩) (by dsimp only; omega) _)
          have HO5 : Hid (w5.ownsRow w3.heap.size 33 3 (.slice sb (flL T m).length cb) (flL T m).length (rowO (lf (flL T m)) (flL T m).length)) := Lib.hid (by
            rw [ew5]
            exact own_keep HOB.out fun q hq => heap_setCell_other _ _ _ _ (fun e => by
              obtain ⟨c9, e9⟩ := own_cells HOB.out hq
              dsimp only at e
              rw [e, HC4.out] at e9
              injection e9 with e9
              injection e9 with _ e9 _
              cases e9))
          have HA2 := Lib.hid (all_any (some ⟨g, 0, none⟩) m cp' (gone T F) w5 HT5.out (gone_ok HX.out.ok))
          clear hb hob HA HOB HT4 HT HROW HCS c1 HB4 HR4 HC4
          go_wp2_with fail
          rw [← ew5]
          clear ew5 hfz x1
          refine HA2.out.mono ?_
          rintro e w6 ⟨sa, ca, rfl, hoa, hb⟩
          have HB6 := Lib.hid (HB5.out.trans (hb.mono HB5.out.size))
          have HT6 := Lib.hid (HT5.out.below hb)
          have HOB := Lib.hid (own33_ops (own_keep HO5.out fun q hq => hb.block q (HO5.out.lt q hq).2))
          have HOA := Lib.hid (own33_ops hoa)
          clear hb hoa HA2 HB5 HT5 HO5
          have hlb := HLB.out
          have hla := HLA.out
          clear HLB HLA
          generalize flL T m = lb at *
          generalize flL (gone T F) m = la at *
          go_wp2
          go_loopw [4, 11, 12, 14, 54] (fun _ _ _ _ x wr => ∃ p : Nat, p ≤ lb.length ∧ x = .int .i64 (p : Int) ∧ Hid (Below w6.heap.size w6 wr)) (fun _ _ _ _ x _ => lb.length - (intOf x).toNat)
          case atStart => exact ⟨0, Nat.zero_le _, rfl, Lib.hid (Below.refl _ _)⟩
          case round =>
            obtain ⟨p, hp, rfl, HP⟩ := hrel
            by_cases hpl : p < lb.length
            · obtain ⟨bb, ob, rfl, hbb, hcb⟩ := HOB.out (by omega)
              obtain ⟨d0, d1, d2⟩ := hcb p hpl
              have x0 := (HP.out.cell (p := ⟨bb, ob + p * 3, none⟩) hbb).trans d0
              have x1 := (HP.out.cell (p := ⟨bb, ob + p * 3 + 1, none⟩) hbb).trans d1
              have x2 := (HP.out.cell (p := ⟨bb, ob + p * 3 + 2, none⟩) hbb).trans d2
              have hpl' : (p : Int) < (lb.length : Int) := by omega
              have HEX : Hid (∃ q, q < la.length ∧ (lf lb p).k = (lf la q).k ∧ (lf lb p).key = (lf la q).key) := Lib.hid (by
                have hmem : lf lb p ∈ lb := by
                  unfold lf
                  rw [List.getD_eq_getElem?_getD, List.getElem?_eq_getElem hpl]
                  exact List.getElem_mem hpl
                obtain ⟨y, hy, e1, e2⟩ := HFW.out.2 _ hmem
                obtain ⟨q, hq, rfl⟩ := List.getElem_of_mem hy
                refine ⟨q, hq, ?_⟩
                have : lf la q = la[q] := by unfold lf; rw [List.getD_eq_getElem?_getD, List.getElem?_eq_getElem hq]; rfl
                rw [this]; exact ⟨e1, e2⟩)
              clear d0 d1 d2 hcb
              generalize lf lb p = fo at *
              obtain ⟨fk, fkey, fv⟩ := fo
              dsimp only at x0 x1 x2 HEX
              obtain ⟨wx, ewx⟩ : ∃ wx, wx = wr.alloc (.cells #[.int .i64 fk, .int .i64 fkey, .int .i64 fv] 33) := ⟨_, rfl⟩
              obtain ⟨Q, eQ⟩ : ∃ Q, Q = wr.heap.size := ⟨_, rfl⟩
              have hwx : Below wr.heap.size wr wx := by rw [ewx]; exact (Below.refl _ _).alloc (Nat.le_refl _) _
              have HBX := Lib.hid (HP.out.trans (hwx.mono HP.out.size))
              have HQX : Hid (wx.heap[Q]? = some (.cells #[.int .i64 fk, .int .i64 fkey, .int .i64 fv] 33 (0, 0))) := Lib.hid (by rw [ewx, eQ]; exact heap_alloc_new wr _)
              go_wp2
              rw [← ewx, ← eQ]
              clear ewx eQ hwx x0 x1 x2 HP
              go_loopw [12, 14, 60] (fun fv' _ x ws => ∃ (j : Nat) (fb : Bool), j ≤ la.length ∧ x = .int .i64 (j : Int) ∧ fv' = .bool fb ∧ Hid ((fb = true ↔ ∃ q, q < j ∧ fk = (lf la q).k ∧ fkey = (lf la q).key) ∧ Below wx.heap.size wx ws)) (fun _ _ x _ => la.length - (intOf x).toNat)
              case atStart => exact ⟨0, false, Nat.zero_le _, rfl, rfl, Lib.hid ⟨⟨fun h => (by cases h), fun ⟨q, h, _⟩ => absurd h (Nat.not_lt_zero _)⟩, Below.refl _ _⟩⟩
              case round =>
                obtain ⟨j, fb, hj, rfl, rfl, HJ⟩ := hrel
                by_cases hjl : j < la.length
                · obtain ⟨ba, oa, rfl, hba, hca⟩ := HOA.out (by omega)
                  obtain ⟨d0, d1, d2⟩ := hca j hjl
                  have hbj := HBX.out.trans (HJ.out.2.mono HBX.out.size)
                  have x0 := (hbj.cell (p := ⟨ba, oa + j * 3, none⟩) hba).trans d0
                  have x1 := (hbj.cell (p := ⟨ba, oa + j * 3 + 1, none⟩) hba).trans d1
                  have x2 := (hbj.cell (p := ⟨ba, oa + j * 3 + 2, none⟩) hba).trans d2
                  have hjl' : (j : Int) < (la.length : Int) := by omega
                  have HNX : Hid ((∃ q, q < j + 1 ∧ fk = (lf la q).k ∧ fkey = (lf la q).key) ↔ (fb = true ∨ (fk = (lf la j).k ∧ fkey = (lf la j).key))) := Lib.hid (by
                    rw [HJ.out.1]
                    constructor
                    · rintro ⟨q, hq, h⟩
                      by_cases e : q < j
                      · exact .inl ⟨q, e, h⟩
                      · obtain rfl : q = j := by omega
                        exact .inr h
                    · rintro (⟨q, hq, h⟩ | h)
                      · exact ⟨q, by omega, h⟩
                      · exact ⟨j, by omega, h⟩)
                  have hQ := (HJ.out.2.block _ (hlt_of HQX.out)).trans HQX.out
                  obtain ⟨⟨y0, y1, y2⟩, _⟩ := cells3 hQ
                  have hql := hlt_of hQ
                  have HBA : Hid (∀ ob, Below wx.heap.size wx (wr.alloc ob)) := Lib.hid fun ob => HJ.out.2.alloc HJ.out.2.size _
                  clear d0 d1 d2 hca hbj hQ HJ
                  generalize lf la j = go_ at *
                  obtain ⟨gk, gkey, gv⟩ := go_
                  dsimp only at x0 x1 x2 HNX
                  cases fb with
                  | true =>
                    go_wp2
                    go_roundw
                    case rel => exact ⟨j + 1, true, by omega, by go_num, rfl, Lib.hid ⟨by rw [HNX.out]; simp, HBA.out _⟩⟩
                    case measure => simp [intOf]; omega
                  | false =>
                    by_cases h1 : fk = gk
                    · have h1b : (fk == gk) = true := beq_iff_eq.2 h1
                      by_cases h2 : fkey = gkey
                      · have h2b : (fkey == gkey) = true := beq_iff_eq.2 h2
                        have HZ : Hid (true = true ↔ ∃ q, q < j + 1 ∧ fk = (lf la q).k ∧ fkey = (lf la q).key) := Lib.hid (by rw [HNX.out]; exact ⟨fun _ => .inr ⟨h1, h2⟩, fun _ => rfl⟩)
                        clear HNX
                        subst h1 h2
                        go_wp2
                        go_roundw
                        case rel => exact ⟨j + 1, true, by omega, by go_num, rfl, Lib.hid ⟨HZ.out, HBA.out _⟩⟩
                        case measure => simp [intOf]; omega
                      · have h2b : (fkey == gkey) = false := beq_eq_false_iff_ne.2 h2
                        have HZ : Hid (false = true ↔ ∃ q, q < j + 1 ∧ fk = (lf la q).k ∧ fkey = (lf la q).key) := Lib.hid (by rw [HNX.out]; exact ⟨fun h => (by cases h), fun h => by rcases h with h | h; cases h; exact absurd h.2 h2⟩)
                        clear HNX h2
                        subst h1
                        go_wp2
                        go_roundw
                        case rel => exact ⟨j + 1, false, by omega, by go_num, rfl, Lib.hid ⟨HZ.out, HBA.out _⟩⟩
                        case measure => simp [intOf]; omega
                    · have h1b : (fk == gk) = false := beq_eq_false_iff_ne.2 h1
                      have HZ : Hid (false = true ↔ ∃ q, q < j + 1 ∧ fk = (lf la q).k ∧ fkey = (lf la q).key) := Lib.hid (by rw [HNX.out]; exact ⟨fun h => (by cases h), fun h => by rcases h with h | h; cases h; exact absurd h.1 h1⟩)
                      clear HNX h1
                      go_wp2
                      go_roundw
                      case rel => exact ⟨j + 1, false, by omega, by go_num, rfl, Lib.hid ⟨HZ.out, HBA.out _⟩⟩
                      case measure => simp [intOf]; omega
                · obtain rfl : j = la.length := by omega
                  obtain rfl : fb = true := HJ.out.1.2 HEX.out
                  have HBJ := Lib.hid (HBX.out.trans (HJ.out.2.mono HBX.out.size))
                  clear HJ HEX HQX HBX
                  go_wp2
                  go_roundw
                  case rel => exact ⟨p + 1, by omega, by go_num, HBJ⟩
                  case measure => simp [intOf]; omega
            · obtain rfl : p = lb.length := by omega
              have HBP := Lib.hid (HB6.out.trans (HP.out.mono HB6.out.size))
              have HSU := Lib.hid (sure_any (some ⟨g, 0, none⟩) m cp' (gone T F) wr (HT6.out.below HP.out) (gone_ok HX.out.ok))
              have hle : lb.length ≤ la.length := HFW.out.1
              have hle' : (lb.length : Int) ≤ (la.length : Int) := by omega
              clear HP HOB HOA HFW HB6
              go_wp2_with fail
              refine HSU.out.mono ?_
              rintro e w8 ⟨gs, rfl, hm8, hb⟩
              have HB8 := Lib.hid (HBP.out.trans (hb.mono HBP.out.size))
              have m0 := hm8.cell hFm
              rw [gone_su] at m0
              clear hm8 hb HSU HBP
              go_wp2
              go_ret
              exact ⟨rfl, HB8.out⟩
        · have hsb : ((T F).st != 0) = true := bne_iff_ne.2 hst
          generalize (T F).st = tst at *
          go_wp2
          go_ret
          exact ⟨rfl, HB3.out⟩
    · have heb : (er != 0) = true := bne_iff_ne.2 her
      clear hg
      go_wp2
      go_ret
      exact ⟨rfl, HB3.out⟩
end Go.Proofs.Yteobndfkkpfnlaa
