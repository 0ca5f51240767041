/-
  All's walk.
-/
import Derived.Test.YteobndfkkpfnlaaFe
import Derived.Test.YteobndfkkpfnlaaHWf
namespace Go.Proofs.Yteobndfkkpfnlaa
open Go.ChangeShapes Go.WideShapes Go.ChangeAt Go.RowKit Go.Maps
set_option linter.unusedVariables false

theorem hwr67 : HWr 67 := hwrites_any
theorem flT_le (T : Nat → Tx) (m : Nat) (A L : VM) (h : ∀ j, j < m → (T j).n ≤ 100) : (flT A L T m).length ≤ 100 * m := by
  induction m with
  | zero => simp [flT]
  | succ m ih =>
    unfold flT
    rw [List.length_append]
    have h1 := ih fun j hj => h j (by omega)
    have h2 := flR_le A L T m (rdT (T m)) (rdT (T m)).length
    have h3 := rdT_le (T m)
    have h4 := h m (by omega)
    omega

set_option maxRecDepth 100000 in
set_option maxHeartbeats 4000000 in
theorem all_any (a : Option Addr) (m cap : Nat) (T : Nat → Tx) (w : World) (hs : TxS w a m T) (ok : TOk m T) :
    Calls Try.prog 16 #[.slice a m cap] w (AlP T m w) := by
  obtain ⟨i8, hi8, hx0, hx1, hx2⟩ := info_parts info33
  have HS := Lib.hid hs
  have HOK := Lib.hid ok
  have hm4 := ok.cnt
  have HCW := Lib.hid (writers_any hwr67 a m cap T w hs ok)
  have HPL := Lib.hid (allV_pl T m)
  clear hs ok
  go_enter Try.func16, Try.ntmps16
  go_wp2_with fail
  refine HCW.out.mono ?_
  rintro e w1 ⟨b1, b2, rfl, h1, h2, hb⟩
  have HM1 := Lib.hid h1
  have HM2 := Lib.hid h2
  have HB1 := Lib.hid hb
  clear h1 h2 hb HCW
  go_wp2
  obtain ⟨wx, ewx⟩ : ∃ wx, wx = w1.alloc (.cells #[.map (some b1), .map (some b2)] 96) := ⟨_, rfl⟩
  obtain ⟨X, eX⟩ : ∃ X, X = w1.heap.size := ⟨_, rfl⟩
  have HA0 : Hid (AlS w w.heap.size X b1 b2 wx (100 * m) (16 * m) (allV T m) (endV T m) (.slice none 0 0) (flT (allV T m) (endV T m) T 0)) := Lib.hid (by
    have hbx : Below w1.heap.size w1 wx := by rw [ewx]; exact (Below.refl _ _).alloc (Nat.le_refl _) _
    refine ⟨Nat.le_trans HB1.out.size hbx.size, HB1.out.trans (hbx.mono HB1.out.size), HM1.out.below hbx, HM2.out.below hbx, by rw [ewx, eX]; exact heap_alloc_new w1 _, World.ownsRow_nil _ _ _ _⟩)
  rw [← ewx, ← eX]
  clear ewx eX HB1 HM1 HM2
  have HFL : Hid (flL T m = flT (allV T m) (endV T m) T m) := Lib.hid rfl
  have HLE : Hid (∀ t, t ≤ m → (flT (allV T m) (endV T m) T t).length ≤ 100 * t) := Lib.hid fun t ht => flT_le T t _ _ fun j hj => HOK.out.n j (by omega)
  generalize allV T m = A at *
  generalize endV T m = L at *
  go_loopw [4, 5, 6, 7, 8, 9, 14] (fun vo _ _ _ _ _ x wr => ∃ (t : Nat) (spo : Option Addr) (cpo : Nat), t ≤ m ∧ x = .int .i64 (t : Int) ∧ vo = .slice spo (flT A L T t).length cpo ∧ Hid (AlS w w.heap.size X b1 b2 wr (100 * m) (16 * m) A L (.slice spo (flT A L T t).length cpo) (flT A L T t))) (fun _ _ _ _ _ _ x _ => m - (intOf x).toNat)
  case atStart => exact ⟨0, none, 0, Nat.zero_le _, rfl, rfl, HA0⟩
  case round =>
    obtain ⟨t, spo, cpo, ht, rfl, rfl, HT⟩ := hrel
    clear HA0
    by_cases hlt : t < m
    · obtain ⟨b, off, rfl, hbl, hci⟩ := HS.out (by omega)
      obtain ⟨sp, cp, c0, c1, c2, ho⟩ := hci t hlt
      have x0 := (HT.out.bel.cell (p := ⟨b, off + t * 3, none⟩) hbl).trans c0
      have x1 := (HT.out.bel.cell (p := ⟨b, off + t * 3 + 1, none⟩) hbl).trans c1
      have x2 := (HT.out.bel.cell (p := ⟨b, off + t * 3 + 2, none⟩) hbl).trans c2
      have hlt' : (t : Int) < (m : Int) := by omega
      have hn1 := HOK.out.n t hlt
      have HKR := Lib.hid (HOK.out.key t hlt)
      have HVR := Lib.hid (HOK.out.val t hlt)
      have HOPB := Lib.hid ho
      have HNX : Hid (flT A L T (t + 1) = flT A L T t ++ flR A L T t (rdT (T t)) (rdT (T t)).length) := Lib.hid rfl
      have hfle := HLE.out t ht
      have HRD : Hid (rdT (T t) = if (T t).st = 1 then rd (T t).o (T t).n else []) := Lib.hid rfl
      have hrle := rdT_le (T t)
      have HKL := Lib.hid (fun (j : Nat) (hj : j < (rdT (T t)).length) => rdT_in (P := fun o => 0 ≤ o.key ∧ o.key ≤ 15) HKR.out hj)
      have HVL := Lib.hid (fun (j : Nat) (hj : j < (rdT (T t)).length) => rdT_in (P := fun o => In64 o.v) HVR.out hj)
      clear c0 c1 c2 ho hci
      generalize rdT (T t) = rs at *
      generalize (T t).c = tc at *
      generalize (T t).st = tst at *
      generalize (T t).n = tn at *
      generalize (T t).o = to_ at *
      generalize flT A L T t = fl at *
      obtain ⟨wx, ewx⟩ : ∃ wx, wx = wr.alloc (.cells #[.int .i64 tc, .int .i64 tst, .slice sp tn cp] 47) := ⟨_, rfl⟩
      have hbx : Below wr.heap.size wr wx := by rw [ewx]; exact (Below.refl _ _).alloc (Nat.le_refl _) _
      have HWX := Lib.hid (HT.out.keep hbx)
      have HCR := Lib.hid (hreads_any tc tst sp tn cp to_ wx (by omega) HKR.out HVR.out ((HOPB.out.below HT.out.bel).below hbx))
      rw [← HRD.out] at HCR
      clear hbx HT
      go_wp2_with fail
      rw [← ewx]
      refine HCR.out.mono ?_
      rintro e w5 ⟨sp2, cp2, rfl, ho2, hb2⟩
      obtain ⟨Q, eQ⟩ : ∃ Q, Q = wr.heap.size := ⟨_, rfl⟩
      obtain ⟨Bq, eBq⟩ : ∃ Bq, Bq = wx.heap.size := ⟨_, rfl⟩
      rw [← eBq] at ho2
      rw [← eQ]
      have HA1 : Hid (AlS w w.heap.size X b1 b2 w5 (100 * m) (16 * m) A L (.slice spo (fl ++ flR A L T t rs 0).length cpo) (fl ++ flR A L T t rs 0) ∧ w5.ownsRow Bq 44 3 (.slice sp2 rs.length cp2) rs.length (rowO (lf rs) rs.length)) := Lib.hid (by
        rw [show fl ++ flR A L T t rs 0 = fl from List.append_nil _]
        exact ⟨HWX.out.keep hb2, ho2⟩)
      have hf0 : (fl ++ flR A L T t rs 0).length = fl.length := by rw [show fl ++ flR A L T t rs 0 = fl from List.append_nil _]
      clear ewx eQ eBq ho2 hb2 HCR HWX x0 x1 x2 HOPB HKR HVR HRD
      go_wp2
      go_loopw [4, 7, 8, 9, 22] (fun vo _ _ _ x ws => ∃ (j nl : Nat) (spo : Option Addr) (cpo : Nat), j ≤ rs.length ∧ nl ≤ fl.length + j ∧ x = .int .i64 (j : Int) ∧ vo = .slice spo nl cpo ∧ Hid (nl = (fl ++ flR A L T t rs j).length ∧ AlS w w.heap.size X b1 b2 ws (100 * m) (16 * m) A L (.slice spo nl cpo) (fl ++ flR A L T t rs j) ∧ ws.ownsRow Bq 44 3 (.slice sp2 rs.length cp2) rs.length (rowO (lf rs) rs.length))) (fun _ _ _ _ x _ => rs.length - (intOf x).toNat)
      case atStart => exact ⟨0, fl.length, spo, cpo, Nat.zero_le _, by omega, rfl, rfl, Lib.hid ⟨hf0.symm, by rw [← hf0]; exact HA1.out.1, HA1.out.2⟩⟩
      case round =>
        obtain ⟨j, nl, spo, cpo, hj, hnl, rfl, rfl, HJ⟩ := hrel
        clear HA1 hf0
        have HAJ := Lib.hid HJ.out.2.1
        have HRJ := Lib.hid HJ.out.2.2
        have HNL := Lib.hid HJ.out.1
        clear HJ
        by_cases hjl : j < rs.length
        · obtain ⟨b3, off3, e3, hb3, hc3⟩ := (own38_ops HRJ.out) (by omega)
          subst e3
          obtain ⟨d0, d1, d2⟩ := hc3 j hjl
          have hjl' : (j : Int) < (rs.length : Int) := by omega
          have hkr := HKL.out j hjl
          have hvr := HVL.out j hjl
          have HFR : Hid (flR A L T t rs (j + 1) = if flK A L T (t : Int) (lf rs j) = 0 then flR A L T t rs j else flR A L T t rs j ++ [⟨(t : Int), (j : Int), flK A L T (t : Int) (lf rs j)⟩]) := Lib.hid rfl
          clear hc3
          generalize flR A L T t rs j = fr at *
          generalize lf rs j = oj at *
          obtain ⟨ok, okey, ov⟩ := oj
          dsimp only at d0 d1 d2 hkr hvr
          obtain ⟨wy, ewy⟩ : ∃ wy, wy = wr.alloc (.cells #[.int .i64 ok, .int .i64 okey, .int .i64 ov] 44) := ⟨_, rfl⟩
          have hwx : Below wr.heap.size wr wy := by rw [ewy]; exact (Below.refl _ _).alloc (Nat.le_refl _) _
          have HAY := Lib.hid (HAJ.out.keep hwx)
          have HRY := Lib.hid (own_keep HRJ.out fun g hg => hwx.block g (HRJ.out.lt g hg).2)
          obtain ⟨y0, y1⟩ := cells2 HAY.out.box
          rw [ewy] at y0 y1
          have HCF := Lib.hid (flaw_any b1 b2 (100 * m) (16 * m) A L (some ⟨b, off, none⟩) m cap T (t : Int) ok okey ov wy (HS.out.below HAY.out.bel) HAY.out.all HAY.out.fin HPL.out hm4 (by unfold In64; omega) hvr (by unfold In64; omega))
          clear hwx HAJ HRJ
          generalize flK A L T (t : Int) ⟨ok, okey, ov⟩ = kk at *
          go_wp2_with fail
          rw [← ewy]
          refine HCF.out.mono ?_
          rintro e w6 ⟨rfl, hb6⟩
          have HA6 := Lib.hid (HAY.out.keep hb6)
          have HR6 := Lib.hid (own_keep HRY.out fun g hg => hb6.block g (HRY.out.lt g hg).2)
          obtain ⟨P, eP⟩ : ∃ P, P = wr.heap.size := ⟨_, rfl⟩
          rw [← eP]
          clear ewy eP hb6 HCF HAY HRY y0 y1 d0 d1 d2
          by_cases hkk : kk = 0
          · subst hkk
            rw [if_pos rfl] at HFR
            go_wp2
            go_roundw
            case rel => exact ⟨j + 1, nl, spo, cpo, by omega, by omega, by go_num, rfl, Lib.hid ⟨by rw [HFR.out]; exact HNL.out, by rw [HFR.out]; exact HA6.out, HR6.out⟩⟩
            case measure => simp [intOf]; omega
          · rw [if_neg hkk] at HFR
            have hkb : (kk != 0) = true := bne_iff_ne.2 hkk
            have HNW : Hid (∀ (W : World) (i : Nat) (z : Value), [Value.int .i64 (t : Int), .int .i64 (j : Int), .int .i64 kk][i]? = some z → (W.alloc (.cells #[.int .i64 (t : Int), .int .i64 (j : Int), .int .i64 kk] 33)).cell? ((⟨W.heap.size, 0, none⟩ : Addr).add i) = some z) := Lib.hid fun W i z hj => by
              rw [Go.WideShapes.add_plain, cell_of_row _ _ _ _ 33 (0, 0) (heap_alloc_new W _), Nat.zero_add]
              simpa using hj
            have hwx : Below w6.heap.size w6 (w6.alloc (.cells #[.int .i64 (t : Int), .int .i64 (j : Int), .int .i64 kk] 33)) := (Below.refl _ _).alloc (Nat.le_refl _) _
            have HA7 := Lib.hid (HA6.out.keep hwx)
            have HR7 := Lib.hid (own_keep HR6.out fun g hg => hwx.block g (HR6.out.lt g hg).2)
            have HRW := HA7.out.row
            rw [← HNL.out] at HRW
            have HRW := Lib.hid HRW
            clear hwx
            go_wp2_with (at_builtin; refine wpList_append_lies _ rfl _ _ 28 rfl w.heap.size 33 i8 (.agg #[.int .i64 0, .int .i64 0, .int .i64 0]) 3 24 Try.underlying28 hi8 hx0 hx1 hx2 rfl (by decide) _ nl _ rfl HRW.out ⟨w6.heap.size, 0, none⟩ 1 1 [.int .i64 (t : Int), .int .i64 (j : Int), .int .i64 kk] rfl rfl (HNW.out _) (by intro u hu; simp at hu; rcases hu with rfl | rfl | rfl <;> rfl) (by omega) (by unfold maxLen; omega) (by omega) HA7.out.low _ rfl ?_)
            intro g7 c7 w7 ho7 hg7 hat7 hl7
            have HR8 := Lib.hid (row_other HR7.out HRW.out hg7)
            have HA8 : Hid (AlS w w.heap.size X b1 b2 w7 (100 * m) (16 * m) A L (.slice (some ⟨g7, 0, none⟩) (nl + 1) c7) (fl ++ flR A L T t rs (j + 1))) := Lib.hid (by
              rw [HFR.out, ← List.append_assoc]
              refine HA7.out.push (x := ⟨(t : Int), (j : Int), kk⟩) ?_ hg7
              rw [← HNL.out]
              exact ho7)
            have HN8 : Hid (nl + 1 = (fl ++ flR A L T t rs (j + 1)).length) := Lib.hid (by
              rw [HFR.out, ← List.append_assoc, List.length_append, List.length_singleton, ← HNL.out])
            clear ho7 hg7 hat7 HRW HNW
            go_wp2
            go_roundw
            case rel => exact ⟨j + 1, nl + 1, some ⟨g7, 0, none⟩, c7, by omega, by omega, by go_num, rfl, Lib.hid ⟨HN8.out, HA8.out, HR8.out⟩⟩
            case measure => simp [intOf]; omega
        · obtain rfl : j = rs.length := by omega
          have HLN : Hid (nl = (flT A L T (t + 1)).length) := Lib.hid (by rw [HNX.out]; exact HNL.out)
          have HAN : Hid (AlS w w.heap.size X b1 b2 wr (100 * m) (16 * m) A L (.slice spo nl cpo) (flT A L T (t + 1))) := Lib.hid (by rw [HNX.out]; exact HAJ.out)
          clear HAJ HRJ HNL HNX
          obtain rfl : nl = (flT A L T (t + 1)).length := HLN.out
          go_wp2
          go_roundw
          case rel => exact ⟨t + 1, spo, cpo, by omega, by go_num, rfl, HAN⟩
          case measure => simp [intOf]; omega
    · obtain rfl : t = m := by omega
      go_wp2
      go_ret
      refine ⟨spo, cpo, ?_, ?_, HT.out.bel⟩
      · rw [HFL.out]; rfl
      · rw [HFL.out]; exact HT.out.row
end Go.Proofs.Yteobndfkkpfnlaa
